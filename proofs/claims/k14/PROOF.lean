import PyProof.Rows.All
import Wide.All
import OpenK.AllK
import Wide.FinOn
import KE.KExcSuper
import HandS.Exc
import HandS.ExcInit
import HandS.ExcSuper
import HandS.ExcField
import KE.KIsAll
import KE.KTryMore
import HandS.Base
import HandS.Call
import HandS.ExcIs
import HandS.IsInst
import PyProof.ListMulRoad
import PyProof.FactsAll.tuple_2
import PyProof.StrOps2
import HandS.List
import HandS.TupMul
import KE.GoesEnum
import HandS.Iter
import HandS.Wide
import HandS.Conv
import HandS.DictComp
import KE.GoesMore
import KE.GoesZip
import HandS.Zip
import HandS.Walk
import HandS.Words
import PyProof.EqAt
import PyProof.EqKinds
import PyProof.TupleCall
import KE.RegKIsAll
import HandS.ForMost
import HandS.ForExc
import HandS.Defaults
import HandS.CallSlots
import HandS.StrMore
import HandS.Replace
import HandS.Small
import HandS.Style
import HandS.Codes
import HandS.TupLe
import HandS.TupAny
import HandS.More
import PySem.Challenge.RW_boughkept_k14_readers_looked_at
set_option Elab.async false
set_option linter.all false
set_option maxRecDepth 100000
set_option maxHeartbeats 2000000
namespace PySem
namespace BX
open PySem.W PySem.Calls PyProof.Rows PySem.HandSPX
/-- what the written part says of an own exception class at C whose __init__ (at fI) begins with super().__init__(text) -/
structure ETxt (P : Program) (K : Frag) (mg : Str → Option Value) (C fI cc cda : Addr) (B newId initId : String) (bmB : List Value) (nmC qual : Str) (params : Arguments) (first : Stmt) (rest : List Stmt) (scope : Scope) : Prop where
  gC : mg nmC = some (.ref C)
  cls : ∃ nm q N bs bm sn sub ab col dd k0 k1 k2 k3 k5, K.lookup C = some (excClassObj nm q C N bs bm true sn sub ab col dd k0 k1 k2 k3 k5 newId) ∧ (∀ X : String, bm.contains (.type X) = bmB.contains (.type X))
  base : ExcBaseFacts B newId initId bmB
  kxs : KxsFacts B initId
  iC : findIn K (.ref C) "__init__" = some (some (.ref fI))
  tI : typeIn K (.ref fI) = some (.type "function")
  fn : ∃ (oc : Value) (od : Option Addr) (kV doc pm : Value) (an : Option Addr) (ct : Value) (osl : Array (Option Value)), K.lookup fI = some ⟨oc, od, .func (ksFn "__init__" qual params (first :: rest) scope .none kV doc pm an (.ref cda) ct cc), osl⟩
  code : codeIn K (.ref cda) qual = true
  cdo : ∃ (ccl : Value) (cdd : Option Addr) (vs : Array Value) (ccs : Array (Option Value)) (file : Str) (tf : Tok), K.lookup cda = some ⟨ccl, cdd, .fields vs, ccs⟩ ∧ vs[2]? = some (.str file tf) ∧ ((P.main.file : Str) == file) = true
  cell : ∃ (cl : Value) (cld : Option Addr) (csl : Array (Option Value)), K.lookup cc = some ⟨cl, cld, .cell (some (.ref C)), csl⟩
  sup : ks_superIn K C C "__init__" = some (some (.builtin initId))
  opq : nsIn K cStatics "thirdparty.any" = some none
  noS : mg "super" = none
  topS : (P.main.scope.names.lookup ("super" : Str)).isSome = false
  subB : subIn K (.ref C) (.type B) = some true
  subC : mroIn K C (.ref C) = some true
  kC : keepIn K (.ref C) = true
  exC : subIn K (.ref C) (.type "BaseException") = some true
  tyC : typeIn K (.ref C) = some (.type "type")
  kS : scope.names.lookup ("super" : Str) = some .globalImplicit
  kCl : scope.names.lookup ("__class__" : Str) = some .free
  kSf : scope.names.lookup ("self" : Str) = some .local
  kF : scope.kind = .function
  st : ∃ (p0 p1 p2 p3 p4 p5 : Pos) (msg : Str) (j : Nat), first = .Expr (.Call (.Attribute (.Call (.Name "super" p0) [] [] p1) "__init__" p2) [.Constant (.str msg) j p3] [] p4) p5 ∧ ∀ L : Addr,
    interactive (ksEnv qual scope L fI (.ref cda) cc) = false ∧ swapsWith (.Call (.Attribute (.Call (.Name "super" p0) [] [] p1) "__init__" p2) [.Constant (.str msg) j p3] [] p4) none p5.line (ksEnv qual scope L fI (.ref cda) cc) = pure false ∧
    ∃ pl : Sem Bool, eval (.Call (.Attribute (.Call (.Name "super" p0) [] [] p1) "__init__" p2) [.Constant (.str msg) j p3] [] p4) (ksEnv qual scope L fI (.ref cda) cc) = (do
      let ov ← attributeBase (.Call (.Name "super" p0) [] [] p1) "__init__" (ksEnv qual scope L fI (.ref cda) cc) (eval (.Call (.Name "super" p0) [] [] p1) (ksEnv qual scope L fI (.ref cda) cc))
      standAt p2.atName
      let (f, fst) ← holding [ov] (getMethod ov "__init__" pl)
      callWith p4 f fst (backTo p4 (starEach [.Constant (.str msg) j p3] (ksEnv qual scope L fI (.ref cda) cc))) [])
  hd : ∃ ar : Arg, (params.posonlyargs ++ params.args).head? = some ar ∧ ar.arg = ("self" : Str)
section
variable {prog : Program} {w : World} {A : Around} {E : Value → Shared → Prop} {K : Frag} {mg mb : Str → Option Value} {C fI cc cda : Addr} {B newId initId : String} {bmB : List Value} {nmC qual : Str} {params : Arguments} {first : Stmt} {rest : List Stmt} {scope : Scope}
variable {h : Heap} {g : Array GenState} {d : Drawn} {t : Nat} {os : OsState}
/-- super().__init__(text): the args are laid anew -/
theorem call_mw (T : ETxt prog K mg C fI cc cda B newId initId bmB nmC qual params first rest scope) {u e t0 : Addr} {us : List Value} {Q : Value → Shared → Prop} (X : K.In h)
    (he : h.get? e = some (excO C t0)) (hu : h.get? u = some (kxs_mw initId e)) (hrest : us.length ≤ sizeLine)
    (hq : ∀ h' t1, (∀ b o, b ≠ e → h.get? b = some o → h'.get? b = some o) → h'.get? e = some (excO C t1) → Q .none ⟨h', g, d, t, os⟩) :
    wpAny (model prog w) A (call (.ref u) us) Q E ⟨h, g, d, t, os⟩ := by
  obtain ⟨nm, q, N, bs, bm, sn, sub, ab, col, dd, k0, k1, k2, k3, k5, hC, hbm⟩ := T.cls
  refine wpAny_call (codeAny_of_tree ?_)
  show wpAny _ A.in1 (callAny (.ref u) ⟨us, []⟩) _ _ _
  simp only [callAny]
  refine wpAny_bind (wpAny_load hu ?_)
  simp only [kxs_mw, show (Value.type "method-wrapper" == Value.type "method" || Value.type "method-wrapper" == Value.type "builtin_function_or_method" || Value.type "method-wrapper" == Value.type "method-wrapper") = true by decide, if_true]
  refine KFB.if_so (by decide) ?_
  refine wpAny_bind (check_bound_init T.base.toExcCallFacts (X _ _ hC) he rfl ?_)
  refine wpAny_bind (wpAny_pure (wpAny_pure ?_))
  refine ⟨plainId_quiet T.base.init.plain _, codeAny_builtin T.base.initEntry ?_⟩
  exact exc_init_tree (cls := .ref C) (t0 := t0) (dv := none) (c2 := .none) (c3 := .none) (b4 := .bool false) he hrest fun h' k e' _ => hq h' h.objs.size k e'

theorem super_stmt (T : ETxt prog K mg C fI cc cda B newId initId bmB nmC qual params first rest scope) {L x t0 : Addr} {m : Str → Option Value} {Q : Flow → Shared → Prop} (X : K.In h)
    (hg : h.Ns mainGlobals mg) (hb : h.Ns builtinsNs mb) (hS : mb "super" = some (.type "super")) (hL : h.Ns L m) (hself : m "self" = some (.ref x)) (hx : h.get? x = some (excO C t0)) (hxC : x ≠ C)
    (hq : ∀ h' tk t1, (∀ b o, b ≠ x → h.get? b = some o → h'.get? b = some o) → h'.get? x = some (excO C t1) → Q .next ⟨h', g, d, tk, os⟩) :
    _root_.PySem.wpAt (model prog w) A (.func (first :: rest) (ksEnv qual scope L fI (.ref cda) cc))
      (exec first (ksEnv qual scope L fI (.ref cda) cc)) Q E ⟨h, g, d, t, os⟩ := by
  obtain ⟨nm, q, N, bs, bm, sn, sub, ab, col, dd, k0, k1, k2, k3, k5, hC, hbm⟩ := T.cls
  obtain ⟨oc, od, kV, doc, pm, an, ct, osl, hf⟩ := T.fn
  obtain ⟨ccl, cdd, vs, ccs, file, tf, hcda, hvs, hfile⟩ := T.cdo
  obtain ⟨cl, cld, csl, hcc⟩ := T.cell
  obtain ⟨ar, har, harg⟩ := T.hd
  have hcd : clsIn K C = some { name := nm, bases := bs, mro := .ref C :: bm, ns := N, qualname := q, hasDict := true, slotNames := sn, subclasses := sub, abstract := ab, collection := col, hasDel := false } := by unfold clsIn; rw [hC] <;> rfl
  have hD := X _ _ hC
  obtain ⟨p0, p1, p2, p3, p4, p5, msg, j, rfl, hst⟩ := T.st
  obtain ⟨hi, hsw, pl, hev⟩ := hst L
  refine ks_wpAt_Expr_any (hi := hi) (hs := hsw) ?_
  refine ks_wpAt_MethodCall (pl := pl) (he := hev) ?_
  refine ks_wpAt_super_base (env := ksEnv qual scope L fI (.ref cda) cc) T.kS T.kCl (by decide) rfl (X _ _ hf) rfl har rfl (X _ _ hcda) rfl hvs hfile T.topS ?_
  refine ks_loadName_global T.kF T.kS (loadGlobal_builtin (env := ksEnv qual scope L fI (.ref cda) cc) hg T.noS hb hS ⟨rfl, ?_⟩)
  refine wpAny_loadName_free T.kF T.kCl rfl ⟨_, X _ _ hcc, rfl⟩ ?_
  rw [harg]
  refine wpAny_loadName_local T.kF T.kSf hL hself ?_
  refine ks_wpAny_isType_cls hD rfl ⟨rfl, ?_⟩
  refine ks_wpAny_call_super hD rfl hx rfl (fun c e => by cases e) (looks_mroIn X T.subC) (fun h1 e1 k1' => ?_)
  have X1 : K.In h1 := X.keeps k1'
  have hx1 := k1' _ _ hx
  have hsup : alongIn K "__init__" (((Value.ref C :: bm).dropWhile (· != .ref C)).drop 1) = some (some (.builtin initId)) := by
    have z := T.sup
    unfold ks_superIn at z
    rw [hcd] at z
    exact z
  have hI1 : InstAt h1 x (excO C t0) C none := ⟨hx1, rfl, rfl, trivial⟩
  have hmro : Looks (model prog w) h1 (mroOf (.ref C)) (Value.ref C :: bm) := (looks_clsIn X1 hcd).andThen .now
  refine kxs_getMethod T.kxs e1 (looks_opaque X1 T.opq) hmro rfl X1 hsup (hI1.type.andThen (looks_subIn X1 T.subB)) hxC (by decide) ?_
  have hx2 : (h1.push (kxs_mw initId x)).get? x = some (excO C t0) := Heap.get?_push_of_some _ hx1
  have hu2 : (h1.push (kxs_mw initId x)).get? h1.objs.size = some (kxs_mw initId x) := Heap.get?_push_size _ rfl
  have X2 : K.In (h1.push (kxs_mw initId x)) := X1.keeps fun b o e => Heap.get?_push_of_some _ e
  refine kxs_callWith (i := initId) (x := x) (by rfl) ?_
  refine evalArgs_plain ?_
  refine Calls.spliced_cons ?_
  show wpAny _ _ (eval (.Constant (.str msg) j p3) _) _ _ _
  refine Calls.Constant_str ?_
  refine Calls.spliced_nil ?_
  refine ⟨hu2, ?_⟩
  refine call_mw T X2 hx2 hu2 (by rw [sizeLine_eq]; exact (by decide : 1 ≤ 16777216)) fun h' t1 k e => ?_
  exact hq h' _ t1 (fun b o hb z => k b o hb (Heap.get?_push_of_some _ (k1' b o z))) e
/-- __init__ without fields of its own -/
theorem init0 (T : ETxt prog K mg C fI cc cda B newId initId bmB nmC qual params first [] scope) {R : Result → Shared → Prop} {s : Shared} {x t0 : Addr} (X : K.In s.heap) (hlim : s.heap.NoLimit)
    (hg : s.heap.Ns mainGlobals mg) (hb : s.heap.Ns builtinsNs mb) (hS : mb "super" = some (.type "super")) (hx : s.heap.get? x = some (excO C t0)) (hxC : x ≠ C) (hroom : A.depth < recursionLimit)
    (hbind : ∀ (kV doc pm : Value) (an : Option Addr) (ct : Value), BindsTo s (ksFn "__init__" qual params [first] scope .none kV doc pm an (.ref cda) ct cc) ⟨[.ref x], []⟩ [("self", .ref x)])
    (hcell : ∀ z ∈ scope.names, z.2 ≠ .cell) (hco : scope.isCoroutine = false) (hgen : scope.isGenerator = false)
    (hq : ∀ h' tk t1, (∀ b o, b ≠ x → s.heap.get? b = some o → h'.get? b = some o) → h'.get? x = some (excO C t1) → R (.ok (.ret .none)) { s with heap := h', toks := tk }) :
    codeAny (model prog w) A (.call (.ref fI) ⟨[.ref x], []⟩) R s := by
  obtain ⟨oc, od, kV, doc, pm, an, ct, osl, hf⟩ := T.fn
  refine ks_codeAny_call_defAt (fd := ksFn "__init__" qual params [first] scope .none kV doc pm an (.ref cda) ct cc) (body := [first]) (binds := [("self", .ref x)]) hroom (X _ _ hf) rfl hlim (codeRec_of X T.code) rfl (hbind kV doc pm an ct) hcell ?_ (fun h₁ hns hk => ?_) hco hgen T.kF
  · intro y hy
    rw [List.mem_singleton.mp hy]
    exact T.kSf
  obtain ⟨hp, g, d, t, os⟩ := s
  refine ks_wpAt_execs_cons ?_
  refine super_stmt (mb := mb) (m := fun x_1 => List.lookup x_1 [(("self" : Str), Value.ref x)].reverse) T (X.keeps hk) ?_ ?_ hS hns (by simp [List.lookup]) (hk _ _ hx) hxC (fun h' tk t1 k e => ?_)
  · exact hg.keeps hk
  · exact hb.keeps hk
  · refine wpAt_of_wpAny (wpAny_execs_nil ?_)
    exact hq h' tk t1 (fun b o hb z => k b o hb (hk b o z)) e
/-- C() -/
theorem made0 (T : ETxt prog K mg C fI cc cda B newId initId bmB nmC qual params first [] scope) {R : Result → Shared → Prop} {s : Shared} (X : K.In s.heap) (hlim : s.heap.NoLimit)
    (hg : s.heap.Ns mainGlobals mg) (hb : s.heap.Ns builtinsNs mb) (hS : mb "super" = some (.type "super")) (hroom : A.depth + 1 < recursionLimit)
    (hbind : ∀ (x : Addr) (s : Shared) (kV doc pm : Value) (an : Option Addr) (ct : Value), BindsTo s (ksFn "__init__" qual params [first] scope .none kV doc pm an (.ref cda) ct cc) ⟨[.ref x], []⟩ [("self", .ref x)])
    (hcell : ∀ z ∈ scope.names, z.2 ≠ .cell) (hco : scope.isCoroutine = false) (hgen : scope.isGenerator = false)
    (hq : ∀ h' tk t1, (∀ b o, s.heap.get? b = some o → h'.get? b = some o) → h'.get? (s.heap.objs.size + 1) = some (excO C t1) → R (.ok (.ret (.ref (s.heap.objs.size + 1)))) { s with heap := h', toks := tk }) :
    codeAny (model prog w) A (.call (.ref C) ⟨[], []⟩) R s := by
  obtain ⟨nm, q, N, bs, bm, sn, sub, ab, col, dd, k0, k1, k2, k3, k5, hC, hbm⟩ := T.cls
  obtain ⟨hp, g, dr, tk, os⟩ := s
  have k : ∀ b o, hp.get? b = some o → ((hp.push (kdv_tup [])).push (excO C hp.objs.size)).get? b = some o := fun b o e => Heap.get?_push_of_some _ (Heap.get?_push_of_some _ e)
  have hget : ((hp.push (kdv_tup [])).push (excO C hp.objs.size)).get? (hp.objs.size + 1) = some (excO C hp.objs.size) := by heap_get
  have hne : hp.objs.size + 1 ≠ C := fun z => by
    have := Heap.lt_size (X _ _ hC)
    rw [← z] at this
    exact absurd this (by show ¬ (hp.objs.size + 1 < hp.objs.size); omega)
  refine call_own T.base hbm (X _ _ hC) (looks_findIn X T.iC) (fun self => bind_fn X self T.tI) (by rw [sizeLine_eq]; exact (by decide : 0 ≤ 16777216)) ?_
  refine init0 (mb := mb) (s := ⟨(hp.push (kdv_tup [])).push (excO C hp.objs.size), g, dr, tk, os⟩) T (X.keeps k) (hlim.keeps k) (hg.keeps k) (hb.keeps k) hS hget hne ?_ (hbind _ _) hcell hco hgen fun h' tk' t1 k' e => ?_
  · show A.depth + 1 < recursionLimit
    exact hroom
  · refine ⟨rfl, hq h' tk' t1 (fun b o z => k' b o (Nat.ne_of_lt (Nat.lt_succ_of_lt (Heap.lt_size z))) (k b o z)) e⟩
end
end BX
end PySem
namespace L2
open PySem PySem.Spec PyProof.Rows
theorem pmk_e0 {X : Cx} {C fI cc cda : Addr} {B newId initId : String} {bmB : List Value} {nmC qual : Str} {params : Arguments} {first : Stmt} {scope : Scope} {p pos : Pos} {k : Nat}
    (T : PySem.BX.ETxt X.prog X.K X.mg C fI cc cda B newId initId bmB nmC qual params first [] scope) (hr : Room k X.A) (hg : Gl X nmC)
    (hbind : ∀ (x : Addr) (s : Shared) (kV doc pm : Value) (an : Option Addr) (ct : Value), BindsTo s (PySem.W.ksFn "__init__" qual params [first] scope .none kV doc pm an (.ref cda) ct cc) ⟨[.ref x], []⟩ [("self", .ref x)])
    (hcell : ∀ z ∈ scope.names, z.2 ≠ .cell) (hco : scope.isCoroutine = false) (hgen : scope.isGenerator = false) (hdb : (nmC == ("__debug__" : Str)) = false := by decide) :
    PMk X (.Call (.Name nmC p) [] [] pos) (fun _ H Q => Q (.ref C) none H) := by
  intro pins s σ H Q I h
  refine wpAny_Call_Name_kw (ld_glob I hg T.gC ?_ hdb)
  refine PySem.W.callWith_K0 I.kIn T.kC ?_
  show wpAny _ _ (call (.ref C) []) _ _ _
  have hlim := I.nolimit
  obtain ⟨mb, hb1, hb2⟩ := I.mod.blt
  have hbS : mb "super" = some (.type "super") := (hb2 _ (by decide)).trans (by first | rfl | decide +kernel)
  obtain ⟨hp, gg, dr, tk, os⟩ := s
  refine wpAny_call (PySem.BX.made0 (mb := mb) T I.kIn hlim (I.mod.glob.keeps I.bk) (hb1.keeps I.bk) hbS (by have := hr.dp; omega) hbind hcell hco hgen fun h' tk' t1 kp e => ?_)
  show MkP X pins σ Q (.ref (hp.objs.size + 1)) ⟨h', gg, dr, tk', os⟩
  obtain ⟨G', g1, g2⟩ := restrict h' fun b => decide (b ≠ hp.objs.size + 1)
  have gk : ∀ b, b ≠ hp.objs.size + 1 → G'.get? b = h'.get? b := fun b hb => g1 b (decide_eq_true hb)
  have ge : G'.get? (hp.objs.size + 1) = none := g2 _ (by simp)
  have old : ∀ b o, hp.get? b = some o → G'.get? b = some o := fun b o q => (gk b (Nat.ne_of_lt (Nat.lt_succ_of_lt (Heap.lt_size q)))).trans (kp b o q)
  have J : Inv X pins σ H ⟨G', gg, dr, tk', os⟩ := I.kept (t' := tk') old
  refine ⟨hp.objs.size + 1, _, _, ⟨G', gg, dr, tk', os⟩, H, .ref C, none, rfl, J, fun b o q => ?_, ge, e, ⟨rfl, rfl⟩, rfl, rfl, I.hok.fresh (Nat.le_succ _), rfl, I.bare, raises_own T.exC T.tyC, h⟩
  by_cases hb : b = hp.objs.size + 1
  · have q' : G'.get? b = some o := q
    rw [hb, ge] at q'; cases q'
  · exact (gk b hb).symm.trans q
end L2
set_option Elab.async false
set_option linter.all false
set_option maxRecDepth 100000
set_option maxHeartbeats 2000000
namespace PySem
namespace BX
open PySem.W PySem.Calls PyProof.Rows PySem.HandSPX
section
variable {prog : Program} {w : World} {A : Around} {E : Value → Shared → Prop} {K : Frag} {C : Addr} {cd : ClassData}
variable {h : Heap} {g : Array GenState} {d : Drawn} {t : Nat} {os : OsState}
/-- self.f = p, the first field -/
theorem st_new {env : Env} {m : Str → Option Value} {x t1 : Addr} {f p : Str} {v : Value} {p1 p2 p3 pos : Pos} {Q : Flow → Shared → Prop} (X : K.In h) (hL : h.Ns env.locals m) (hself : m "self" = some (.ref x)) (hp : m p = some v)
    (hx : h.get? x = some (excO C t1)) (hcl : clsIn K C = some cd) (hm : refsVE cd.mro = true) (hh : cd.hasDict = true) (sa : findIn K (.ref C) "__setattr__" = some (some (.builtin "object.__setattr__"))) (hno : findIn K (.ref C) f = some none)
    (hk : env.scope.kind = .function) (hl : env.kindOf p = some .local) (hls : env.kindOf "self" = some .local) (hd : (p == ("__debug__" : Str)) = false) (hs : swapsWith (.Name p p3) (some (.Attribute (.Name "self" p1) f p2)) pos.line env = pure false)
    (hq : ∀ h' tk' dx, (∀ b o, b ≠ x → h.get? b = some o → h'.get? b = some o) → h.objs.size ≤ dx → dx ≠ x → h'.get? x = some { cls := .ref C, dict := some dx, data := .fields #[.ref t1, .none, .none, .none, .bool false, .none] } →
      h'.Ns1 dx (fun y => if y = f then some v else none) → Q .next ⟨h', g, d, tk', os⟩) :
    wpAny (model prog w) A (exec (.Assign [.Attribute (.Name "self" p1) f p2] (.Name p p3) pos) env) Q E ⟨h, g, d, t, os⟩ := by
  refine plainObj_wpAny_Assign_Attribute (ESX.ldL (s := ⟨h, g, d, t, os⟩) hL hp (ESX.ldL (s := ⟨h, g, d, t, os⟩) hL hself ?_ hk hls) hk hl hd) hs
  refine set_plain (s := ⟨h, g, d, t, os⟩) X (ox := excO C t1) (od := none) ⟨hx, rfl, rfl, trivial⟩ sa ?_
  exact exc_osa X hx hcl hm hh hno (fun h' tk' dx k dn dne hx' hn => hq h' tk' dx k dn dne hx' hn)
/-- self.f = p, a further field -/
theorem st_old {env : Env} {m m0 : Str → Option Value} {nl : List Str} {x t1 dx : Addr} {f p : Str} {v : Value} {p1 p2 p3 pos : Pos} {Q : Flow → Shared → Prop} (X : K.In h) (hL : h.Ns env.locals m) (hself : m "self" = some (.ref x)) (hp : m p = some v)
    (hx : h.get? x = some { cls := .ref C, dict := some dx, data := .fields #[.ref t1, .none, .none, .none, .bool false, .none] }) (hns : h.Ns1 dx m0) (hw : Within m0 nl) (hz : nl.length ≤ 1000) (hcl : clsIn K C = some cd) (hm : refsVE cd.mro = true) (hh : cd.hasDict = true)
    (sa : findIn K (.ref C) "__setattr__" = some (some (.builtin "object.__setattr__"))) (hno : findIn K (.ref C) f = some none)
    (hk : env.scope.kind = .function) (hl : env.kindOf p = some .local) (hls : env.kindOf "self" = some .local) (hd : (p == ("__debug__" : Str)) = false) (hs : swapsWith (.Name p p3) (some (.Attribute (.Name "self" p1) f p2)) pos.line env = pure false)
    (hq : ∀ h' tk', (∀ b o, b ≠ dx → h.get? b = some o → h'.get? b = some o) → h'.Ns1 dx (fun y => if y = f then some v else m0 y) → Q .next ⟨h', g, d, tk', os⟩) :
    wpAny (model prog w) A (exec (.Assign [.Attribute (.Name "self" p1) f p2] (.Name p p3) pos) env) Q E ⟨h, g, d, t, os⟩ := by
  refine plainObj_wpAny_Assign_Attribute (ESX.ldL (s := ⟨h, g, d, t, os⟩) hL hp (ESX.ldL (s := ⟨h, g, d, t, os⟩) hL hself ?_ hk hls) hk hl hd) hs
  obtain ⟨oD, _, _, hoD, _, _⟩ := hns.count hw
  refine set_plain (s := ⟨h, g, d, t, os⟩) X (ox := { cls := .ref C, dict := some dx, data := .fields #[.ref t1, .none, .none, .none, .bool false, .none] }) (od := some oD) ⟨hx, rfl, rfl, hoD⟩ sa ?_
  exact PySem.OEX.osa_old X hx hns hw hz hcl hm hh hno (fun h' tk' k hn => hq h' tk' k hn)
end
/-- what is asked of a class whose fields are set -/
structure FTxt (K : Frag) (C : Addr) (names : List Str) : Prop where
  cl : ∃ cd : ClassData, clsIn K C = some cd ∧ refsVE cd.mro = true ∧ cd.hasDict = true
  sa : findIn K (.ref C) "__setattr__" = some (some (.builtin "object.__setattr__"))
  no : ∀ f ∈ names, findIn K (.ref C) f = some none
/-- self.f = p -/
def IsF (qual : Str) (scope : Scope) (fI cda cc : Addr) (st : Stmt) (f p : Str) : Prop := ∃ a1 a2 a3 pos : Pos, st = .Assign [.Attribute (.Name "self" a1) f a2] (.Name p a3) pos ∧ scope.names.lookup p = some .local ∧ (p == ("__debug__" : Str)) = false ∧
  ∀ L : Addr, swapsWith (.Name p a3) (some (.Attribute (.Name "self" a1) f a2)) pos.line (ksEnv qual scope L fI (.ref cda) cc) = pure false
section
variable {prog : Program} {w : World} {A : Around} {E : Value → Shared → Prop} {K : Frag} {mg mb : Str → Option Value} {C fI cc cda : Addr} {B newId initId : String} {bmB : List Value} {nmC qual : Str} {params : Arguments} {first s1 s2 : Stmt} {scope : Scope}
theorem init1 {f p : Str} {u : Value} (T : ETxt prog K mg C fI cc cda B newId initId bmB nmC qual params first [s1] scope) (F : FTxt K C [f]) (i1 : IsF qual scope fI cda cc s1 f p) {R : Result → Shared → Prop} {s : Shared} {x t0 : Addr} (X : K.In s.heap) (hlim : s.heap.NoLimit)
    (hg : s.heap.Ns mainGlobals mg) (hb : s.heap.Ns builtinsNs mb) (hS : mb "super" = some (.type "super")) (hx : s.heap.get? x = some (excO C t0)) (hxK : ∀ b o, K.lookup b = some o → b ≠ x) (hroom : A.depth < recursionLimit)
    (hbind : ∀ (kV doc pm : Value) (an : Option Addr) (ct : Value), BindsTo s (ksFn "__init__" qual params [first, s1] scope .none kV doc pm an (.ref cda) ct cc) ⟨[.ref x, u], []⟩ [("self", .ref x), (p, u)])
    (hps : p ≠ "self") (hcell : ∀ z ∈ scope.names, z.2 ≠ .cell) (hco : scope.isCoroutine = false) (hgen : scope.isGenerator = false)
    (hq : ∀ h' tk t1 dx, (∀ b o, b ≠ x → s.heap.get? b = some o → h'.get? b = some o) → s.heap.objs.size ≤ dx → dx ≠ x → h'.get? x = some { cls := .ref C, dict := some dx, data := .fields #[.ref t1, .none, .none, .none, .bool false, .none] } →
      h'.Ns1 dx (fun y => if y = f then some u else none) → R (.ok (.ret .none)) { s with heap := h', toks := tk }) :
    codeAny (model prog w) A (.call (.ref fI) ⟨[.ref x, u], []⟩) R s := by
  obtain ⟨oc, od, kV, doc, pm, an, ct, osl, hf⟩ := T.fn
  obtain ⟨cd, hcl, hm, hh⟩ := F.cl
  obtain ⟨a1, a2, a3, pos, rfl, hlp, hdp, hsw⟩ := i1
  have hxC : x ≠ C := fun z => by
    obtain ⟨nm, q, N, bs, bm, sn, sub, ab, col, dd, k0, k1, k2, k3, k5, hC, hbm⟩ := T.cls
    exact hxK _ _ hC z.symm
  refine ks_codeAny_call_defAt (fd := ksFn "__init__" qual params [first, .Assign [.Attribute (.Name "self" a1) f a2] (.Name p a3) pos] scope .none kV doc pm an (.ref cda) ct cc) (body := [first, .Assign [.Attribute (.Name "self" a1) f a2] (.Name p a3) pos]) (binds := [("self", .ref x), (p, u)]) hroom (X _ _ hf) rfl hlim (codeRec_of X T.code) rfl (hbind kV doc pm an ct) hcell ?_ (fun h₁ hns hk => ?_) hco hgen T.kF
  · intro y hy
    rcases List.mem_cons.mp hy with rfl | hy
    · exact T.kSf
    · rw [List.mem_singleton.mp hy]
      exact hlp
  have hms : List.lookup ("self" : Str) [(("self" : Str), Value.ref x), (p, u)].reverse = some (.ref x) := by
    show List.lookup ("self" : Str) [(p, u), (("self" : Str), Value.ref x)] = _
    rw [List.lookup_cons, show (("self" : Str) == p) = false from beq_false_of_ne (Ne.symm hps)]
    rfl
  have hmp : List.lookup p [(("self" : Str), Value.ref x), (p, u)].reverse = some u := by
    show List.lookup p [(p, u), (("self" : Str), Value.ref x)] = _
    rw [List.lookup_cons, show (p == p) = true from beq_self_eq_true p]
  obtain ⟨hp, g, d, t, os⟩ := s
  have hLx : hp.objs.size ≠ x := (Nat.ne_of_lt (Heap.lt_size hx)).symm
  refine ks_wpAt_execs_cons ?_
  refine super_stmt (mb := mb) (m := fun y => List.lookup y [(("self" : Str), Value.ref x), (p, u)].reverse) T (X.keeps hk) (hg.keeps hk) (hb.keeps hk) hS hns hms (hk _ _ hx) hxC (fun h' tk t1 k e => ?_)
  have X' : K.In h' := fun b o l => k b o (hxK b o l) (hk _ _ (X b o l))
  have hns' : h'.Ns hp.objs.size (fun y => List.lookup y [(("self" : Str), Value.ref x), (p, u)].reverse) := hns.at fun o z => k _ _ hLx z
  refine wpAt_of_wpAny (wpAny_execs_cons ?_)
  refine st_new X' hns' hms hmp e hcl hm hh F.sa (F.no f List.mem_cons_self) T.kF hlp T.kSf hdp (hsw _) fun h2 tk2 dx k2 dn dne hx2 hn2 => ?_
  refine wpAny_execs_nil ?_
  refine hq h2 tk2 t1 dx (fun b o hb z => k2 b o hb (k b o hb (hk _ _ z))) ?_ dne hx2 hn2
  have : hp.objs.size < h'.objs.size := by
    obtain ⟨o, _, _, z, _⟩ := hns'
    exact Heap.lt_size z
  show hp.objs.size ≤ dx
  omega
theorem init2 {f1 f2 p1 p2 : Str} {u1 u2 : Value} (T : ETxt prog K mg C fI cc cda B newId initId bmB nmC qual params first [s1, s2] scope) (F : FTxt K C [f1, f2]) (i1 : IsF qual scope fI cda cc s1 f1 p1) (i2 : IsF qual scope fI cda cc s2 f2 p2) {R : Result → Shared → Prop} {s : Shared} {x t0 : Addr} (X : K.In s.heap) (hlim : s.heap.NoLimit)
    (hg : s.heap.Ns mainGlobals mg) (hb : s.heap.Ns builtinsNs mb) (hS : mb "super" = some (.type "super")) (hx : s.heap.get? x = some (excO C t0)) (hxK : ∀ b o, K.lookup b = some o → b ≠ x) (hroom : A.depth < recursionLimit)
    (hbind : ∀ (kV doc pm : Value) (an : Option Addr) (ct : Value), BindsTo s (ksFn "__init__" qual params [first, s1, s2] scope .none kV doc pm an (.ref cda) ct cc) ⟨[.ref x, u1, u2], []⟩ [("self", .ref x), (p1, u1), (p2, u2)])
    (hps : p1 ≠ "self" ∧ p2 ≠ "self" ∧ p1 ≠ p2) (hcell : ∀ z ∈ scope.names, z.2 ≠ .cell) (hco : scope.isCoroutine = false) (hgen : scope.isGenerator = false)
    (hq : ∀ h' tk t1 dx, (∀ b o, b ≠ x → s.heap.get? b = some o → h'.get? b = some o) → s.heap.objs.size ≤ dx → dx ≠ x → h'.get? x = some { cls := .ref C, dict := some dx, data := .fields #[.ref t1, .none, .none, .none, .bool false, .none] } →
      h'.Ns1 dx (fun y => if y = f2 then some u2 else if y = f1 then some u1 else none) → R (.ok (.ret .none)) { s with heap := h', toks := tk }) :
    codeAny (model prog w) A (.call (.ref fI) ⟨[.ref x, u1, u2], []⟩) R s := by
  obtain ⟨oc, od, kV, doc, pm, an, ct, osl, hf⟩ := T.fn
  obtain ⟨cd, hcl, hm, hh⟩ := F.cl
  obtain ⟨a1, a2, a3, pos, rfl, hlp, hdp, hsw⟩ := i1
  obtain ⟨b1, b2, b3, pos', rfl, hlp', hdp', hsw'⟩ := i2
  have hxC : x ≠ C := fun z => by
    obtain ⟨nm, q, N, bs, bm, sn, sub, ab, col, dd, k0, k1, k2, k3, k5, hC, hbm⟩ := T.cls
    exact hxK _ _ hC z.symm
  refine ks_codeAny_call_defAt (fd := ksFn "__init__" qual params [first, .Assign [.Attribute (.Name "self" a1) f1 a2] (.Name p1 a3) pos, .Assign [.Attribute (.Name "self" b1) f2 b2] (.Name p2 b3) pos'] scope .none kV doc pm an (.ref cda) ct cc) (body := [first, .Assign [.Attribute (.Name "self" a1) f1 a2] (.Name p1 a3) pos, .Assign [.Attribute (.Name "self" b1) f2 b2] (.Name p2 b3) pos']) (binds := [("self", .ref x), (p1, u1), (p2, u2)]) hroom (X _ _ hf) rfl hlim (codeRec_of X T.code) rfl (hbind kV doc pm an ct) hcell ?_ (fun h₁ hns hk => ?_) hco hgen T.kF
  · intro y hy
    rcases List.mem_cons.mp hy with rfl | hy
    · exact T.kSf
    · rcases List.mem_cons.mp hy with rfl | hy
      · exact hlp
      · rw [List.mem_singleton.mp hy]
        exact hlp'
  have hms : List.lookup ("self" : Str) [(("self" : Str), Value.ref x), (p1, u1), (p2, u2)].reverse = some (.ref x) := by
    show List.lookup ("self" : Str) [(p2, u2), (p1, u1), (("self" : Str), Value.ref x)] = _
    rw [List.lookup_cons, show (("self" : Str) == p2) = false from beq_false_of_ne (Ne.symm hps.2.1)]
    show List.lookup ("self" : Str) [(p1, u1), (("self" : Str), Value.ref x)] = _
    rw [List.lookup_cons, show (("self" : Str) == p1) = false from beq_false_of_ne (Ne.symm hps.1)]
    rfl
  have hmp : List.lookup p1 [(("self" : Str), Value.ref x), (p1, u1), (p2, u2)].reverse = some u1 := by
    show List.lookup p1 [(p2, u2), (p1, u1), (("self" : Str), Value.ref x)] = _
    rw [List.lookup_cons, show (p1 == p2) = false from beq_false_of_ne hps.2.2]
    show List.lookup p1 [(p1, u1), (("self" : Str), Value.ref x)] = _
    rw [List.lookup_cons, show (p1 == p1) = true from beq_self_eq_true p1]
  have hmp2 : List.lookup p2 [(("self" : Str), Value.ref x), (p1, u1), (p2, u2)].reverse = some u2 := by
    show List.lookup p2 [(p2, u2), (p1, u1), (("self" : Str), Value.ref x)] = _
    rw [List.lookup_cons, show (p2 == p2) = true from beq_self_eq_true p2]
  obtain ⟨hp, g, d, t, os⟩ := s
  have hLx : hp.objs.size ≠ x := (Nat.ne_of_lt (Heap.lt_size hx)).symm
  refine ks_wpAt_execs_cons ?_
  refine super_stmt (mb := mb) (m := fun y => List.lookup y [(("self" : Str), Value.ref x), (p1, u1), (p2, u2)].reverse) T (X.keeps hk) (hg.keeps hk) (hb.keeps hk) hS hns hms (hk _ _ hx) hxC (fun h' tk t1 k e => ?_)
  have X' : K.In h' := fun b o l => k b o (hxK b o l) (hk _ _ (X b o l))
  have hns' : h'.Ns hp.objs.size (fun y => List.lookup y [(("self" : Str), Value.ref x), (p1, u1), (p2, u2)].reverse) := hns.at fun o z => k _ _ hLx z
  have hlt : hp.objs.size < h'.objs.size := by
    obtain ⟨o, _, _, z, _⟩ := hns'
    exact Heap.lt_size z
  refine wpAt_of_wpAny (wpAny_execs_cons ?_)
  refine st_new X' hns' hms hmp e hcl hm hh F.sa (F.no f1 List.mem_cons_self) T.kF hlp T.kSf hdp (hsw _) fun h2 tk2 dx k2 dn dne hx2 hn2 => ?_
  have X2 : K.In h2 := fun b o l => k2 b o (hxK b o l) (X' b o l)
  have hns2 : h2.Ns hp.objs.size (fun y => List.lookup y [(("self" : Str), Value.ref x), (p1, u1), (p2, u2)].reverse) := hns'.at fun o z => k2 _ _ hLx z
  refine wpAny_execs_cons ?_
  refine st_old X2 hns2 hms hmp2 hx2 hn2 (Within.cons f1 u1 Within.nil) (by show 1 ≤ 1000; decide) hcl hm hh F.sa (F.no f2 (List.mem_cons_of_mem _ List.mem_cons_self)) T.kF hlp' T.kSf hdp' (hsw' _) fun h3 tk3 k3 hn3 => ?_
  refine wpAny_execs_nil ?_
  have ndx : ∀ {b : Addr} {o : Obj}, hp.get? b = some o → b ≠ dx := fun {b o} z y => by
    have := Heap.lt_size z
    rw [y] at this
    exact Nat.lt_irrefl _ (Nat.lt_of_lt_of_le this (Nat.le_trans (Nat.le_of_lt hlt) dn))
  refine hq h3 tk3 t1 dx (fun b o hb z => k3 b o (ndx z) (k2 b o hb (k b o hb (hk _ _ z)))) (by show hp.objs.size ≤ dx; omega) dne (k3 _ _ (Ne.symm dne) hx2) hn3
/-- C(u) -/
theorem made1 {f p : Str} {u : Value} (T : ETxt prog K mg C fI cc cda B newId initId bmB nmC qual params first [s1] scope) (F : FTxt K C [f]) (i1 : IsF qual scope fI cda cc s1 f p) {R : Result → Shared → Prop} {s : Shared} (X : K.In s.heap) (hlim : s.heap.NoLimit)
    (hg : s.heap.Ns mainGlobals mg) (hb : s.heap.Ns builtinsNs mb) (hS : mb "super" = some (.type "super")) (hroom : A.depth + 1 < recursionLimit)
    (hbind : ∀ (x : Addr) (s : Shared) (kV doc pm : Value) (an : Option Addr) (ct : Value), BindsTo s (ksFn "__init__" qual params [first, s1] scope .none kV doc pm an (.ref cda) ct cc) ⟨[.ref x, u], []⟩ [("self", .ref x), (p, u)])
    (hps : p ≠ "self") (hcell : ∀ z ∈ scope.names, z.2 ≠ .cell) (hco : scope.isCoroutine = false) (hgen : scope.isGenerator = false)
    (hq : ∀ h' tk t1 dx, (∀ b o, s.heap.get? b = some o → h'.get? b = some o) → s.heap.objs.size ≤ dx → dx ≠ s.heap.objs.size + 1 → h'.get? (s.heap.objs.size + 1) = some { cls := .ref C, dict := some dx, data := .fields #[.ref t1, .none, .none, .none, .bool false, .none] } →
      h'.Ns1 dx (fun y => if y = f then some u else none) → R (.ok (.ret (.ref (s.heap.objs.size + 1)))) { s with heap := h', toks := tk }) :
    codeAny (model prog w) A (.call (.ref C) ⟨[u], []⟩) R s := by
  obtain ⟨nm, q, N, bs, bm, sn, sub, ab, col, dd, k0, k1, k2, k3, k5, hC, hbm⟩ := T.cls
  obtain ⟨hp, g, dr, tk, os⟩ := s
  have k : ∀ b o, hp.get? b = some o → ((hp.push (kdv_tup [u])).push (excO C hp.objs.size)).get? b = some o := fun b o e => Heap.get?_push_of_some _ (Heap.get?_push_of_some _ e)
  have hget : ((hp.push (kdv_tup [u])).push (excO C hp.objs.size)).get? (hp.objs.size + 1) = some (excO C hp.objs.size) := by heap_get
  have hne : ∀ {b : Addr} {o : Obj}, hp.get? b = some o → b ≠ hp.objs.size + 1 := fun {b o} z y => by
    have := Heap.lt_size z
    rw [y] at this
    exact absurd this (by show ¬ (hp.objs.size + 1 < hp.objs.size); omega)
  refine call_own T.base hbm (X _ _ hC) (looks_findIn X T.iC) (fun self => bind_fn X self T.tI) (by rw [sizeLine_eq]; exact (by decide : 1 ≤ 16777216)) ?_
  refine init1 (mb := mb) (s := ⟨(hp.push (kdv_tup [u])).push (excO C hp.objs.size), g, dr, tk, os⟩) T F i1 (X.keeps k) (hlim.keeps k) (hg.keeps k) (hb.keeps k) hS hget (fun b o l => hne (X b o l)) ?_ (hbind _ _) hps hcell hco hgen fun h' tk' t1 dx k' hdx ndx e hn => ?_
  · show A.depth + 1 < recursionLimit
    exact hroom
  · refine ⟨rfl, hq h' tk' t1 dx (fun b o z => k' b o (hne z) (k b o z)) ?_ ndx e hn⟩
    have : hp.objs.size + 2 ≤ dx := by
      have z : ((hp.push (kdv_tup [u])).push (excO C hp.objs.size)).objs.size = hp.objs.size + 2 := by simp [Heap.push]
      rw [← z]
      exact hdx
    show hp.objs.size ≤ dx
    omega
/-- C(u1, u2) -/
theorem made2 {f1 f2 p1 p2 : Str} {u1 u2 : Value} (T : ETxt prog K mg C fI cc cda B newId initId bmB nmC qual params first [s1, s2] scope) (F : FTxt K C [f1, f2]) (i1 : IsF qual scope fI cda cc s1 f1 p1) (i2 : IsF qual scope fI cda cc s2 f2 p2) {R : Result → Shared → Prop} {s : Shared} (X : K.In s.heap) (hlim : s.heap.NoLimit)
    (hg : s.heap.Ns mainGlobals mg) (hb : s.heap.Ns builtinsNs mb) (hS : mb "super" = some (.type "super")) (hroom : A.depth + 1 < recursionLimit)
    (hbind : ∀ (x : Addr) (s : Shared) (kV doc pm : Value) (an : Option Addr) (ct : Value), BindsTo s (ksFn "__init__" qual params [first, s1, s2] scope .none kV doc pm an (.ref cda) ct cc) ⟨[.ref x, u1, u2], []⟩ [("self", .ref x), (p1, u1), (p2, u2)])
    (hps : p1 ≠ "self" ∧ p2 ≠ "self" ∧ p1 ≠ p2) (hcell : ∀ z ∈ scope.names, z.2 ≠ .cell) (hco : scope.isCoroutine = false) (hgen : scope.isGenerator = false)
    (hq : ∀ h' tk t1 dx, (∀ b o, s.heap.get? b = some o → h'.get? b = some o) → s.heap.objs.size ≤ dx → dx ≠ s.heap.objs.size + 1 → h'.get? (s.heap.objs.size + 1) = some { cls := .ref C, dict := some dx, data := .fields #[.ref t1, .none, .none, .none, .bool false, .none] } →
      h'.Ns1 dx (fun y => if y = f2 then some u2 else if y = f1 then some u1 else none) → R (.ok (.ret (.ref (s.heap.objs.size + 1)))) { s with heap := h', toks := tk }) :
    codeAny (model prog w) A (.call (.ref C) ⟨[u1, u2], []⟩) R s := by
  obtain ⟨nm, q, N, bs, bm, sn, sub, ab, col, dd, k0, k1, k2, k3, k5, hC, hbm⟩ := T.cls
  obtain ⟨hp, g, dr, tk, os⟩ := s
  have k : ∀ b o, hp.get? b = some o → ((hp.push (kdv_tup [u1, u2])).push (excO C hp.objs.size)).get? b = some o := fun b o e => Heap.get?_push_of_some _ (Heap.get?_push_of_some _ e)
  have hget : ((hp.push (kdv_tup [u1, u2])).push (excO C hp.objs.size)).get? (hp.objs.size + 1) = some (excO C hp.objs.size) := by heap_get
  have hne : ∀ {b : Addr} {o : Obj}, hp.get? b = some o → b ≠ hp.objs.size + 1 := fun {b o} z y => by
    have := Heap.lt_size z
    rw [y] at this
    exact absurd this (by show ¬ (hp.objs.size + 1 < hp.objs.size); omega)
  refine call_own T.base hbm (X _ _ hC) (looks_findIn X T.iC) (fun self => bind_fn X self T.tI) (by rw [sizeLine_eq]; exact (by decide : 2 ≤ 16777216)) ?_
  refine init2 (mb := mb) (s := ⟨(hp.push (kdv_tup [u1, u2])).push (excO C hp.objs.size), g, dr, tk, os⟩) T F i1 i2 (X.keeps k) (hlim.keeps k) (hg.keeps k) (hb.keeps k) hS hget (fun b o l => hne (X b o l)) ?_ (hbind _ _) hps hcell hco hgen fun h' tk' t1 dx k' hdx ndx e hn => ?_
  · show A.depth + 1 < recursionLimit
    exact hroom
  · refine ⟨rfl, hq h' tk' t1 dx (fun b o z => k' b o (hne z) (k b o z)) ?_ ndx e hn⟩
    have : hp.objs.size + 2 ≤ dx := by
      have z : ((hp.push (kdv_tup [u1, u2])).push (excO C hp.objs.size)).objs.size = hp.objs.size + 2 := by simp [Heap.push]
      rw [← z]
      exact hdx
    show hp.objs.size ≤ dx
    omega
end
end BX
end PySem
namespace L2
open PySem PySem.Spec PyProof.Rows
/-- C(e) -/
def tMk1 (C : Addr) (f : Str) (ta : TA) : St → Hp → XK → Prop := fun σ H Q => ta σ H fun vs H1 => ∃ y, vs = [y] ∧ ∀ dx, H1 dx = none → Q (.ref C) (some dx) (upd H1 dx (.xd [(f, y)]))
/-- C(e1, e2) -/
def tMk2 (C : Addr) (f1 f2 : Str) (ta : TA) : St → Hp → XK → Prop := fun σ H Q => ta σ H fun vs H1 => ∃ y1 y2, vs = [y1, y2] ∧ ∀ dx, H1 dx = none → Q (.ref C) (some dx) (upd H1 dx (.xd [(f2, y2), (f1, y1)]))
section
variable {X : Cx} {C fI cc cda : Addr} {B newId initId : String} {bmB : List Value} {nmC qual : Str} {params : Arguments} {first s1 s2 : Stmt} {scope : Scope} {p pos : Pos} {k : Nat} {ta : TA}
theorem mk_fin {pins : List (Addr × Obj)} {σ : St} {H : Hp} {Q : XK} {hp h' : Heap} {gg : Array GenState} {dr : Drawn} {tk tk' : Nat} {os : OsState} {t1 dx : Addr} {fs : List (Str × V)} {mA : Str → Option Value} (I : Inv X pins σ H ⟨hp, gg, dr, tk, os⟩) (r : Raises X (.ref C))
    (kp : ∀ b o, hp.get? b = some o → h'.get? b = some o) (hdx : hp.objs.size ≤ dx) (ndx : dx ≠ hp.objs.size + 1) (e : h'.get? (hp.objs.size + 1) = some ({ cls := .ref C, dict := some dx, data := .fields #[.ref t1, .none, .none, .none, .bool false, .none] } : Obj)) (hn : h'.Ns1 dx mA) (rel : ∀ f, RelO (fs.lookup f) (mA f))
    (q : Q (.ref C) (some dx) (upd H dx (.xd fs))) : MkP X pins σ Q (.ref (hp.objs.size + 1)) ⟨h', gg, dr, tk', os⟩ := by
  obtain ⟨G', g1, g2⟩ := restrict h' fun b => decide (b ≠ hp.objs.size + 1)
  have gk : ∀ b, b ≠ hp.objs.size + 1 → G'.get? b = h'.get? b := fun b hb => g1 b (decide_eq_true hb)
  have ge : G'.get? (hp.objs.size + 1) = none := g2 _ (by simp)
  have old : ∀ b o, hp.get? b = some o → G'.get? b = some o := fun b o q => (gk b (Nat.ne_of_lt (Nat.lt_succ_of_lt (Heap.lt_size q)))).trans (kp b o q)
  have J : Inv X pins σ (upd H dx (.xd fs)) ⟨G', gg, dr, tk', os⟩ := I.laid (t' := tk') old hdx ⟨mA, hn.at fun o y => (gk dx ndx).trans y, rel⟩
  refine ⟨hp.objs.size + 1, _, _, ⟨G', gg, dr, tk', os⟩, _, .ref C, some dx, rfl, J, fun b o q => ?_, ge, e, ⟨rfl, rfl⟩, rfl, rfl, ?_, rfl, I.bare, r, q⟩
  · by_cases hb : b = hp.objs.size + 1
    · have q' : G'.get? b = some o := q
      rw [hb, ge] at q'; cases q'
    · exact (gk b hb).symm.trans q
  · rw [upd_ne (Ne.symm ndx)]
    exact I.hok.fresh (Nat.le_succ _)
theorem pmk_e1 {f pn : Str} {e : Expr} (T : PySem.BX.ETxt X.prog X.K X.mg C fI cc cda B newId initId bmB nmC qual params first [s1] scope) (F : PySem.BX.FTxt X.K C [f]) (i1 : PySem.BX.IsF qual scope fI cda cc s1 f pn) (hr : Room k X.A) (hg : Gl X nmC)
    (hbind : ∀ (u : Value) (x : Addr) (s : Shared) (kV doc pm : Value) (an : Option Addr) (ct : Value), BindsTo s (PySem.W.ksFn "__init__" qual params [first, s1] scope .none kV doc pm an (.ref cda) ct cc) ⟨[.ref x, u], []⟩ [("self", .ref x), (pn, u)])
    (hps : pn ≠ "self") (hcell : ∀ z ∈ scope.names, z.2 ≠ .cell) (hco : scope.isCoroutine = false) (hgen : scope.isGenerator = false) (ha : PA X [e] ta) (hdb : (nmC == ("__debug__" : Str)) = false := by decide)
    (he : starEach [e] X.env = (false, eval e X.env) :: starEach [] X.env := by rfl) (hpl : (backTo pos (starEach [] X.env)).any (·.1) = false := by rfl) :
    PMk X (.Call (.Name nmC p) [e] [] pos) (tMk1 C f ta) := by
  intro pins s σ H Q I h
  refine wpAny_Call_Name_kw (ld_glob I hg T.gC ?_ hdb)
  refine PySem.W.callWith_K (h₀ := X.base) I.ok.mod.kin T.kC (thn (ha.run pos pins s σ H _ I h) fun us s1 ⟨vs, H1, I1, r1, y, ev, q1⟩ => ⟨I1.kIn, ?_⟩) he hpl
  subst ev
  cases r1 with
  | @cons _ u _ ur ry rr =>
    cases rr
    show wpAny _ _ (call (.ref C) [u]) _ _ _
    have hlim := I1.nolimit
    obtain ⟨mb, hb1, hb2⟩ := I1.mod.blt
    have hbS : mb "super" = some (.type "super") := (hb2 _ (by decide)).trans (by first | rfl | decide +kernel)
    obtain ⟨hp, gg, dr, tk, os⟩ := s1
    refine wpAny_call (PySem.BX.made1 (mb := mb) T F i1 I1.kIn hlim (I1.mod.glob.keeps I1.bk) (hb1.keeps I1.bk) hbS (by have := hr.dp; omega) (hbind u) hps hcell hco hgen fun h' tk' t1 dx kp hdx ndx e hn => ?_)
    exact mk_fin I1 (raises_own T.exC T.tyC) kp hdx ndx e hn (relO_put (fs := []) ry fun g => True.intro) (q1 dx (I1.hok.fresh hdx))
theorem pmk_e2 {f1 f2 p1 p2 : Str} {e e' : Expr} (T : PySem.BX.ETxt X.prog X.K X.mg C fI cc cda B newId initId bmB nmC qual params first [s1, s2] scope) (F : PySem.BX.FTxt X.K C [f1, f2]) (i1 : PySem.BX.IsF qual scope fI cda cc s1 f1 p1) (i2 : PySem.BX.IsF qual scope fI cda cc s2 f2 p2) (hr : Room k X.A) (hg : Gl X nmC)
    (hbind : ∀ (u1 u2 : Value) (x : Addr) (s : Shared) (kV doc pm : Value) (an : Option Addr) (ct : Value), BindsTo s (PySem.W.ksFn "__init__" qual params [first, s1, s2] scope .none kV doc pm an (.ref cda) ct cc) ⟨[.ref x, u1, u2], []⟩ [("self", .ref x), (p1, u1), (p2, u2)])
    (hps : p1 ≠ "self" ∧ p2 ≠ "self" ∧ p1 ≠ p2) (hcell : ∀ z ∈ scope.names, z.2 ≠ .cell) (hco : scope.isCoroutine = false) (hgen : scope.isGenerator = false) (ha : PA X [e, e'] ta) (hdb : (nmC == ("__debug__" : Str)) = false := by decide)
    (he : starEach [e, e'] X.env = (false, eval e X.env) :: starEach [e'] X.env := by rfl) (hpl : (backTo pos (starEach [e'] X.env)).any (·.1) = false := by rfl) :
    PMk X (.Call (.Name nmC p) [e, e'] [] pos) (tMk2 C f1 f2 ta) := by
  intro pins s σ H Q I h
  refine wpAny_Call_Name_kw (ld_glob I hg T.gC ?_ hdb)
  refine PySem.W.callWith_K (h₀ := X.base) I.ok.mod.kin T.kC (thn (ha.run pos pins s σ H _ I h) fun us s1 ⟨vs, H1, I1, r1, y1, y2, ev, q1⟩ => ⟨I1.kIn, ?_⟩) he hpl
  subst ev
  cases r1 with
  | @cons _ u _ ur ry rr =>
    cases rr with
    | @cons _ u2 _ ur2 ry2 rr2 =>
      cases rr2
      show wpAny _ _ (call (.ref C) [u, u2]) _ _ _
      have hlim := I1.nolimit
      obtain ⟨mb, hb1, hb2⟩ := I1.mod.blt
      have hbS : mb "super" = some (.type "super") := (hb2 _ (by decide)).trans (by first | rfl | decide +kernel)
      obtain ⟨hp, gg, dr, tk, os⟩ := s1
      refine wpAny_call (PySem.BX.made2 (mb := mb) T F i1 i2 I1.kIn hlim (I1.mod.glob.keeps I1.bk) (hb1.keeps I1.bk) hbS (by have := hr.dp; omega) (hbind u u2) hps hcell hco hgen fun h' tk' t1 dx kp hdx ndx e hn => ?_)
      exact mk_fin I1 (raises_own T.exC T.tyC) kp hdx ndx e hn (relO_put ry2 (relO_put (fs := []) ry fun g => True.intro)) (q1 dx (I1.hok.fresh hdx))
end
end L2
set_option Elab.async false
set_option linter.all false
set_option maxRecDepth 100000
set_option maxHeartbeats 4000000
namespace BI
open PySem PySem.W PySem.Spec PySem.Calls PyProof.Rows L2
section
variable {prog : Program} {w : World} {A : Around} {E : Value → Shared → Prop} {s : Shared} {K : Frag} {x D : Addr} {ob : Obj} {own : Option Obj}
theorem find_data {name : Str} {a g : Value} (isc : (clsIn K D).isSome = true) (at' : findIn K (.ref D) name = some (some a)) (ge : specialIn K a "__get__" = some (some g)) (tk : takesIn K a = some true) : findObj K D own name = some (.bind g a) := by
  obtain ⟨cd, e⟩ := Option.isSome_iff_exists.mp isc
  unfold findObj
  rw [e, Option.bind_some, at', Option.bind_some]
  simp [ge, tk]
/-- e.__class__, e with fields or without -/
theorem class_of {Q : Option Value → Shared → Prop} (Z : ExcC K D) (kin : K.In s.heap) (at' : InstAt s.heap x ob D own) (hq : Q (some (.ref D)) { s with toks := s.toks + 1 }) : wpAny (model prog w) A (getAttr? (.ref x) "__class__") Q E s := by
  have fo : findObj K D own "__class__" = some (.bind (.builtin "getset_descriptor.__get__") (.builtin "object.__class__")) := find_data (by obtain ⟨cd, e, _⟩ := any_some Z.hd; rw [e]; rfl) Z.ha Z.hn Z.ht
  obtain ⟨hp, g, d, t, os⟩ := s
  have l0 := at'.type (M := model prog w)
  have l1 := looks_findIn (M := model prog w) kin Z.hg
  have l2 := looks_findIn (M := model prog w) kin Z.hk
  have l3 := looks_find (M := model prog w) kin at' fo
  have isb : Looks (model prog w) hp (isInstance (.ref x) (.type "BaseException")) true := l0.andThen (looks_subIn kin Z.hs)
  have n2 : (Value.builtin "BaseException.__getattribute__" == Value.builtin "object.__getattribute__") = false := by decide +kernel
  have n1 : (onTheHeap (Value.ref D) && Value.builtin "BaseException.__getattribute__" == Value.builtin "object.__getattribute__") = false := by rw [n2]; rfl
  have n0 : (false && onTheHeap (Value.builtin "BaseException.__getattribute__")) = false := rfl
  unfold getAttr? getAttrBy? getAttrBy
  refine wpAny_bind (wpAny_mkText (wpAny_bind (wpAny_attempt (wpAny_holding (wpAny_bind (l0.at (wpAny_bind (l1.at ?_))))))))
  show wpAny _ _ (if (onTheHeap (Value.ref D) && Value.builtin "BaseException.__getattribute__" == Value.builtin "object.__getattribute__") = true then _ else _) _ _ _
  rw [n1, if_neg Bool.false_ne_true]
  unfold getAttrByItsOwn hookBefore
  refine wpAny_bind ?_
  rw [if_pos (show onTheHeap (Value.ref D) = true from rfl)]
  refine l2.at (wpAny_bind (wpAny_attempt (wpAny_holding ?_)))
  unfold callGetattribute
  rw [n0, if_neg Bool.false_ne_true]
  unfold boundAndCalled
  rw [PySem.F.excAttr_ValueError.ga.bind (.ref x)]
  refine wpAny_bind (wpAny_pure ?_)
  show wpAny _ _ (call (.builtin "BaseException.__getattribute__") [.ref x, .str "__class__" t]) _ _ _
  refine wpAny_call (codeAny_call_builtin PySem.F.excAttr_ValueError.ga.plain PySem.F.entry_bexc_ga ?_)
  refine @check_slot (model prog w) _ _ ⟨hp, g, d, t + 1, os⟩ "BaseException.__getattribute__" "BaseException" "__getattribute__" (.ref x) [.str "__class__" t] [] _ (by decide +kernel) (by decide +kernel) isb (PySem.F.args_bexc_ga (.ref x) (.str "__class__" t)) ?_
  unfold Builtin.«object.__getattribute__»
  refine wpAny_bind (wpAny_of_eq (a := ((Value.ref x : Value), [Value.str "__class__" t])) (by first | rfl | (simp only [slotArgs]; rfl)) ?_)
  refine wpAny_bind (wpAny_pure (wpAny_bind (l0.at (wpAny_bind (l3.at ?_)))))
  show wpAny _ _ (holding [Value.builtin "object.__class__"] (call (.builtin "getset_descriptor.__get__") [.builtin "object.__class__", .ref x, .ref D]) >>= ret) _ _ _
  refine wpAny_bind (wpAny_holding (wpAny_call (class_get (s := ⟨hp, g, d, t + 1, os⟩) (ox := ob) (od := own) kin at' Z.hm ?_)))
  refine wpAny_pure ?_
  show wpAny _ _ (handedOut (.ref D)) _ _ _
  rw [handedOut_of (v := .ref D) rfl]
  first
    | exact wpAny_pure (wpAny_pure hq)
    | exact wpAny_pure hq
    | exact wpAny_pure (wpAny_bind (wpAny_pure (wpAny_pure hq)))
theorem kitx (Z : ExcC K D) : KitX K (.ref x) (.ref D) (fun h => InstAt h x ob D own) where
  ty := fun _ _ _ at' => at'.type
  it := fun _ _ kin _ => by
    obtain ⟨cd, e, _⟩ := any_some Z.hd
    unfold clsIn at e
    split at e
    · rename_i c' d' cd' sl' ho
      intro A' Q' E' s' k q
      unfold isType loadHead
      exact wpAny_bind (wpAny_loadPart (k _ _ (kin _ _ ho)) (wpAny_pure q))
    · cases e
  ne := fun h tp dd its n sl kin htp => by
    obtain ⟨cd, e, _⟩ := any_some Z.hd
    refine Bool.eq_false_iff.mpr fun q => ?_
    have e1 : D = tp := Value.ref.inj (beq_iff_eq.mp q)
    subst e1
    unfold clsIn at e
    split at e
    · rename_i c' d' cd' sl' ho
      have z := (kin _ _ ho).symm.trans htp
      cases z
    · cases e
  ca := fun kin at' k => class_of Z kin at' k
end
/-- isinstance(e, c): e the exception that the suite holds, of class D -/
def rF (K : Frag) (D a : Addr) (cls : Value) (d : Option Addr) : List V → Hp → VK → Prop := fun xs H Q => ∃ (c : V) (cv : Value) (b : Bool) (dd : Addr) (fs : List (Str × V)), cls = .ref D ∧ d = some dd ∧ H dd = some (.xd fs) ∧ xs = [.ref a, c] ∧ (∀ u, RelV c u → u = cv) ∧ kitOne K (.ref D) cv = some b ∧ Q (.bl b) H
/-- isinstance(e, (c, ..)) -/
def rFT (K : Frag) (D a : Addr) (cls : Value) (d : Option Addr) : List V → Hp → VK → Prop := fun xs H Q => ∃ (tp : Addr) (cs : List V) (ws : List Value) (b : Bool) (dd : Addr) (fs : List (Str × V)), cls = .ref D ∧ d = some dd ∧ H dd = some (.xd fs) ∧ xs = [.ref a, .ref tp] ∧ H tp = some (.tup cs) ∧ Paired (fun c cv => ∀ u, RelV c u → u = cv) cs ws ∧ kitAny K (.ref D) ws = some b ∧ Q (.bl b) H
theorem vals_all : ∀ {cs : List V} {ws us : List Value}, Paired (fun c cv => ∀ u, RelV c u → u = cv) cs ws → Vals cs us → us = ws
  | _, _, _, .nil, .nil => rfl
  | _, _, _, .cons r t, .cons r' t' => by rw [r _ r', vals_all t t']
section
variable {X : Cx} {a D : Addr} {oe : Obj} {cls : Value} {d : Option Addr} {pn : List (Addr × Obj)}
theorem inst_at {pins : List (Addr × Obj)} {s : Shared} {σ : L2.St} {H : Hp} {dd : Addr} {fs : List (Str × V)} (I : Inv (X.suite a ((a, oe) :: pn)) pins σ H s) (hz : Zc (.ref D) (some dd) oe) (hf : ∃ vs, oe.data = .fields vs) (ed : H dd = some (.xd fs)) : ∃ od, InstAt s.heap a oe D (some od) := by
  obtain ⟨hget, _⟩ := I.pin (a, oe) (List.mem_append.mpr (.inl List.mem_cons_self))
  obtain ⟨vs, hv⟩ := hf
  have hx : ObjOk X.prog X.w H s.heap dd (.xd fs) := I.hok dd _ ed
  obtain ⟨mA, hns, hr⟩ := hx
  obtain ⟨od, ho, hl⟩ := lookIn_ns hns
  exact ⟨od, hget, hz.1, by unfold notCls; rw [hv] <;> rfl, by rw [hz.2]; exact ho⟩
theorem call_F (Z : ExcC X.K D) (hz : Zc cls d oe) (hf : ∃ vs, oe.data = .fields vs) : CallR (X.suite a ((a, oe) :: pn)) (.builtin "isinstance") (rF X.K D a cls d) := by
  intro pins s σ H xs us Q I r h
  obtain ⟨c, cv, b, dd, fs, rfl, rfl, ed, rfl, hcv, e, q⟩ := h
  cases r with
  | cons rx rr =>
    cases rr with
    | cons rt rr =>
      cases rr
      cases rx
      have ec := hcv _ rt
      subst ec
      obtain ⟨od, J⟩ := inst_at I hz hf ed
      exact kia_one (kitx Z) I.kIn J e (fun z => nomatch z) fun tk => ⟨.bl b, H, I.kept (t' := tk) fun _ _ z => z, rfl, q⟩
theorem call_FT (Z : ExcC X.K D) (hz : Zc cls d oe) (hf : ∃ vs, oe.data = .fields vs) : CallR (X.suite a ((a, oe) :: pn)) (.builtin "isinstance") (rFT X.K D a cls d) := by
  intro pins s σ H xs us Q I r h
  obtain ⟨tp, cs, ws, b, dd, fs, rfl, rfl, ed, rfl, hT, hcs, e, q⟩ := h
  cases r with
  | cons rx rr =>
    cases rr with
    | cons rt rr =>
      cases rr
      cases rx
      cases rt
      obtain ⟨od, J⟩ := inst_at I hz hf ed
      have hx : ObjOk X.prog X.w H s.heap tp (.tup cs) := I.hok tp _ hT
      obtain ⟨_, its, rv, o, h1, h2, n, h3⟩ := hx
      have e3 := vals_all hcs rv
      subst e3
      obtain ⟨oc, od', dt, sl⟩ := o
      simp only at h2 h3
      subst h2 h3
      exact kia_tup (kitx Z) I.kIn J h1 e (fun z => nomatch z) fun tk => ⟨.bl b, H, I.kept (t' := tk) fun _ _ z => z, rfl, q⟩
end
end BI
set_option Elab.async false
set_option linter.all false
set_option maxRecDepth 100000
set_option maxHeartbeats 4000000
namespace BO
open PySem PySem.Spec PyProof.Rows L2
theorem tuple_one (l : Addr) (items : Array Value) (n : Nat) (dd : Option Addr) (sl : Array (Option Value)) (u : Tok) (c1 : (items.isEmpty || (1 : Int) == 1) = true) :
    Meets (Builtin.«tuple.__mul__» ⟨[.ref l, .int 1 u], []⟩) (fun _ R s => s.heap.get? l = some { cls := .type "tuple", dict := dd, data := .seq items n, slots := sl } ∧ R (.ok (.ret (Value.ref l))) s) :=
  .of_wp fun prog w A R s h => by
    obtain ⟨hp, g, d, tk, os⟩ := s
    obtain ⟨hl, h⟩ := h
    have f1 := AutoSeq1.idx_int
    wp_walk using wpAny_loadPart' hl
    exact ⟨_, rfl, h⟩
theorem tuple_zero (l : Addr) (items : Array Value) (n : Nat) (dd : Option Addr) (sl : Array (Option Value)) (u : Tok) (c1 : (items.isEmpty || (0 : Int) == 1) = false) :
    Meets (Builtin.«tuple.__mul__» ⟨[.ref l, .int 0 u], []⟩) (fun _ R s => s.heap.get? l = some { cls := .type "tuple", dict := dd, data := .seq items n, slots := sl } ∧
      R (.ok (.ret (Value.ref s.heap.objs.size))) { s with heap := s.heap.push { cls := Value.type "tuple", data := Data.seq #[] }, toks := s.toks }) :=
  .of_wp fun prog w A R s h => by
    obtain ⟨hp, g, d, tk, os⟩ := s
    obtain ⟨hl, h⟩ := h
    have f1 := AutoSeq1.idx_int
    wp_walk using wpAny_loadPart' hl
    repeat (first
      | (refine wpAny_ite_false (decide_eq_false (by rw [c1]; exact Bool.false_ne_true)) ?_; wp_walk using wpAny_loadPart' hl))
    exact ⟨_, rfl, h⟩
/-- t * 0, t * 1, t not empty -/
def rRep01 (K : PySem.W.Frag) : R2 := fun x y H Q => ∃ l k xs, x = .ref l ∧ y = .int k ∧ SqT K H l xs ∧ xs ≠ [] ∧ ((k = 1 ∧ Q (.ref l) H) ∨ (k = 0 ∧ ∀ p, H p = none → Q (.ref p) (upd H p (.tup []))))
/-- z * n -/
def repS (z : Str) (n : Nat) : Str := if n = 1 then z else ⟨(List.replicate n z.cps).foldl (· ++ ·) #[]⟩
def rRepS : R2 := fun x y H Q => ∃ (z : Str) (n : Nat), x = .str z ∧ y = .int (n : Int) ∧ 1 ≤ n ∧ n ≤ 100 ∧ 1 ≤ z.length ∧ z.length ≤ 100 ∧ Q (.str (repS z n)) H
section
variable {X : Cx}
theorem op_rep01 : OpR X (binaryOp .Mult) (rRep01 X.K) := by
  intro pins s σ H x y v u Q I rx ry h
  obtain ⟨l, k, xs, rfl, rfl, hT, hne, q⟩ := h
  cases rx
  obtain ⟨t, rfl⟩ := ry
  obtain ⟨its, r, ⟨⟨cls, dd, data, sl⟩, ho, hc, n, hd⟩, hs⟩ := I.tuple hT
  simp only at hc hd
  subst hc hd
  have hi : its.toArray.isEmpty = false := by
    cases its with
    | nil =>
      cases r
      exact absurd rfl hne
    | cons a b => rfl
  rcases q with ⟨rfl, q⟩ | ⟨rfl, q⟩
  · refine wpAny_binaryOp_repeat_ref (T := "tuple") (U := "int") (by decide) ⟨_, ho, rfl⟩ (fun s' => typeIs_int s' 1 t) noFill_tuple_mul F.fills_int_mul F.slot_int_rmul repeat_tuple F.slot_int_index.lookup
      (call_meets F.slot_int_rmul (typeIs_int s 1 t) F.entry_int_rmul (F.args_int_rmul_2 _ _) (int_rmul_tuple 1 t l its.toArray n dd sl)
        ⟨ho, rfl, ⟨_, ho, rfl⟩, call_meets F.slot_tuple_mul ⟨_, ho, rfl⟩ F.entry_tuple_mul (F.args_tuple_mul_2 _ _) (tuple_one l its.toArray n dd sl t (by rw [hi]; rfl)) ⟨ho, ?_⟩⟩)
    exact ⟨.ref l, H, I, rfl, q⟩
  · refine wpAny_binaryOp_repeat_ref (T := "tuple") (U := "int") (by decide) ⟨_, ho, rfl⟩ (fun s' => typeIs_int s' 0 t) noFill_tuple_mul F.fills_int_mul F.slot_int_rmul repeat_tuple F.slot_int_index.lookup
      (call_meets F.slot_int_rmul (typeIs_int s 0 t) F.entry_int_rmul (F.args_int_rmul_2 _ _) (int_rmul_tuple 0 t l its.toArray n dd sl)
        ⟨ho, rfl, ⟨_, ho, rfl⟩, call_meets F.slot_tuple_mul ⟨_, ho, rfl⟩ F.entry_tuple_mul (F.args_tuple_mul_2 _ _) (tuple_zero l its.toArray n dd sl t (by rw [hi]; rfl)) ⟨ho, ?_⟩⟩)
    refine ⟨.ref s.heap.objs.size, _, I.laid (t' := s.toks) (o := .tup []) (fun b ob q => Heap.get?_push_of_some _ q) (Nat.le_refl _) ?_, rfl, q _ (I.hok.fresh (Nat.le_refl _))⟩
    exact ⟨by rw [sizeLine_eq]; exact (by decide : 0 ≤ 16777216), [], .nil, IsTup.new _ _⟩
theorem fold_rep (a : Array Nat) : ∀ (m : Nat) (b : Array Nat), (List.replicate m a).foldl (fun x1 x2 => x1 ++ x2) b = (b.toList ++ (List.replicate m a.toList).flatten).toArray
  | 0, b => by simp
  | m + 1, b => by
    rw [List.replicate_succ, List.foldl_cons, fold_rep a m (b ++ a), List.replicate_succ, List.flatten_cons]
    simp
theorem repS_eq {z : Str} {n : Nat} (h : 1 ≤ n) : repS z n = ⟨(List.replicate n z.cps.toList).flatten.toArray⟩ := by
  unfold repS
  by_cases e : n = 1
  · subst e
    rw [if_pos rfl]
    simp
  · rw [if_neg e, fold_rep]
    simp
theorem short {k : Nat} (h : k ≤ 100 * 100) : Builtin.Str.tooLong k = false := by
  unfold Builtin.Str.tooLong
  exact decide_eq_false (by rw [sizeLine_eq]; omega)
theorem op_repS : OpR X (binaryOp .Mult) rRepS := by
  intro pins s σ H x y v u Q I rx ry h
  obtain ⟨z, n, rfl, rfl, h1, h2, h3, h4, q⟩ := h
  obtain ⟨t, rfl⟩ := rx
  obtain ⟨t', rfl⟩ := ry
  have hn : ¬ ((n : Int) < 1) := by omega
  have hz : (z.length == 0) = false := beq_false_of_ne (by omega)
  refine P.mul_str (by rw [decide_eq_false (by omega), decide_eq_false (by omega)]; rfl) (fun _ c => ?_) (fun _ c => ?_) ?_
  · have : (100 : Int) ≤ (2 ^ 63 - 1) / (n : Int) := Int.le_ediv_of_mul_le (by omega) (by omega)
    omega
  · rw [Int.toNat_natCast]
    exact short (Nat.mul_le_mul h4 h2)
  · rw [if_neg hn]
    unfold repS at q
    by_cases e : n = 1
    · subst e
      rw [if_pos rfl] at q
      rw [if_pos (by rfl)]
      exact ⟨.str z, H, I, ⟨t, rfl⟩, q⟩
    · rw [if_neg e] at q
      rw [if_neg (by rw [hz, Bool.or_false]; exact fun w => e (by have := beq_iff_eq.mp w; omega))]
      refine ⟨?_, .str _, H, I.tok _, ⟨_, rfl⟩, ?_⟩
      · rw [Int.toNat_natCast, fold_rep]
        show (List.toArray _).size ≤ sizeLine
        rw [List.size_toArray, List.length_append, List.length_flatten, List.map_replicate, List.sum_replicate_nat, sizeLine_eq]
        show (#[] : Array Nat).toList.length + n * z.cps.toList.length ≤ _
        have e3 : z.cps.toList.length = z.length := by simp [Str.length]
        rw [e3]
        have := Nat.mul_le_mul h2 h4
        show 0 + n * z.length ≤ 16777216
        omega
      · rw [Int.toNat_natCast]
        exact q
end
end BO
set_option Elab.async false
set_option linter.all false
set_option maxRecDepth 100000
set_option maxHeartbeats 4000000
/-! for i, x in enumerate(t), t a tuple -/
namespace EnT
open PySem
theorem new_one {v : Value} {o : Obj} {H : Heap → Prop} (B : Begins v o H) :
    Meets (Builtin.«enumerate.__new__» ⟨[.type "enumerate", v], []⟩) (fun _ R s => H s.heap ∧
      R (.ok (.ret (.ref (s.heap.push o).objs.size))) { s with heap := (s.heap.push o).push { cls := .type "enumerate", data := .fields #[.none, .bool false, .ref s.heap.objs.size, rawInt 0, .none, .none] } }) :=
  .of_wp fun prog w A R s h => by
    obtain ⟨h0, g0, d0, k0, o0⟩ := s; obtain ⟨hH, hR⟩ := h
    have sube := sub_enumerate
    have it1 : ∀ {A' : Around} {E' : Value → Shared → Prop} {Q' : Value → Shared → Prop}, Q' (.ref h0.objs.size) ⟨h0.push o, g0, d0, k0, o0⟩ → wpAny (model prog w) A' (pyIter v) Q' E' ⟨h0, g0, d0, k0, o0⟩ :=
      fun q => B.iter prog w _ _ ⟨h0, g0, d0, k0, o0⟩ _ hH q
    wp_walk using it1
    refine wpAny_stack_any fun st => wpAny_pure ?_
    split
    · rename_i c _ _ _ _ _
      cases (c == Value.type "enumerate") <;> (wp_walk using it1; exact ⟨_, rfl, hR⟩)
    · wp_walk using it1
      exact ⟨_, rfl, hR⟩
section
variable {prog : Program} {w : World} {A : Around} {E : Value → Shared → Prop} {s : Shared}
theorem call_one {v : Value} {o : Obj} {H : Heap → Prop} {Q : Value → Shared → Prop} (B : Begins v o H) (hH : H s.heap)
    (q : ∀ h', IsEnum h' (s.heap.objs.size + 1) s.heap.objs.size 0 .none → h'.get? s.heap.objs.size = some o → h'.objs.size = s.heap.objs.size + 2 → (∀ b u, s.heap.get? b = some u → h'.get? b = some u) → Q (.ref (s.heap.objs.size + 1)) { s with heap := h' }) :
    wpAny (model prog w) A (call (.type "enumerate") [v]) Q E s := by
  refine callType_new F.called_enumerate (by decide) (F.typeCall_enumerate_1 _) (F.newCall_enumerate_1 _) (fun obj => F.args_object_init_2 obj _) F.entry_enumerate_new (new_one B) ⟨hH, ?_⟩
  have z1 : (s.heap.push o).objs.size = s.heap.objs.size + 1 := Heap.size_push ..
  show _ ∧ _
  rw [z1]
  have e1 : IsEnum ((s.heap.push o).push { cls := .type "enumerate", data := .fields #[.none, .bool false, .ref s.heap.objs.size, rawInt 0, .none, .none] }) (s.heap.objs.size + 1) s.heap.objs.size 0 .none := by
    have z2 := Heap.get?_push_size (s.heap.push o) (o := { cls := .type "enumerate", data := .fields #[.none, .bool false, .ref s.heap.objs.size, rawInt 0, .none, .none] }) rfl
    rw [z1] at z2; exact z2
  exact ⟨⟨_, e1, rfl⟩, q _ e1 (Heap.get?_push_of_some _ (Heap.get?_push_size _ B.free)) (by rw [Heap.size_push, z1]) fun b u x => Heap.get?_push_of_some _ (Heap.get?_push_of_some _ x)⟩
end
end EnT
namespace EnT
open PySem PySem.Spec PyProof.Rows L2
/-- the tuple at a, each item in a new pair with its number -/
def IteT (K : PySem.W.Frag) (a : Addr) (n : Nat) : It :=
  ⟨fun i H => ∃ (xs : List V) (x : V), SqT K H a xs ∧ xs.length = n ∧ xs[i]? = some x, fun i H v H' => ∃ T x, v = .ref T ∧ H T = none ∧ H' = upd H T (.tup [.int (i : Nat), x]) ∧ ∀ xs, SqT K H a xs → xs[i]? = some x, fun i H => ∃ xs : List V, SqT K H a xs ∧ xs.length = n ∧ n ≤ i⟩
theorem turnT {P : Program} {w : World} {K : PySem.W.Frag} {elts : List Expr} {kk : Nat} {tpos : Pos} (a e it : Addr) (n : Nat) (nei : e ≠ it) (nai : a ≠ it) (nae : a ≠ e) :
    Turn P w K (.Tuple elts kk tpos) (IteT K a n) [e, it] e (fun i h => (∃ old, IsEnum h e it ((i : Nat) : Int) old) ∧ h.IsTupleIter it a i ∧ i ≤ n) where
  mem := by simp
  obj := fun i h st b hb => by
    obtain ⟨⟨old, he⟩, ⟨o, ho, _, hd⟩, _⟩ := st
    rcases (show b = e ∨ b = it by simpa using hb) with z | z
    · subst z
      exact ⟨_, he, fun v q => nomatch q⟩
    · subst z
      exact ⟨o, ho, fun v q => by rw [hd] at q; cases q⟩
  keep := fun i h h' st k => ⟨st.1.imp fun old he => k e (by simp) _ he, st.2.1.at fun o q => k it (by simp) o q, st.2.2⟩
  item := by
    intro X hP hw hK hc i pins s σ H E I hf st hg
    subst hP hw hK
    obtain ⟨⟨old, he⟩, hit, hin⟩ := st
    obtain ⟨xs, x, hq, hxn, hx⟩ := hg
    have hlx : i < xs.length := (List.getElem?_eq_some_iff.mp hx).1
    obtain ⟨its, rv, pt, _⟩ := I.tuple hq
    obtain ⟨u, hu, ru⟩ := rv.get hx
    have le : e < s.heap.objs.size := Heap.lt_size he
    have li : it < s.heap.objs.size := by obtain ⟨_, q, _⟩ := hit; exact Heap.lt_size q
    have hlt : i < its.toArray.size := by
      have := (List.getElem?_eq_some_iff.mp hu).1
      simpa using this
    refine wpAny_pyNext_enum_itemC (Draws.tuple (A := X.A.in1) (I.ok.hd hc) it a nai its.toArray) he (i := i) ⟨hit, pt⟩ hlt nei (by
      intro z
      rcases (show e = it ∨ e = a by simpa using z) with z | z
      · exact nei z
      · exact nae z.symm) fun x' h' tk hx' ho hst' hT hsz hk => ?_
    have ex : x' = u := by
      have z : its[i]? = some x' := by simpa using hx'
      exact Option.some.inj (z.symm.trans hu)
    subst ex
    refine ⟨_, rfl, wpAny_letOwnedTupleGo_enum (s := { s with heap := h', toks := tk + 1 }) ho fun h2 he' sb => ?_⟩
    have hT2 : h2.get? s.heap.objs.size = some { cls := .type "tuple", data := .seq #[.int i tk, x'] } := (sb.2 _ (Nat.ne_of_gt le)).trans hT
    have nw : ObjOk X.prog X.w (upd H s.heap.objs.size (.tup [.int (i : Nat), x])) h2 s.heap.objs.size (.tup [.int (i : Nat), x]) :=
      ⟨by show 2 ≤ sizeLine; decide, [.int i tk, x'], .cons ⟨_, rfl⟩ (.cons ru .nil), ⟨_, hT2, rfl, _, rfl⟩⟩
    have I1 : Inv X pins σ (upd H s.heap.objs.size (.tup [.int (i : Nat), x])) { s with heap := h2, toks := tk + 1 } :=
      I.turnedNew (ch := [e, it]) (fun b ob hb q => (sb.2 b (fun z => hb (by simp [z]))).trans (hk b ob (fun z => hb (by simp [z])) (fun z => hb (by simp [z])) q)) hf (Nat.le_refl _) nw
    refine ⟨.ref s.heap.objs.size, _, I1, rfl, ⟨_, x, rfl, I.hok.fresh (Nat.le_refl _), rfl, fun ys hy => by rw [I.tuple_inj hy hq]; exact hx⟩, ⟨⟨x', ?_⟩, hst'.1.at fun o q => (sb.2 it nei.symm).trans q, by omega⟩, fun b hb => ?_⟩
    · rw [show ((i + 1 : Nat) : Int) = (i : Int) + 1 by omega]
      exact he'
    · have lb : b < s.heap.objs.size := by
        rcases (show b = e ∨ b = it by simpa using hb) with z | z <;> (subst z; assumption)
      rw [upd_ne (Nat.ne_of_lt lb)]
      exact (hf b hb).1
  done := by
    intro X hP hw hK hc i pins s σ H E I hf st hg
    subst hP hw hK
    obtain ⟨⟨old, he⟩, hit, hin⟩ := st
    obtain ⟨xs, hq, hxn, hx⟩ := hg
    obtain ⟨its, rv, pt, _⟩ := I.tuple hq
    obtain ⟨f0, f1, f2, f3, f4, f5⟩ := hf it (by simp)
    have hl := rv.length
    have ei : its.toArray.size = i := by simp; omega
    subst ei
    exact wpAny_pyNext_enum_endD (Draws.tuple (A := X.A.in1) (I.ok.hd hc) it a nai its.toArray) he ⟨hit, pt⟩ fun h' eb => ⟨rfl, I.turned (t' := s.toks) (fun b o hb q => eb b o hb q) f0 f1 f3 f4 f5⟩
  self := fun A i s Q E st h => by
    obtain ⟨⟨_, he⟩, _⟩ := st
    exact wpAny_pyIter_enum he h
def iEnumT (K : PySem.W.Frag) (ta : TA) : TI := fun σ H R => ta σ H fun vs H1 => ∃ a xs, vs = [.ref a] ∧ SqT K H1 a xs ∧ R (IteT K a xs.length) H1
theorem pi_enumT {X : Cx} {e : Expr} {ta : TA} {p pos tpos : Pos} {elts : List Expr} {kk : Nat} (hg : Gl X "enumerate") (hm : X.mg "enumerate" = none) (ha : PA X [e] ta) (hs : starEach [e] X.env = [(false, eval e X.env)] := by rfl) :
    PI X (.Tuple elts kk tpos) (.Call (.Name "enumerate" p) [e] [] pos) (iEnumT X.K ta) := by
  refine ⟨fun pins s0 σ H R I h => Call_ (ld_blt I hg hm boot_enumerate (PyProof.Rows.callWith_type1 (thn (ha.run pos pins s0 σ H _ I h) fun us s1 ⟨vs, H1, I1, r1, q1⟩ => ?_) hs rfl))⟩
  obtain ⟨a, xs, ex, hq, q⟩ := q1
  subst ex
  cases r1 with
  | cons r rr =>
    cases rr
    cases r
    obtain ⟨its, rv, pt, _⟩ := I1.tuple hq
    have la : a < s1.heap.objs.size := by obtain ⟨_, z, _⟩ := pt; exact Heap.lt_size z
    refine call_one (begins_tuple a its.toArray) pt fun h' he hit hsz hk => wpAny_pyIter_enum he ?_
    have I2 : Inv X pins σ H1 { s1 with heap := h' } := I1.kept (t' := s1.toks) hk
    refine ⟨s1.heap.objs.size + 1, [s1.heap.objs.size + 1, s1.heap.objs.size], _, _, H1, rfl, I2, turnT a (s1.heap.objs.size + 1) s1.heap.objs.size xs.length (Nat.succ_ne_self _) (Nat.ne_of_lt la) (Nat.ne_of_lt (Nat.lt_succ_of_lt la)), ⟨⟨.none, he⟩, ⟨_, hit, rfl, rfl⟩, Nat.zero_le _⟩, fun b hb => ?_, q⟩
    have hle : s1.heap.objs.size ≤ b := by
      rcases (show b = s1.heap.objs.size + 1 ∨ b = s1.heap.objs.size by simpa using hb) with z | z <;> (subst z; first | exact Nat.le_succ _ | exact Nat.le_refl _)
    exact I1.fpOk hle (I1.hok.fresh hle)
/-- a for over it, by an invariant -/
theorem for_enumT {K : PySem.W.Frag} {a : Addr} {xs : List V} {g : TG} {tb : TS} {D : Ends} {σ : L2.St} {H : Hp} (Pv : Nat → L2.St → Hp → Prop) (h0 : Pv 0 σ H) (hq : ∀ i σ H, Pv i σ H → SqT K H a xs)
    (hs : ∀ (i : Nat) (x : V) (T : Addr) (σ : L2.St) (H : Hp), xs[i]? = some x → Pv i σ H → H T = none → g (.ref T) σ (upd H T (.tup [.int (i : Nat), x])) fun σ2 H2 => tb { D with nx := Pv (i + 1), ct := Pv (i + 1), bk := D.nx } σ2 H2) (hd : ∀ σ H, Pv xs.length σ H → D.nx σ H) :
    ∃ W : Nat → Nat → L2.St → Hp → Prop, (∃ m, W 0 m σ H) ∧ ∀ i m σ H, W i m σ H →
      ((IteT K a xs.length).stop i H ∧ D.nx σ H) ∨ ((IteT K a xs.length).go i H ∧ ∃ N : L2.St → Hp → Prop, (∀ σ' H', N σ' H' → ∃ m', m' < m ∧ W (i + 1) m' σ' H') ∧ ∀ v H', (IteT K a xs.length).yld i H v H' → g v σ H' fun σ2 H2 => tb { D with nx := N, ct := N, bk := D.nx } σ2 H2) := by
  refine ⟨fun i m σ H => m = xs.length - i ∧ i ≤ xs.length ∧ Pv i σ H, ⟨xs.length, rfl, Nat.zero_le _, h0⟩, ?_⟩
  rintro i m σ H ⟨rfl, hi, pv⟩
  have qx := hq i σ H pv
  by_cases hlt : i < xs.length
  · refine .inr ⟨⟨xs, xs[i], qx, rfl, List.getElem?_eq_getElem hlt⟩, Pv (i + 1), fun σ' H' p' => ⟨xs.length - (i + 1), by omega, rfl, hlt, p'⟩, fun v H' y => ?_⟩
    obtain ⟨T, x, rfl, nT, rfl, fx⟩ := y
    exact hs i x T σ H (fx xs qx) pv nT
  · have e : i = xs.length := by omega
    subst e
    exact .inl ⟨⟨xs, qx, rfl, Nat.le_refl _⟩, hd σ H pv⟩
end EnT
set_option linter.all false
namespace KX
open PySem PySem.Spec L2
theorem pg_tupK {X : Cx} {pos : Pos} (K : PySem.W.Frag) {es : List Expr} {k : Nat} {t : TGs} {n : Nat} (hc : X.calm = true) (h : PGs X es t)
    (hn : (assignEach es X.env).length = n := by rfl) (hst : (assignEach es X.env).findIdx? (·.1) = none := by rfl) (hK : X.K = K := by rfl) : PG X (.Tuple es k pos) (gTup K n t) := by
  subst hK
  exact pg_tup hc h hn hst
def rTup (K : PySem.W.Frag) : List V → Hp → VK → Prop := fun xs H Q => ∃ p ys, xs = [V.ref p] ∧ ((SqL K H p ys ∧ ∀ (l : Addr), H l = none → Q (V.ref l) (upd H l (HO.tup ys))) ∨ SqT K H p ys ∧ Q (V.ref p) H)
theorem call_tuple_K {X : Cx} (K : PySem.W.Frag) (hK : X.K = K := by rfl) : CallR X (Value.type "tuple") (rTup K) := by
  subst hK
  exact call_tuple_of
theorem ix_listK {X : Cx} (K : PySem.W.Frag) (hK : X.K = K := by rfl) : IxR X (rIxL K) := by
  subst hK
  exact ix_list
theorem ix_tupK {X : Cx} (K : PySem.W.Frag) (hK : X.K = K := by rfl) : IxR X (rIxT K) := by
  subst hK
  exact ix_tup
theorem in_seqK {X : Cx} (K : PySem.W.Frag) (hK : X.K = K := by rfl) : OpR X (compareOp CmpOp.In) (rIn K false) := by
  subst hK
  exact op_in_seq
theorem mt_indexK {X : Cx} (K : PySem.W.Frag) (hK : X.K = K := by rfl) : MtR X "list.index" (rIndex K) := by
  subst hK
  exact mt_index
theorem pi_tupK {X : Cx} (K : PySem.W.Frag) {tg l : Expr} {tl : TE} (h : PE X l tl) (hK : X.K = K := by rfl) : PI X tg l (iTup K tl) := by
  subst hK
  exact pi_tup h
theorem pi_listK {X : Cx} (K : PySem.W.Frag) {tg l : Expr} {tl : TE} (h : PE X l tl) (hK : X.K = K := by rfl) : PI X tg l (iList K tl) := by
  subst hK
  exact pi_list h
theorem hu {A : Around} {k : Nat} (hr : Room k A) : A.units + 1 < cLine := by have := hr.units; omega
theorem pe_bmK {X : Cx} (K : PySem.W.Frag) {o e : Expr} {es : List Expr} {to : TE} {t : TA} {name : Str} {apos cpos : Pos} {T id : String} {r : V → List V → Hp → VK → Prop} (h1 : PlainAttrs T) (h2 : Slot T name id) (h3 : typeOf (Value.builtin id) = pure (Value.type "method_descriptor")) (h4 : MtR X id r) (h5 : PE X o to) (h6 : PA X (e :: es) t)
    (a1 : attributeBase o name X.env (eval o X.env) = eval o X.env := by rfl)
    (a2 : ((((backTo cpos (starEach (e :: es) X.env)).all fun x => !x.fst) && (backToKw cpos (keywordEach [] X.env)).all fun x => x.fst.isSome) && decide (((e :: es).length + ([] : List Keyword).length + if ([] : List Keyword).isEmpty = true then 0 else 1) < 30)) = true := by rfl)
    (a3 : (apos.endLine == cpos.line) = true := by rfl) (a4 : starEach (e :: es) X.env = (false, eval e X.env) :: starEach es X.env := by rfl) (a5 : ((backTo cpos (starEach es X.env)).any fun x => x.fst) = false := by rfl) (hK : X.K = K := by rfl) :
    PE X ((o.Attribute name apos).Call (e :: es) [] cpos) (tBM K T r to t) := by
  subst hK
  exact pe_bm h1 h2 h3 h4 h5 h6 a1 a2 a3 a4 a5
theorem notin_seqK {X : Cx} (K : PySem.W.Frag) (hK : X.K = K := by rfl) : OpR X (compareOp CmpOp.NotIn) (rIn K true) := by
  subst hK
  exact op_notIn_seq
theorem call_list_K {X : Cx} (K : PySem.W.Frag) (hK : X.K = K := by rfl) : CallR X (Value.type "list") (fun xs H Q => ∃ p ys, xs = [V.ref p] ∧ (SqL K H p ys ∨ SqT K H p ys) ∧ ∀ (l : Addr), H l = none → Q (V.ref l) (upd H l (HO.lst ys))) := by
  subst hK
  exact call_list_of
def rLenK (K : PySem.W.Frag) : List V → Hp → VK → Prop := fun xs H Q => ∃ p ys, xs = [V.ref p] ∧ (SqL K H p ys ∨ SqT K H p ys) ∧ Q (V.int (ys.length : Nat)) H
theorem len_seqK {X : Cx} (K : PySem.W.Frag) (hK : X.K = K := by rfl) : CallR X (Value.builtin "len") (rLenK K) := by
  subst hK
  exact call_len_seq
end KX
set_option Elab.async false
set_option linter.all false
set_option maxRecDepth 100000
set_option maxHeartbeats 4000000
/-! for x, y in zip(u, v), each of u and v a list or a tuple -/
namespace ZM
open PySem PySem.Spec PyProof.Rows L2
def Sq (K : PySem.W.Frag) (b : Bool) (H : Hp) (a : Addr) (xs : List V) : Prop := match b with
  | true => SqT K H a xs
  | false => SqL K H a xs
def ItA (b : Bool) (h : Heap) (it a : Addr) (i : Nat) : Prop := match b with
  | true => h.IsTupleIter it a i
  | false => h.IsListIter it a i
def SeqIs (b : Bool) (h : Heap) (a : Addr) (its : Array Value) : Prop := match b with
  | true => h.IsTuple a its
  | false => h.IsList a its
def itO (b : Bool) (a : Addr) : Obj := match b with
  | true => { cls := .type "tuple_iterator", data := .fields #[.ref a, .int 0 0] }
  | false => { cls := .type "list_iterator", data := .fields #[.ref a, .int 0 0] }
theorem draws (b : Bool) {prog : Program} {w : World} {A : Around} (hh : A.handled = none) (it a : Addr) (hne : a ≠ it) (its : Array Value) : Draws prog w A it [it, a] its.size (fun i v => its[i]? = some v) (fun i h => ItA b h it a i ∧ SeqIs b h a its) := by
  cases b
  · exact Draws.list hh it a hne its
  · exact Draws.tuple hh it a hne its
theorem begins (b : Bool) (a : Addr) (its : Array Value) : Begins (.ref a) (itO b a) fun h => SeqIs b h a its := by
  cases b
  · exact begins_list a its
  · exact begins_tuple a its
theorem itA_at {b : Bool} {h h' : Heap} {it a : Addr} {i : Nat} (x : ItA b h it a i) (k : ∀ o, h.get? it = some o → h'.get? it = some o) : ItA b h' it a i := by
  cases b
  · obtain ⟨o, e, c, d⟩ := x
    exact ⟨o, k o e, c, d⟩
  · obtain ⟨o, e, c, d⟩ := x
    exact ⟨o, k o e, c, d⟩
theorem itA_obj {b : Bool} {h : Heap} {it a : Addr} {i : Nat} (x : ItA b h it a i) : ∃ o, h.get? it = some o ∧ ∀ v, o.data ≠ .cell v := by
  cases b
  · obtain ⟨o, e, c, d⟩ := x
    exact ⟨o, e, fun v q => by rw [d] at q; cases q⟩
  · obtain ⟨o, e, c, d⟩ := x
    exact ⟨o, e, fun v q => by rw [d] at q; cases q⟩
theorem itA_new {b : Bool} {h : Heap} {it a : Addr} (e : h.get? it = some (itO b a)) : ItA b h it a 0 := by
  cases b
  · exact ⟨_, e, rfl, rfl⟩
  · exact ⟨_, e, rfl, rfl⟩
section
variable {X : Cx} {pins : List (Addr × Obj)} {σ : L2.St} {H : Hp} {s : Shared}
theorem sq_at {b : Bool} {a : Addr} {xs : List V} (I : Inv X pins σ H s) (h : Sq X.K b H a xs) : ∃ its : List Value, Vals xs its ∧ SeqIs b s.heap a its.toArray ∧ a < s.heap.objs.size := by
  cases b
  · obtain ⟨its, rv, p, _⟩ := I.list h
    exact ⟨its, rv, p.isList, p.lt⟩
  · obtain ⟨its, rv, p, _⟩ := I.tuple h
    obtain ⟨o, ho, _⟩ := id p
    exact ⟨its, rv, p, Heap.lt_size ho⟩
theorem sq_inj {b : Bool} {a : Addr} {xs ys : List V} (I : Inv X pins σ H s) (h : Sq X.K b H a xs) (h' : Sq X.K b H a ys) : xs = ys := by
  cases b
  · exact I.list_inj h h'
  · exact I.tuple_inj h h'
end
def ItzM (K : PySem.W.Frag) (b1 b2 : Bool) (a b : Addr) (n1 n2 : Nat) : It :=
  ⟨fun i H => ∃ (xs ys : List V) (x y : V), Sq K b1 H a xs ∧ Sq K b2 H b ys ∧ xs.length = n1 ∧ ys.length = n2 ∧ xs[i]? = some x ∧ ys[i]? = some y,
    fun i H v H' => ∃ T x y, v = .ref T ∧ H T = none ∧ H' = upd H T (.tup [x, y]) ∧ (∀ xs, Sq K b1 H a xs → xs[i]? = some x) ∧ ∀ ys, Sq K b2 H b ys → ys[i]? = some y,
    fun i H => ∃ xs ys : List V, Sq K b1 H a xs ∧ Sq K b2 H b ys ∧ xs.length = n1 ∧ ys.length = n2 ∧ (n1 ≤ i ∨ n2 ≤ i)⟩
theorem turnM {P : Program} {w : World} {K : PySem.W.Frag} {elts : List Expr} {kk : Nat} {tpos : Pos} {b1 b2 : Bool} {a b z TI TO i1 i2 : Addr} {n1 n2 : Nat} (D : ZipSep2 z TI TO i1 i2 [i1, a] [i2, b]) (na : a ≠ i1) (nb : b ≠ i2) :
    Turn P w K (.Tuple elts kk tpos) (ItzM K b1 b2 a b n1 n2) [z, TI, TO, i1, i2] z (fun i h => IsZip h z TI TO .none ∧ IsTupOf2 h TI (.ref i1) (.ref i2) ∧ (∃ x y, IsTupOf2 h TO x y) ∧ ItA b1 h i1 a i ∧ ItA b2 h i2 b i ∧ i ≤ n1 ∧ i ≤ n2) where
  mem := by simp
  obj := fun i h st c hc => by
    obtain ⟨hz, hTI, ⟨x, y, hTO⟩, h1, h2, _⟩ := st
    have e' : c = z ∨ c = TI ∨ c = TO ∨ c = i1 ∨ c = i2 := by simpa using hc
    rcases e' with q | q | q | q | q
    · rw [q]; exact ⟨_, hz, fun v q => nomatch q⟩
    · rw [q]; exact ⟨_, hTI, fun v q => nomatch q⟩
    · rw [q]; exact ⟨_, hTO, fun v q => nomatch q⟩
    · rw [q]; exact itA_obj h1
    · rw [q]; exact itA_obj h2
  keep := fun i h h' st k => by
    obtain ⟨hz, hTI, ⟨x, y, hTO⟩, h1, h2, l1, l2⟩ := st
    exact ⟨k z (by simp) _ hz, k TI (by simp) _ hTI, ⟨x, y, k TO (by simp) _ hTO⟩, itA_at h1 fun o q => k i1 (by simp) o q, itA_at h2 fun o q => k i2 (by simp) o q, l1, l2⟩
  item := by
    intro X hP hw hK hc i pins s σ H E I hf st hg
    subst hP hw hK
    obtain ⟨hz, hTI, ⟨x0, y0, hTO⟩, h1, h2, hl1, hl2⟩ := st
    obtain ⟨xs, ys, x, y, hqx, hqy, hn1, hn2, hx, hy⟩ := hg
    obtain ⟨its, rv, p, _⟩ := sq_at I hqx
    obtain ⟨its2, rv2, p2, _⟩ := sq_at I hqy
    obtain ⟨u, hu, ru⟩ := rv.get hx
    obtain ⟨u2, hu2, ru2⟩ := rv2.get hy
    have hzl : z < s.heap.objs.size := Heap.lt_size hz
    have hlt1 : i < its.toArray.size := by
      have := (List.getElem?_eq_some_iff.mp hu).1
      simpa using this
    have hlt2 : i < its2.toArray.size := by
      have := (List.getElem?_eq_some_iff.mp hu2).1
      simpa using this
    have hlx : i < xs.length := (List.getElem?_eq_some_iff.mp hx).1
    have hly : i < ys.length := (List.getElem?_eq_some_iff.mp hy).1
    refine wpAny_pyNext_zipD2_item D (draws b1 (A := X.A.in1) (I.ok.hd hc) i1 a na its.toArray) (draws b2 (A := X.A.in1) (I.ok.hd hc) i2 b nb its2.toArray) hz hTI hTO ⟨h1, p⟩ ⟨h2, p2⟩ hlt1 hlt2 fun x1 x2 h' tk hx1 hx2 z' TO' st1 st2 hT hsz hk => ?_
    have ex1 : x1 = u := by
      have q : its[i]? = some x1 := by simpa using hx1
      exact Option.some.inj (q.symm.trans hu)
    have ex2 : x2 = u2 := by
      have q : its2[i]? = some x2 := by simpa using hx2
      exact Option.some.inj (q.symm.trans hu2)
    subst ex1 ex2
    refine ⟨_, rfl, wpAny_letOwnedTupleGo_zip (s := { s with heap := h', toks := tk }) z' fun h'' z'' sb => ?_⟩
    have hT2 : h''.get? s.heap.objs.size = some { cls := .type "tuple", data := .seq #[x1, x2] } := (sb.2 _ (Nat.ne_of_gt hzl)).trans hT
    have new : ObjOk X.prog X.w (upd H s.heap.objs.size (.tup [x, y])) h'' s.heap.objs.size (.tup [x, y]) :=
      ⟨by show 2 ≤ sizeLine; decide, [x1, x2], .cons ru (.cons ru2 .nil), ⟨_, hT2, rfl, _, rfl⟩⟩
    have I1 : Inv X pins σ (upd H s.heap.objs.size (.tup [x, y])) { s with heap := h'', toks := tk } :=
      I.turnedNew (t' := tk) (ch := [z, TI, TO, i1, i2]) (fun c o hb q => (sb.2 c (fun q' => hb (by simp [q']))).trans (hk c o (fun q' => hb (by simp [q'])) (fun q' => hb (by simp [q'])) (fun q' => hb (by simp [q'])) (fun q' => hb (by simp [q'])) q)) hf (Nat.le_refl _) new
    refine ⟨.ref s.heap.objs.size, _, I1, rfl, ⟨_, x, y, rfl, I.hok.fresh (Nat.le_refl _), rfl, fun l hl => by rw [sq_inj I hl hqx]; exact hx, fun l hl => by rw [sq_inj I hl hqy]; exact hy⟩, ⟨z'', ?_, ⟨x1, x2, ?_⟩, ?_, ?_, by omega, by omega⟩, fun c hcm => ?_⟩
    · exact (sb.2 _ D.TIz).trans (hk _ _ D.TIz D.TITO D.TIi1 D.TIi2 hTI)
    · exact (sb.2 _ D.TOz).trans TO'
    · exact itA_at st1.1 fun o q => (sb.2 _ D.zi1.symm).trans q
    · exact itA_at st2.1 fun o q => (sb.2 _ D.zi2.symm).trans q
    · have hlt : c < s.heap.objs.size := by
        have e' : c = z ∨ c = TI ∨ c = TO ∨ c = i1 ∨ c = i2 := by simpa using hcm
        rcases e' with q | q | q | q | q
        · rw [q]; exact hzl
        · rw [q]; exact Heap.lt_size hTI
        · rw [q]; exact Heap.lt_size hTO
        · rw [q]; obtain ⟨_, e1, _⟩ := itA_obj h1; exact Heap.lt_size e1
        · rw [q]; obtain ⟨_, e2, _⟩ := itA_obj h2; exact Heap.lt_size e2
      rw [upd_ne (Nat.ne_of_lt hlt)]
      exact (hf c hcm).1
  done := by
    intro X hP hw hK hc i pins s σ H E I hf st hg
    subst hP hw hK
    obtain ⟨hz, hTI, ⟨x0, y0, hTO⟩, h1, h2, hl1, hl2⟩ := st
    obtain ⟨xs, ys, hqx, hqy, hn1, hn2, hend⟩ := hg
    obtain ⟨its, rv, p, _⟩ := sq_at I hqx
    obtain ⟨its2, rv2, p2, _⟩ := sq_at I hqy
    have l1 := rv.length
    have l2 := rv2.length
    have z1 : its.toArray.size = n1 := by simp; omega
    have z2 : its2.toArray.size = n2 := by simp; omega
    exact wpAny_pyNext_zipD2_end D (draws b1 (A := X.A.in1) (I.ok.hd hc) i1 a na its.toArray) (draws b2 (A := X.A.in1) (I.ok.hd hc) i2 b nb its2.toArray) hz hTI hTO ⟨h1, p⟩ ⟨h2, p2⟩ (by omega) (by omega) (by omega) fun h' tk hk => ⟨rfl, I.turnedL (t' := tk) (ch := [z, TI, TO, i1, i2]) (fun c o hb q =>
      hk c o (fun q' => hb (by simp [q'])) (fun q' => hb (by simp [q'])) (fun q' => hb (by simp [q'])) (fun q' => hb (by simp [q'])) q) hf⟩
  self := fun A i s Q E st h => wpAny_pyIter_zip st.1 h
theorem far (x y : Nat) (h : x ≠ y) : @Ne Addr x y := h
theorem far2 (x y z : Nat) (h : x ≠ y) (h' : x ≠ z) : ¬ (@Membership.mem Addr (List Addr) _ [y, z] x) := fun q => by
  rcases List.mem_cons.mp q with q | q
  · exact h q
  · exact h' (List.mem_singleton.mp q)
theorem sepN (N a b : Nat) (la : a < N) (lb : b < N) : ZipSep2 (N + 4) (N + 2) (N + 3) N (N + 1) [N, a] [N + 1, b] :=
  ⟨far (N + 2) (N + 4) (by omega), far (N + 3) (N + 4) (by omega), far (N + 2) (N + 3) (by omega), far (N + 2) N (by omega), List.mem_cons_self, far2 (N + 4) N a (by omega) (by omega), far2 (N + 3) N a (by omega) (by omega), far (N + 2) (N + 1) (by omega), List.mem_cons_self, far2 (N + 4) (N + 1) b (by omega) (by omega), far2 (N + 3) (N + 1) b (by omega) (by omega), far2 N (N + 1) b (by omega) (by omega), far2 (N + 1) N a (by omega) (by omega)⟩
def iZipM (K : PySem.W.Frag) (b1 b2 : Bool) (ta : TA) : TI := fun σ H R => ta σ H fun vs H1 => ∃ a b xs ys, vs = [.ref a, .ref b] ∧ Sq K b1 H1 a xs ∧ Sq K b2 H1 b ys ∧ R (ItzM K b1 b2 a b xs.length ys.length) H1
theorem pi_zipM {X : Cx} (b1 b2 : Bool) {e e2 : Expr} {ta : TA} {p pos tpos : Pos} {elts : List Expr} {kk : Nat} (hg : Gl X "zip") (hm : X.mg "zip" = none) (ha : PA X [e, e2] ta)
    (hs : starEach [e, e2] X.env = (false, eval e X.env) :: starEach [e2] X.env := by rfl) (hpl : (backTo pos (starEach [e2] X.env)).any (·.1) = false := by rfl) :
    PI X (.Tuple elts kk tpos) (.Call (.Name "zip" p) [e, e2] [] pos) (iZipM X.K b1 b2 ta) := by
  refine ⟨fun pins s σ H R I h => ?_⟩
  refine Call_ (ld_blt I hg hm PyProof.Rows.boot_zip (PyProof.Rows.callWith_type1 (thn (ha.run pos pins s σ H _ I h) fun us s1 ⟨vs, H1, I1, r1, q1⟩ => ?_) hs hpl))
  obtain ⟨a, b, xs, ys, ex, hqx, hqy, q⟩ := q1
  subst ex
  cases r1 with
  | cons r rr =>
    cases rr with
    | cons r' rr =>
      cases rr
      cases r
      cases r'
      obtain ⟨its, rv, p1, la⟩ := sq_at I1 hqx
      obtain ⟨its2, rv2, p2, lb⟩ := sq_at I1 hqy
      refine zip_begins2 (begins b1 a its.toArray) (begins b2 b its2.toArray) p1 p2 fun h' hz hTI hTO h1 h2 hsz hk => wpAny_pyIter_zip hz ?_
      have I2 : Inv X pins σ H1 { s1 with heap := h' } := I1.kept (t' := s1.toks) hk
      have sep := sepN s1.heap.objs.size a b la lb
      refine ⟨s1.heap.objs.size + 4, [s1.heap.objs.size + 4, s1.heap.objs.size + 2, s1.heap.objs.size + 3, s1.heap.objs.size, s1.heap.objs.size + 1], _, _, H1, rfl, I2, turnM (b1 := b1) (b2 := b2) (n1 := xs.length) (n2 := ys.length) sep (Nat.ne_of_lt la) (Nat.ne_of_lt (Nat.lt_succ_of_lt lb)), ⟨hz, hTI, ⟨_, _, hTO⟩, itA_new h1, itA_new h2, Nat.zero_le _, Nat.zero_le _⟩, fun c hcm => ?_, q⟩
      have e' : c = s1.heap.objs.size + 4 ∨ c = s1.heap.objs.size + 2 ∨ c = s1.heap.objs.size + 3 ∨ c = s1.heap.objs.size ∨ c = s1.heap.objs.size + 1 := by simpa using hcm
      have hle : s1.heap.objs.size ≤ c := by
        rcases e' with e | e | e | e | e
        · rw [e]; exact Nat.le_add_right _ _
        · rw [e]; exact Nat.le_add_right _ _
        · rw [e]; exact Nat.le_add_right _ _
        · rw [e]; exact Nat.le_refl _
        · rw [e]; exact Nat.le_add_right _ _
      exact I1.fpOk hle (I1.hok.fresh hle)
theorem walkM {K : PySem.W.Frag} {b1 b2 : Bool} {a b : Addr} {xs ys : List V} {n : Nat} (hn : n = min xs.length ys.length) : Walk (ItzM K b1 b2 a b xs.length ys.length) n (fun H => Sq K b1 H a xs ∧ Sq K b2 H b ys) (YPair (fun i => xs[i]?) (fun i => ys[i]?)) := by
  subst hn
  refine ⟨fun i _ hi q => ?_, fun _ q => ⟨xs, ys, q.1, q.2, rfl, rfl, by omega⟩, fun i H v H' _ q y => ?_⟩
  · have h1 : i < xs.length := by omega
    have h2 : i < ys.length := by omega
    exact ⟨xs, ys, xs[i], ys[i], q.1, q.2, rfl, rfl, List.getElem?_eq_getElem h1, List.getElem?_eq_getElem h2⟩
  · obtain ⟨T, x, y, h1, h2, h3, h4, h5⟩ := y
    exact ⟨T, x, y, h1, h2, h3, h4 xs q.1, h5 ys q.2⟩
theorem Sq.t {K : PySem.W.Frag} {H : Hp} {a : Addr} {xs : List V} (h : H a = some (.tup xs)) : Sq K true H a xs := SqT.of h
theorem Sq.l {K : PySem.W.Frag} {H : Hp} {a : Addr} {xs : List V} (h : H a = some (.lst xs)) : Sq K false H a xs := SqL.of h
end ZM
set_option Elab.async false
set_option linter.all false
set_option maxRecDepth 100000
set_option maxHeartbeats 4000000
/-! t * 0, t * 2, t a tuple, perhaps without items -/
namespace BR
open PySem PySem.Spec PyProof.Rows L2
theorem tuple_none0 (l : Addr) (n : Nat) (dd : Option Addr) (sl : Array (Option Value)) (u : Tok) :
    Meets (Builtin.«tuple.__mul__» ⟨[.ref l, .int 0 u], []⟩) (fun _ R s => s.heap.get? l = some { cls := .type "tuple", dict := dd, data := .seq #[] n, slots := sl } ∧ R (.ok (.ret (Value.ref l))) s) :=
  .of_wp fun prog w A R s h => by
    obtain ⟨hp, g, d, tk, os⟩ := s
    obtain ⟨hl, h⟩ := h
    have f1 := AutoSeq1.idx_int
    wp_walk using wpAny_loadPart' hl
    exact ⟨_, rfl, h⟩
theorem tuple_none2 (l : Addr) (n : Nat) (dd : Option Addr) (sl : Array (Option Value)) (u : Tok) :
    Meets (Builtin.«tuple.__mul__» ⟨[.ref l, .int 2 u], []⟩) (fun _ R s => s.heap.get? l = some { cls := .type "tuple", dict := dd, data := .seq #[] n, slots := sl } ∧ R (.ok (.ret (Value.ref l))) s) :=
  .of_wp fun prog w A R s h => by
    obtain ⟨hp, g, d, tk, os⟩ := s
    obtain ⟨hl, h⟩ := h
    have f1 := AutoSeq1.idx_int
    wp_walk using wpAny_loadPart' hl
    exact ⟨_, rfl, h⟩
def rRepA (K : PySem.W.Frag) : R2 := fun x y H Q => ∃ l k xs, x = .ref l ∧ y = .int k ∧ SqT K H l xs ∧ xs.length ≤ 1000 ∧ (k = 0 ∨ k = 2) ∧ (xs = [] → Q (.ref l) H) ∧ (xs ≠ [] → ∀ p, H p = none → Q (.ref p) (upd H p (.tup (List.replicate k.toNat xs).flatten)))
section
variable {X : Cx}
theorem op_repA : OpR X (binaryOp .Mult) (rRepA X.K) := by
  intro pins s σ H x y v u Q I rx ry h
  obtain ⟨l, k, xs, ex, ey, hT, hlen, hk, q0, q1⟩ := h
  by_cases hx : xs = []
  · subst hx ex ey
    cases rx
    obtain ⟨t, rfl⟩ := ry
    obtain ⟨its, r, ⟨⟨cls, dd, data, sl⟩, ho, hc, n, hd⟩, hs⟩ := I.tuple hT
    simp only at hc hd
    subst hc hd
    cases r
    rcases hk with rfl | rfl
    · refine wpAny_binaryOp_repeat_ref (T := "tuple") (U := "int") (by decide) ⟨_, ho, rfl⟩ (fun s' => typeIs_int s' 0 t) noFill_tuple_mul F.fills_int_mul F.slot_int_rmul repeat_tuple F.slot_int_index.lookup
        (call_meets F.slot_int_rmul (typeIs_int s 0 t) F.entry_int_rmul (F.args_int_rmul_2 _ _) (int_rmul_tuple 0 t l _ n dd sl)
          ⟨ho, rfl, ⟨_, ho, rfl⟩, call_meets F.slot_tuple_mul ⟨_, ho, rfl⟩ F.entry_tuple_mul (F.args_tuple_mul_2 _ _) (tuple_none0 l n dd sl t) ⟨ho, ?_⟩⟩)
      exact ⟨.ref l, H, I, rfl, q0 rfl⟩
    · refine wpAny_binaryOp_repeat_ref (T := "tuple") (U := "int") (by decide) ⟨_, ho, rfl⟩ (fun s' => typeIs_int s' 2 t) noFill_tuple_mul F.fills_int_mul F.slot_int_rmul repeat_tuple F.slot_int_index.lookup
        (call_meets F.slot_int_rmul (typeIs_int s 2 t) F.entry_int_rmul (F.args_int_rmul_2 _ _) (int_rmul_tuple 2 t l _ n dd sl)
          ⟨ho, rfl, ⟨_, ho, rfl⟩, call_meets F.slot_tuple_mul ⟨_, ho, rfl⟩ F.entry_tuple_mul (F.args_tuple_mul_2 _ _) (tuple_none2 l n dd sl t) ⟨ho, ?_⟩⟩)
      exact ⟨.ref l, H, I, rfl, q0 rfl⟩
  · rcases hk with rfl | rfl
    · exact BO.op_rep01 pins s σ H x y v u Q I rx ry ⟨l, 0, xs, ex, ey, hT, hx, .inr ⟨rfl, fun p n => q1 hx p n⟩⟩
    · exact op_repT pins s σ H x y v u Q I rx ry ⟨l, 2, xs, ex, ey, hT, hx, by decide, by decide, hlen, fun p n => q1 hx p n⟩
end
end BR
set_option Elab.async false
set_option linter.all false
set_option maxRecDepth 100000
set_option maxHeartbeats 2000000
namespace B14
open PySem PySem.Spec PyProof.Rows L2
def topS (i : Nat) : Stmt := PySem.Challenge.pw_boughkept_k14_readers_looked_at.main.body.getD i (.Pass ⟨0, 0, 0, 0⟩)
abbrev st_cdiv : Stmt := topS 14
theorem sc_cdiv : FnScope ["one", "other"] ["one", "other"] (defScope st_cdiv) := ⟨rfl, rfl, rfl, by decide +kernel, rfl, by decide +kernel, by decide +kernel⟩
abbrev st_table : Stmt := topS 16
theorem sc_table : FnScope ["wood", "name", "makers", "numbers", "table", "kind", "parts", "number", "part"] ["wood"] (defScope st_table) := ⟨rfl, rfl, rfl, by decide +kernel, rfl, by decide +kernel, by decide +kernel⟩
abbrev st_lookreader : Stmt := topS 19
theorem sc_lookreader : FnScope ["wood", "reader", "counts", "rules", "table", "maker", "sums", "kind", "parts", "part", "count"] ["wood", "reader"] (defScope st_lookreader) := ⟨rfl, rfl, rfl, by decide +kernel, rfl, by decide +kernel, by decide +kernel⟩
abbrev st_looksums : Stmt := topS 20
theorem sc_looksums : FnScope ["maker", "sums", "count", "part_counts", "terms", "number", "boxes", "box", "own"] ["maker", "sums", "count", "part_counts"] (defScope st_looksums) := ⟨rfl, rfl, rfl, by decide +kernel, rfl, by decide +kernel, by decide +kernel⟩
abbrev st_isfr : Stmt := topS 21
theorem sc_isfr : FnScope ["number", "upper", "lower"] ["number"] (defScope st_isfr) := ⟨rfl, rfl, rfl, by decide +kernel, rfl, by decide +kernel, by decide +kernel⟩
abbrev st_box : Stmt := topS 23
theorem sc_box : FnScope ["_law_script", "_law_k", "_law_cell", "_law_seed"] ["_law_script", "_law_k"] (defScope st_box) := ⟨rfl, rfl, rfl, by decide +kernel, rfl, by decide +kernel, by decide +kernel⟩
abbrev st_take : Stmt := topS 24
theorem sc_take : FnScope ["_law_box_here", "_law_many", "_law_digit", "_law_one"] ["_law_box_here", "_law_many"] (defScope st_take) := ⟨rfl, rfl, rfl, by decide +kernel, rfl, by decide +kernel, by decide +kernel⟩
abbrev st_names : Stmt := topS 25
theorem sc_names : FnScope ["_law_box_here", "_law_many", "_law_letters", "_law_k", "_law_stem", "_law_found", "_law_form", "_law_at", "_law_name", "_law_j"] ["_law_box_here", "_law_many"] (defScope st_names) := ⟨rfl, rfl, rfl, by decide +kernel, rfl, by decide +kernel, by decide +kernel⟩
abbrev st_wood : Stmt := topS 26
theorem sc_wood : FnScope ["_law_box_here", "_law_most", "_law_plain", "_law_many", "_law_kinds", "_law_some", "_law_names_here", "_law_k", "_law_rows", "_law_name", "_law_kind", "_law_wide", "_law_parts", "_law_row", "_law_j"] ["_law_box_here", "_law_most"] (defScope st_wood) := ⟨rfl, rfl, rfl, by decide +kernel, rfl, by decide +kernel, by decide +kernel⟩
abbrev st_lmakers : Stmt := topS 27
theorem sc_lmakers : FnScope ["_law_wood_here", "_law_name", "_law_makers_here", "_law_kinds", "_law_found", "_law_kind", "_law_maker", "_law_parts", "_law_part"] ["_law_wood_here"] (defScope st_lmakers) := ⟨rfl, rfl, rfl, by decide +kernel, rfl, by decide +kernel, by decide +kernel⟩
abbrev st_shared : Stmt := topS 28
theorem sc_shared : FnScope ["_law_one", "_law_other"] ["_law_one", "_law_other"] (defScope st_shared) := ⟨rfl, rfl, rfl, by decide +kernel, rfl, by decide +kernel, by decide +kernel⟩
abbrev st_lfrac : Stmt := topS 29
theorem sc_lfrac : FnScope ["_law_box_here", "_law_form", "_law_upper", "_law_lower", "_law_part"] ["_law_box_here"] (defScope st_lfrac) := ⟨rfl, rfl, rfl, by decide +kernel, rfl, by decide +kernel, by decide +kernel⟩
abbrev st_reader : Stmt := topS 30
theorem sc_reader : FnScope ["_law_box_here", "_law_wood_here", "_law_kind", "_law_counts", "_law_rules", "_law_maker", "_law_parts", "_law_sums", "_law_k", "_law_terms", "_law_j", "_law_picks", "_law_term", "_law_part", "_law_pick"] ["_law_box_here", "_law_wood_here"] (defScope st_reader) := ⟨rfl, rfl, rfl, by decide +kernel, rfl, by decide +kernel, by decide +kernel⟩
abbrev st_rdue : Stmt := topS 31
theorem sc_rdue : FnScope ["_law_wood_here", "_law_reader_here", "_law_counts", "_law_rules", "_law_makers_here", "_law_maker", "_law_kind", "_law_parts", "_law_sums", "_law_terms", "_law_upper", "_law_lower", "_law_boxes", "_law_one", "_law_part", "_law_count"] ["_law_wood_here", "_law_reader_here"] (defScope st_rdue) := ⟨rfl, rfl, rfl, by decide +kernel, rfl, by decide +kernel, by decide +kernel⟩
abbrev st_with : Stmt := topS 32
theorem sc_with : FnScope ["_law_some", "_law_at", "_law_way", "_law_one"] ["_law_some", "_law_at", "_law_way", "_law_one"] (defScope st_with) := ⟨rfl, rfl, rfl, by decide +kernel, rfl, by decide +kernel, by decide +kernel⟩
abbrev st_sterm : Stmt := topS 33
theorem sc_sterm : FnScope ["_law_box_here", "_law_term", "_law_number", "_law_boxes", "_law_at", "_law_way", "_law_odd", "_law_one"] ["_law_box_here", "_law_term"] (defScope st_sterm) := ⟨rfl, rfl, rfl, by decide +kernel, rfl, by decide +kernel, by decide +kernel⟩
abbrev st_spoilt : Stmt := topS 34
theorem sc_spoilt : FnScope ["_law_box_here", "_law_reader_here", "_law_counts", "_law_rules", "_law_way", "_law_form", "_law_number", "_law_at", "_law_sums", "_law_spot", "_law_terms", "_law_place"] ["_law_box_here", "_law_reader_here"] (defScope st_spoilt) := ⟨rfl, rfl, rfl, by decide +kernel, rfl, by decide +kernel, by decide +kernel⟩
abbrev st_told : Stmt := topS 35
theorem sc_told : FnScope ["_law_wood_here", "_law_reader_here", "_law_found", "e", "_law_others"] ["_law_wood_here", "_law_reader_here"] (defScope st_told) := ⟨rfl, rfl, rfl, by decide +kernel, rfl, by decide +kernel, by decide +kernel⟩
abbrev st_due : Stmt := topS 36
theorem sc_due : FnScope ["_law_wood_here", "_law_reader_here", "_law_due_here"] ["_law_wood_here", "_law_reader_here"] (defScope st_due) := ⟨rfl, rfl, rfl, by decide +kernel, rfl, by decide +kernel, by decide +kernel⟩
abbrev st_law : Stmt := topS 37
theorem sc_law : FnScope ["_law_script", "_law_last", "_law_k", "_law_box_here", "_law_wood_here", "_law_good", "_law_bad", "_law_turn", "_law_reader_here"] ["_law_script"] (defScope st_law) := ⟨rfl, rfl, rfl, by decide +kernel, rfl, by decide +kernel, by decide +kernel⟩
abbrev st_nr : Stmt := inClass (topS 7) 0
abbrev fs_nr : Stmt := (defBody st_nr).getD 0 (.Pass ⟨0, 0, 0, 0⟩)
abbrev fs_nr1 : Stmt := (defBody st_nr).getD 1 (.Pass ⟨0, 0, 0, 0⟩)
abbrev fs_nr2 : Stmt := (defBody st_nr).getD 2 (.Pass ⟨0, 0, 0, 0⟩)

structure Tx (P : Program) (K : PySem.W.Frag) (mg : Str → Option Value) : Type where
  f_cdiv : Addr
  fd_cdiv : FuncData
  F_cdiv : Fun K "common_divisor" "common_divisor" st_cdiv f_cdiv fd_cdiv
  g_cdiv : mg "common_divisor" = some (.ref f_cdiv)
  b_cdiv : Binds K fd_cdiv ["one", "other"] []
  f_table : Addr
  fd_table : FuncData
  F_table : Fun K "maker_table" "maker_table" st_table f_table fd_table
  g_table : mg "maker_table" = some (.ref f_table)
  b_table : Binds K fd_table ["wood"] []
  f_lookreader : Addr
  fd_lookreader : FuncData
  F_lookreader : Fun K "look_reader" "look_reader" st_lookreader f_lookreader fd_lookreader
  g_lookreader : mg "look_reader" = some (.ref f_lookreader)
  b_lookreader : Binds K fd_lookreader ["wood", "reader"] []
  f_looksums : Addr
  fd_looksums : FuncData
  F_looksums : Fun K "look_sums" "look_sums" st_looksums f_looksums fd_looksums
  g_looksums : mg "look_sums" = some (.ref f_looksums)
  b_looksums : Binds K fd_looksums ["maker", "sums", "count", "part_counts"] []
  f_isfr : Addr
  fd_isfr : FuncData
  F_isfr : Fun K "is_fraction" "is_fraction" st_isfr f_isfr fd_isfr
  g_isfr : mg "is_fraction" = some (.ref f_isfr)
  b_isfr : Binds K fd_isfr ["number"] []
  f_box : Addr
  fd_box : FuncData
  F_box : Fun K "_law_box" "_law_box" st_box f_box fd_box
  g_box : mg "_law_box" = some (.ref f_box)
  b_box : Binds K fd_box ["_law_script", "_law_k"] []
  f_take : Addr
  fd_take : FuncData
  F_take : Fun K "_law_take" "_law_take" st_take f_take fd_take
  g_take : mg "_law_take" = some (.ref f_take)
  b_take : Binds K fd_take ["_law_box_here", "_law_many"] []
  f_names : Addr
  fd_names : FuncData
  F_names : Fun K "_law_names" "_law_names" st_names f_names fd_names
  g_names : mg "_law_names" = some (.ref f_names)
  b_names : Binds K fd_names ["_law_box_here", "_law_many"] []
  f_wood : Addr
  fd_wood : FuncData
  F_wood : Fun K "_law_wood" "_law_wood" st_wood f_wood fd_wood
  g_wood : mg "_law_wood" = some (.ref f_wood)
  b_wood : Binds K fd_wood ["_law_box_here", "_law_most"] []
  f_lmakers : Addr
  fd_lmakers : FuncData
  F_lmakers : Fun K "_law_makers" "_law_makers" st_lmakers f_lmakers fd_lmakers
  g_lmakers : mg "_law_makers" = some (.ref f_lmakers)
  b_lmakers : Binds K fd_lmakers ["_law_wood_here"] []
  f_shared : Addr
  fd_shared : FuncData
  F_shared : Fun K "_law_shared" "_law_shared" st_shared f_shared fd_shared
  g_shared : mg "_law_shared" = some (.ref f_shared)
  b_shared : Binds K fd_shared ["_law_one", "_law_other"] []
  f_lfrac : Addr
  fd_lfrac : FuncData
  F_lfrac : Fun K "_law_fraction" "_law_fraction" st_lfrac f_lfrac fd_lfrac
  g_lfrac : mg "_law_fraction" = some (.ref f_lfrac)
  b_lfrac : Binds K fd_lfrac ["_law_box_here"] []
  f_reader : Addr
  fd_reader : FuncData
  F_reader : Fun K "_law_reader" "_law_reader" st_reader f_reader fd_reader
  g_reader : mg "_law_reader" = some (.ref f_reader)
  b_reader : Binds K fd_reader ["_law_box_here", "_law_wood_here"] []
  f_rdue : Addr
  fd_rdue : FuncData
  F_rdue : Fun K "_law_reader_due" "_law_reader_due" st_rdue f_rdue fd_rdue
  g_rdue : mg "_law_reader_due" = some (.ref f_rdue)
  b_rdue : Binds K fd_rdue ["_law_wood_here", "_law_reader_here"] []
  f_with : Addr
  fd_with : FuncData
  F_with : Fun K "_law_with" "_law_with" st_with f_with fd_with
  g_with : mg "_law_with" = some (.ref f_with)
  b_with : Binds K fd_with ["_law_some", "_law_at", "_law_way", "_law_one"] []
  f_sterm : Addr
  fd_sterm : FuncData
  F_sterm : Fun K "_law_spoilt_term" "_law_spoilt_term" st_sterm f_sterm fd_sterm
  g_sterm : mg "_law_spoilt_term" = some (.ref f_sterm)
  b_sterm : Binds K fd_sterm ["_law_box_here", "_law_term"] []
  f_spoilt : Addr
  fd_spoilt : FuncData
  F_spoilt : Fun K "_law_spoilt" "_law_spoilt" st_spoilt f_spoilt fd_spoilt
  g_spoilt : mg "_law_spoilt" = some (.ref f_spoilt)
  b_spoilt : Binds K fd_spoilt ["_law_box_here", "_law_reader_here"] []
  f_told : Addr
  fd_told : FuncData
  F_told : Fun K "_law_told" "_law_told" st_told f_told fd_told
  g_told : mg "_law_told" = some (.ref f_told)
  b_told : Binds K fd_told ["_law_wood_here", "_law_reader_here"] []
  f_due : Addr
  fd_due : FuncData
  F_due : Fun K "_law_due" "_law_due" st_due f_due fd_due
  g_due : mg "_law_due" = some (.ref f_due)
  b_due : Binds K fd_due ["_law_wood_here", "_law_reader_here"] []
  m_len : mg "len" = none
  m_int : mg "int" = none
  m_abs : mg "abs" = none
  m_list : mg "list" = none
  m_tuple : mg "tuple" = none
  m_zip : mg "zip" = none
  m_isinstance : mg "isinstance" = none
  m_max : mg "max" = none
  m_min : mg "min" = none
  m_range : mg "range" = none
  m_enumerate : mg "enumerate" = none
  m_all : mg "all" = none
  m_ValueError : mg "ValueError" = none
  m_super : mg "super" = none
  t_MOST_BOXES : Tok
  c_MOST_BOXES : mg "MOST_BOXES" = some (.int 4 t_MOST_BOXES)
  C : Addr
  fI : Addr
  cc : Addr
  cda : Addr
  CB : Addr
  exc : PySem.BX.ETxt P K mg C fI cc cda "ValueError" "ValueError.__new__" "ValueError.__init__" [.type "ValueError", .type "Exception", .type "BaseException", .type "object"] "NoReader" "NoReader.__init__" (defArgs st_nr) fs_nr [fs_nr1, fs_nr2] (defScope st_nr)
  fld : PySem.BX.FTxt K C ["word", "maker"]
  is1 : PySem.BX.IsF "NoReader.__init__" (defScope st_nr) fI cda cc fs_nr1 "word" "word"
  is2 : PySem.BX.IsF "NoReader.__init__" (defScope st_nr) fI cda cc fs_nr2 "maker" "maker"
  exI : ExcC K C
  xfc : XfC K C
  noWord : PySem.W.findIn K (.ref C) "word" = some none
  noMaker : PySem.W.findIn K (.ref C) "maker" = some none
  g_BoughError : mg "BoughError" = some (.ref CB)
  exm : PySem.W.exmOne K (.ref C) (.ref CB) = some true
  kC : PySem.W.kitOne K (.ref C) (.ref C) = some true
  kV : PySem.W.kitOne K (.ref C) (.type "ValueError") = some true
  C_NoFit : Addr
  g_NoFit : mg "NoFit" = some (.ref C_NoFit)
  k_NoFit : PySem.W.kitOne K (.ref C) (.ref C_NoFit) = some false
  C_NoPrinter : Addr
  g_NoPrinter : mg "NoPrinter" = some (.ref C_NoPrinter)
  k_NoPrinter : PySem.W.kitOne K (.ref C) (.ref C_NoPrinter) = some false
  C_NoRow : Addr
  g_NoRow : mg "NoRow" = some (.ref C_NoRow)
  k_NoRow : PySem.W.kitOne K (.ref C) (.ref C_NoRow) = some false
  C_NoText : Addr
  g_NoText : mg "NoText" = some (.ref C_NoText)
  k_NoText : PySem.W.kitOne K (.ref C) (.ref C_NoText) = some false
  C_NoTree : Addr
  g_NoTree : mg "NoTree" = some (.ref C_NoTree)
  k_NoTree : PySem.W.kitOne K (.ref C) (.ref C_NoTree) = some false
  C_NoTurner : Addr
  g_NoTurner : mg "NoTurner" = some (.ref C_NoTurner)
  k_NoTurner : PySem.W.kitOne K (.ref C) (.ref C_NoTurner) = some false
  C_NoWood : Addr
  g_NoWood : mg "NoWood" = some (.ref C_NoWood)
  k_NoWood : PySem.W.kitOne K (.ref C) (.ref C_NoWood) = some false
  C_NoWord : Addr
  g_NoWord : mg "NoWord" = some (.ref C_NoWord)
  k_NoWord : PySem.W.kitOne K (.ref C) (.ref C_NoWord) = some false
  C_TooLong : Addr
  g_TooLong : mg "TooLong" = some (.ref C_TooLong)
  k_TooLong : PySem.W.kitOne K (.ref C) (.ref C_TooLong) = some false
  C_TooWide : Addr
  g_TooWide : mg "TooWide" = some (.ref C_TooWide)
  k_TooWide : PySem.W.kitOne K (.ref C) (.ref C_TooWide) = some false
/-! ### heaps -/
theorem same_new {H : Hp} {p : Addr} {o : HO} (h : H p = none) : Same H (upd H p o) := fun b x e => by
  rw [upd_ne (ne_of_none e h)]
  exact e
/-- three ints at a: the law's draw -/
def Drw (H : Hp) (a : Addr) : Prop := ∃ x y z : Int, H a = some (.lst [.int x, .int y, .int z])
theorem Drw.ne {H : Hp} {a p : Addr} (d : Drw H a) (n : H p = none) : a ≠ p := by
  obtain ⟨x, y, z, e⟩ := d
  exact ne_of_none e n
theorem Drw.mono {H H' : Hp} {a : Addr} (d : Drw H a) (s : Same H H') : Drw H' a := by
  obtain ⟨x, y, z, e⟩ := d
  exact ⟨x, y, z, s _ _ e⟩
/-- all but the draw at a is as it was, and a draw stands there -/
def Gr (a : Addr) (H H' : Hp) : Prop := (∀ b o, b ≠ a → H b = some o → H' b = some o) ∧ Drw H' a
theorem Gr.trans {a : Addr} {H H1 H2 : Hp} (x : Gr a H H1) (y : Gr a H1 H2) : Gr a H H2 := ⟨fun b o n e => y.1 b o n (x.1 b o n e), y.2⟩
theorem Gr.of {a : Addr} {H H' : Hp} (s : Same H H') (d : Drw H a) : Gr a H H' := ⟨fun b o _ e => s b o e, by
  obtain ⟨x, y, z, e⟩ := d
  exact ⟨x, y, z, s _ _ e⟩⟩
theorem Gr.set {a : Addr} {H : Hp} {x y z : Int} : Gr a H (upd H a (.lst [.int x, .int y, .int z])) := ⟨fun b o n e => by
  rw [upd_ne n]
  exact e, ⟨x, y, z, upd_same⟩⟩
theorem Gr.same {a : Addr} {H0 H H' : Hp} (n : H0 a = none) (s : Same H0 H) (g : Gr a H H') : Same H0 H' := fun b o e => g.1 b o (ne_of_none e n) (s b o e)
/-! ### mathematics -/
theorem nz {j : Int} (h : (j == 0) = false) : j ≠ 0 := by simpa using h
theorem fmod_pos {i j : Int} (h : 0 < j) : 0 ≤ i.fmod j ∧ i.fmod j < j := by
  rw [Int.fmod_eq_emod_of_nonneg i (Int.le_of_lt h)]
  exact ⟨Int.emod_nonneg i (by omega), Int.emod_lt_of_pos i h⟩
/-- a comprehension that changes nothing that stood before, its list told -/
theorem lc_pure {J : It} {n : Nat} {G : Hp → Prop} {Y : Nat → Hp → V → Hp → Prop} (wk : Walk J n G Y) {g : TG} {tt : TT} {te : TE} {vs : List Nat} {σ : L2.St} {H1 : Hp} {D : Addr} {Qd : Hp → Prop} (nD : H1 D = none) (ys : List V) (hn : ys.length = n) (h1000 : n ≤ 100000)
    (hG : ∀ H, Same H1 H → G H)
    (hs : ∀ i x y H H', ys[i]? = some y → Same H1 H → Y i H x H' → g x (wipe σ vs) H' fun σ2 H2 => wipe σ2 vs = wipe σ vs ∧ tt σ2 H2 fun b H3 => b = true ∧ te σ2 H3 fun y' H4 => y' = y ∧ Same H H4)
    (mg : ∀ x σ H Q Q', (∀ σ2 H2, Q σ2 H2 → Q' σ2 H2) → g x σ H Q → g x σ H Q') (mt : ∀ σ H Q Q', (∀ b H2, Q b H2 → Q' b H2) → tt σ H Q → tt σ H Q') (me : ∀ σ H Q Q', (∀ v H2, Q v H2 → Q' v H2) → te σ H Q → te σ H Q')
    (hd : ∀ H, Same H1 H → H D = some (.lst ys) → Qd H) :
    ∃ W : Nat → Nat → Hp → Prop, (∃ m, W 0 m (upd H1 D (.lst []))) ∧ ∀ i m H, W i m H →
      (J.stop i H ∧ Qd H) ∨ (J.go i H ∧ ∃ Nx : Hp → Prop, (∀ H', Nx H' → ∃ m', m' < m ∧ W (i + 1) m' H') ∧ ∀ x H', J.yld i H x H' → g x (wipe σ vs) H' fun σ2 H2 => wipe σ2 vs = wipe σ vs ∧ tt σ2 H2 fun b H3 =>
        if b = true then te σ2 H3 fun y H4 => ∃ acc, H4 D = some (.lst acc) ∧ acc.length < sizeLine ∧ Nx (upd H4 D (.lst (acc ++ [y]))) else Nx H3) := by
  refine lc_it wk (fun i H => Same H1 H ∧ H D = some (.lst (ys.take i))) ⟨same_new nD, upd_same⟩ (fun i H hi p => hG H p.1) (fun i x H H' hi p y => ?_) (fun H p => hd H p.1 (by rw [p.2, ← hn, List.take_length]))
  have hi' : i < ys.length := by omega
  have gy : ys[i]? = some ys[i] := List.getElem?_eq_getElem hi'
  refine mg _ _ _ _ _ (fun σ2 H2 q => ⟨q.1, mt _ _ _ _ (fun b H3 q => ?_) q.2⟩) (hs i x ys[i] H H' gy p.1 y)
  obtain ⟨rfl, q⟩ := q
  refine iteT (me _ _ _ _ (fun v H4 q => ?_) q)
  obtain ⟨rfl, s4⟩ := q
  refine ⟨_, s4 _ _ p.2, Nat.lt_of_le_of_lt (show _ ≤ 100000 by rw [List.length_take]; omega) (by decide), ?_, ?_⟩
  · exact fun b o e => by
      rw [upd_ne (ne_of_none e nD)]
      exact s4 _ _ (p.1 _ _ e)
  · rw [upd_same, List.take_add_one, gy]
    rfl
section
variable {P : Program} {w : World} {K : PySem.W.Frag} {mg : Str → Option Value} {base : Heap}
/-! ### the draw -/
def spTake : Sp := fun vs H Q _ => ∃ (a : Addr) (many : Int), vs = [.ref a, .int many] ∧ Drw H a ∧ 0 < many ∧ many.natAbs < 2 ^ 8000 ∧ ∀ (d : Int) (H' : Hp), 0 ≤ d → d < many → Gr a H H' → Q (.int d) H'
theorem ok_take (T : Tx P K mg) : FnOk P w K mg base CX0 1 T.f_take T.fd_take ["_law_box_here", "_law_many"] spTake := by
  refine T.F_take.ok sc_take (fun vs H Q E h => ?_) (fun cdv A outer s H vs Q E hr h => ?_)
  · obtain ⟨a, b, rfl, _⟩ := h
    rfl
  · obtain ⟨a, many, rfl, ⟨x, y, z, ea⟩, hm, hb, q⟩ := h
    refine ⟨_, (pss_cons (ps_if (pt_cmpR op_gt (pe_ix ix_list (pv 0) pe_int (fun _ _ => rfl)) pe_int (nomark _)) (pss_cons (ps_set (i := 2) sc_take.nd rfl (.inl rfl) (pe_op op_modN (pe_ix ix_list (pv 0) pe_int (fun _ _ => rfl)) (pv 1))) (pss_cons (ps_asg (pe_op op_fdivW (pe_ix ix_list (pv 0) pe_int (fun _ _ => rfl)) (pv 1)) (pg_sub (pv 0) pe_int set_list)) (pss_one (ps_ret (pv 2))))) pss_nil) (pss_cons (ps_asg (pe_op op_add (pe_ix ix_list (pv 0) pe_int (fun _ _ => rfl)) pe_int) (pg_sub (pv 0) pe_int set_list)) (pss_cons (ps_set (i := 3) sc_take.nd rfl (.inl rfl) (pe_op op_modN (pe_op op_mul (pe_op op_add (pe_ix ix_list (pv 0) pe_int (fun _ _ => rfl)) (pe_op op_mul pe_int (pe_ix ix_list (pv 0) pe_int (fun _ _ => rfl)))) pe_int) pe_int)) (pss_cons (ps_asg (pe_op op_add (pe_op op_modN (pe_op op_add (pe_op op_mul (pv 3) pe_int) pe_int) pe_int) pe_int) (pg_sub (pv 0) pe_int set_list)) (pss_one (ps_ret (pe_op op_modN (pe_op op_fdivW (pe_op op_add (pe_op op_mul (pv 3) pe_int) (pe_ix ix_list (pv 0) pe_int (fun _ _ => rfl))) pe_int) (pv 1)))))))), ?_⟩
    have at0 : ∀ {u v t : V}, atI [u, v, t] 0 = some u := fun {u v t} => rfl
    have at1 : ∀ {u v t : V}, atI [u, v, t] 1 = some v := fun {u v t} => rfl
    have at2 : ∀ {u v t : V}, atI [u, v, t] 2 = some t := fun {u v t} => rfl
    refine ⟨.ref a, rfl, a, _, 0, .int x, rfl, rfl, SqL.of ea, at0, _, _, rfl, rfl, _, rfl, ite2 (fun c => ?_) (fun c => ?_)⟩
    · refine ⟨.ref a, rfl, a, _, 0, .int x, rfl, rfl, SqL.of ea, at0, .int many, rfl, _, _, rfl, rfl, by omega, ?_⟩
      refine ⟨.ref a, rfl, a, _, 0, .int x, rfl, rfl, SqL.of ea, at0, .int many, rfl, _, _, rfl, rfl, wide_div hm hb (by decide) (by decide), .ref a, rfl, a, _, 0, 0, rfl, rfl, ea, rfl, ?_⟩
      have f := fmod_pos (i := x) hm
      exact ⟨_, rfl, q _ _ f.1 f.2 Gr.set⟩
    · refine ⟨.ref a, rfl, a, _, 2, .int z, rfl, rfl, SqL.of ea, at2, _, _, rfl, rfl, .ref a, rfl, a, _, 2, 2, rfl, rfl, ea, rfl, ?_⟩
      have e1 : upd H a (.lst ([V.int x, .int y, .int z].set 2 (.int (z + 1)))) a = some (.lst [.int x, .int y, .int (z + 1)]) := upd_same
      refine ⟨.ref a, rfl, a, _, 1, .int y, rfl, rfl, SqL.of e1, at1, .ref a, rfl, a, _, 2, .int (z + 1), rfl, rfl, SqL.of e1, at2, _, _, rfl, rfl, .inl ⟨by decide, by decide⟩, _, _, rfl, rfl, _, _, rfl, rfl, .inr ⟨by decide, by decide⟩, _, _, rfl, rfl, nz rfl, ?_⟩
      refine ⟨_, rfl, _, _, rfl, rfl, .inr ⟨by decide, by decide⟩, _, _, rfl, rfl, _, _, rfl, rfl, nz rfl, _, _, rfl, rfl, .ref a, rfl, a, _, 1, 1, rfl, rfl, e1, rfl, ?_⟩
      refine ⟨_, rfl, _, _, rfl, rfl, .inr ⟨by decide, by decide⟩, .ref a, rfl, a, _, 1, _, rfl, rfl, SqL.of upd_same, at1, _, _, rfl, rfl, _, _, rfl, rfl, ⟨by decide, by decide⟩, .int many, rfl, _, _, rfl, rfl, by omega, ?_⟩
      have f := fun i => fmod_pos (i := i) hm
      refine q _ _ (f _).1 (f _).2 (Gr.trans Gr.set Gr.set)
/-! ### a fresh draw -/
def spBox (K : PySem.W.Frag) : Sp := fun vs H Q _ => ∃ (a : Addr) (ns : List Int) (k : Int), vs = [.ref a, .int k] ∧ SqL K H a (ns.map V.int) ∧ 0 ≤ k ∧ k ≤ 1000 ∧ ∀ (p : Addr) (H' : Hp), H p = none → Same H H' → Drw H' p → Q (.ref p) H'
theorem at_int {ns : List Int} {k : Int} (h0 : 0 ≤ k) (h1 : k < ns.length) : ∃ v, atI (ns.map V.int) k = some (.int v) := by
  have l : k.toNat < ns.length := by omega
  refine ⟨ns[k.toNat], at_of (j := k.toNat) (by omega) ?_⟩
  rw [List.getElem?_map, List.getElem?_eq_getElem l]
  rfl
theorem s0 : 0 ≤ sizeLine := by decide
theorem s1 : 1 ≤ sizeLine := by decide
theorem s2 : 2 ≤ sizeLine := by decide
theorem s3 : 3 ≤ sizeLine := by decide
theorem s4 : 4 ≤ sizeLine := by decide
theorem ix01 {c : Int} {b : Bool} : ∃ v, atI [V.int 0, V.int c] (if b = true then 1 else 0) = some (.int v) := by
  cases b
  · exact ⟨0, rfl⟩
  · exact ⟨c, rfl⟩
theorem new2 {H : Hp} {p p2 : Addr} {o : HO} (h : H p = none) (h2 : upd H p o p2 = none) : H p2 = none := Same.free (same_new h) h2
theorem ok_box (T : Tx P K mg) : FnOk P w K mg base CX0 1 T.f_box T.fd_box ["_law_script", "_law_k"] (spBox K) := by
  refine T.F_box.ok sc_box (fun vs H Q E h => ?_) (fun cdv A outer s H vs Q E hr h => ?_)
  · obtain ⟨a, b, k, rfl, _⟩ := h
    rfl
  · obtain ⟨a, ns, k, rfl, hS, h0, h1, q⟩ := h
    refine ⟨_, (pss_cons (ps_set (i := 2) sc_box.nd rfl (.inl rfl) (pe_op op_add (pe_op op_mul pe_int (pv 1)) pe_int)) (pss_cons (ps_if (pt_cmpR op_lt (pv 1) (pe_callB call_len_seq (by rfl) T.m_len PySem.boot_len (pa_cons (pv 0) pa_nil)) (nomark _)) (pss_one (ps_set (i := 2) sc_box.nd rfl (.inl rfl) (pe_ix ix_list (pv 0) (pv 1) (fun _ _ => rfl)))) (pss_one (ps_if (pt_cmpR op_gt (pe_callB call_len_seq (by rfl) T.m_len PySem.boot_len (pa_cons (pv 0) pa_nil)) pe_int (nomark _)) (pss_one (ps_set (i := 2) sc_box.nd rfl (.inl rfl) (pe_op op_add (pv 2) (pe_op op_mul (pe_op op_modN (pe_ix ix_list (pv 0) (pe_op op_modN (pv 1) (pe_callB call_len_seq (by rfl) T.m_len PySem.boot_len (pa_cons (pv 0) pa_nil))) (fun _ _ => rfl)) pe_int) pe_int)))) pss_nil))) (pss_cons (ps_set (i := 3) sc_box.nd rfl (.inl rfl) (pe_op op_add (pe_op op_modN (pe_op op_add (pe_op op_mul (pe_op op_modN (pv 2) pe_int) pe_int) (pe_op op_mul pe_int (pv 1))) pe_int) pe_int)) (pss_one (ps_ret (pe_lst (pa_cons (pe_ix ix_list (pe_lst (pa_cons pe_int (pa_cons (pv 2) pa_nil))) (pe_callTy call_int1 (by rfl) T.m_int (by decide +kernel) (pa_cons (pe_cmpR op_ge (pv 2) (pe_op op_pow pe_int pe_int) (nomark _)) pa_nil)) (fun _ _ => rfl)) (pa_cons (pv 3) (pa_cons pe_int pa_nil))))))))), ?_⟩
    refine ⟨_, rfl, _, _, rfl, rfl, .inl ⟨by decide, by decide⟩, _, _, rfl, rfl, ?_⟩
    refine ⟨_, rfl, .ref a, rfl, a, _, rfl, .inl hS, _, _, rfl, rfl, _, rfl, ite2 (fun c => ?_) (fun c => ?_)⟩
    rotate_left
    · refine ⟨.ref a, rfl, a, _, rfl, .inl hS, _, _, rfl, rfl, _, rfl, ite2 (fun c2 => ?_) (fun c2 => ?_)⟩
      · have l0 : (0 : Int) < ((ns.map V.int).length : Int) := of_decide_eq_true c2
        have f := fmod_pos (i := k) l0
        obtain ⟨v, hv⟩ := at_int (ns := ns) (k := k.fmod ((ns.map V.int).length : Int)) f.1 (by rw [List.length_map] at f ⊢; exact f.2)
        refine ⟨_, rfl, .ref a, rfl, _, rfl, .ref a, rfl, a, _, rfl, .inl hS, _, _, rfl, rfl, by omega, a, _, _, _, rfl, rfl, hS, hv, _, _, rfl, rfl, nz rfl, _, _, rfl, rfl, .inr ⟨by decide, by decide⟩, _, _, rfl, rfl, ?_⟩
        refine ⟨_, rfl, _, _, rfl, rfl, nz rfl, _, _, rfl, rfl, .inr ⟨by decide, by decide⟩, _, rfl, _, _, rfl, rfl, .inl ⟨by decide, by decide⟩, _, _, rfl, rfl, _, _, rfl, rfl, nz rfl, _, _, rfl, rfl, ?_⟩
        refine ⟨_, rfl, s2, fun p hp => ⟨_, rfl, _, _, rfl, rfl, ⟨by decide, by decide, by decide⟩, _, _, rfl, rfl, .inr ⟨_, rfl, ?_⟩⟩⟩
        obtain ⟨v, hv⟩ := ix01 (c := _) (b := _)
        refine ⟨p, _, _, _, rfl, rfl, SqL.of upd_same, hv, _, rfl, s3, fun p2 hp2 => ?_⟩
        exact q p2 _ (new2 hp hp2) ((same_new hp).trans (same_new hp2)) ⟨_, _, _, upd_same⟩
      · refine ⟨_, rfl, _, _, rfl, rfl, nz rfl, _, _, rfl, rfl, .inr ⟨by decide, by decide⟩, _, rfl, _, _, rfl, rfl, .inl ⟨by decide, by decide⟩, _, _, rfl, rfl, _, _, rfl, rfl, nz rfl, _, _, rfl, rfl, ?_⟩
        refine ⟨_, rfl, s2, fun p hp => ⟨_, rfl, _, _, rfl, rfl, ⟨by decide, by decide, by decide⟩, _, _, rfl, rfl, .inr ⟨_, rfl, ?_⟩⟩⟩
        obtain ⟨v, hv⟩ := ix01 (c := _) (b := _)
        refine ⟨p, _, _, _, rfl, rfl, SqL.of upd_same, hv, _, rfl, s3, fun p2 hp2 => ?_⟩
        exact q p2 _ (new2 hp hp2) ((same_new hp).trans (same_new hp2)) ⟨_, _, _, upd_same⟩
    · have l0 : k < ((ns.map V.int).length : Int) := of_decide_eq_true c
      obtain ⟨v, hv⟩ := at_int (ns := ns) h0 (by rw [List.length_map] at l0; exact l0)
      refine ⟨.ref a, rfl, _, rfl, a, _, _, _, rfl, rfl, hS, hv, ?_⟩
      refine ⟨_, rfl, _, _, rfl, rfl, nz rfl, _, _, rfl, rfl, .inr ⟨by decide, by decide⟩, _, rfl, _, _, rfl, rfl, .inl ⟨by decide, by decide⟩, _, _, rfl, rfl, _, _, rfl, rfl, nz rfl, _, _, rfl, rfl, ?_⟩
      refine ⟨_, rfl, s2, fun p hp => ⟨_, rfl, _, _, rfl, rfl, ⟨by decide, by decide, by decide⟩, _, _, rfl, rfl, .inr ⟨_, rfl, ?_⟩⟩⟩
      obtain ⟨v, hv⟩ := ix01 (c := _) (b := _)
      refine ⟨p, _, _, _, rfl, rfl, SqL.of upd_same, hv, _, rfl, s3, fun p2 hp2 => ?_⟩
      exact q p2 _ (new2 hp hp2) ((same_new hp).trans (same_new hp2)) ⟨_, _, _, upd_same⟩
end

/-! ### names -/
def abc : List Nat := (Str.ofString "abcdefghijklmnopqrstuvwxyz").cps.toList
/-- whether z is a name -/
def nmB (z : Str) : Bool := decide (1 ≤ z.length) && decide (z.length ≤ 6) && !decide (z = Str.ofString "kind") && z.cps.toList.all fun c => decide (c ∈ abc)
theorem nmB_no {z : Str} (h : ¬ (1 ≤ z.length ∧ z.length ≤ 6) ∨ z = Str.ofString "kind") : nmB z = false := by
  unfold nmB
  rcases h with h | h
  · by_cases h1 : 1 ≤ z.length
    · have h2 : ¬ z.length ≤ 6 := fun z => h ⟨h1, z⟩
      simp [h2]
    · simp [h1]
  · simp [h]
theorem nmB_yes {z : Str} (h1 : 1 ≤ z.length) (h2 : z.length ≤ 6) (h3 : z ≠ Str.ofString "kind") : nmB z = z.cps.toList.all fun c => decide (c ∈ abc) := by
  unfold nmB
  simp [h1, h2, h3]
theorem tNext_mono {g : TG} : True := trivial

/-! ### texts as lists of signs -/
def S (cs : List Nat) : Str := ⟨cs.toArray⟩
theorem S_list (cs : List Nat) : (S cs).cps.toList = cs := by simp [S]
theorem S_len (cs : List Nat) : (S cs).length = cs.length := by simp [S, Str.length]
theorem S_eta (z : Str) : S z.cps.toList = z := by
  cases z
  simp [S]
theorem S_inj {a b : List Nat} : S a = S b ↔ a = b := ⟨fun h => by
  have := congrArg (fun z : Str => z.cps.toList) h
  rw [S_list, S_list] at this
  exact this, fun h => by rw [h]⟩
theorem S_add (a b : List Nat) : S a ++ S b = S (a ++ b) := by
  show Str.append (S a) (S b) = S (a ++ b)
  simp [S, Str.append]
theorem S_to (a : List Nat) (k : Nat) : cutS (S a) none (some (k : Int)) = S (a.take k) := by
  unfold cutS
  rw [S_list, S_len, HT.sIx_none, HT.sIx_nat, List.drop_zero, Nat.sub_zero]
  show S (a.take (min k a.length)) = S (a.take k)
  rw [S_inj, List.take_eq_take_iff]
  omega
theorem S_from (a : List Nat) (k : Nat) : cutS (S a) (some (k : Int)) none = S (a.drop k) := by
  unfold cutS
  rw [S_list, S_len, HT.sIx_none, HT.sIx_nat]
  show S ((a.drop (min k a.length)).take (a.length - min k a.length)) = S (a.drop k)
  rw [S_inj, List.take_of_length_le (by rw [List.length_drop]; exact Nat.le_refl _)]
  by_cases h : k ≤ a.length
  · rw [Nat.min_eq_left h]
  · rw [Nat.min_eq_right (by omega), List.drop_eq_nil_of_le (Nat.le_refl _), List.drop_eq_nil_of_le (by omega)]
/-- single signs joined without anything between -/
theorem S_join : ∀ cs : List Nat, Str.join (Str.ofString "") (cs.map fun c => S [c]) = S cs
  | [] => rfl
  | [c] => rfl
  | c :: d :: r => by
    show S [c] ++ Str.ofString "" ++ Str.join (Str.ofString "") ((d :: r).map fun c => S [c]) = S (c :: d :: r)
    rw [S_join (d :: r), show (Str.ofString "" : Str) = S [] from rfl, S_add, S_add]
    rfl
theorem nmB_S {cs : List Nat} : nmB (S cs) = true ↔ 1 ≤ cs.length ∧ cs.length ≤ 6 ∧ S cs ≠ Str.ofString "kind" ∧ ∀ c ∈ cs, c ∈ abc := by
  unfold nmB
  rw [S_len, S_list]
  simp [Bool.and_eq_true, List.all_eq_true]
  constructor
  · rintro ⟨⟨⟨a, b⟩, c⟩, d⟩
    exact ⟨a, b, c, d⟩
  · rintro ⟨a, b, c, d⟩
    exact ⟨⟨⟨a, b⟩, c⟩, d⟩
theorem inV_S {n : List Nat} : ∀ ns : List (List Nat), inV (.str (S n)) (ns.map fun m => V.str (S m)) = decide (n ∈ ns)
  | [] => rfl
  | m :: r => by
    show (eqV (.str (S m)) (.str (S n)) || inV (.str (S n)) (r.map fun m => V.str (S m))) = _
    rw [inV_S r]
    show ((S m == S n) || decide (n ∈ r)) = _
    by_cases h : m = n
    · subst h
      simp
    · have h1 : (S m == S n) = false := by
        rw [beq_eq_false_iff_ne]
        exact fun z => h (S_inj.mp z)
      have h2 : (n ∈ m :: r) ↔ n ∈ r := ⟨fun z => by
        rcases List.mem_cons.mp z with z | z
        · exact absurd z.symm h
        · exact z, fun z => List.mem_cons_of_mem _ z⟩
      rw [h1, Bool.false_or]
      exact decide_eq_decide.mpr h2.symm
/-! ### pigeons -/
theorem nodup_le {α : Type} [DecidableEq α] : ∀ {l m : List α}, l.Nodup → (∀ x ∈ l, x ∈ m) → l.length ≤ m.length
  | [], _, _, _ => Nat.zero_le _
  | a :: l, m, hn, hs => by
    have hn' := List.nodup_cons.mp hn
    have ha : a ∈ m := hs a List.mem_cons_self
    have h1 : l.length ≤ (m.erase a).length := nodup_le hn'.2 fun x hx => (List.mem_erase_of_ne (fun z => hn'.1 (by rw [← z]; exact hx))).mpr (hs x (List.mem_cons_of_mem _ hx))
    have h2 := List.length_erase_of_mem ha
    have h3 : 0 < m.length := List.length_pos_of_mem ha
    rw [List.length_cons]
    omega
def letter (i : Nat) : Nat := abc.getD (i % 26) 0
theorem letter_abc (i : Nat) : letter i ∈ abc := by
  have h : ∀ j : Fin 26, abc.getD j.1 0 ∈ abc := by decide
  exact h ⟨i % 26, Nat.mod_lt _ (by decide)⟩
theorem letter_inj {i j : Nat} (hi : i < 26) (hj : j < 26) (h : letter i = letter j) : i = j := by
  have k : ∀ a b : Fin 26, abc.getD a.1 0 = abc.getD b.1 0 → a = b := by decide
  unfold letter at h
  rw [Nat.mod_eq_of_lt hi, Nat.mod_eq_of_lt hj] at h
  have := k ⟨i, hi⟩ ⟨j, hj⟩ h
  exact congrArg Fin.val this
/-- among the 26 first letters one leads to no name of found and not to kind -/
theorem free_letter (tail : List Nat) (found : List (List Nat)) (hf : found.length ≤ 12) (c : Nat) : ∃ k, k < 26 ∧ (letter (c + k) :: tail) ∉ found ∧ S (letter (c + k) :: tail) ≠ Str.ofString "kind" := by
  apply Classical.byContradiction
  intro hno
  have all : ∀ k, k < 26 → (letter (c + k) :: tail) ∈ (Str.ofString "kind").cps.toList :: found := fun k hk => by
    by_cases h1 : (letter (c + k) :: tail) ∈ found
    · exact List.mem_cons_of_mem _ h1
    · by_cases h2 : S (letter (c + k) :: tail) = Str.ofString "kind"
      · have h3 := congrArg (fun z : Str => z.cps.toList) h2
        rw [S_list] at h3
        rw [h3]
        exact List.mem_cons_self
      · exact absurd ⟨k, hk, h1, h2⟩ hno
  have nd : ((List.range 26).map fun k => letter (c + k) :: tail).Nodup := by
    refine List.pairwise_map.mpr (List.Pairwise.imp_of_mem (fun {i j} hi hj hne h => hne ?_) (List.nodup_range (n := 26)))
    have hi' := List.mem_range.mp hi
    have hj' := List.mem_range.mp hj
    have h1 : letter (c + i) = letter (c + j) := (List.cons.inj h).1
    have h2 : letter ((c + i) % 26) = letter ((c + j) % 26) := by
      unfold letter at h1 ⊢
      rw [Nat.mod_mod, Nat.mod_mod]
      exact h1
    have h3 := letter_inj (Nat.mod_lt _ (by decide)) (Nat.mod_lt _ (by decide)) h2
    omega
  have le := nodup_le nd (m := (Str.ofString "kind").cps.toList :: found) (fun x hx => by
    obtain ⟨k, hk, rfl⟩ := List.mem_map.mp hx
    exact all k (List.mem_range.mp hk))
  rw [List.length_map, List.length_range, List.length_cons] at le
  omega

/-! ### comprehensions that draw -/
theorem lc_draw {a : Addr} {n : Nat} {g : TG} {tt : TT} {te : TE} {vs : List Nat} {σ : L2.St} {H1 : Hp} {D : Addr} {Qd : Hp → Prop} {lo : Int} (nD : H1 D = none) (dr : Drw H1 a) (h1000 : n ≤ 10000) (Pd : V → Prop)
    (hs : ∀ (i : Nat) (H : Hp), i < n → Gr a H1 H → g (.int (lo + i)) (wipe σ vs) H fun σ2 H2 => wipe σ2 vs = wipe σ vs ∧ tt σ2 H2 fun b H3 => b = true ∧ te σ2 H3 fun y H4 => Pd y ∧ Gr a H H4)
    (mg : ∀ x σ H Q Q', (∀ σ2 H2, Q σ2 H2 → Q' σ2 H2) → g x σ H Q → g x σ H Q') (mt : ∀ σ H Q Q', (∀ b H2, Q b H2 → Q' b H2) → tt σ H Q → tt σ H Q') (me : ∀ σ H Q Q', (∀ v H2, Q v H2 → Q' v H2) → te σ H Q → te σ H Q')
    (hd : ∀ (H : Hp) (acc : List V), Gr a H1 H → H D = some (.lst acc) → acc.length = n → (∀ v ∈ acc, Pd v) → Qd H) :
    ∃ W : Nat → Nat → Hp → Prop, (∃ m, W 0 m (upd H1 D (.lst []))) ∧ ∀ i m H, W i m H →
      ((Itr lo n).stop i H ∧ Qd H) ∨ ((Itr lo n).go i H ∧ ∃ Nx : Hp → Prop, (∀ H', Nx H' → ∃ m', m' < m ∧ W (i + 1) m' H') ∧ ∀ x H', (Itr lo n).yld i H x H' → g x (wipe σ vs) H' fun σ2 H2 => wipe σ2 vs = wipe σ vs ∧ tt σ2 H2 fun b H3 =>
        if b = true then te σ2 H3 fun y H4 => ∃ acc, H4 D = some (.lst acc) ∧ acc.length < sizeLine ∧ Nx (upd H4 D (.lst (acc ++ [y]))) else Nx H3) := by
  have naD : a ≠ D := dr.ne nD
  refine lc_range (lo := lo) (n := n) (fun i H => Gr a H1 H ∧ ∃ acc, H D = some (.lst acc) ∧ acc.length = i ∧ ∀ v ∈ acc, Pd v) ⟨Gr.of (same_new nD) dr, [], upd_same, rfl, fun v hv => nomatch hv⟩ (fun i H hi p => ?_) (fun H p => ?_)
  · obtain ⟨gr, acc, eD, hl, hP⟩ := p
    refine mg _ _ _ _ _ (fun σ2 H2 q => ⟨q.1, mt _ _ _ _ (fun b H3 q => ?_) q.2⟩) (hs i H hi gr)
    obtain ⟨rfl, q⟩ := q
    refine iteT (me _ _ _ _ (fun v H4 q => ?_) q)
    obtain ⟨pv, g4⟩ := q
    refine ⟨acc, g4.1 _ _ naD.symm eD, Nat.lt_of_le_of_lt (show acc.length ≤ 10000 by omega) (by decide), ⟨fun b o nb e => ?_, ?_⟩, acc ++ [v], upd_same, by rw [List.length_append, hl]; rfl, fun u hu => ?_⟩
    · rw [upd_ne (ne_of_none e nD)]
      exact g4.1 _ _ nb (gr.1 _ _ nb e)
    · obtain ⟨x, y, z, e⟩ := g4.2
      exact ⟨x, y, z, by rw [upd_ne naD]; exact e⟩
    · rcases List.mem_append.mp hu with hu | hu
      · exact hP u hu
      · cases List.mem_singleton.mp hu
        exact pv
  · obtain ⟨gr, acc, eD, hl, hP⟩ := p
    exact hd H acc gr eD hl hP
/-- a list of single letters -/
theorem signs_of {acc : List V} {C : Nat → Prop} (h : ∀ v ∈ acc, ∃ c, C c ∧ v = .str (S [c])) : ∃ cs : List Nat, acc = (cs.map fun c => S [c]).map V.str ∧ ∀ c ∈ cs, C c := by
  induction acc with
  | nil => exact ⟨[], rfl, fun _ h => nomatch h⟩
  | cons v r ih =>
    obtain ⟨c, hc, rfl⟩ := h v List.mem_cons_self
    obtain ⟨cs, rfl, hcs⟩ := ih fun u hu => h u (List.mem_cons_of_mem _ hu)
    exact ⟨c :: cs, rfl, fun d hd => by
      rcases List.mem_cons.mp hd with rfl | hd
      · exact hc
      · exact hcs d hd⟩
theorem sum_len (cs : List Nat) : ((cs.map fun c => S [c]).map (·.length)).sum = cs.length := by
  induction cs with
  | nil => rfl
  | cons c r ih =>
    show (S [c]).length + ((r.map fun c => S [c]).map (·.length)).sum = r.length + 1
    rw [ih, S_len]
    show 1 + r.length = r.length + 1
    omega
theorem at_ofN {xs : List Nat} {z : Int} {j : Nat} {v : Nat} (e : z = (j : Int)) (h : xs[j]? = some v) : atI xs z = some v := by
  rw [e]
  exact atI_nat h
theorem abc_at {d : Int} (h0 : 0 ≤ d) (h1 : d < 26) : atI (Str.ofString "abcdefghijklmnopqrstuvwxyz").cps.toList d = some (letter d.toNat) := by
  have h : ∀ j : Fin 26, (Str.ofString "abcdefghijklmnopqrstuvwxyz").cps.toList[j.1]? = some (letter j.1) := by decide
  have hd : d.toNat < 26 := by omega
  exact at_ofN (j := d.toNat) (by omega) (h ⟨d.toNat, hd⟩)

section
variable {P : Program} {w : World} {K : PySem.W.Frag} {mg : Str → Option Value} {base : Heap}
/-! ### _law_names -/
def LET : Str := Str.ofString "abcdefghijklmnopqrstuvwxyz"
/-- letters alone, one to six -/
def Lt (n : List Nat) : Prop := 1 ≤ n.length ∧ n.length ≤ 6 ∧ ∀ c ∈ n, c ∈ abc
theorem letter_of {c : Nat} (h : c ∈ abc) : ∃ i, i < 26 ∧ c = letter i := by
  have k : ∀ c ∈ abc, ∃ i : Fin 26, c = letter i.1 := by decide
  obtain ⟨i, e⟩ := k c h
  exact ⟨i.1, i.2, e⟩
theorem occ (i : Nat) (h : i < 26) : Builtin.Str.occurrences LET (S [letter i]) 0 LET.length 1 = [i] := by
  have k : ∀ j : Fin 26, Builtin.Str.occurrences LET (S [letter j.1]) 0 LET.length 1 = [j.1] := by decide +kernel
  exact k ⟨i, h⟩
theorem letter_mod (i : Nat) : letter (i % 26) = letter i := by
  unfold letter
  rw [Nat.mod_mod]
def nmsV (ns : List (List Nat)) : List V := ns.map fun n => V.str (S n)
def spNames : Sp := fun vs H Q _ => ∃ (a : Addr) (many : Int), vs = [.ref a, .int many] ∧ Drw H a ∧ 0 ≤ many ∧ many ≤ 12 ∧
  ∀ (p : Addr) (H' : Hp) (ns : List (List Nat)), H p = none → Gr a H H' → H' p = some (.lst (nmsV ns)) → (ns.length : Int) = many → ns.Nodup → (∀ n ∈ ns, nmB (S n) = true) → Q (.ref p) H'
theorem small_len {n : Nat} (h : n ≤ 1000) : n ≤ sizeLine := Nat.le_trans h (by decide)
theorem nms_flat (ns : List (List Nat)) : (nmsV ns).all flatV = true := by
  unfold nmsV
  simp [List.all_eq_true, flatV]
theorem ok_names (T : Tx P K mg) : FnOk P w K mg base CX0 2 T.f_names T.fd_names ["_law_box_here", "_law_many"] spNames := by
  refine T.F_names.ok sc_names (fun vs H Q E h => ?_) (fun cdv A outer s H vs Q E hr h => ?_)
  · obtain ⟨a, many, rfl, _⟩ := h
    rfl
  · obtain ⟨a, many, rfl, dr, hm0, hm1, q⟩ := h
    refine ⟨_, (pss_cons (ps_set (i := 2) sc_names.nd rfl (.inr rfl) pe_str) (pss_cons (ps_set (i := 4) sc_names.nd rfl (.inl rfl) (pe_join pe_str (pe_lc (own := [("_law_k", 3)]) (by rfl) sc_names.nd (pi_range1 (by rfl) T.m_range (pa_cons (pe_call (ok_take T) (hr.mono (by decide) : Room 1 _) (by rfl) T.g_take T.F_take.kp T.b_take .nil pass0 (pa_cons (pv 0) (pa_cons pe_int pa_nil))) pa_nil)) (blkOk_by (own := [("_law_k", 3)]) (N := ["_law_box_here", "_law_many", "_law_letters", "_law_k", "_law_stem", "_law_found", "_law_form", "_law_at", "_law_name", "_law_j"]) (sc := defScope st_names) (by decide +kernel)) (fun _ _ _ _ _ => (pg_name (i := 3) sc_names.nd rfl (.inl rfl))) (fun _ _ _ _ _ => pts_nil) (fun _ _ _ _ _ => (pe_ix ix_str (pv 2) (pe_call (ok_take T) (hr.mono (by decide) : Room 1 _) (by rfl) T.g_take T.F_take.kp T.b_take .nil pass0 (pa_cons (pv 0) (pa_cons pe_int pa_nil))) (fun _ _ => rfl)))))) (pss_cons (ps_set (i := 5) sc_names.nd rfl (.inl rfl) (pe_lst pa_nil)) (pss_cons (ps_for PassesOwn.never rfl (pi_range1 (by rfl) T.m_range (pa_cons (pv 1) pa_nil)) (pg_name (i := 3) sc_names.nd rfl (.inl rfl)) (pss_cons (ps_par (i := 6) (j := 7) (by rfl) sc_names.nd rfl rfl (by decide) rfl rfl (pa_cons (pe_call (ok_take T) (hr.mono (by decide) : Room 1 _) (by rfl) T.g_take T.F_take.kp T.b_take .nil pass0 (pa_cons (pv 0) (pa_cons pe_int pa_nil))) (pa_cons (pe_call (ok_take T) (hr.mono (by decide) : Room 1 _) (by rfl) T.g_take T.F_take.kp T.b_take .nil pass0 (pa_cons (pv 0) (pa_cons (pe_op op_add (pe_callB call_len_str (by rfl) T.m_len PySem.boot_len (pa_cons (pv 4) pa_nil)) pe_int) pa_nil))) pa_nil)) (by rfl)) (pss_cons (ps_set (i := 8) sc_names.nd rfl (.inl rfl) (pe_join pe_str (pe_lc (own := [("_law_j", 9)]) (by rfl) sc_names.nd (pi_range1 (by rfl) T.m_range (pa_cons (pe_op op_add pe_int (pe_call (ok_take T) (hr.mono (by decide) : Room 1 _) (by rfl) T.g_take T.F_take.kp T.b_take .nil pass0 (pa_cons (pv 0) (pa_cons pe_int pa_nil)))) pa_nil)) (blkOk_by (own := [("_law_j", 9)]) (N := ["_law_box_here", "_law_many", "_law_letters", "_law_k", "_law_stem", "_law_found", "_law_form", "_law_at", "_law_name", "_law_j"]) (sc := defScope st_names) (by decide +kernel)) (fun _ _ _ _ _ => (pg_name (i := 9) sc_names.nd rfl (.inl rfl))) (fun _ _ _ _ _ => pts_nil) (fun _ _ _ _ _ => (pe_ix ix_str (pv 2) (pe_call (ok_take T) (hr.mono (by decide) : Room 1 _) (by rfl) T.g_take T.F_take.kp T.b_take .nil pass0 (pa_cons (pv 0) (pa_cons pe_int pa_nil))) (fun _ _ => rfl)))))) (C8.pss_cut (ps_if (pt_cmpR op_eq (pv 6) pe_int (nomark _)) (pss_one (ps_set (i := 8) sc_names.nd rfl (.inl rfl) (pe_op op_add_str (pe_op op_add_str (pe_slice sl_str (pv 4) po_none (po_some (pv 7))) (pe_ix ix_str (pv 8) pe_int (fun _ _ => rfl))) (pe_slice sl_str (pv 4) (po_some (pv 7)) po_none)))) pss_nil) (C8.pss_cut (ps_if (pt_cmpR op_eq (pv 6) pe_int (nomark _)) (pss_one (ps_set (i := 8) sc_names.nd rfl (.inl rfl) (pe_slice sl_str (pe_op op_add_str (pv 4) (pv 8)) po_none (po_some pe_int)))) pss_nil) (C8.pss_cut (ps_if (pt_cmpR op_eq (pv 6) pe_int (nomark _)) (pss_one (ps_set (i := 8) sc_names.nd rfl (.inl rfl) (pe_ix ix_str (pv 8) pe_int (fun _ _ => rfl)))) pss_nil) (pss_cons (ps_while PassesOwn.never (PW.pt (pw_or (pt_cmpR op_in_seq (pv 8) (pv 5) (by rfl)) (pw_or1 (pt_cmpR op_eq (pv 8) pe_str (nomark _))))) (pss_one (ps_set (i := 8) sc_names.nd rfl (.inl rfl) (pe_op op_add_str (pe_ix ix_str (pv 2) (pe_op op_modN (pe_op op_add (pe_bm PySem.F.plainAttrs_str PySem.F.slot_str_index PySem.F.type_str_index mt_sindex (pv 2) (pa_cons (pe_ix ix_str (pv 8) pe_int (fun _ _ => rfl)) pa_nil)) pe_int) pe_int) (fun _ _ => rfl)) (pe_slice sl_str (pv 8) (po_some pe_int) po_none))))) (pss_one (ps_expr (pe_bm PySem.F.plainAttrs_list PySem.F.slot_list_append PySem.F.type_list_append mt_append (pv 5) (pa_cons (pv 8) pa_nil))))))))))) (pss_one (ps_ret (pv 5))))))), ?_⟩
    -- the stem
    refine ⟨⟨_, rfl⟩, _, rfl, a, 6, rfl, dr, by decide, by decide +kernel, fun t6 H1 t0 t1 g1 => ?_⟩
    refine ⟨t6, rfl, by omega, by omega, fun D nD => ?_⟩
    refine lc_draw (a := a) nD g1.2 (by omega) (fun v => ∃ c, c ∈ abc ∧ v = .str (S [c])) (fun i H2 hi g2 => ?_) (fun x σ H Q Q' f h => f _ _ h) (fun σ H Q Q' f h => f _ _ h) (fun σ H Q Q' f h => ?_) (fun H2 acc g2 e2 hl hP => ?_)
    · refine ⟨rfl, rfl, _, rfl, _, rfl, a, 26, rfl, g2.2, by decide, by decide +kernel, fun d H3 d0 d1 g3 => ?_⟩
      exact ⟨LET, d, _, rfl, rfl, small_len (by decide), abc_at d0 d1, ⟨_, letter_abc _, rfl⟩, g3⟩
    · obtain ⟨v1, e1, v2, e2, a', m', e3, dr', p1, p2, k⟩ := h
      refine ⟨v1, e1, v2, e2, a', m', e3, dr', p1, p2, fun d H3 d0 d1 g3 => ?_⟩
      obtain ⟨z, i, c, f1, f2, f3, f4, f5⟩ := k d H3 d0 d1 g3
      exact ⟨z, i, c, f1, f2, f3, f4, f _ _ f5⟩
    obtain ⟨st, rfl, hst⟩ := signs_of hP
    rw [List.length_map, List.length_map] at hl
    refine ⟨_, D, st.map fun c => S [c], rfl, rfl, .inl (SqL.of e2), ?_, ?_⟩
    · rw [sum_len, List.length_map]
      show st.length + st.length * 0 ≤ 16777216
      omega
    rw [TL.join_eq, S_join]
    have hst5 : st.length ≤ 5 := by omega
    -- found = []
    refine ⟨s0, fun F nF => ?_⟩
    have nFH : H F = none := by
      cases e : H F with
      | none => rfl
      | some o =>
        have naF : F ≠ a := fun z => by
          obtain ⟨x, y, zz, e'⟩ := g2.2
          rw [z, e'] at nF
          cases nF
        rw [g2.1 _ _ naF (g1.1 _ _ naF e)] at nF
        cases nF
    have naF : a ≠ F := g2.2.ne nF
    refine ⟨_, rfl, many, rfl, by omega, by omega, for_range (lo := 0) (n := many.toNat) (fun i σ H' => ∃ (y3 y6 y7 y8 : Option V) (ns : List (List Nat)), σ = [some (.ref a), some (.int many), some (.str LET), y3, some (.str (S st)), some (.ref F), y6, y7, y8, none] ∧ H' F = some (.lst (nmsV ns)) ∧ ns.length = i ∧ ns.Nodup ∧ (∀ n ∈ ns, nmB (S n) = true) ∧ Gr a H H')
      ⟨none, none, none, none, [], rfl, upd_same, rfl, List.Pairwise.nil, (fun n hn => nomatch hn), (g1.trans g2).trans (Gr.of (same_new nF) g2.2)⟩ (fun i σ H' hi hP' => ?_) (fun σ H' hP' => ?_)⟩
    · obtain ⟨y3, y6, y7, y8, ns, rfl, eF, hlen, hnd, hnm, gr⟩ := hP'
      -- form, at
      refine ⟨_, rfl, a, 4, rfl, gr.2, by decide, by decide +kernel, fun fo H3 fo0 fo1 g3 => ?_⟩
      refine ⟨_, rfl, _, rfl, _, rfl, small_len (by rw [S_len]; omega), _, _, rfl, rfl, ?_⟩
      rw [S_len]
      refine ⟨a, _, rfl, g3.2, by omega, ?_, fun at' H4 at0 at1 g4 => ?_⟩
      · exact Nat.lt_of_le_of_lt (show ((st.length : Int) + 1).natAbs ≤ 6 by omega) (by decide +kernel)
      obtain ⟨ka, rfl⟩ : ∃ ka : Nat, at' = (ka : Int) := ⟨at'.toNat, by omega⟩
      refine ⟨_, _, rfl, ?_⟩
      -- the name
      refine ⟨⟨_, rfl⟩, _, rfl, a, 6, rfl, g4.2, by decide, by decide +kernel, fun t7 H5 t70 t71 g5 => ?_⟩
      refine ⟨_, _, rfl, rfl, 1 + t7, rfl, by omega, by omega, fun D2 nD2 => ?_⟩
      refine lc_draw (a := a) nD2 g5.2 (by omega) (fun v => ∃ c, c ∈ abc ∧ v = .str (S [c])) (fun i H2 hi g2 => ?_) (fun x σ H Q Q' f h => f _ _ h) (fun σ H Q Q' f h => f _ _ h) (fun σ H Q Q' f h => ?_) (fun H6 acc g6 e6 hl6 hP6 => ?_)
      · refine ⟨rfl, rfl, _, rfl, _, rfl, a, 26, rfl, g2.2, by decide, by decide +kernel, fun d H3 d0 d1 g3 => ?_⟩
        exact ⟨LET, d, _, rfl, rfl, small_len (by decide), abc_at d0 d1, ⟨_, letter_abc _, rfl⟩, g3⟩
      · obtain ⟨v1, e1, v2, e2, a', m', e3, dr', p1, p2, k⟩ := h
        refine ⟨v1, e1, v2, e2, a', m', e3, dr', p1, p2, fun d H3 d0 d1 g3 => ?_⟩
        obtain ⟨z, i, c, f1, f2, f3, f4, f5⟩ := k d H3 d0 d1 g3
        exact ⟨z, i, c, f1, f2, f3, f4, f _ _ f5⟩
      obtain ⟨nm0, rfl, hnm0⟩ := signs_of hP6
      rw [List.length_map, List.length_map] at hl6
      refine ⟨_, D2, nm0.map fun c => S [c], rfl, rfl, .inl (SqL.of e6), ?_, ?_⟩
      · rw [sum_len, List.length_map]
        show nm0.length + nm0.length * 0 ≤ 16777216
        omega
      rw [TL.join_eq, S_join]
      have hL0 : Lt nm0 := ⟨by omega, by omega, hnm0⟩
      have G6 : Gr a H H6 := gr.trans (g3.trans (g4.trans (g5.trans g6)))
      have eF6 : H6 F = some (.lst (nmsV ns)) := g6.1 _ _ naF.symm (g5.1 _ _ naF.symm (g4.1 _ _ naF.symm (g3.1 _ _ naF.symm eF)))
      obtain ⟨M1, hM1⟩ : ∃ M : L2.St → Hp → Prop, M = fun σ Hx => Hx = H6 ∧ ∃ n, σ = [some (.ref a), some (.int many), some (.str LET), some (.int (0 + (i : Int))), some (.str (S st)), some (.ref F), some (.int fo), some (.int (ka : Int)), some (.str (S n)), none] ∧ Lt n := ⟨_, rfl⟩
      -- form 0
      refine ⟨M1, ?_, fun σ1 Hx h1 => ?_⟩
      · refine ⟨_, rfl, rfl, _, rfl, ite2 (fun c => ?_) (fun c => ?_)⟩
        · obtain ⟨x, r, rfl⟩ : ∃ x r, nm0 = x :: r := by
            cases nm0 with
            | nil => exact absurd hL0.1 (by decide)
            | cons x r => exact ⟨x, r, rfl⟩
          refine ⟨_, rfl, _, rfl, _, rfl, _, rfl, small_len (by rw [S_len]; omega), _, rfl, S (x :: r), 0, x, rfl, rfl, small_len (by rw [S_len]; have := hL0.2.1; omega), atI_nat (j := 0) (by rw [S_list]; rfl), ?_⟩
          rw [S_to]
          refine ⟨_, _, rfl, rfl, small_len (by rw [S_len, List.length_take]; show _ + (S [x]).length ≤ 1000; rw [S_len]; show _ + 1 ≤ 1000; omega), ?_⟩
          refine ⟨_, rfl, _, rfl, _, rfl, _, rfl, small_len (by rw [S_len]; omega), ?_⟩
          rw [S_from, show (⟨#[x]⟩ : Str) = S [x] from rfl, S_add]
          refine ⟨_, _, rfl, rfl, small_len (by rw [S_len, S_len, List.length_append, List.length_take, List.length_drop]; show _ + 1 + _ ≤ 1000; omega), ?_⟩
          show M1 _ _
          rw [hM1, S_add]
          refine ⟨rfl, _, rfl, ?_, ?_, fun d hd => ?_⟩
          · rw [List.length_append, List.length_append]
            show 1 ≤ _ + 1 + _
            omega
          · rw [List.length_append, List.length_append, List.length_take, List.length_drop]
            show _ + 1 + _ ≤ 6
            omega
          · rcases List.mem_append.mp hd with hd | hd
            · rcases List.mem_append.mp hd with hd | hd
              · exact hst d (List.mem_of_mem_take hd)
              · rw [List.mem_singleton.mp hd]
                exact hL0.2.2 x List.mem_cons_self
            · exact hst d (List.mem_of_mem_drop hd)
        · show M1 _ _
          rw [hM1]
          exact ⟨rfl, nm0, rfl, hL0⟩
      rw [hM1] at h1
      obtain ⟨rfl, n1, rfl, hL1⟩ := h1
      -- form 1
      refine ⟨M1, ?_, fun σ1 Hx h1 => ?_⟩
      · refine ⟨_, rfl, rfl, _, rfl, ite2 (fun c => ?_) (fun c => ?_)⟩
        · refine ⟨_, rfl, _, rfl, _, _, rfl, rfl, small_len (by rw [S_len, S_len]; have := hL1.2.1; omega), 6, rfl, _, rfl, small_len (by rw [S_add, S_len, List.length_append]; have := hL1.2.1; omega), ?_⟩
          show M1 _ _
          rw [hM1, S_add, show (some (6 : Int)) = some ((6 : Nat) : Int) from rfl, S_to _ 6]
          refine ⟨rfl, _, rfl, ?_, ?_, fun d hd => ?_⟩
          · rw [List.length_take, List.length_append]
            have := hL1.1
            omega
          · rw [List.length_take]
            omega
          · rcases List.mem_append.mp (List.mem_of_mem_take hd) with hd | hd
            · exact hst d hd
            · exact hL1.2.2 d hd
        · show M1 _ _
          rw [hM1]
          exact ⟨rfl, n1, rfl, hL1⟩
      rw [hM1] at h1
      obtain ⟨rfl, n2, rfl, hL2⟩ := h1
      -- form 2
      refine ⟨M1, ?_, fun σ1 Hx h1 => ?_⟩
      · refine ⟨_, rfl, rfl, _, rfl, ite2 (fun c => ?_) (fun c => ?_)⟩
        · obtain ⟨x, r, rfl⟩ : ∃ x r, n2 = x :: r := by
            cases n2 with
            | nil => exact absurd hL2.1 (by decide)
            | cons x r => exact ⟨x, r, rfl⟩
          refine ⟨_, rfl, S (x :: r), 0, x, rfl, rfl, small_len (by rw [S_len]; have := hL2.2.1; omega), atI_nat (j := 0) (by rw [S_list]; rfl), ?_⟩
          show M1 _ _
          rw [hM1]
          exact ⟨rfl, [x], rfl, Nat.le_refl 1, (by decide : 1 ≤ 6), fun d hd => by rw [List.mem_singleton.mp hd]; exact hL2.2.2 x List.mem_cons_self⟩
        · show M1 _ _
          rw [hM1]
          exact ⟨rfl, n2, rfl, hL2⟩
      rw [hM1] at h1
      obtain ⟨rfl, n3, rfl, hL3⟩ := h1
      clear hM1
      -- until it is new
      obtain ⟨x, tail, rfl⟩ : ∃ x r, n3 = x :: r := by
        cases n3 with
        | nil => exact absurd hL3.1 (by decide)
        | cons x r => exact ⟨x, r, rfl⟩
      obtain ⟨c0, hc0, rfl⟩ := letter_of (hL3.2.2 x List.mem_cons_self)
      have htl : tail.length ≤ 5 := by
        have := hL3.2.1
        rw [List.length_cons] at this
        omega
      have htm : ∀ d ∈ tail, d ∈ abc := fun d hd => hL3.2.2 d (List.mem_cons_of_mem _ hd)
      obtain ⟨k0, hk0, hf1, hf2⟩ := free_letter tail ns (by omega) c0
      have elen : ∀ c, (S (letter c :: tail)).length ≤ sizeLine := fun c => small_len (by rw [S_len, List.length_cons]; omega)
      refine ⟨fun m σ Hy => Hy = Hx ∧ ∃ c, c < 26 ∧ σ = [some (.ref a), some (.int many), some (.str LET), some (.int (0 + (i : Int))), some (.str (S st)), some (.ref F), some (.int fo), some (.int (ka : Int)), some (.str (S (letter c :: tail))), none] ∧ (letter (c + m) :: tail) ∉ ns ∧ S (letter (c + m) :: tail) ≠ Str.ofString "kind",
        ⟨k0, rfl, c0, hc0, rfl, hf1, hf2⟩, fun m σ Hy hW => ?_⟩
      obtain ⟨eHy, c, hc, rfl, hw1, hw2⟩ := hW
      rw [eHy]
      clear eHy
      have body : ∀ (bad : (letter c :: tail) ∈ ns ∨ S (letter c :: tail) = Str.ofString "kind"), ∃ m', m = m' + 1 := fun bad => by
        cases m with
        | zero =>
          rw [Nat.add_zero] at hw1 hw2
          rcases bad with b | b
          · exact absurd b hw1
          · exact absurd b hw2
        | succ m' => exact ⟨m', rfl⟩
      refine ⟨_, rfl, _, rfl, F, _, rfl, .inl (SqL.of eF6), rfl, nms_flat ns, _, rfl, ?_⟩
      rw [show inV (.str (S (letter c :: tail))) (nmsV ns) = decide ((letter c :: tail) ∈ ns) from inV_S ns]
      have turn : ((letter c :: tail) ∈ ns ∨ S (letter c :: tail) = Str.ofString "kind") → ∃ N : L2.St → Hp → Prop, (∀ σ' H', N σ' H' → ∃ m', m' < m ∧ (H' = Hx ∧ ∃ c, c < 26 ∧ σ' = [some (.ref a), some (.int many), some (.str LET), some (.int (0 + (i : Int))), some (.str (S st)), some (.ref F), some (.int fo), some (.int (ka : Int)), some (.str (S (letter c :: tail))), none] ∧ (letter (c + m') :: tail) ∉ ns ∧ S (letter (c + m') :: tail) ≠ Str.ofString "kind")) ∧ N [some (.ref a), some (.int many), some (.str LET), some (.int (0 + (i : Int))), some (.str (S st)), some (.ref F), some (.int fo), some (.int (ka : Int)), some (.str (S (letter ((c + 1) % 26) :: tail))), none] Hx := fun bad => by
        obtain ⟨m', rfl⟩ := body bad
        refine ⟨fun σ' H' => H' = Hx ∧ σ' = [some (.ref a), some (.int many), some (.str LET), some (.int (0 + (i : Int))), some (.str (S st)), some (.ref F), some (.int fo), some (.int (ka : Int)), some (.str (S (letter ((c + 1) % 26) :: tail))), none], fun σ' H' h => ⟨m', Nat.lt_succ_self _, h.1, (c + 1) % 26, Nat.mod_lt _ (by decide), h.2, ?_, ?_⟩, rfl, rfl⟩
        · rw [show letter ((c + 1) % 26 + m') = letter (c + (m' + 1)) by rw [← letter_mod ((c + 1) % 26 + m'), ← letter_mod (c + (m' + 1))]; congr 1; omega]
          exact hw1
        · rw [show letter ((c + 1) % 26 + m') = letter (c + (m' + 1)) by rw [← letter_mod ((c + 1) % 26 + m'), ← letter_mod (c + (m' + 1))]; congr 1; omega]
          exact hw2
      have efm : ((c : Int) + 1).fmod 26 = (((c + 1) % 26 : Nat) : Int) := by
        rw [Int.fmod_eq_emod_of_nonneg _ (by decide)]
        omega
      by_cases hin : (letter c :: tail) ∈ ns
      · rw [decide_eq_true hin]
        obtain ⟨N, hN1, hN2⟩ := turn (.inl hin)
        refine iteT ⟨N, hN1, ?_⟩
        refine ⟨_, rfl, _, rfl, rfl, _, rfl, S (letter c :: tail), 0, letter c, rfl, rfl, elen c, atI_nat (j := 0) (by rw [S_list]; rfl), LET, S [letter c], c, [], rfl, rfl, occ c hc, _, _, rfl, rfl, _, _, rfl, rfl, nz rfl, LET, _, letter ((c + 1) % 26), rfl, rfl, small_len (by decide), ?_, _, rfl, 1, rfl, _, rfl, elen c, ?_⟩
        · rw [efm]
          have z := abc_at (d := (((c + 1) % 26 : Nat) : Int)) (by omega) (by omega)
          exact z
        · rw [show (some (1 : Int)) = some ((1 : Nat) : Int) from rfl, S_from]
          refine ⟨_, _, rfl, rfl, small_len (by show (S [letter ((c + 1) % 26)]).length + _ ≤ 1000; rw [S_len, S_len]; show 1 + tail.length ≤ 1000; omega), ?_⟩
          rw [show (⟨#[letter ((c + 1) % 26)]⟩ : Str) = S [letter ((c + 1) % 26)] from rfl, S_add]
          exact hN2
      · rw [decide_eq_false hin]
        refine iteF ⟨_, rfl, rfl, _, rfl, ?_⟩
        by_cases hk : S (letter c :: tail) = Str.ofString "kind"
        · rw [show decide (V.str (S (letter c :: tail)) = V.str (Str.ofString "kind")) = true by simp [hk]]
          obtain ⟨N, hN1, hN2⟩ := turn (.inr hk)
          refine iteT ⟨N, hN1, ?_⟩
          refine ⟨_, rfl, _, rfl, rfl, _, rfl, S (letter c :: tail), 0, letter c, rfl, rfl, elen c, atI_nat (j := 0) (by rw [S_list]; rfl), LET, S [letter c], c, [], rfl, rfl, occ c hc, _, _, rfl, rfl, _, _, rfl, rfl, nz rfl, LET, _, letter ((c + 1) % 26), rfl, rfl, small_len (by decide), ?_, _, rfl, 1, rfl, _, rfl, elen c, ?_⟩
          · rw [efm]
            have z := abc_at (d := (((c + 1) % 26 : Nat) : Int)) (by omega) (by omega)
            exact z
          · rw [show (some (1 : Int)) = some ((1 : Nat) : Int) from rfl, S_from]
            refine ⟨_, _, rfl, rfl, small_len (by show (S [letter ((c + 1) % 26)]).length + _ ≤ 1000; rw [S_len, S_len]; show 1 + tail.length ≤ 1000; omega), ?_⟩
            rw [show (⟨#[letter ((c + 1) % 26)]⟩ : Str) = S [letter ((c + 1) % 26)] from rfl, S_add]
            exact hN2
        · rw [show decide (V.str (S (letter c :: tail)) = V.str (Str.ofString "kind")) = false by simp [hk]]
          refine iteF ?_
          have hLc : nmB (S (letter c :: tail)) = true := nmB_S.mpr ⟨by rw [List.length_cons]; omega, by rw [List.length_cons]; omega, hk, fun d hd => by
            rcases List.mem_cons.mp hd with rfl | hd
            · exact letter_abc _
            · exact htm d hd⟩
          refine ⟨.ref F, rfl, .inl ⟨rfl, _, SqL.of eF6⟩, _, rfl, F, _, _, rfl, rfl, eF6, ?_, ?_⟩
          · unfold nmsV
            rw [List.length_map]
            exact Nat.lt_of_le_of_lt (show ns.length ≤ 1000 by omega) (by decide)
          · refine ⟨_, _, _, _, ns ++ [letter c :: tail], rfl, ?_, by rw [List.length_append, hlen]; rfl, ?_, ?_, ?_⟩
            · rw [upd_same]
              unfold nmsV
              rw [List.map_append]
              rfl
            · exact List.nodup_append.mpr ⟨hnd, List.pairwise_singleton _ _, fun x hx y hy => by
                rw [List.mem_singleton.mp hy]
                exact fun z => hin (z ▸ hx)⟩
            · intro n hn
              rcases List.mem_append.mp hn with hn | hn
              · exact hnm n hn
              · rw [List.mem_singleton.mp hn]
                exact hLc
            · refine ⟨fun b o nb e => ?_, ?_⟩
              · rw [upd_ne (ne_of_none e nFH)]
                exact G6.1 _ _ nb e
              · obtain ⟨x, y, z, e⟩ := G6.2
                exact ⟨x, y, z, by rw [upd_ne naF]; exact e⟩
    · obtain ⟨y3, y6, y7, y8, ns, rfl, eF, hlen, hnd, hnm, gr⟩ := hP'
      exact ⟨_, rfl, q F H' ns nFH gr eF (by omega) hnd hnm⟩
end

/-! ### data of texts and ints in a list or a tuple, for == -/
def flD : PyData → Bool
  | .none => true | .bool _ => true | .int _ => true | .str x => PyData.strOk x | _ => false
theorem fl_shape {d : PyData} (h : flD d = true) : d.canLay0 = true ∧ d.depth = 0 := by
  cases d with
  | none => exact ⟨rfl, rfl⟩
  | bool b => exact ⟨rfl, rfl⟩
  | int i => exact ⟨rfl, rfl⟩
  | str z => exact ⟨h, rfl⟩
  | list xs => cases h
  | tuple xs => cases h
  | dict xs => cases h
theorem fl_all : ∀ {ds : List PyData}, (∀ d ∈ ds, flD d = true) → PyData.canLayAll0 ds = true ∧ PyData.depthAll ds = 0
  | [], _ => ⟨rfl, rfl⟩
  | d :: r, h => by
    obtain ⟨a, b⟩ := fl_shape (h d List.mem_cons_self)
    obtain ⟨x, y⟩ := fl_all (ds := r) fun z hz => h z (List.mem_cons_of_mem _ hz)
    refine ⟨?_, ?_⟩
    · show (d.canLay0 && PyData.canLayAll0 r) = true
      rw [a, x]
      rfl
    · show max d.depth (PyData.depthAll r) = 0
      rw [b, y]
      rfl
theorem shaped_list {ds : List PyData} (h : ∀ d ∈ ds, flD d = true) : SeqAt.shaped (.list ds) = true := by
  obtain ⟨x, y⟩ := fl_all h
  show ((PyData.list ds).canLay0 && decide ((PyData.list ds).depth ≤ 64)) = true
  rw [show (PyData.list ds).canLay0 = PyData.canLayAll0 ds from rfl, x, show (PyData.list ds).depth = PyData.depthAll ds + 1 from rfl, y]
  rfl
theorem dpAll_strs {K : PySem.W.Frag} {H : Hp} : ∀ zs : List Str, DpAll K H (zs.map V.str) (zs.map PyData.str)
  | [] => .nil
  | z :: r => .cons (.str z) (dpAll_strs r)
theorem eqv_strs : ∀ as bs : List Str, PyData.eqvAll (as.map PyData.str) (bs.map PyData.str) = decide (as = bs)
  | [], [] => rfl
  | [], _ :: _ => rfl
  | _ :: _, [] => rfl
  | a :: r, b :: t => by
    show ((a == b) && PyData.eqvAll (r.map PyData.str) (t.map PyData.str)) = _
    rw [eqv_strs r t]
    by_cases h : a = b
    · subst h
      simp
    · simp [h]
theorem flat_strs {zs : List Str} (h : ∀ z ∈ zs, PyData.strOk z = true) : ∀ d ∈ zs.map PyData.str, flD d = true := fun d hd => by
  obtain ⟨z, hz, rfl⟩ := List.mem_map.mp hd
  exact h z hz
theorem ok_S {cs : List Nat} : PyData.strOk (S cs) = true ↔ ∀ c ∈ cs, c < 0x110000 := by
  unfold PyData.strOk S
  simp
theorem abc_small {c : Nat} (h : c ∈ abc) : c < 0x110000 := by
  have k : ∀ c ∈ abc, c < 0x110000 := by decide
  exact k c h

/-! ### woods, as they stand in the heap -/
abbrev Nam := List Nat
abbrev Mk := Nam × List Nam
abbrev Wood := List (Nam × List Mk)
/-- tuples stand as they stood -/
def KT (H H' : Hp) : Prop := ∀ p xs, H p = some (.tup xs) → H' p = some (.tup xs)
theorem KT.of {H H' : Hp} (s : Same H H') : KT H H' := fun p xs e => s _ _ e
theorem KT.gr {a : Addr} {H H' : Hp} (d : Drw H a) (g : Gr a H H') : KT H H' := fun p xs e => g.1 _ _ (fun z => by
  obtain ⟨x, y, w, e'⟩ := d
  rw [z, e'] at e
  cases e) e
theorem KT.lst {H : Hp} {p : Addr} {xs ys : List V} (h : H p = some (.lst xs)) : KT H (upd H p (.lst ys)) := fun q zs e => by
  rw [upd_ne (ne_of e h (by intro z; cases z))]
  exact e
theorem KT.trans {H H1 H2 : Hp} (a : KT H H1) (b : KT H1 H2) : KT H H2 := fun p xs e => b _ _ (a _ _ e)
def MkAt (H : Hp) (v : V) (m : Mk) : Prop := ∃ p t, v = .ref p ∧ H p = some (.tup [.str (S m.1), .ref t]) ∧ H t = some (.tup (nmsV m.2))
theorem MkAt.mono {H H' : Hp} {v : V} {m : Mk} (k : KT H H') (h : MkAt H v m) : MkAt H' v m := by
  obtain ⟨p, t, e, h1, h2⟩ := h
  exact ⟨p, t, e, k _ _ h1, k _ _ h2⟩
abbrev MksAt (H : Hp) : List V → List Mk → Prop := Paired (MkAt H)
def KdAt (H : Hp) (v : V) (k : Nam × List Mk) : Prop := ∃ p t vs, v = .ref p ∧ H p = some (.tup [.str (S k.1), .ref t]) ∧ H t = some (.tup vs) ∧ MksAt H vs k.2
theorem KdAt.mono {H H' : Hp} {v : V} {m : Nam × List Mk} (k : KT H H') (h : KdAt H v m) : KdAt H' v m := by
  obtain ⟨p, t, vs, e, h1, h2, h3⟩ := h
  exact ⟨p, t, vs, e, k _ _ h1, k _ _ h2, Paired.mapP h3 fun _ _ z => z.mono k⟩
def WdAt (H : Hp) (p : Addr) (w : Wood) : Prop := ∃ vs, H p = some (.tup vs) ∧ Paired (KdAt H) vs w
theorem WdAt.mono {H H' : Hp} {p : Addr} {w : Wood} (k : KT H H') (h : WdAt H p w) : WdAt H' p w := by
  obtain ⟨vs, h1, h2⟩ := h
  exact ⟨vs, k _ _ h1, Paired.mapP h2 fun _ _ z => z.mono k⟩
/-- all makers, kind by kind -/
def mks (w : Wood) : List Mk := w.flatMap (·.2)
structure Good (w : Wood) : Prop where
  some : 1 ≤ w.length
  few : w.length ≤ 4
  kinds : (w.map (·.1)).Nodup
  kindN : ∀ k ∈ w.map (·.1), nmB (S k) = true
  makers : ((mks w).map (·.1)).Nodup
  makerN : ∀ m ∈ (mks w).map (·.1), nmB (S m) = true
  many : (mks w).length ≤ 12
  parts : ∀ m ∈ mks w, m.2.length ≤ 2 ∧ ∀ q ∈ m.2, q ∈ w.map (·.1)
theorem paired_snoc {α β : Type} {F : α → β → Prop} {x : α} {y : β} : ∀ {xs : List α} {ys : List β}, Paired F xs ys → F x y → Paired F (xs ++ [x]) (ys ++ [y])
  | _, _, .nil, h => .cons h .nil
  | _, _, .cons a b, h => .cons a (paired_snoc b h)
theorem paired_at {α β : Type} {F : α → β → Prop} : ∀ {xs : List α} {ys : List β}, Paired F xs ys → ∀ {i : Nat} {x : α}, xs[i]? = some x → ∃ y, ys[i]? = some y ∧ F x y
  | _, _, .nil, i, x, h => by simp at h
  | _, _, .cons r t, 0, x, h => by
    cases Option.some.inj h
    exact ⟨_, rfl, r⟩
  | _, _, .cons r t, i + 1, x, h => paired_at t h
theorem paired_at2 {α β : Type} {F : α → β → Prop} : ∀ {xs : List α} {ys : List β}, Paired F xs ys → ∀ {i : Nat} {y : β}, ys[i]? = some y → ∃ x, xs[i]? = some x ∧ F x y
  | _, _, .nil, i, x, h => by simp at h
  | _, _, .cons r t, 0, x, h => by
    cases Option.some.inj h
    exact ⟨_, rfl, r⟩
  | _, _, .cons r t, i + 1, x, h => paired_at2 t h
/-- one more at the k-th row -/
theorem perm_set {α : Type} {x : α} : ∀ {ws : List (List α)} {k : Nat} {w : List α}, ws[k]? = some w → ((ws.set k (w ++ [x])).flatten).Perm (ws.flatten ++ [x])
  | [], k, w, h => by simp at h
  | u :: r, 0, w, h => by
    cases Option.some.inj h
    show (u ++ [x] ++ r.flatten).Perm (u ++ r.flatten ++ [x])
    rw [List.append_assoc, List.append_assoc]
    exact List.Perm.append_left u List.perm_append_comm
  | u :: r, k + 1, w, h => by
    show (u ++ (r.set k (w ++ [x])).flatten).Perm (u ++ r.flatten ++ [x])
    rw [List.append_assoc]
    exact List.Perm.append_left u (perm_set h)
/-- the makers' rows: the lists rs, distinct, each with its makers -/
def RowsAt (H : Hp) (rs : List Addr) (ws : List (List Mk)) : Prop := rs.length = ws.length ∧ rs.Nodup ∧ ∀ (k : Nat) (r : Addr) (w : List Mk), rs[k]? = some r → ws[k]? = some w → ∃ vs, H r = some (.lst vs) ∧ MksAt H vs w
theorem RowsAt.mono {H H' : Hp} {rs : List Addr} {ws : List (List Mk)} (k : KT H H') (s : ∀ r ∈ rs, ∀ vs, H r = some (.lst vs) → H' r = some (.lst vs)) (h : RowsAt H rs ws) : RowsAt H' rs ws := ⟨h.1, h.2.1, fun i r w e1 e2 => by
  obtain ⟨vs, a, b⟩ := h.2.2 i r w e1 e2
  exact ⟨vs, s r (List.mem_of_getElem? e1) vs a, Paired.mapP b fun _ _ z => z.mono k⟩⟩
theorem RowsAt.add {H : Hp} {rs : List Addr} {ws : List (List Mk)} {k : Nat} {r : Addr} {w : List Mk} {vs : List V} {v : V} {m : Mk} (h : RowsAt H rs ws) (er : rs[k]? = some r) (ew : ws[k]? = some w) (eH : H r = some (.lst vs)) (hv : MksAt H vs w) (hm : MkAt H v m) :
    RowsAt (upd H r (.lst (vs ++ [v]))) rs (ws.set k (w ++ [m])) := by
  have kt : KT H (upd H r (.lst (vs ++ [v]))) := KT.lst eH
  refine ⟨by rw [List.length_set]; exact h.1, h.2.1, fun j r' w' e1 e2 => ?_⟩
  by_cases hj : j = k
  · subst hj
    rw [er] at e1
    cases Option.some.inj e1
    have hlt : j < ws.length := (List.getElem?_eq_some_iff.mp ew).1
    rw [List.getElem?_set_self hlt] at e2
    cases Option.some.inj e2
    exact ⟨_, upd_same, paired_snoc (Paired.mapP hv fun _ _ z => z.mono kt) (hm.mono kt)⟩
  · rw [List.getElem?_set_ne (Ne.symm hj)] at e2
    obtain ⟨vs', a, b⟩ := h.2.2 j r' w' e1 e2
    have nr : r' ≠ r := fun z => by
      subst z
      exact hj (nd_ix h.2.1 e1 er)
    exact ⟨vs', by rw [upd_ne nr]; exact a, Paired.mapP b fun _ _ z => z.mono kt⟩
section
variable {P : Program} {w : World} {K : PySem.W.Frag} {mg : Str → Option Value} {base : Heap}
/-! ### _law_wood -/
def spWood : Sp := fun vs H Q _ => ∃ (a : Addr) (most : Int), vs = [.ref a, .int most] ∧ Drw H a ∧ 0 < most ∧ most ≤ 12 ∧
  ∀ (p : Addr) (H' : Hp) (wd : Wood), Gr a H H' → WdAt H' p wd → Good wd → Q (.ref p) H'
theorem ixk {d : Int} (h0 : 0 ≤ d) (h1 : d < 6) : ∃ v : Int, atI [V.int 0, V.int 0, V.int 1, V.int 1, V.int 2, V.int 3] d = some (.int v) ∧ 0 ≤ v ∧ v ≤ 3 := by
  have : d = 0 ∨ d = 1 ∨ d = 2 ∨ d = 3 ∨ d = 4 ∨ d = 5 := by omega
  rcases this with rfl | rfl | rfl | rfl | rfl | rfl
  all_goals exact ⟨_, rfl, by decide, by decide⟩
theorem ixp {d : Int} (h0 : 0 ≤ d) (h1 : d < 6) : ∃ v : Int, atI [V.int 0, V.int 0, V.int 1, V.int 1, V.int 2, V.int 2] d = some (.int v) ∧ 0 ≤ v ∧ v ≤ 2 := by
  have : d = 0 ∨ d = 1 ∨ d = 2 ∨ d = 3 ∨ d = 4 ∨ d = 5 := by omega
  rcases this with rfl | rfl | rfl | rfl | rfl | rfl
  all_goals exact ⟨_, rfl, by decide, by decide⟩
theorem s6 : 6 ≤ sizeLine := by decide
theorem nms_at {ns : List Nam} {d : Int} (h0 : 0 ≤ d) (h1 : d < ns.length) : ∃ n ∈ ns, atI (nmsV ns) d = some (.str (S n)) := by
  have l : d.toNat < ns.length := by omega
  refine ⟨ns[d.toNat], List.getElem_mem l, at_of (j := d.toNat) (by omega) ?_⟩
  unfold nmsV
  rw [List.getElem?_map, List.getElem?_eq_getElem l]
  rfl
theorem nms_of {acc : List V} {C : Nam → Prop} (h : ∀ v ∈ acc, ∃ q, C q ∧ v = .str (S q)) : ∃ qs : List Nam, acc = nmsV qs ∧ ∀ q ∈ qs, C q := by
  induction acc with
  | nil => exact ⟨[], rfl, fun _ h => nomatch h⟩
  | cons v r ih =>
    obtain ⟨c, hc, rfl⟩ := h v List.mem_cons_self
    obtain ⟨cs, rfl, hcs⟩ := ih fun u hu => h u (List.mem_cons_of_mem _ hu)
    exact ⟨c :: cs, rfl, fun d hd => by
      rcases List.mem_cons.mp hd with rfl | hd
      · exact hc
      · exact hcs d hd⟩
/-- new there where a draw went on: new before -/
theorem Gr.back {a p : Addr} {H H' : Hp} (d : Drw H' a) (g : Gr a H H') (n : H' p = none) : H p = none := by
  cases e : H p with
  | none => rfl
  | some o =>
    rw [g.1 p o (d.ne n).symm e] at n
    cases n
/-- n new lists -/
theorem lc_news {n : Nat} {lo : Int} {j : Nat} {vs : List Nat} {σ : L2.St} {H1 : Hp} {D : Addr} {Qd : Hp → Prop} (nD : H1 D = none) (hn : n ≤ 10000) (hw : ∀ v : V, wipe ((wipe σ vs).set j (some v)) vs = wipe σ vs)
    (hd : ∀ (H : Hp) (rs : List Addr), rs.length = n → rs.Nodup → (∀ r ∈ rs, H1 r = none ∧ r ≠ D ∧ H r = some (.lst [])) → Same H1 H → H D = some (.lst (rs.map V.ref)) → Qd H) :
    ∃ W : Nat → Nat → Hp → Prop, (∃ m, W 0 m (upd H1 D (.lst []))) ∧ ∀ i m H, W i m H →
      ((Itr lo n).stop i H ∧ Qd H) ∨ ((Itr lo n).go i H ∧ ∃ Nx : Hp → Prop, (∀ H', Nx H' → ∃ m', m' < m ∧ W (i + 1) m' H') ∧ ∀ x H', (Itr lo n).yld i H x H' → (gName j) x (wipe σ vs) H' fun σ2 H2 => wipe σ2 vs = wipe σ vs ∧ tYes σ2 H2 fun b H3 =>
        if b = true then tLst tNil σ2 H3 fun y H4 => ∃ acc, H4 D = some (.lst acc) ∧ acc.length < sizeLine ∧ Nx (upd H4 D (.lst (acc ++ [y]))) else Nx H3) := by
  refine lc_range (lo := lo) (n := n) (fun i H => Same H1 H ∧ ∃ rs : List Addr, rs.length = i ∧ rs.Nodup ∧ (∀ r ∈ rs, H1 r = none ∧ r ≠ D ∧ H r = some (.lst [])) ∧ H D = some (.lst (rs.map V.ref))) ⟨same_new nD, [], rfl, List.Pairwise.nil, (fun _ h => nomatch h), upd_same⟩ (fun i H hi p => ?_) (fun H p => ?_)
  · obtain ⟨s1, rs, hl, hnd, hr, eD⟩ := p
    refine ⟨hw _, ?_⟩
    unfold tYes
    refine iteT ?_
    refine ⟨s0, fun r nr => ⟨rs.map V.ref, ?_, ?_, ?_, rs ++ [r], by rw [List.length_append, hl]; rfl, ?_, ?_, ?_⟩⟩
    · rw [upd_ne (ne_of_none eD nr)]
      exact eD
    · rw [List.length_map]
      exact Nat.lt_of_le_of_lt (show rs.length ≤ 10000 by omega) (by decide)
    · exact fun b o e => by
        rw [upd_ne (ne_of_none e nD), upd_ne (ne_of_none (s1 _ _ e) nr)]
        exact s1 _ _ e
    · refine List.nodup_append.mpr ⟨hnd, List.pairwise_singleton _ _, fun x hx y hy => ?_⟩
      rw [List.mem_singleton.mp hy]
      exact ne_of_none (hr x hx).2.2 nr
    · intro x hx
      rcases List.mem_append.mp hx with hx | hx
      · obtain ⟨x1, x2, x3⟩ := hr x hx
        refine ⟨x1, x2, ?_⟩
        rw [upd_ne x2, upd_ne (ne_of_none x3 nr)]
        exact x3
      · rw [List.mem_singleton.mp hx]
        have : r ≠ D := (ne_of_none eD nr).symm
        exact ⟨Same.free s1 nr, this, by rw [upd_ne this]; exact upd_same⟩
    · rw [upd_same, List.map_append]
      rfl
  · obtain ⟨s1, rs, hl, hnd, hr, eD⟩ := p
    exact hd H rs hl hnd hr s1 eD
theorem ok_wood (T : Tx P K mg) : FnOk P w K mg base CX0 3 T.f_wood T.fd_wood ["_law_box_here", "_law_most"] spWood := by
  refine T.F_wood.ok sc_wood (fun vs H Q E h => ?_) (fun cdv A outer s H vs Q E hr h => ?_)
  · obtain ⟨a, m, rfl, _⟩ := h
    rfl
  · obtain ⟨a, most, rfl, dr, hm0, hm1, q⟩ := h
    refine ⟨_, (pss_cons (ps_asg (pe_tup (pa_cons (pe_call (ok_take T) (hr.mono (by decide) : Room 1 _) (by rfl) T.g_take T.F_take.kp T.b_take .nil pass0 (pa_cons (pv 0) (pa_cons pe_int pa_nil))) (pa_cons (pe_op op_add pe_int (pe_ix ix_list (pe_lst (pa_cons pe_int (pa_cons pe_int (pa_cons pe_int (pa_cons pe_int (pa_cons pe_int (pa_cons pe_int pa_nil))))))) (pe_call (ok_take T) (hr.mono (by decide) : Room 1 _) (by rfl) T.g_take T.F_take.kp T.b_take .nil pass0 (pa_cons (pv 0) (pa_cons pe_int pa_nil))) (fun _ _ => rfl))) pa_nil))) (pg_tup rfl (pgs_cons (pg_name (i := 2) sc_wood.nd rfl (.inl rfl)) (pgs_cons (pg_name (i := 3) sc_wood.nd rfl (.inr rfl)) pgs_nil)))) (pss_cons (ps_asg (pe_tup (pa_cons (pe_call (ok_names T) (hr.mono (by decide) : Room 2 _) (by rfl) T.g_names T.F_names.kp T.b_names .nil pass0 (pa_cons (pv 0) (pa_cons (pv 3) pa_nil))) (pa_cons (pe_op op_mul (pe_op op_add pe_int (pe_call (ok_take T) (hr.mono (by decide) : Room 1 _) (by rfl) T.g_take T.F_take.kp T.b_take .nil pass0 (pa_cons (pv 0) (pa_cons (pv 1) pa_nil)))) (pe_callTy call_int1 (by rfl) T.m_int (by decide +kernel) (pa_cons (pe_cmpR op_gt (pe_call (ok_take T) (hr.mono (by decide) : Room 1 _) (by rfl) T.g_take T.F_take.kp T.b_take .nil pass0 (pa_cons (pv 0) (pa_cons pe_int pa_nil))) pe_int (nomark _)) pa_nil))) pa_nil))) (pg_tup rfl (pgs_cons (pg_name (i := 4) sc_wood.nd rfl (.inr rfl)) (pgs_cons (pg_name (i := 5) sc_wood.nd rfl (.inl rfl)) pgs_nil)))) (pss_cons (ps_set (i := 6) sc_wood.nd rfl (.inl rfl) (pe_call (ok_names T) (hr.mono (by decide) : Room 2 _) (by rfl) T.g_names T.F_names.kp T.b_names .nil pass0 (pa_cons (pv 0) (pa_cons (pv 5) pa_nil)))) (pss_cons (ps_setLc (i := 8) (own := [("_law_k", 7)]) (by rfl) sc_wood.nd rfl rfl (sw_true rfl rfl rfl (by decide +kernel)) (pi_range1 (by rfl) T.m_range (pa_cons (pv 3) pa_nil)) (blkOk_by (own := [("_law_k", 7)]) (N := ["_law_box_here", "_law_most", "_law_plain", "_law_many", "_law_kinds", "_law_some", "_law_names_here", "_law_k", "_law_rows", "_law_name", "_law_kind", "_law_wide", "_law_parts", "_law_row", "_law_j"]) (sc := defScope st_wood) (by decide +kernel)) (fun _ _ _ _ _ => (pg_name (i := 7) sc_wood.nd rfl (.inl rfl))) (fun _ _ _ _ _ => pts_nil) (fun _ _ _ _ _ => (pe_lst pa_nil))) (pss_cons (ps_for PassesOwn.never rfl (pi_enum (by rfl) T.m_enumerate (pa_cons (pv 6) pa_nil)) (pg_tup rfl (pgs_cons (pg_name (i := 7) sc_wood.nd rfl (.inl rfl)) (pgs_cons (pg_name (i := 9) sc_wood.nd rfl (.inl rfl)) pgs_nil))) (pss_cons (ps_par (i := 10) (j := 11) (by rfl) sc_wood.nd rfl rfl (by decide) rfl rfl (pa_cons (pe_call (ok_take T) (hr.mono (by decide) : Room 1 _) (by rfl) T.g_take T.F_take.kp T.b_take .nil pass0 (pa_cons (pv 0) (pa_cons (pv 3) pa_nil))) (pa_cons (pe_ix ix_list (pe_lst (pa_cons pe_int (pa_cons pe_int (pa_cons pe_int (pa_cons pe_int (pa_cons pe_int (pa_cons pe_int pa_nil))))))) (pe_call (ok_take T) (hr.mono (by decide) : Room 1 _) (by rfl) T.g_take T.F_take.kp T.b_take .nil pass0 (pa_cons (pv 0) (pa_cons pe_int pa_nil))) (fun _ _ => rfl)) pa_nil)) (by rfl)) (pss_cons (ps_set (i := 12) sc_wood.nd rfl (.inl rfl) (pe_callTy call_tuple_of (by rfl) T.m_tuple (by decide +kernel) (pa_cons (pe_lc (own := [("_law_j", 14)]) (by rfl) sc_wood.nd (pi_range1 (by rfl) T.m_range (pa_cons (pv 11) pa_nil)) (blkOk_by (own := [("_law_j", 14)]) (N := ["_law_box_here", "_law_most", "_law_plain", "_law_many", "_law_kinds", "_law_some", "_law_names_here", "_law_k", "_law_rows", "_law_name", "_law_kind", "_law_wide", "_law_parts", "_law_row", "_law_j"]) (sc := defScope st_wood) (by decide +kernel)) (fun _ _ _ _ _ => (pg_name (i := 14) sc_wood.nd rfl (.inl rfl))) (fun _ _ _ _ _ => pts_nil) (fun _ _ _ _ _ => (pe_ix (KX.ix_listK K) (pv 4) (pe_call (ok_take T) (hr.mono (by decide) : Room 1 _) (by rfl) T.g_take T.F_take.kp T.b_take .nil pass0 (pa_cons (pv 0) (pa_cons (pv 3) pa_nil))) (fun _ _ => rfl)))) pa_nil))) (C8.pss_cut (ps_if (PW.pt (pw_and (pt_cmpR op_gt (pv 2) pe_int (nomark _)) (pw_and1 (pt_cmpR op_lt (pv 7) (pv 3) (nomark _))))) (pss_one (ps_par (i := 10) (j := 12) (by rfl) sc_wood.nd rfl rfl (by decide) rfl rfl (pa_cons (pv 7) (pa_cons (pe_tup pa_nil) pa_nil)) (by rfl))) pss_nil) (pss_one (ps_expr (pe_bm PySem.F.plainAttrs_list PySem.F.slot_list_append PySem.F.type_list_append mt_append (pe_ix ix_list (pv 8) (pv 10) (fun _ _ => rfl)) (pa_cons (pe_tup (pa_cons (pv 9) (pa_cons (pv 12) pa_nil))) pa_nil)))))))) (pss_one (ps_ret (pe_callTy call_tuple_of (by rfl) T.m_tuple (by decide +kernel) (pa_cons (pe_lc (own := [("_law_kind", 10), ("_law_row", 13)]) (by rfl) sc_wood.nd (pi_zip (by rfl) T.m_zip (pa_cons (pv 4) (pa_cons (pv 8) pa_nil))) (blkOk_by (own := [("_law_kind", 10), ("_law_row", 13)]) (N := ["_law_box_here", "_law_most", "_law_plain", "_law_many", "_law_kinds", "_law_some", "_law_names_here", "_law_k", "_law_rows", "_law_name", "_law_kind", "_law_wide", "_law_parts", "_law_row", "_law_j"]) (sc := defScope st_wood) (by decide +kernel)) (fun _ _ _ _ _ => (KX.pg_tupK K (n := 2) rfl (pgs_cons (pg_name (i := 10) sc_wood.nd rfl (.inl rfl)) (pgs_cons (pg_name (i := 13) sc_wood.nd rfl (.inl rfl)) pgs_nil)))) (fun _ _ _ _ _ => pts_nil) (fun _ _ _ _ _ => (pe_tup (pa_cons (pv 10) (pa_cons (pe_callTy (KX.call_tuple_K K) (by rfl) T.m_tuple (by decide +kernel) (pa_cons (pv 13) pa_nil)) pa_nil))))) pa_nil))))))))), ?_⟩
    -- plain, many
    refine ⟨_, rfl, a, 5, rfl, dr, by decide, by decide +kernel, fun pl H1 pl0 pl1 g1 => ?_⟩
    refine ⟨s6, fun L1 nL1 => ?_⟩
    refine ⟨_, rfl, a, 6, rfl, g1.2.mono (same_new nL1), by decide, by decide +kernel, fun d6 H2 d60 d61 g2 => ?_⟩
    obtain ⟨mv, hmv, mv0, mv1⟩ := ixk d60 d61
    have nL1a : L1 ≠ a := (g1.2.ne nL1).symm
    refine ⟨L1, _, _, _, rfl, rfl, SqL.of (g2.1 _ _ nL1a upd_same), hmv, _, _, rfl, rfl, s2, fun t1 nt1 => ?_⟩
    have G2 : Gr a H H2 := (g1.trans (Gr.of (same_new nL1) g1.2)).trans g2
    refine ⟨t1, _, rfl, .inl (.inl upd_same), rfl, _, _, rfl, _, _, rfl, rfl, ?_⟩
    have G3 : Gr a H (upd H2 t1 (.tup [.int pl, .int (1 + mv)])) := G2.trans (Gr.of (same_new nt1) g2.2)
    generalize upd H2 t1 (.tup [.int pl, .int (1 + mv)]) = H3 at G3
    -- kinds, some
    refine ⟨_, rfl, _, rfl, a, 1 + mv, rfl, G3.2, by omega, by omega, fun kd H4 kns nkd g4 ekd klen knd knm => ?_⟩
    refine ⟨_, rfl, _, rfl, a, most, rfl, g4.2, hm0, Nat.lt_of_le_of_lt (show most.natAbs ≤ 12 by omega) (by decide +kernel), fun sv H5 sv0 sv1 g5 => ?_⟩
    refine ⟨_, _, rfl, rfl, ?_⟩
    refine ⟨_, rfl, a, 16, rfl, g5.2, by decide, by decide +kernel, fun s16 H6 s160 s161 g6 => ?_⟩
    refine ⟨_, _, rfl, rfl, .inr ⟨_, rfl, _, _, rfl, rfl, .inr ⟨by split <;> decide, by split <;> decide⟩, s2, fun t2 nt2 => ?_⟩⟩
    obtain ⟨sm, hsm, sm0, sm1⟩ : ∃ sm : Int, (1 + sv) * (if decide (0 < s16) = true then 1 else 0) = sm ∧ 0 ≤ sm ∧ sm ≤ 12 := by
      refine ⟨_, rfl, ?_, ?_⟩ <;> split <;> omega
    refine ⟨t2, _, rfl, .inl (.inl upd_same), rfl, _, _, rfl, _, _, rfl, rfl, ?_⟩
    have nka : kd ≠ a := fun z => by
      obtain ⟨x, y, u, e⟩ := G3.2
      rw [z, e] at nkd
      cases nkd
    have G6 : Gr a H H6 := ((G3.trans g4).trans g5).trans g6
    have ekd6 : H6 kd = some (.lst (nmsV kns)) := g6.1 _ _ nka (g5.1 _ _ nka ekd)
    have nkdH : H kd = none := G3.back G3.2 nkd
    generalize hH7 : upd H6 t2 _ = H7
    have s67 : Same H6 H7 := by
      rw [← hH7]
      exact same_new nt2
    have G7 : Gr a H H7 := G6.trans (Gr.of s67 g6.2)
    have ekd7 := s67 _ _ ekd6
    show tSeq _ _ _ _ _
    dsimp only
    rw [hsm]
    -- the names
    refine ⟨_, rfl, _, rfl, a, sm, rfl, G7.2, sm0, sm1, fun nh H8 nns nnh g8 enh nlen nnd nnm => ?_⟩
    have G8 : Gr a H H8 := G7.trans g8
    have ekd8 : H8 kd = some (.lst (nmsV kns)) := g8.1 _ _ nka ekd7
    have nha : nh ≠ a := fun z => by
      obtain ⟨x, y, u, e⟩ := G7.2
      rw [z, e] at nnh
      cases nnh
    -- the rows
    refine ⟨_, rfl, 1 + mv, rfl, by omega, by omega, fun R nR => ?_⟩
    refine lc_news nR (by omega) (fun v => rfl) (fun H9 rs rlen rnd rnew s9 eR => ?_)
    have G9 : Gr a H H9 := G8.trans (Gr.of s9 g8.2)
    have nRH : H R = none := G8.back G8.2 nR
    have nRa : R ≠ a := fun z => by
      obtain ⟨x, y, u, e⟩ := G8.2
      rw [z, e] at nR
      cases nR
    have rH : ∀ r ∈ rs, H r = none ∧ r ≠ a ∧ r ≠ R ∧ r ≠ kd ∧ r ≠ nh := fun r hr => by
      obtain ⟨x1, x2, x3⟩ := rnew r hr
      refine ⟨G8.back G8.2 x1, (G8.2.ne x1).symm, x2, (ne_of_none ekd8 x1).symm, (ne_of_none enh x1).symm⟩
    -- the makers
    refine ⟨_, rfl, nh, nmsV nns, rfl, SqL.of (s9 _ _ enh), for_it (walk_enum (xs := nmsV nns)) (fun i σ H' => ∃ (y7 y9 y10 y11 y12 : Option V) (ws : List (List Mk)), σ = [some (.ref a), some (.int most), some (.int pl), some (.int (1 + mv)), some (.ref kd), some (.int sm), some (.ref nh), y7, some (.ref R), y9, y10, y11, y12, none, none] ∧
        Gr a H H' ∧ H' kd = some (.lst (nmsV kns)) ∧ H' nh = some (.lst (nmsV nns)) ∧ H' R = some (.lst (rs.map V.ref)) ∧ RowsAt H' rs ws ∧ (ws.flatten.map (·.1)).Perm (nns.take i) ∧ ∀ m ∈ ws.flatten, m.2.length ≤ 2 ∧ ∀ q ∈ m.2, q ∈ kns)
      ⟨none, none, none, none, none, List.replicate (1 + mv).toNat [], rfl, G9, s9 _ _ ekd8, s9 _ _ enh, eR, ⟨?_, rnd, fun k r w e1 e2 => ?_⟩, ?_, ?_⟩ (fun i σ H' hi p => ?_) (fun i x σ H' H'' hi p y => ?_) (fun σ H' p => ?_)⟩
    · rw [List.length_replicate]
      exact rlen
    · have hr := List.mem_of_getElem? e1
      rw [List.getElem?_replicate] at e2
      split at e2
      · cases Option.some.inj e2
        exact ⟨[], (rnew r hr).2.2, .nil⟩
      · cases e2
    · rw [List.flatten_replicate_nil, List.take_zero]
      exact List.Perm.nil
    · intro m hm
      rw [List.flatten_replicate_nil] at hm
      cases hm
    · obtain ⟨_, _, _, _, _, _, _, _, _, e, _⟩ := p
      exact SqL.of e
    · obtain ⟨y7, y9, y10, y11, y12, ws, rfl, gr, ekd', enh', eR', rows, hper, hpt⟩ := p
      obtain ⟨Tt, xi, xn, rfl, nTt, rfl, exi, exn⟩ := y
      cases Option.some.inj exi
      have hi' : i < nns.length := by
        unfold nmsV at hi
        rw [List.length_map] at hi
        exact hi
      have exn' : xn = .str (S nns[i]) := by
        unfold nmsV at exn
        dsimp only at exn
        rw [List.getElem?_map, List.getElem?_eq_getElem hi'] at exn
        exact (Option.some.inj exn).symm
      subst exn'
      refine ⟨Tt, _, rfl, .inl (.inl upd_same), rfl, _, _, rfl, _, _, rfl, rfl, ?_⟩
      have gT : Gr a H (upd H' Tt (.tup [.int (i : Nat), .str (S nns[i])])) := gr.trans (Gr.of (same_new nTt) gr.2)
      have sT : Same H' (upd H' Tt (.tup [.int (i : Nat), .str (S nns[i])])) := same_new nTt
      generalize upd H' Tt (.tup [.int (i : Nat), .str (S nns[i])]) = Ha at gT sT
      -- kind, wide
      refine ⟨_, rfl, _, rfl, a, 1 + mv, rfl, gT.2, by omega, Nat.lt_of_le_of_lt (show (1 + mv).natAbs ≤ 12 by omega) (by decide +kernel), fun ki Hb ki0 ki1 gb => ?_⟩
      refine ⟨s6, fun L2' nL2 => ?_⟩
      refine ⟨_, rfl, a, 6, rfl, gb.2.mono (same_new nL2), by decide, by decide +kernel, fun d7 Hc d70 d71 gc => ?_⟩
      obtain ⟨wv, hwv, wv0, wv1⟩ := ixp d70 d71
      have nL2a : L2' ≠ a := (gb.2.ne nL2).symm
      refine ⟨L2', _, _, _, rfl, rfl, SqL.of (gc.1 _ _ nL2a upd_same), hwv, _, _, rfl, ?_⟩
      have GC : Gr a Ha Hc := (gb.trans (Gr.of (same_new nL2) gb.2)).trans gc
      have ekdC : Hc kd = some (.lst (nmsV kns)) := GC.1 _ _ nka (sT _ _ ekd')
      -- parts
      refine ⟨_, rfl, wv, rfl, by omega, by omega, fun D nD => ?_⟩
      refine lc_draw (a := a) nD GC.2 (by omega) (fun v => ∃ q, q ∈ kns ∧ v = .str (S q)) (fun j Hj hj gj => ?_) (fun x σ H Q Q' f h => f _ _ h) (fun σ H Q Q' f h => f _ _ h) (fun σ H Q Q' f h => ?_) (fun Hd acc gd eD hl hP => ?_)
      · obtain ⟨x0, y0, z0, e0⟩ := gj.2
        refine ⟨rfl, rfl, _, rfl, _, rfl, _, rfl, a, 1 + mv, rfl, gj.2, by omega, Nat.lt_of_le_of_lt (show (1 + mv).natAbs ≤ 12 by omega) (by decide +kernel), fun d Hk d0 d1 gk => ?_⟩
        obtain ⟨n, hn, en⟩ := nms_at (ns := kns) d0 (by omega)
        exact ⟨kd, _, d, _, rfl, rfl, SqL.of (gk.1 _ _ nka (gj.1 _ _ nka ekdC)), en, ⟨n, hn, rfl⟩, gk⟩
      · obtain ⟨v0, e0, v1, e1, v2, e2, a', m', e3, dr', p1, p2, k⟩ := h
        refine ⟨v0, e0, v1, e1, v2, e2, a', m', e3, dr', p1, p2, fun d H3 d0 d1 g3 => ?_⟩
        obtain ⟨z, i, c, v, f1, f2, f3, f4, f5⟩ := k d H3 d0 d1 g3
        exact ⟨z, i, c, v, f1, f2, f3, f4, f _ _ f5⟩
      obtain ⟨qs, rfl, hqs⟩ := nms_of hP
      have hql : qs.length ≤ 2 := by
        unfold nmsV at hl
        rw [List.length_map] at hl
        omega
      refine ⟨D, _, rfl, .inl ⟨SqL.of eD, fun tp ntp => ?_⟩⟩
      have GE : Gr a H' (upd Hd tp (.tup (nmsV qs))) := ((Gr.of sT gr.2).trans (GC.trans gd)).trans (Gr.of (same_new ntp) gd.2)
      have etp : upd Hd tp (.tup (nmsV qs)) tp = some (.tup (nmsV qs)) := upd_same
      generalize upd Hd tp (.tup (nmsV qs)) = He at GE etp
      obtain ⟨M, hM⟩ : ∃ M : L2.St → Hp → Prop, M = fun σ Hx => ∃ (ki' : Int) (tp' : Addr) (qs' : List Nam), σ = [some (.ref a), some (.int most), some (.int pl), some (.int (1 + mv)), some (.ref kd), some (.int sm), some (.ref nh), some (.int (i : Nat)), some (.ref R), some (.str (S nns[i])), some (.int ki'), some (.int wv), some (.ref tp'), none, none] ∧ 0 ≤ ki' ∧ ki' < 1 + mv ∧ Hx tp' = some (.tup (nmsV qs')) ∧ qs'.length ≤ 2 ∧ (∀ q ∈ qs', q ∈ kns) ∧ Gr a H' Hx := ⟨_, rfl⟩
      refine ⟨M, ?_, fun σ1 Hx h1 => ?_⟩
      · refine ⟨_, rfl, _, _, rfl, rfl, _, rfl, ite2 (fun c => ?_) (fun c => ?_)⟩
        · refine ⟨_, rfl, _, rfl, _, _, rfl, rfl, _, rfl, ite2 (fun c => ?_) (fun c => ?_)⟩
          · refine ⟨_, rfl, s0, fun t0 nt0 => ⟨_, _, rfl, ?_⟩⟩
            show M _ _
            rw [hM]
            exact ⟨_, t0, [], rfl, by omega, of_decide_eq_true c, upd_same, by decide, (fun _ h => nomatch h), GE.trans (Gr.of (same_new nt0) GE.2)⟩
          · show M _ _
            rw [hM]
            exact ⟨ki, tp, qs, rfl, ki0, ki1, etp, hql, hqs, GE⟩
        · show M _ _
          rw [hM]
          exact ⟨ki, tp, qs, rfl, ki0, ki1, etp, hql, hqs, GE⟩
      rw [hM] at h1
      obtain ⟨k1, tp1, qs1, rfl, k10, k11, etp1, hql1, hqs1, gx⟩ := h1
      clear hM M
      have eRx : Hx R = some (.lst (rs.map V.ref)) := gx.1 _ _ nRa eR'
      have hk1 : k1.toNat < rs.length := by omega
      have eat : atI (rs.map V.ref) k1 = some (.ref rs[k1.toNat]) := at_of (j := k1.toNat) (by omega) (by rw [List.getElem?_map, List.getElem?_eq_getElem hk1]; rfl)
      have hrm : rs[k1.toNat] ∈ rs := List.getElem_mem hk1
      obtain ⟨r1, r2, r3, r4, r5⟩ := rH _ hrm
      have ktx : KT H' Hx := KT.gr gr.2 gx
      have rowsx : RowsAt Hx rs ws := rows.mono ktx fun r hr vs e => gx.1 _ _ (rH r hr).2.1 e
      have hkw : k1.toNat < ws.length := by rw [← rows.1]; exact hk1
      obtain ⟨vs, evs, hvs⟩ := rowsx.2.2 k1.toNat rs[k1.toNat] ws[k1.toNat] (List.getElem?_eq_getElem hk1) (List.getElem?_eq_getElem hkw)
      refine ⟨_, rfl, _, rfl, R, _, k1, _, rfl, rfl, SqL.of eRx, eat, .inl ⟨rfl, _, SqL.of evs⟩, ?_⟩
      refine ⟨_, rfl, _, rfl, s2, fun tm ntm => ?_⟩
      have sM : Same Hx (upd Hx tm (.tup [.str (S nns[i]), .ref tp1])) := same_new ntm
      have em : upd Hx tm (.tup [.str (S nns[i]), .ref tp1]) tm = some (.tup [.str (S nns[i]), .ref tp1]) := upd_same
      generalize upd Hx tm (.tup [.str (S nns[i]), .ref tp1]) = Hm at sM em
      have hfl : ws.flatten.length = i := by
        have := hper.length_eq
        rw [List.length_map, List.length_take] at this
        omega
      have ewk : ws[k1.toNat]? = some ws[k1.toNat] := List.getElem?_eq_getElem hkw
      have hvl : vs.length ≤ 12 := by
        rw [hvs.length]
        have : (ws[k1.toNat]).length ≤ ws.flatten.length := (List.sublist_flatten_of_mem (List.getElem_mem hkw)).length_le
        omega
      refine ⟨rs[k1.toNat], _, _, rfl, rfl, sM _ _ evs, Nat.lt_of_le_of_lt hvl (by decide), ?_⟩
      have rowsm : RowsAt Hm rs ws := rowsx.mono (KT.of sM) fun r hr vs e => sM _ _ e
      have hmk : MkAt Hm (.ref tm) (nns[i], qs1) := ⟨tm, tp1, rfl, em, sM _ _ etp1⟩
      refine ⟨_, _, _, _, _, ws.set k1.toNat (ws[k1.toNat] ++ [(nns[i], qs1)]), rfl, ?_, ?_, ?_, ?_, rowsm.add (List.getElem?_eq_getElem hk1) ewk (sM _ _ evs) (Paired.mapP hvs fun _ _ z => z.mono (KT.of sM)) hmk, ?_, ?_⟩
      · have gm := (gr.trans gx).trans (Gr.of sM gx.2)
        refine ⟨fun b o nb e => ?_, ?_⟩
        · rw [upd_ne (ne_of_none e r1)]
          exact gm.1 _ _ nb e
        · obtain ⟨x, y, z, e⟩ := gm.2
          exact ⟨x, y, z, by rw [upd_ne r2.symm]; exact e⟩
      · rw [upd_ne r4.symm]
        exact sM _ _ (gx.1 _ _ nka ekd')
      · rw [upd_ne r5.symm]
        exact sM _ _ (gx.1 _ _ nha enh')
      · rw [upd_ne r3.symm]
        exact sM _ _ eRx
      · have p1 := (perm_set (x := (nns[i], qs1)) ewk).map (·.1)
        refine p1.trans ?_
        rw [List.map_append, List.take_add_one, List.getElem?_eq_getElem hi']
        exact List.Perm.append_right _ hper
      · intro m hm
        have := (perm_set (x := (nns[i], qs1)) ewk).mem_iff.mp hm
        rcases List.mem_append.mp this with h | h
        · exact hpt m h
        · rw [List.mem_singleton.mp h]
          exact ⟨hql1, hqs1⟩
    · obtain ⟨y7, y9, y10, y11, y12, ws, rfl, gr, ekd', enh', eR', rows, hper, hpt⟩ := p
      have hnl : (nmsV nns).length = nns.length := by
        unfold nmsV
        rw [List.length_map]
      rw [hnl, List.take_length] at hper
      have hkw : kns.length = ws.length := by
        have := rows.1
        omega
      have ezf : (kns.zip ws).map (·.1) = kns := List.map_fst_zip (Nat.le_of_eq hkw)
      have ezs : (kns.zip ws).map (·.2) = ws := List.map_snd_zip (Nat.le_of_eq hkw.symm)
      have emk : mks (kns.zip ws) = ws.flatten := by
        unfold mks
        rw [List.flatMap_def, ezs]
      have hzl : (kns.zip ws).length = kns.length := by
        rw [List.length_zip]
        omega
      have hgood : Good (kns.zip ws) := ⟨by omega, by omega, by rw [ezf]; exact knd, by rw [ezf]; exact knm, by rw [emk]; exact hper.nodup_iff.mpr nnd, by rw [emk]; exact fun m hm => nnm m (hper.mem_iff.mp hm), by
          rw [emk]
          have := hper.length_eq
          rw [List.length_map] at this
          omega, by rw [emk, ezf]; exact hpt⟩
      refine ⟨_, rfl, _, rfl, kd, R, _, _, rfl, SqL.of ekd', SqL.of eR', fun D nD => ?_⟩
      refine lc_it (walk_zip (n := kns.length) (xs := nmsV kns) (ys := rs.map V.ref) (by unfold nmsV; rw [List.length_map, List.length_map]; omega)) (fun i Hx => Same H' Hx ∧ ∃ acc, Hx D = some (.lst acc) ∧ Paired (KdAt Hx) acc ((kns.zip ws).take i)) ⟨same_new nD, [], upd_same, by rw [List.take_zero]; exact .nil⟩ (fun i Hx hi p => ⟨SqL.of (p.1 _ _ ekd'), SqL.of (p.1 _ _ eR')⟩) (fun i x Hx Hy hi p y => ?_) (fun Hx p => ?_)
      · obtain ⟨sx, acc, eD, hac⟩ := p
        obtain ⟨Tt, xk, xr, rfl, nTt, rfl, exk, exr⟩ := y
        have hir : i < rs.length := by omega
        have hiw : i < ws.length := by omega
        have exk' : xk = .str (S kns[i]) := by
          unfold nmsV at exk
          dsimp only at exk
          rw [List.getElem?_map, List.getElem?_eq_getElem hi] at exk
          exact (Option.some.inj exk).symm
        have exr' : xr = .ref rs[i] := by
          dsimp only at exr
          rw [List.getElem?_map, List.getElem?_eq_getElem hir] at exr
          exact (Option.some.inj exr).symm
        subst exk' exr'
        refine ⟨Tt, _, rfl, .inl (.inl upd_same), rfl, _, _, rfl, _, _, rfl, rfl, rfl, ?_⟩
        have sT : Same Hx (upd Hx Tt (.tup [.str (S kns[i]), .ref rs[i]])) := same_new nTt
        generalize upd Hx Tt (.tup [.str (S kns[i]), .ref rs[i]]) = Ha at sT
        obtain ⟨vs, evs, hvs⟩ := rows.2.2 i rs[i] ws[i] (List.getElem?_eq_getElem hir) (List.getElem?_eq_getElem hiw)
        unfold tYes
        refine iteT ?_
        refine ⟨_, rfl, _, rfl, rs[i], vs, rfl, .inl ⟨SqL.of (sT _ _ (sx _ _ evs)), fun tr ntr => ⟨s2, fun tk ntk => ?_⟩⟩⟩
        have s3' : Same Hx (upd (upd Ha tr (.tup vs)) tk (.tup [.str (S kns[i]), .ref tr])) := (sT.trans (same_new ntr)).trans (same_new ntk)
        have etr : upd (upd Ha tr (.tup vs)) tk (.tup [.str (S kns[i]), .ref tr]) tr = some (.tup vs) := (same_new ntk) _ _ upd_same
        have etk : upd (upd Ha tr (.tup vs)) tk (.tup [.str (S kns[i]), .ref tr]) tk = some (.tup [.str (S kns[i]), .ref tr]) := upd_same
        generalize upd (upd Ha tr (.tup vs)) tk (.tup [.str (S kns[i]), .ref tr]) = Hb at s3' etr etk
        refine ⟨acc, s3' _ _ eD, ?_, ?_, acc ++ [.ref tk], upd_same, ?_⟩
        · rw [hac.length, List.length_take]
          exact Nat.lt_of_le_of_lt (show _ ≤ 1000 by omega) (by decide)
        · exact fun b o e => by
            rw [upd_ne (ne_of_none e nD)]
            exact s3' _ _ (sx _ _ e)
        · have kt : KT Hb (upd Hb D (.lst (acc ++ [.ref tk]))) := KT.lst (s3' _ _ eD)
          rw [List.take_add_one, List.getElem?_eq_getElem (show i < (kns.zip ws).length by omega), List.getElem_zip]
          refine paired_snoc (Paired.mapP hac fun _ _ z => (z.mono (KT.of s3')).mono kt) ⟨tk, tr, vs, rfl, kt _ _ etk, kt _ _ etr, Paired.mapP hvs fun _ _ z => (z.mono (KT.of (sx.trans s3'))).mono kt⟩
      · obtain ⟨sx, acc, eD, hac⟩ := p
        rw [← hzl, List.take_length] at hac
        refine ⟨D, acc, rfl, .inl ⟨SqL.of eD, fun p np => ?_⟩⟩
        refine q p _ (kns.zip ws) ((gr.trans (Gr.of sx gr.2)).trans (Gr.of (same_new np) (gr.2.mono sx))) ⟨acc, upd_same, Paired.mapP hac fun _ _ z => z.mono (KT.of (same_new np))⟩ hgood
end

theorem nm_short {n : Nam} (h : nmB (S n) = true) : (S n).length ≤ 10000 := by
  have := (nmB_S.mp h).2.1
  rw [S_len]
  omega
theorem nodup_take {α : Type} {l : List α} {i : Nat} {x : α} (h : l.Nodup) (e : l[i]? = some x) : x ∉ l.take i := fun hm => by
  obtain ⟨j, hj, ej⟩ := List.getElem_of_mem hm
  rw [List.length_take] at hj
  rw [List.getElem_take] at ej
  have := nd_ix h (i := j) (j := i) (x := x) (by rw [List.getElem?_eq_getElem (by omega), ej]) e
  omega
theorem walk_it {J : It} {n : Nat} {G : Hp → Prop} {Y : Nat → Hp → V → Hp → Prop} (wk : Walk J n G Y) {step : V → Hp → (Hp → Prop) → Prop} {Hs : Hp} {Qd : Hp → Prop} (Pv : Nat → Hp → Prop) (h0 : Pv 0 Hs) (hG : ∀ i H, i ≤ n → Pv i H → G H)
    (hs : ∀ i x H H', i < n → Pv i H → Y i H x H' → step x H' (Pv (i + 1))) (hd : ∀ H, Pv n H → Qd H) :
    ∃ W : Nat → Nat → Hp → Prop, (∃ m, W 0 m Hs) ∧ ∀ i m H, W i m H →
      (J.stop i H ∧ Qd H) ∨ (J.go i H ∧ ∃ Nx : Hp → Prop, (∀ H', Nx H' → ∃ m', m' < m ∧ W (i + 1) m' H') ∧ ∀ x H', J.yld i H x H' → step x H' Nx) := by
  refine ⟨fun i m H => m = n - i ∧ i ≤ n ∧ Pv i H, ⟨n, by simp, Nat.zero_le _, h0⟩, ?_⟩
  rintro i m H ⟨rfl, hi, p⟩
  have q := hG i H hi p
  by_cases hlt : i < n
  · exact .inr ⟨wk.goes i H hlt q, Pv (i + 1), fun H' p' => ⟨n - (i + 1), by omega, rfl, hlt, p'⟩, fun x H' y => hs i x H H' hlt p (wk.yields i H x H' hlt q y)⟩
  · have e : i = n := by omega
    subst e
    exact .inl ⟨wk.stops H q, hd H p⟩
theorem mks_take {wd : Wood} {i : Nat} {k : Nam × List Mk} (e : wd[i]? = some k) : mks (wd.take (i + 1)) = mks (wd.take i) ++ k.2 := by
  unfold mks
  rw [List.take_add_one, e, List.flatMap_append]
  simp
theorem mks_le {wd : Wood} {i : Nat} : (mks (wd.take i)).length ≤ (mks wd).length := by
  have h := congrArg (fun l => (mks l).length) (List.take_append_drop i wd)
  unfold mks at h ⊢
  rw [List.flatMap_append, List.length_append] at h
  omega

/-! ### the table of makers -/
theorem walk_enumT {K : PySem.W.Frag} {a : Addr} {xs : List V} : Walk (EnT.IteT K a xs.length) xs.length (fun H => SqT K H a xs) (YPair (fun i => some (.int (i : Nat))) (fun i => xs[i]?)) := by
  refine ⟨fun i H hi q => ⟨xs, xs[i], q, rfl, List.getElem?_eq_getElem hi⟩, fun H q => ⟨xs, q, rfl, Nat.le_refl _⟩, fun i H v H' hi q y => ?_⟩
  obtain ⟨T, x, rfl, nT, rfl, fx⟩ := y
  exact ⟨T, _, x, rfl, nT, rfl, rfl, fx xs q⟩
abbrev Ky (n : Nam) : Key := .inr (S n)
theorem Ky_inj {a b : Nam} (h : Ky a = Ky b) : a = b := S_inj.mp (Sum.inr.inj h)
/-- the numbers of the kinds -/
def nums : Nat → List Nam → List (Key × V)
  | _, [] => []
  | i, n :: r => (Ky n, .int (i : Nat)) :: nums (i + 1) r
theorem nums_len : ∀ {i : Nat} {ks : List Nam}, (nums i ks).length = ks.length
  | _, [] => rfl
  | i, n :: r => by
    show (nums (i + 1) r).length + 1 = r.length + 1
    rw [nums_len]
theorem nums_val {q : Nam} : ∀ {i : Nat} {ks : List Nam}, valV (nums i ks) (Ky q) = if q ∈ ks then some (.int ((i + ks.idxOf q : Nat) : Int)) else none
  | _, [] => rfl
  | i, n :: r => by
    show valV ((Ky n, .int (i : Nat)) :: nums (i + 1) r) (Ky q) = _
    by_cases h : n = q
    · subst h
      rw [valV_pos rfl, if_pos List.mem_cons_self, List.idxOf_cons_self]
      rfl
    · rw [valV_neg (fun z => h (Ky_inj z)), nums_val]
      by_cases hq : q ∈ r
      · rw [if_pos hq, if_pos (List.mem_cons_of_mem _ hq)] 
        have : (n :: r).idxOf q = r.idxOf q + 1 := by
          rw [List.idxOf_cons, show (n == q) = false from beq_false_of_ne h]
          rfl
        rw [this]
        congr 2
        omega
      · rw [if_neg hq, if_neg (fun z => by
          rcases List.mem_cons.mp z with z | z
          · exact h z.symm
          · exact hq z)]
theorem nums_snoc {q : Nam} : ∀ {i : Nat} {ks : List Nam}, nums i (ks ++ [q]) = nums i ks ++ [(Ky q, .int ((i + ks.length : Nat) : Int))]
  | _, [] => rfl
  | i, n :: r => by
    show (Ky n, V.int (i : Nat)) :: nums (i + 1) (r ++ [q]) = (Ky n, .int (i : Nat)) :: (nums (i + 1) r ++ [(Ky q, .int ((i + (r.length + 1) : Nat) : Int))])
    rw [nums_snoc, show i + 1 + r.length = i + (r.length + 1) by omega]
theorem putK_new {kvs : List (Key × V)} {k : Key} {v : V} (h : valV kvs k = none) : putK kvs k v = kvs ++ [(k, v)] := by
  unfold putK
  rw [valV_any, h]
  rfl
/-- the makers with their kinds' numbers -/
def ents (ks : List Nam) (w : Wood) : List (Mk × Nat) := w.flatMap fun k => k.2.map fun m => (m, ks.idxOf k.1)
theorem ents_take {ks : List Nam} {wd : Wood} {i : Nat} {k : Nam × List Mk} (e : wd[i]? = some k) : ents ks (wd.take (i + 1)) = ents ks (wd.take i) ++ k.2.map fun m => (m, ks.idxOf k.1) := by
  unfold ents
  rw [List.take_add_one, e, List.flatMap_append]
  simp
theorem ents_fst {ks : List Nam} {w : Wood} : (ents ks w).map (·.1) = mks w := by
  unfold ents mks
  rw [List.map_flatMap]
  congr 1
  funext k
  rw [List.map_map]
  exact List.map_id' _
def prts (ks : List Nam) (ps : List Nam) : List V := ps.map fun q => .int ((ks.idxOf q : Nat) : Int)
def RowAt (H : Hp) (ks : List Nam) (kv : Key × V) (e : Mk × Nat) : Prop := ∃ t u, kv = (Ky e.1.1, .ref t) ∧ H t = some (.tup [.int (e.2 : Nat), .ref u]) ∧ H u = some (.tup (prts ks e.1.2))
theorem RowAt.mono {H H' : Hp} {ks : List Nam} {kv : Key × V} {e : Mk × Nat} (k : KT H H') (h : RowAt H ks kv e) : RowAt H' ks kv e := by
  obtain ⟨t, u, e1, h1, h2⟩ := h
  exact ⟨t, u, e1, k _ _ h1, k _ _ h2⟩
theorem row_none {H : Hp} {ks : List Nam} {n : Nam} : ∀ {kvs : List (Key × V)} {es : List (Mk × Nat)}, Paired (RowAt H ks) kvs es → n ∉ es.map (·.1.1) → valV kvs (Ky n) = none
  | _, _, .nil, _ => rfl
  | _, _, .cons r t, hn => by
    obtain ⟨a, b, rfl, _, _⟩ := r
    rw [valV_neg (fun z => hn (by
      rw [List.map_cons, ← Ky_inj z]
      exact List.mem_cons_self))]
    exact row_none t fun z => hn (List.mem_cons_of_mem _ z)
theorem row_some {H : Hp} {ks : List Nam} : ∀ {kvs : List (Key × V)} {es : List (Mk × Nat)}, Paired (RowAt H ks) kvs es → (es.map (·.1.1)).Nodup → ∀ e ∈ es, ∃ t u, valV kvs (Ky e.1.1) = some (.ref t) ∧ H t = some (.tup [.int (e.2 : Nat), .ref u]) ∧ H u = some (.tup (prts ks e.1.2))
  | _, _, .nil, _, e, he => nomatch he
  | _, _, .cons r t, hn, e, he => by
    obtain ⟨a, b, rfl, h1, h2⟩ := r
    rcases List.mem_cons.mp he with rfl | he
    · exact ⟨a, b, valV_pos rfl, h1, h2⟩
    · have hn' := List.nodup_cons.mp hn
      rw [valV_neg (fun z => hn'.1 (by
        dsimp only
        rw [Ky_inj z]
        exact List.mem_map.mpr ⟨e, he, rfl⟩))]
      exact row_some t hn'.2 e he
theorem row_keys {H : Hp} {ks : List Nam} : ∀ {kvs : List (Key × V)} {es : List (Mk × Nat)}, Paired (RowAt H ks) kvs es → kvs.map (fun kv => kV kv.1) = nmsV (es.map (·.1.1))
  | _, _, .nil => rfl
  | _, _, .cons r t => by
    obtain ⟨a, b, rfl, _, _⟩ := r
    have := row_keys t
    unfold nmsV at this ⊢
    rw [List.map_cons, List.map_cons, List.map_cons, this]
    rfl
theorem KT.dict {H : Hp} {p : Addr} {xs ys : List (Key × V)} (h : H p = some (.dK xs)) : KT H (upd H p (.dK ys)) := fun q zs e => by
  rw [upd_ne (ne_of e h (by intro z; cases z))]
  exact e
/-- a maker's name is not ahead of it -/
theorem new_name {wd : Wood} {i j : Nat} {k : Nam × List Mk} {m : Mk} (hn : ((mks wd).map (·.1)).Nodup) (e : wd[i]? = some k) (em : k.2[j]? = some m) : m.1 ∉ (mks (wd.take i) ++ k.2.take j).map (·.1) := by
  have h : ((mks (wd.take (i + 1))).map (·.1)).Nodup := by
    have hs : ((mks (wd.take (i + 1))).map (·.1)).Sublist ((mks wd).map (·.1)) := by
      refine List.Sublist.map _ ?_
      have h := congrArg mks (List.take_append_drop (i + 1) wd)
      unfold mks at h ⊢
      rw [List.flatMap_append] at h
      rw [← h]
      exact List.sublist_append_left _ _
    exact hn.sublist hs
  rw [mks_take e] at h
  have e2 : ((mks (wd.take i) ++ k.2).map (·.1))[(mks (wd.take i)).length + j]? = some m.1 := by
    rw [List.getElem?_map, List.getElem?_append_right (Nat.le_add_right _ _), Nat.add_sub_cancel_left, em]
    rfl
  have := nodup_take h e2
  rw [← List.map_take, List.take_append, List.take_of_length_le (Nat.le_add_right _ _), Nat.add_sub_cancel_left] at this
  exact this
section
variable {P : Program} {w : World} {K : PySem.W.Frag} {mg : Str → Option Value} {base : Heap}
abbrev kds (wd : Wood) : List Nam := wd.map (·.1)
def spTab : Sp := fun vs H Q _ => ∃ (p : Addr) (wd : Wood), vs = [.ref p] ∧ WdAt H p wd ∧ Good wd ∧ ∀ (l : Addr) (H' : Hp) (kvs : List (Key × V)), H l = none → Same H H' → H' l = some (.dK kvs) → Paired (RowAt H' (kds wd)) kvs (ents (kds wd) wd) → Q (.ref l) H'
theorem ok_table (T : Tx P K mg) : FnOk P w K mg base CX0 1 T.f_table T.fd_table ["wood"] spTab := by
  refine T.F_table.ok sc_table (fun vs H Q E h => ?_) (fun cdv A outer s H vs Q E hr h => ?_)
  · obtain ⟨a, b, rfl, _⟩ := h
    rfl
  · obtain ⟨p, wd, rfl, ⟨vs, ep, hw⟩, good, q⟩ := h
    refine ⟨_, (pss_cons (ps_set (i := 3) sc_table.nd rfl (.inr rfl) (pe_dc (own := [("number", 7), ("name", 1), ("makers", 2)]) (by rfl) sc_table.nd (EnT.pi_enumT (by rfl) T.m_enumerate (pa_cons (pv 0) pa_nil)) (blkOk_by (own := [("number", 7), ("name", 1), ("makers", 2)]) (N := ["wood", "name", "makers", "numbers", "table", "kind", "parts", "number", "part"]) (sc := defScope st_table) (by decide +kernel)) (fun _ _ _ _ _ => (KX.pg_tupK K (n := 2) rfl (pgs_cons (pg_name (i := 7) sc_table.nd rfl (.inl rfl)) (pgs_cons (KX.pg_tupK K (n := 2) rfl (pgs_cons (pg_name (i := 1) sc_table.nd rfl (.inl rfl)) (pgs_cons (pg_name (i := 2) sc_table.nd rfl (.inl rfl)) pgs_nil))) pgs_nil)))) (fun _ _ _ _ _ => pts_nil) (fun _ _ _ _ _ => (pv 1)) (fun _ _ _ _ _ => (pv 7)))) (pss_cons (ps_set (i := 4) sc_table.nd rfl (.inl rfl) pe_dnewK) (pss_cons (ps_for PassesOwn.never rfl (pi_tup (pv 0)) (pg_tup rfl (pgs_cons (pg_name (i := 5) sc_table.nd rfl (.inl rfl)) (pgs_cons (pg_name (i := 2) sc_table.nd rfl (.inl rfl)) pgs_nil))) (pss_one (ps_for PassesOwn.never rfl (pi_tup (pv 2)) (pg_tup rfl (pgs_cons (pg_name (i := 1) sc_table.nd rfl (.inl rfl)) (pgs_cons (pg_name (i := 6) sc_table.nd rfl (.inl rfl)) pgs_nil))) (pss_one (ps_dput (KX.hu hr) (pv 4) (pv 1) (pe_tup (pa_cons (pe_dget (KX.hu hr) (pv 3) (pv 5) (fun _ _ => rfl)) (pa_cons (pe_callTy call_tuple_of (by rfl) T.m_tuple (by decide +kernel) (pa_cons (pe_lc (own := [("part", 8)]) (by rfl) sc_table.nd (pi_tup (pv 6)) (blkOk_by (own := [("part", 8)]) (N := ["wood", "name", "makers", "numbers", "table", "kind", "parts", "number", "part"]) (sc := defScope st_table) (by decide +kernel)) (fun _ _ _ _ _ => (pg_name (i := 8) sc_table.nd rfl (.inl rfl))) (fun _ _ _ _ _ => pts_nil) (fun _ _ _ _ _ => (pe_dget (KX.hu hr) (pv 3) (pv 8) (fun _ _ => rfl)))) pa_nil)) pa_nil))) (by rfl)))))) (pss_one (ps_ret (pv 4)))))), ?_⟩
    have hkl : (kds wd).length = wd.length := List.length_map _
    -- the kinds' numbers
    refine ⟨_, rfl, p, vs, rfl, .inl (.inl ep), fun N nN => ?_⟩
    refine walk_it (walk_enumT (xs := vs)) (fun i Hx => Same H Hx ∧ Hx N = some (.dK (nums 0 ((kds wd).take i)))) ⟨same_new nN, upd_same⟩ (fun i Hx hi P => .inl (.inl (P.1 _ _ ep))) (fun i x Hx Hy hi P y => ?_) (fun Hx P => ?_)
    · obtain ⟨sx, eN⟩ := P
      obtain ⟨Tt, xi, xn, rfl, nTt, rfl, exi, exn⟩ := y
      cases Option.some.inj exi
      obtain ⟨⟨nm, ms⟩, enm, tk, tt, mvs, rfl, etk, ett, hms⟩ := paired_at hw exn
      have emap : (kds wd)[i]? = some nm := by
        rw [List.getElem?_map, enm]
        rfl
      have sT := same_new (o := .tup [.int (i : Nat), .ref tk]) nTt
      refine ⟨Tt, _, rfl, .inl (.inl upd_same), rfl, _, _, rfl, _, _, rfl, tk, _, rfl, .inl (.inl (sT _ _ (sx _ _ etk))), rfl, _, _, rfl, _, _, rfl, rfl, rfl, rfl, ?_⟩
      unfold tYes
      refine iteT ?_
      refine ⟨_, rfl, _, rfl, _, Ky nm, rfl, sT _ _ eN, ?_, fun b o e => ?_, ?_⟩
      · rw [nums_len, List.length_take]
        exact Nat.lt_of_le_of_lt (show _ ≤ 1000 by have := good.few; omega) (by decide)
      · rw [upd_ne (ne_of_none e nN)]
        exact sT _ _ (sx _ _ e)
      · have hil : i < (kds wd).length := (List.getElem?_eq_some_iff.mp emap).1
        rw [upd_same, putK_new (by rw [nums_val, if_neg (nodup_take good.kinds emap)]), List.take_add_one, emap]
        show _ = some (HO.dK (nums 0 ((kds wd).take i ++ [nm])))
        rw [nums_snoc, List.length_take, Nat.min_eq_left (by omega), Nat.zero_add]
    · obtain ⟨sx, eN⟩ := P
      rw [hw.length, ← hkl, List.take_length] at eN
      -- the table
      intro Tb nTb
      have nTbH : H Tb = none := Same.free sx nTb
      refine ⟨_, rfl, p, rfl, ⟨vs, .inl (.inl ((same_new nTb) _ _ (sx _ _ ep)))⟩, for_it (walk_tup (xs := vs)) (fun i σ H' => ∃ (y1 y2 y5 y6 : Option V) (kvs : List (Key × V)), σ = [some (.ref p), y1, y2, some (.ref N), some (.ref Tb), y5, y6, none, none] ∧ Same Hx H' ∧ H' Tb = some (.dK kvs) ∧ Paired (RowAt H' (kds wd)) kvs (ents (kds wd) (wd.take i)))
        ⟨none, none, none, none, [], rfl, same_new nTb, upd_same, .nil⟩ (fun i σ H' hi P => ?_) (fun i x σ H' H'' hi P y => ?_) (fun σ H' P => ?_)⟩
      · obtain ⟨_, _, _, _, _, _, s1, _⟩ := P
        exact .inl (.inl (s1 _ _ (sx _ _ ep)))
      · obtain ⟨y1, y2, y5, y6, kvs, rfl, s1, eT, hkv⟩ := P
        obtain ⟨rfl, ex⟩ := y
        obtain ⟨⟨nm, ms⟩, enm, tk, tt, mvs, rfl, etk, ett, hms⟩ := paired_at hw ex
        have emap : (kds wd)[i]? = some nm := by
          rw [List.getElem?_map, enm]
          rfl
        have hkm := List.mem_of_getElem? emap
        refine ⟨tk, _, rfl, .inl (.inl (s1 _ _ (sx _ _ etk))), rfl, _, _, rfl, _, _, rfl, rfl, ?_⟩
        refine ⟨_, rfl, tt, rfl, ⟨mvs, .inl (.inl (s1 _ _ (sx _ _ ett)))⟩, for_it (walk_tup (xs := mvs)) (fun j σ H' => ∃ (y1 y6 : Option V) (kvs : List (Key × V)), σ = [some (.ref p), y1, some (.ref tt), some (.ref N), some (.ref Tb), some (.str (S nm)), y6, none, none] ∧ Same Hx H' ∧ H' Tb = some (.dK kvs) ∧ Paired (RowAt H' (kds wd)) kvs (ents (kds wd) (wd.take i) ++ (ms.take j).map fun m => (m, (kds wd).idxOf nm)))
          ⟨y1, y6, kvs, rfl, s1, eT, by rw [List.take_zero, List.map_nil, List.append_nil]; exact hkv⟩ (fun j σ H' hj P => ?_) (fun j x σ H' H'' hj P y => ?_) (fun σ H' P => ?_)⟩
        · obtain ⟨_, _, _, _, s2, _⟩ := P
          exact .inl (.inl (s2 _ _ (sx _ _ ett)))
        · obtain ⟨y1, y6, kvs, rfl, s2, eT, hkv⟩ := P
          obtain ⟨rfl, ex'⟩ := y
          obtain ⟨⟨mn, ps⟩, emk, mk, mt, rfl, emk1, emt⟩ := paired_at hms ex'
          have hmem : (mn, ps) ∈ mks wd := by
            unfold mks
            exact List.mem_flatMap.mpr ⟨_, List.mem_of_getElem? enm, List.mem_of_getElem? emk⟩
          obtain ⟨hp2, hpk⟩ := good.parts _ hmem
          dsimp only at hp2 hpk
          refine ⟨mk, _, rfl, .inl (.inl (s2 _ _ (sx _ _ emk1))), rfl, _, _, rfl, _, _, rfl, rfl, ?_⟩
          have eN2 := s2 _ _ eN
          have emt2 := s2 _ _ (sx _ _ emt)
          have hpl : (nmsV ps).length = ps.length := by
            unfold nmsV
            rw [List.length_map]
          have dg : ∀ {Hq : Hp} {x : Nam}, Hq N = some (.dK (nums 0 (kds wd))) → x ∈ kds wd → DGet Hq N (.str (S x)) (some (.int (((kds wd).idxOf x : Nat) : Int))) := fun {Hq x} e hx => by
            have := DGet.k (k := Ky x) e
            rw [nums_val, if_pos hx, Nat.zero_add] at this
            exact this
          refine ⟨_, rfl, _, rfl, N, _, rfl, dg eN2 hkm, ?_⟩
          refine ⟨_, rfl, mt, rfl, ⟨_, .inl (.inl emt2)⟩, fun D nD => ?_⟩
          refine lc_pure (walk_tup (xs := nmsV ps)) nD (prts (kds wd) ps) (by unfold prts; rw [List.length_map, hpl]) (by rw [hpl]; omega) (fun Hq sq => .inl (.inl (sq _ _ emt2))) (fun j x y H3 H4 hy s3 hY => ?_) (fun x σ H Q Q' f h => f _ _ h) (fun σ H Q Q' f h => f _ _ h) (fun σ H Q Q' f h => ?_) (fun H3 s3 e3 => ?_)
          · obtain ⟨rfl, ex⟩ := hY
            unfold nmsV at ex
            unfold prts at hy
            rw [List.getElem?_map] at ex hy
            cases epj : ps[j]? with
            | none =>
              rw [epj] at ex
              cases ex
            | some pj =>
              rw [epj] at ex hy
              cases Option.some.inj ex
              cases Option.some.inj hy
              exact ⟨rfl, rfl, _, rfl, _, rfl, N, _, rfl, dg (s3 _ _ eN2) (hpk pj (List.mem_of_getElem? epj)), rfl, Same.refl _⟩
          · obtain ⟨v1, e1, v2, e2, z1, z2, z3, z4, z5⟩ := h
            exact ⟨v1, e1, v2, e2, z1, z2, z3, z4, f _ _ z5⟩
          refine ⟨D, _, rfl, .inl ⟨SqL.of e3, fun u nu => ?_⟩⟩
          refine ⟨B14.s2, fun t nt => ?_⟩
          have s4 : Same H'' (upd (upd H3 u (.tup (prts (kds wd) ps))) t (.tup [.int (((kds wd).idxOf nm : Nat) : Int), .ref u])) := (s3.trans (same_new nu)).trans (same_new nt)
          have eu : upd (upd H3 u (.tup (prts (kds wd) ps))) t (.tup [.int (((kds wd).idxOf nm : Nat) : Int), .ref u]) u = some (.tup (prts (kds wd) ps)) := (same_new nt) _ _ upd_same
          have et : upd (upd H3 u (.tup (prts (kds wd) ps))) t (.tup [.int (((kds wd).idxOf nm : Nat) : Int), .ref u]) t = some (.tup [.int (((kds wd).idxOf nm : Nat) : Int), .ref u]) := upd_same
          generalize upd (upd H3 u (.tup (prts (kds wd) ps))) t (.tup [.int (((kds wd).idxOf nm : Nat) : Int), .ref u]) = H5 at s4 eu et
          have eT5 := s4 _ _ eT
          have hnew : valV kvs (Ky mn) = none := by
            refine row_none hkv ?_
            have := new_name good.makers enm emk
            rw [List.map_append, List.map_map]
            rw [List.map_append, ← ents_fst (ks := kds wd), List.map_map] at this
            exact this
          have hkl5 : kvs.length ≤ 12 := by
            have h1 := mks_le (wd := wd) (i := i + 1)
            rw [mks_take enm, List.length_append] at h1
            dsimp only at h1
            have h2 := good.many
            rw [hkv.length, List.length_append, List.length_map, List.length_take, show (ents (kds wd) (wd.take i)).length = (mks (wd.take i)).length by rw [← ents_fst (ks := kds wd), List.length_map]]
            omega
          refine ⟨_, rfl, _, rfl, Tb, _, rfl, DPut.k (k := Ky mn) eT5 (Nat.lt_of_le_of_lt hkl5 (by decide)), ?_⟩
          rw [putK_new hnew]
          refine ⟨_, _, kvs ++ [(Ky mn, .ref t)], rfl, fun b o e => ?_, upd_same, ?_⟩
          · rw [upd_ne (ne_of_none e nTb)]
            exact s4 _ _ (s2 _ _ e)
          · have kt : KT H5 (upd H5 Tb (.dK (kvs ++ [(Ky mn, .ref t)]))) := KT.dict eT5
            rw [List.take_add_one, emk]
            show Paired _ _ (ents (kds wd) (wd.take i) ++ List.map _ (ms.take j ++ [(mn, ps)]))
            rw [List.map_append, ← List.append_assoc]
            exact paired_snoc (Paired.mapP hkv fun _ _ z => (z.mono (KT.of s4)).mono kt) ⟨t, u, rfl, kt _ _ et, kt _ _ eu⟩
        · obtain ⟨y1, y6, kvs, rfl, s2, eT, hkv⟩ := P
          refine ⟨_, _, _, _, kvs, rfl, s2, eT, ?_⟩
          rw [ents_take enm]
          rw [hms.length, List.take_length] at hkv
          exact hkv
      · obtain ⟨y1, y2, y5, y6, kvs, rfl, s1, eT, hkv⟩ := P
        rw [hw.length, List.take_length] at hkv
        exact ⟨_, rfl, q Tb H' kvs nTbH (sx.trans s1) eT hkv⟩
end

/-! ### what the law holds against -/
def SC_mk : Scope := { kind := ScopeKind.function, names := [(Str.ofString ".0", NameKind.local), (Str.ofString "_law_maker", NameKind.local), (Str.ofString "_law_parts", NameKind.local), (Str.ofString "tuple", NameKind.globalImplicit), (Str.ofString "_law_kind", NameKind.cell), (Str.ofString "_law_kinds", NameKind.cell)], isGenerator := false, isCoroutine := false }
section
variable {P : Program} {w : World} {K : PySem.W.Frag} {mg : Str → Option Value} {base : Heap}
def DueAt (H : Hp) (ks : List Nam) (v : V) (e : Mk × Nat) : Prop := ∃ t u, v = .ref t ∧ H t = some (.tup [.str (S e.1.1), .int (e.2 : Nat), .ref u]) ∧ H u = some (.tup (prts ks e.1.2))
theorem DueAt.mono {H H' : Hp} {ks : List Nam} {v : V} {e : Mk × Nat} (k : KT H H') (h : DueAt H ks v e) : DueAt H' ks v e := by
  obtain ⟨t, u, e1, h1, h2⟩ := h
  exact ⟨t, u, e1, k _ _ h1, k _ _ h2⟩
def spDue : Sp := fun vs H Q _ => ∃ (p : Addr) (wd : Wood), vs = [.ref p] ∧ WdAt H p wd ∧ Good wd ∧ ∀ (l : Addr) (H' : Hp) (ds : List V), H l = none → Same H H' → H' l = some (.lst ds) → Paired (DueAt H' (kds wd)) ds (ents (kds wd) wd) → Q (.ref l) H'
theorem paired_append {α β : Type} {F : α → β → Prop} {xs' : List α} {ys' : List β} (h' : Paired F xs' ys') : ∀ {xs : List α} {ys : List β}, Paired F xs ys → Paired F (xs ++ xs') (ys ++ ys')
  | _, _, .nil => h'
  | _, _, .cons a b => .cons a (paired_append h' b)
theorem idx_at {q : Nam} : ∀ {ks : List Nam}, q ∈ ks → ks[ks.idxOf q]? = some q ∧ ∀ m x, m < ks.idxOf q → ks[m]? = some x → x ≠ q
  | [], h => nomatch h
  | n :: r, h => by
    by_cases e : n = q
    · subst e
      rw [List.idxOf_cons_self]
      exact ⟨rfl, fun m x hm => absurd hm (Nat.not_lt_zero _)⟩
    · have h' : q ∈ r := by
        rcases List.mem_cons.mp h with z | z
        · exact absurd z.symm e
        · exact z
      obtain ⟨i1, i2⟩ := idx_at h'
      have : (n :: r).idxOf q = r.idxOf q + 1 := by
        rw [List.idxOf_cons, show (n == q) = false from beq_false_of_ne e]
        rfl
      rw [this]
      refine ⟨i1, fun m x hm hx => ?_⟩
      cases m with
      | zero =>
        cases Option.some.inj hx
        exact e
      | succ m => exact i2 m x (by omega) hx
theorem idx_of {ks : List Nam} {i : Nat} {q : Nam} (hn : ks.Nodup) (h : ks[i]? = some q) : ks.idxOf q = i := nd_ix hn (idx_at (List.mem_of_getElem? h)).1 h
theorem eqV_str {a b : Str} : eqV (.str a) (.str b) = decide (a = b) := by
  unfold eqV
  by_cases h : a = b
  · subst h
    simp
  · simp [h]
theorem nms_ix {ks : List Nam} {m : Nat} {z : V} (h : (nmsV ks)[m]? = some z) : ∃ x, ks[m]? = some x ∧ z = .str (S x) := by
  unfold nmsV at h
  rw [List.getElem?_map] at h
  cases e : ks[m]? with
  | none =>
    rw [e] at h
    cases h
  | some x =>
    rw [e] at h
    exact ⟨x, rfl, (Option.some.inj h).symm⟩
theorem ok_lmakers (T : Tx P K mg) : FnOk P w K mg base CX0 1 T.f_lmakers T.fd_lmakers ["_law_wood_here"] spDue := by
  refine T.F_lmakers.ok sc_lmakers (fun vs H Q E h => ?_) (fun cdv A outer s H vs Q E hr h => ?_)
  · obtain ⟨a, b, rfl, _⟩ := h
    rfl
  · obtain ⟨p, wd, rfl, ⟨vs, ep, hw⟩, good, q⟩ := h
    refine ⟨_, (pss_cons (ps_set (i := 3) sc_lmakers.nd rfl (.inr rfl) (pe_lc (own := [("_law_name", 1), ("_law_makers_here", 2)]) (by rfl) sc_lmakers.nd (pi_tup (pv 0)) (blkOk_by (own := [("_law_name", 1), ("_law_makers_here", 2)]) (N := ["_law_wood_here", "_law_name", "_law_makers_here", "_law_kinds", "_law_found", "_law_kind", "_law_maker", "_law_parts", "_law_part"]) (sc := defScope st_lmakers) (by decide +kernel)) (fun _ _ _ _ _ => (KX.pg_tupK K (n := 2) rfl (pgs_cons (pg_name (i := 1) sc_lmakers.nd rfl (.inl rfl)) (pgs_cons (pg_name (i := 2) sc_lmakers.nd rfl (.inl rfl)) pgs_nil)))) (fun _ _ _ _ _ => pts_nil) (fun _ _ _ _ _ => (pv 1)))) (pss_cons (ps_set (i := 4) sc_lmakers.nd rfl (.inl rfl) (pe_lst pa_nil)) (pss_cons (ps_for PassesOwn.never rfl (EnT.pi_enumT (by rfl) T.m_enumerate (pa_cons (pv 0) pa_nil)) (pg_tup rfl (pgs_cons (pg_name (i := 5) sc_lmakers.nd rfl (.inr rfl)) (pgs_cons (pg_tup rfl (pgs_cons (pg_name (i := 1) sc_lmakers.nd rfl (.inl rfl)) (pgs_cons (pg_name (i := 2) sc_lmakers.nd rfl (.inl rfl)) pgs_nil))) pgs_nil))) (pss_one (ps_expr (pe_bm PySem.F.plainAttrs_list PySem.F.slot_list_extend PySem.F.type_list_extend mt_extend (pv 4) (pa_cons (pe_lc (own := [("_law_maker", 6), ("_law_parts", 7)]) (by rfl) sc_lmakers.nd (pi_tup (pv 2)) (blkOk_by (own := [("_law_maker", 6), ("_law_parts", 7)]) (N := ["_law_wood_here", "_law_name", "_law_makers_here", "_law_kinds", "_law_found", "_law_kind", "_law_maker", "_law_parts", "_law_part"]) (sc := defScope st_lmakers) (by decide +kernel)) (fun _ _ _ _ _ => (KX.pg_tupK K (n := 2) rfl (pgs_cons (pg_name (i := 6) sc_lmakers.nd rfl (.inl rfl)) (pgs_cons (pg_name (i := 7) sc_lmakers.nd rfl (.inl rfl)) pgs_nil)))) (fun _ _ _ _ _ => pts_nil) (fun _ _ _ _ _ => (pe_tup (pa_cons (pv 6) (pa_cons (pv 5) (pa_cons (pe_callTy (KX.call_tuple_K K) (by rfl) T.m_tuple (by decide +kernel) (pa_cons (pe_lc (own := [("_law_part", 8)]) (by rfl) sc_lmakers.nd (KX.pi_tupK K (pv 7)) (blkOk_by (own := [("_law_part", 8)]) (N := ["_law_wood_here", "_law_name", "_law_makers_here", "_law_kinds", "_law_found", "_law_kind", "_law_maker", "_law_parts", "_law_part"]) (sc := SC_mk) (by decide +kernel)) (fun _ _ _ _ _ => (pg_name (i := 8) sc_lmakers.nd rfl (.inl rfl))) (fun _ _ _ _ _ => pts_nil) (fun _ _ _ _ _ => (KX.pe_bmK K PySem.F.plainAttrs_list PySem.F.slot_list_index PySem.F.type_list_index (KX.mt_indexK K) (pv 3) (pa_cons (pv 8) pa_nil)))) pa_nil)) pa_nil)))))) pa_nil))))) (pss_one (ps_ret (pv 4)))))), ?_⟩
    have hkl : (kds wd).length = wd.length := List.length_map _
    refine ⟨_, rfl, p, rfl, ⟨vs, .inl (.inl ep)⟩, fun Kd nKd => ?_⟩
    refine walk_it (walk_tup (xs := vs)) (fun i Hx => Same H Hx ∧ Hx Kd = some (.lst (nmsV ((kds wd).take i)))) ⟨same_new nKd, upd_same⟩ (fun i Hx hi P => .inl (.inl (P.1 _ _ ep))) (fun i x Hx Hy hi P y => ?_) (fun Hx P => ?_)
    · obtain ⟨sx, eK⟩ := P
      obtain ⟨rfl, ex⟩ := y
      obtain ⟨⟨nm, ms⟩, enm, tk, tt, mvs, rfl, etk, ett, hms⟩ := paired_at hw ex
      have emap : (kds wd)[i]? = some nm := by
        rw [List.getElem?_map, enm]
        rfl
      refine ⟨tk, _, rfl, .inl (.inl (sx _ _ etk)), rfl, _, _, rfl, _, _, rfl, rfl, rfl, ?_⟩
      unfold tYes
      refine iteT ?_
      refine ⟨_, rfl, _, eK, ?_, fun b o e => ?_, ?_⟩
      · unfold nmsV
        rw [List.length_map, List.length_take]
        exact Nat.lt_of_le_of_lt (show _ ≤ 1000 by have := good.few; omega) (by decide)
      · rw [upd_ne (ne_of_none e nKd)]
        exact sx _ _ e
      · rw [upd_same, List.take_add_one, emap]
        unfold nmsV
        rw [List.map_append]
        rfl
    obtain ⟨sx, eK⟩ := P
    rw [hw.length, ← hkl, List.take_length] at eK
    refine ⟨s0, fun F nF => ?_⟩
    have nFH : H F = none := Same.free sx nF
    refine ⟨_, rfl, p, vs, rfl, .inl (.inl ((same_new nF) _ _ (sx _ _ ep))), for_it (walk_enumT (xs := vs)) (fun i σ H' => ∃ (y1 y2 y5 : Option V) (ds : List V), σ = [some (.ref p), y1, y2, some (.ref Kd), some (.ref F), y5, none, none, none] ∧ Same Hx H' ∧ H' F = some (.lst ds) ∧ Paired (DueAt H' (kds wd)) ds (ents (kds wd) (wd.take i)))
      ⟨none, none, none, [], rfl, same_new nF, upd_same, .nil⟩ (fun i σ H' hi P => ?_) (fun i x σ H' H'' hi P y => ?_) (fun σ H' P => ?_)⟩
    · obtain ⟨_, _, _, _, _, s1, _⟩ := P
      exact .inl (.inl (s1 _ _ (sx _ _ ep)))
    · obtain ⟨y1, y2, y5, ds, rfl, s1, eF, hds⟩ := P
      obtain ⟨Tt, xi, xn, rfl, nTt, rfl, exi, exn⟩ := y
      cases Option.some.inj exi
      obtain ⟨⟨nm, ms⟩, enm, tk, tt, mvs, rfl, etk, ett, hms⟩ := paired_at hw exn
      have emap : (kds wd)[i]? = some nm := by
        rw [List.getElem?_map, enm]
        rfl
      have eidx : (kds wd).idxOf nm = i := idx_of good.kinds emap
      have sT := (s1.trans (same_new (o := .tup [.int (i : Nat), .ref tk]) nTt))
      have sT1 := same_new (o := .tup [.int (i : Nat), .ref tk]) nTt
      refine ⟨Tt, _, rfl, .inl (.inl upd_same), rfl, _, _, rfl, _, _, rfl, tk, _, rfl, .inl (.inl (sT _ _ (sx _ _ etk))), rfl, _, _, rfl, _, _, rfl, rfl, rfl, ?_⟩
      generalize upd H' Tt (.tup [.int (i : Nat), .ref tk]) = Ha at sT sT1
      have eFa := sT1 _ _ eF
      refine ⟨.ref F, rfl, .inl ⟨rfl, _, SqL.of eFa⟩, ?_⟩
      refine ⟨_, rfl, tt, rfl, ⟨mvs, .inl (.inl (sT _ _ (sx _ _ ett)))⟩, fun D nD => ?_⟩
      refine walk_it (walk_tup (xs := mvs)) (fun j Hz => Same Ha Hz ∧ ∃ es, Hz D = some (.lst es) ∧ Paired (DueAt Hz (kds wd)) es ((ms.take j).map fun m => (m, (kds wd).idxOf nm))) ⟨same_new nD, [], upd_same, .nil⟩ (fun j Hz hj P => .inl (.inl (P.1 _ _ (sT _ _ (sx _ _ ett))))) (fun j x Hz Hz' hj P y => ?_) (fun Hz P => ?_)
      · obtain ⟨sz, es, eD, hes⟩ := P
        obtain ⟨rfl, ex'⟩ := y
        obtain ⟨⟨mn, ps⟩, emk, mk, mt, rfl, emk1, emt⟩ := paired_at hms ex'
        have hmem : (mn, ps) ∈ mks wd := by
          unfold mks
          exact List.mem_flatMap.mpr ⟨_, List.mem_of_getElem? enm, List.mem_of_getElem? emk⟩
        obtain ⟨hp2, hpk⟩ := good.parts _ hmem
        dsimp only at hp2 hpk
        have s3 := sT.trans sz
        have emt3 := s3 _ _ (sx _ _ emt)
        have hpl : (nmsV ps).length = ps.length := by
          unfold nmsV
          rw [List.length_map]
        refine ⟨mk, _, rfl, .inl (.inl (s3 _ _ (sx _ _ emk1))), rfl, _, _, rfl, _, _, rfl, rfl, rfl, ?_⟩
        unfold tYes
        refine iteT ?_
        refine ⟨_, rfl, _, rfl, _, rfl, mt, rfl, ⟨_, .inl (.inl emt3)⟩, fun D2 nD2 => ?_⟩
        refine lc_pure (g := gName 8) (tt := tYes) (te := tBM K "list" (rIndex K) (tVar 3) (tCons (tVar 8) tNil)) (vs := [8]) (walk_tup (xs := nmsV ps)) nD2 (prts (kds wd) ps) (by unfold prts; rw [List.length_map, hpl]) (by rw [hpl]; omega) (fun Hq sq => .inl (.inl (sq _ _ emt3))) (fun j x y H3 H4 hy s4 hY => ?_) (fun x σ H Q Q' f h => f _ _ h) (fun σ H Q Q' f h => f _ _ h) (fun σ H Q Q' f h => ?_) (fun H3 s4 e3 => ?_)
        · obtain ⟨rfl, ex⟩ := hY
          obtain ⟨pj, epj, rfl⟩ := nms_ix ex
          unfold prts at hy
          rw [List.getElem?_map, epj] at hy
          cases Option.some.inj hy
          obtain ⟨i1, i2⟩ := idx_at (hpk pj (List.mem_of_getElem? epj))
          have eK4 := s4 _ _ (s3 _ _ eK)
          refine ⟨rfl, rfl, .ref Kd, rfl, .inl ⟨rfl, _, SqL.of eK4⟩, _, rfl, Kd, nmsV (kds wd), .str (S pj), (kds wd).idxOf pj, .str (S pj), rfl, rfl, SqL.of eK4, rfl, nms_flat _, ?_, by rw [eqV_str]; exact decide_eq_true rfl, fun m z hm hz => ?_, rfl, Same.refl _⟩
          · unfold nmsV
            rw [List.getElem?_map, i1]
            rfl
          · obtain ⟨x, ex, rfl⟩ := nms_ix hz
            rw [eqV_str]
            exact decide_eq_false fun z => i2 m x hm ex (S_inj.mp z)
        · obtain ⟨v1, e1, z0, v2, e2, z1, z2, z3, z4, z5, z6, z7, z8, z9, z10, z11, z12, z13, z14⟩ := h
          exact ⟨v1, e1, z0, v2, e2, z1, z2, z3, z4, z5, z6, z7, z8, z9, z10, z11, z12, z13, f _ _ z14⟩
        refine ⟨D2, _, rfl, .inl ⟨SqL.of e3, fun u nu => ?_⟩⟩
        refine ⟨B14.s3, fun t nt => ?_⟩
        have s5 : Same Hz' (upd (upd H3 u (.tup (prts (kds wd) ps))) t (.tup [.str (S mn), .int (i : Nat), .ref u])) := (s4.trans (same_new nu)).trans (same_new nt)
        have eu : upd (upd H3 u (.tup (prts (kds wd) ps))) t (.tup [.str (S mn), .int (i : Nat), .ref u]) u = some (.tup (prts (kds wd) ps)) := (same_new nt) _ _ upd_same
        have et : upd (upd H3 u (.tup (prts (kds wd) ps))) t (.tup [.str (S mn), .int (i : Nat), .ref u]) t = some (.tup [.str (S mn), .int (i : Nat), .ref u]) := upd_same
        generalize upd (upd H3 u (.tup (prts (kds wd) ps))) t (.tup [.str (S mn), .int (i : Nat), .ref u]) = H5 at s5 eu et
        refine ⟨es, s5 _ _ eD, ?_, fun b o e => ?_, _, upd_same, ?_⟩
        · rw [hes.length, List.length_map, List.length_take]
          have h1 := mks_le (wd := wd) (i := i + 1)
          rw [mks_take enm, List.length_append] at h1
          dsimp only at h1
          have h2 := good.many
          exact Nat.lt_of_le_of_lt (show _ ≤ 12 by omega) (by decide)
        · rw [upd_ne (ne_of_none e nD)]
          exact s5 _ _ (sz _ _ e)
        · have kt : KT H5 (upd H5 D (.lst (es ++ [.ref t]))) := KT.lst (s5 _ _ eD)
          rw [List.take_add_one, emk]
          show Paired _ _ (List.map _ (ms.take j ++ [(mn, ps)]))
          rw [List.map_append]
          refine paired_snoc (Paired.mapP hes fun _ _ z => (z.mono (KT.of s5)).mono kt) ⟨t, u, rfl, ?_, kt _ _ eu⟩
          dsimp only
          rw [eidx]
          exact kt _ _ et
      · obtain ⟨sz, es, eD, hes⟩ := P
        rw [hms.length, List.take_length] at hes
        have hlen : ds.length + es.length ≤ 12 := by
          rw [hds.length, hes.length, List.length_map, show (ents (kds wd) (wd.take i)).length = (mks (wd.take i)).length by rw [← ents_fst (ks := kds wd), List.length_map]]
          have h1 := mks_le (wd := wd) (i := i + 1)
          rw [mks_take enm, List.length_append] at h1
          dsimp only at h1
          have h2 := good.many
          dsimp only
          omega
        refine ⟨F, D, ds, es, rfl, rfl, sz _ _ eFa, eD, Nat.le_trans hlen (by decide), ?_⟩
        have kt : KT Hz (upd Hz F (.lst (ds ++ es))) := KT.lst (sz _ _ eFa)
        refine ⟨_, _, _, ds ++ es, rfl, fun b o e => ?_, upd_same, ?_⟩
        · rw [upd_ne (ne_of_none e nF)]
          exact sz _ _ (sT _ _ e)
        · rw [ents_take enm]
          exact paired_append (Paired.mapP hes fun _ _ z => z.mono kt) (Paired.mapP hds fun _ _ z => (z.mono (KT.of (sT1.trans sz))).mono kt)
    · obtain ⟨y1, y2, y5, ds, rfl, s1, eF, hds⟩ := P
      rw [hw.length, List.take_length] at hds
      exact ⟨_, rfl, q F H' ds nFH (sx.trans s1) eF hds⟩
end

/-! ### fractions, readers as they stand in the heap, what is amiss first -/
theorem gcd_emod (i j : Int) : Int.gcd (i % j) j = Int.gcd i j := by
  have c : j * (i / j) + i % j = i := Int.mul_ediv_add_emod i j
  have h1 : ∀ g : Int, g ∣ i % j → g ∣ j → g ∣ i := fun g a b => by
    rw [← c]
    exact Int.dvd_add (Int.dvd_trans b (Int.dvd_mul_right j _)) a
  have h2 : ∀ g : Int, g ∣ i → g ∣ j → g ∣ i % j := fun g a b => by
    rw [Int.emod_def]
    exact Int.dvd_sub a (Int.dvd_trans b (Int.dvd_mul_right j _))
  apply Nat.dvd_antisymm
  · exact Int.dvd_gcd (h1 _ (Int.gcd_dvd_left _ _) (Int.gcd_dvd_right _ _)) (Int.gcd_dvd_right _ _)
  · exact Int.dvd_gcd (h2 _ (Int.gcd_dvd_left _ _) (Int.gcd_dvd_right _ _)) (Int.gcd_dvd_right _ _)
theorem gcd_step {c d : Int} (h : 0 < d) : Int.gcd d (c.fmod d) = Int.gcd c d := by
  rw [Int.fmod_eq_emod_of_nonneg c (Int.le_of_lt h), Int.gcd_comm d, gcd_emod]
def tx (n : Nam) : Prop := n.length ≤ 10 ∧ PyData.strOk (S n) = true
abbrev natV (ks : List Nat) : List V := ks.map fun k => V.int (k : Nat)
theorem natV_len {ks : List Nat} : (natV ks).length = ks.length := List.length_map _
def pks (wd : Wood) (e : Mk × Nat) : List Nat := e.1.2.map fun q => (kds wd).idxOf q
theorem prts_pks {wd : Wood} {e : Mk × Nat} : prts (kds wd) e.1.2 = natV (pks wd e) := by
  unfold prts pks natV
  rw [List.map_map]
  rfl
theorem eqi (x y : Int) : decide (V.int x = V.int y) = decide (x = y) := by simp
theorem drop_at {α : Type} {l : List α} {i : Nat} {x : α} (e : l[i]? = some x) : l.drop i = x :: l.drop (i + 1) := by
  obtain ⟨h, rfl⟩ := List.getElem?_eq_some_iff.mp e
  exact List.drop_eq_getElem_cons h
abbrev Frc := Int × Int
abbrev Trm := Frc × List (Option Int)
abbrev Rules := List (List (List Trm))
abbrev Rdr := List Int × Rules
def oV : Option Int → V
  | none => .non
  | some i => .int i
def TmAt (H : Hp) (v : V) (t : Trm) : Prop := ∃ p q r, v = .ref p ∧ H p = some (.tup [.ref q, .ref r]) ∧ H q = some (.tup [.int t.1.1, .int t.1.2]) ∧ H r = some (.tup (t.2.map oV))
theorem TmAt.mono {H H' : Hp} {v : V} {t : Trm} (k : KT H H') (h : TmAt H v t) : TmAt H' v t := by
  obtain ⟨p, q, r, e, h1, h2, h3⟩ := h
  exact ⟨p, q, r, e, k _ _ h1, k _ _ h2, k _ _ h3⟩
def TOf {α : Type} (F : Hp → V → α → Prop) (H : Hp) (v : V) (xs : List α) : Prop := ∃ p vs, v = .ref p ∧ H p = some (.tup vs) ∧ Paired (F H) vs xs
theorem TOf.mono {α : Type} {F : Hp → V → α → Prop} (hF : ∀ {H H' : Hp} {v : V} {x : α}, KT H H' → F H v x → F H' v x) {H H' : Hp} {v : V} {xs : List α} (k : KT H H') (h : TOf F H v xs) : TOf F H' v xs := by
  obtain ⟨p, vs, e, h1, h2⟩ := h
  exact ⟨p, vs, e, k _ _ h1, Paired.mapP h2 fun _ _ z => hF k z⟩
abbrev SmAt := TOf TmAt
abbrev RlAt := TOf SmAt
abbrev RsAt := TOf RlAt
theorem SmAt.mono {H H' : Hp} {v : V} {x : List Trm} (k : KT H H') (h : SmAt H v x) : SmAt H' v x := TOf.mono (F := TmAt) (fun k h => TmAt.mono k h) k h
theorem RlAt.mono {H H' : Hp} {v : V} {x : List (List Trm)} (k : KT H H') (h : RlAt H v x) : RlAt H' v x := TOf.mono (F := SmAt) (fun k h => SmAt.mono k h) k h
theorem RsAt.mono {H H' : Hp} {v : V} {x : Rules} (k : KT H H') (h : RsAt H v x) : RsAt H' v x := TOf.mono (F := RlAt) (fun k h => RlAt.mono k h) k h
def RdAt (H : Hp) (p : Addr) (rd : Rdr) : Prop := ∃ c r, H p = some (.tup [.ref c, r]) ∧ H c = some (.tup (rd.1.map V.int)) ∧ RsAt H r rd.2
theorem RdAt.mono {H H' : Hp} {p : Addr} {rd : Rdr} (k : KT H H') (h : RdAt H p rd) : RdAt H' p rd := by
  obtain ⟨c, r, h1, h2, h3⟩ := h
  exact ⟨c, r, k _ _ h1, k _ _ h2, h3.mono k⟩
/-- what can be asked -/
def SmB (b : Nat) (s : List Trm) : Prop := s.length ≤ b ∧ ∀ t ∈ s, t.2.length ≤ b
def RlB (b : Nat) (r : List (List Trm)) : Prop := r.length ≤ b ∧ ∀ s ∈ r, SmB b s
structure TmR (b : Nat) (rd : Rdr) : Prop where
  cnt : rd.1.length ≤ b
  few : rd.2.length ≤ b
  rul : ∀ r ∈ rd.2, RlB b r
def isFr (f : Frc) : Bool := decide (1 ≤ f.2) && decide (Int.gcd f.1 f.2 = 1)
def bxOk (z : Option Int × Int) : Bool := match z.1 with
  | none => true
  | some x => decide (0 ≤ x) && decide (x < z.2)
def badTm (pc : List Int) (t : Trm) : Option Str := if isFr t.1 = false then some "number" else if t.2.length ≠ pc.length then some "parts" else if (t.2.zip pc).all bxOk = false then some "box" else none
def badTs (pc : List Int) : List Trm → Option Str
  | [] => none
  | t :: r => match badTm pc t with
    | some w => some w
    | none => badTs pc r
def badSs (pc : List Int) : List (List Trm) → Option Str
  | [] => none
  | s :: r => match badTs pc s with
    | some w => some w
    | none => badSs pc r
def badRl (count : Int) (pc : List Int) (r : List (List Trm)) : Option Str := if ¬ ((r.length : Int) = count) then some "sums" else badSs pc r
def cnts (cs : List Int) (ks : List Nat) : List Int := ks.map fun k => cs.getD k 0
def badRs (wd : Wood) (cs : List Int) : List ((Mk × Nat) × List (List Trm)) → Option (Str × Str)
  | [] => none
  | z :: t => match badRl (cs.getD z.1.2 0) (cnts cs (pks wd z.1)) z.2 with
    | some w => some (w, S z.1.1.1)
    | none => badRs wd cs t
def cOk (c : Int) : Bool := decide (0 ≤ c) && decide (c ≤ 4)
def badR (wd : Wood) (rd : Rdr) : Option (Str × Str) := if ¬ (rd.1.length = wd.length) ∨ rd.1.all cOk = false then some ("counts", "") else if ¬ (rd.2.length = (ents (kds wd) wd).length) then some ("rules", "") else badRs wd rd.1 ((ents (kds wd) wd).zip rd.2)
theorem idx_lt {q : Nam} {ks : List Nam} (h : q ∈ ks) : ks.idxOf q < ks.length := List.idxOf_lt_length_iff.mpr h
theorem ents_lt {wd : Wood} {e : Mk × Nat} (h : e ∈ ents (kds wd) wd) : e.2 < wd.length := by
  unfold ents at h
  obtain ⟨k, hk, h⟩ := List.mem_flatMap.mp h
  obtain ⟨m, hm, rfl⟩ := List.mem_map.mp h
  have := idx_lt (q := k.1) (ks := kds wd) (List.mem_map_of_mem hk)
  rw [List.length_map] at this
  exact this
theorem ents_mk {wd : Wood} {e : Mk × Nat} (h : e ∈ ents (kds wd) wd) : e.1 ∈ mks wd := by
  rw [← ents_fst (ks := kds wd)]
  exact List.mem_map_of_mem h
theorem pks_lt {wd : Wood} (g : Good wd) {e : Mk × Nat} (h : e ∈ ents (kds wd) wd) : ∀ k ∈ pks wd e, k < wd.length := fun k hk => by
  obtain ⟨q, hq, rfl⟩ := List.mem_map.mp hk
  have := idx_lt ((g.parts e.1 (ents_mk h)).2 q hq)
  rw [List.length_map] at this
  exact this
theorem pks_le {wd : Wood} (g : Good wd) {e : Mk × Nat} (h : e ∈ ents (kds wd) wd) : (pks wd e).length ≤ 2 := by
  unfold pks
  rw [List.length_map]
  exact (g.parts e.1 (ents_mk h)).1
theorem ents_len {wd : Wood} (g : Good wd) : (ents (kds wd) wd).length ≤ 12 := by
  rw [show (ents (kds wd) wd).length = (mks wd).length by rw [← ents_fst (ks := kds wd), List.length_map]]
  exact g.many
theorem ints_at {cs : List Int} {k : Nat} (h : k < cs.length) : atI (cs.map V.int) ((k : Nat) : Int) = some (.int (cs.getD k 0)) := at_of (j := k) rfl (by
  rw [List.getElem?_map, List.getElem?_eq_getElem h, List.getD_eq_getElem?_getD, List.getElem?_eq_getElem h]
  rfl)
section
variable {P : Program} {w : World} {K : PySem.W.Frag} {mg : Str → Option Value} {base : Heap}
def spCdiv : Sp := fun vs H Q _ => ∃ a b : Int, vs = [.int a, .int b] ∧ 0 ≤ a ∧ 0 ≤ b ∧ Q (.int (Int.gcd a b : Int)) H
theorem ok_cdiv (T : Tx P K mg) : FnOk P w K mg base CX0 1 T.f_cdiv T.fd_cdiv ["one", "other"] spCdiv := by
  refine T.F_cdiv.ok sc_cdiv (fun vs H Q E h => ?_) (fun cdv A outer s H vs Q E hr h => ?_)
  · obtain ⟨a, b, rfl, _⟩ := h
    rfl
  · obtain ⟨a, b, rfl, ha, hb, q⟩ := h
    refine ⟨_, (pss_cons (ps_while PassesOwn.never (pt_cmpR op_ne (pv 1) pe_int (nomark _)) (pss_one (ps_par (i := 0) (j := 1) (by rfl) sc_cdiv.nd rfl rfl (by decide) rfl rfl (pa_cons (pv 1) (pa_cons (pe_op op_modN (pv 0) (pv 1)) pa_nil)) (by rfl)))) (pss_one (ps_ret (pv 0)))), ?_⟩
    refine ⟨fun m σ H' => H' = H ∧ ∃ c d : Int, σ = [some (.int c), some (.int d)] ∧ 0 ≤ c ∧ 0 ≤ d ∧ d.toNat = m ∧ Int.gcd c d = Int.gcd a b, ⟨_, rfl, a, b, rfl, ha, hb, rfl, rfl⟩, fun m σ H' hW => ?_⟩
    obtain ⟨rfl, c, d, rfl, hc, hd, rfl, hg⟩ := hW
    refine ⟨_, rfl, rfl, _, rfl, ?_⟩
    by_cases hz : d = 0
    · subst hz
      refine iteF ?_
      refine ⟨_, rfl, ?_⟩
      rw [← hg, Int.gcd_zero_right] at q
      rw [show c = (c.natAbs : Int) by omega]
      exact q
    · have hp : 0 < d := by omega
      have f := fmod_pos (i := c) hp
      have e : (!decide (V.int d = V.int 0)) = true := by simp [hz]
      rw [e]
      refine iteT ⟨fun σ' H'' => H'' = H' ∧ σ' = [some (.int d), some (.int (c.fmod d))], fun σ' H'' ⟨e1, e2⟩ => ⟨_, ?_, e1, d, c.fmod d, e2, hd, f.1, rfl, (gcd_step hp).trans hg⟩, ?_⟩
      · omega
      · exact ⟨_, rfl, _, rfl, _, rfl, _, _, rfl, rfl, hz, _, _, rfl, rfl, rfl⟩
theorem ok_shared (T : Tx P K mg) : FnOk P w K mg base CX0 1 T.f_shared T.fd_shared ["_law_one", "_law_other"] spCdiv := by
  refine T.F_shared.ok sc_shared (fun vs H Q E h => ?_) (fun cdv A outer s H vs Q E hr h => ?_)
  · obtain ⟨a, b, rfl, _⟩ := h
    rfl
  · obtain ⟨a, b, rfl, ha, hb, q⟩ := h
    refine ⟨_, (pss_cons (ps_while PassesOwn.never (pt_cmpR op_gt (pv 1) pe_int (nomark _)) (pss_one (ps_par (i := 0) (j := 1) (by rfl) sc_shared.nd rfl rfl (by decide) rfl rfl (pa_cons (pv 1) (pa_cons (pe_op op_modN (pv 0) (pv 1)) pa_nil)) (by rfl)))) (pss_one (ps_ret (pv 0)))), ?_⟩
    refine ⟨fun m σ H' => H' = H ∧ ∃ c d : Int, σ = [some (.int c), some (.int d)] ∧ 0 ≤ c ∧ 0 ≤ d ∧ d.toNat = m ∧ Int.gcd c d = Int.gcd a b, ⟨_, rfl, a, b, rfl, ha, hb, rfl, rfl⟩, fun m σ H' hW => ?_⟩
    obtain ⟨rfl, c, d, rfl, hc, hd, rfl, hg⟩ := hW
    refine ⟨_, rfl, _, _, rfl, rfl, _, rfl, ?_⟩
    by_cases hz : d = 0
    · subst hz
      refine iteF ?_
      refine ⟨_, rfl, ?_⟩
      rw [← hg, Int.gcd_zero_right] at q
      rw [show c = (c.natAbs : Int) by omega]
      exact q
    · have hp : 0 < d := by omega
      have f := fmod_pos (i := c) hp
      rw [decide_eq_true hp]
      refine iteT ⟨fun σ' H'' => H'' = H' ∧ σ' = [some (.int d), some (.int (c.fmod d))], fun σ' H'' ⟨e1, e2⟩ => ⟨_, ?_, e1, d, c.fmod d, e2, hd, f.1, rfl, (gcd_step hp).trans hg⟩, ?_⟩
      · omega
      · exact ⟨_, rfl, _, rfl, _, rfl, _, _, rfl, rfl, hz, _, _, rfl, rfl, rfl⟩
theorem abs_gcd {u l : Int} : Int.gcd (if u < 0 then -u else u) l = Int.gcd u l := by
  split
  · rw [Int.neg_gcd]
  · rfl
def spFr : Sp := fun vs H Q _ => ∃ (p : Addr) (f : Frc), vs = [.ref p] ∧ H p = some (.tup [.int f.1, .int f.2]) ∧ Q (.bl (isFr f)) H
theorem ok_isfr (T : Tx P K mg) : FnOk P w K mg base CX0 2 T.f_isfr T.fd_isfr ["number"] spFr := by
  refine T.F_isfr.ok sc_isfr (fun vs H Q E h => ?_) (fun cdv A outer s H vs Q E hr h => ?_)
  · obtain ⟨a, b, rfl, _⟩ := h
    rfl
  · obtain ⟨p, f, rfl, ep, q⟩ := h
    refine ⟨_, (pss_cons (ps_asg (pv 0) (pg_tup rfl (pgs_cons (pg_name (i := 1) sc_isfr.nd rfl (.inl rfl)) (pgs_cons (pg_name (i := 2) sc_isfr.nd rfl (.inl rfl)) pgs_nil)))) (pss_one (ps_ret (pe_and (pe_cmpR op_ge (pv 2) pe_int (nomark _)) (pe_one (pe_cmpR op_eq (pe_call (ok_cdiv T) (hr.mono (by decide) : Room 1 _) (by rfl) T.g_cdiv T.F_cdiv.kp T.b_cdiv .nil pass0 (pa_cons (pe_callB call_abs (by rfl) T.m_abs (by decide +kernel) (pa_cons (pv 1) pa_nil)) (pa_cons (pv 2) pa_nil))) pe_int (nomark _))))))), ?_⟩
    refine ⟨_, rfl, p, _, rfl, .inl (.inl ep), rfl, _, _, rfl, _, _, rfl, rfl, ?_⟩
    refine ⟨_, rfl, _, _, rfl, rfl, _, rfl, ?_⟩
    unfold isFr at q
    by_cases h1 : 1 ≤ f.2
    · rw [decide_eq_true h1] at q ⊢
      refine iteT ⟨_, rfl, _, rfl, ?_⟩
      refine ⟨_, rfl, _, f.2, rfl, ?_, by omega, rfl, ?_⟩
      · split <;> omega
      · rw [eqi, abs_gcd]
        rw [show decide (((Int.gcd f.1 f.2 : Nat) : Int) = 1) = decide (Int.gcd f.1 f.2 = 1) by rw [decide_eq_decide]; omega]
        exact q
    · rw [decide_eq_false h1] at q ⊢
      exact iteF q
end

/-! ### look_sums -/
section
variable {P : Program} {w : World} {K : PySem.W.Frag} {mg : Str → Option Value} {base : Heap}
def RefR (C : Addr) (E : XK) (H : Hp) (r : Str × Str) : Prop := ∀ (d : Addr) (H' : Hp), Same H H' → H' d = some (.xd [("maker", .str r.2), ("word", .str r.1)]) → E (.ref C) (some d) H'
theorem RefR.here {C : Addr} {E : XK} {H H1 : Hp} {a b : Str} (h : RefR C E H (a, b)) (s : Same H H1) : ∃ y1 y2, [V.str a, .str b] = [y1, y2] ∧ ∀ dx, H1 dx = none → E (.ref C) (some dx) (upd H1 dx (.xd [("maker", y2), ("word", y1)])) := ⟨_, _, rfl, fun dx n => h dx _ (s.trans (same_new n)) upd_same⟩
theorem badTs_cons {pc : List Int} {t : Trm} {r : List Trm} : badTs pc (t :: r) = match badTm pc t with
    | some w => some w
    | none => badTs pc r := rfl
theorem badSs_cons {pc : List Int} {t : List Trm} {r : List (List Trm)} : badSs pc (t :: r) = match badTs pc t with
    | some w => some w
    | none => badSs pc r := rfl
def spLs (C : Addr) : Sp := fun vs H Q E => ∃ (z : Str) (v : V) (count : Int) (pa : Addr) (pc : List Int) (r : List (List Trm)), vs = [.str z, v, .int count, .ref pa] ∧ RlAt H v r ∧ H pa = some (.lst (pc.map V.int)) ∧ RlB 1000 r ∧ (∀ w, badRl count pc r = some w → RefR C E H (w, z)) ∧ (badRl count pc r = none → ∀ H', Same H H' → Q .non H')
theorem ok_looksums (T : Tx P K mg) : FnOk P w K mg base (L2.CX P w) 3 T.f_looksums T.fd_looksums ["maker", "sums", "count", "part_counts"] (spLs T.C) := by
  refine T.F_looksums.okX sc_looksums (fun vs H Q E h => ?_) (fun cdv A outer s H vs Q E hr h => ?_)
  · obtain ⟨z, v, c, pa, pc, r, rfl, _⟩ := h
    rfl
  · obtain ⟨z, v, count, pa, pc, r, rfl, ⟨p, vs, rfl, ep, hr1⟩, epa, ⟨hb1, hb2⟩, qx, q⟩ := h
    refine ⟨_, (pss_cons (ps_if (pt_cmpR op_ne (pe_callB call_len_seq (by rfl) T.m_len PySem.boot_len (pa_cons (pv 1) pa_nil)) (pv 2) (nomark _)) (pss_one (ps_raise rfl (takes_of rfl rfl rfl rfl) (pmk_e2 T.exc T.fld T.is1 T.is2 hr (by rfl) (fun _ _ _ _ _ _ _ _ _ => .of_eq rfl) ⟨by decide, by decide, by decide⟩ (by decide +kernel) rfl rfl (pa_cons pe_str (pa_cons (pv 0) pa_nil))))) pss_nil) (pss_one (ps_for (passes_of rfl) rfl (pi_tup (pv 1)) (pg_name (i := 4) sc_looksums.nd rfl (.inl rfl)) (pss_one (ps_for (passes_of rfl) rfl (pi_tup (pv 4)) (pg_tup rfl (pgs_cons (pg_name (i := 5) sc_looksums.nd rfl (.inl rfl)) (pgs_cons (pg_name (i := 6) sc_looksums.nd rfl (.inl rfl)) pgs_nil))) (pss_cons (ps_if (pt_not (pt_val (pe_call (ok_isfr T) (hr.mono (by decide) : Room 2 _) (by rfl) T.g_isfr T.F_isfr.kp T.b_isfr .nil pass0 (pa_cons (pv 5) pa_nil)))) (pss_one (ps_raise rfl (takes_of rfl rfl rfl rfl) (pmk_e2 T.exc T.fld T.is1 T.is2 hr (by rfl) (fun _ _ _ _ _ _ _ _ _ => .of_eq rfl) ⟨by decide, by decide, by decide⟩ (by decide +kernel) rfl rfl (pa_cons pe_str (pa_cons (pv 0) pa_nil))))) pss_nil) (pss_cons (ps_if (pt_cmpR op_ne (pe_callB call_len_seq (by rfl) T.m_len PySem.boot_len (pa_cons (pv 6) pa_nil)) (pe_callB call_len_seq (by rfl) T.m_len PySem.boot_len (pa_cons (pv 3) pa_nil)) (nomark _)) (pss_one (ps_raise rfl (takes_of rfl rfl rfl rfl) (pmk_e2 T.exc T.fld T.is1 T.is2 hr (by rfl) (fun _ _ _ _ _ _ _ _ _ => .of_eq rfl) ⟨by decide, by decide, by decide⟩ (by decide +kernel) rfl rfl (pa_cons pe_str (pa_cons (pv 0) pa_nil))))) pss_nil) (pss_one (ps_if (pt_not (pt_val (pe_callB (cr_all rfl) (by rfl) T.m_all (by decide +kernel) (pa_cons (pe_lc (own := [("box", 7), ("own", 8)]) (by rfl) sc_looksums.nd (ZM.pi_zipM true false (by rfl) T.m_zip (pa_cons (pv 6) (pa_cons (pv 3) pa_nil))) (blkOk_by (own := [("box", 7), ("own", 8)]) (N := ["maker", "sums", "count", "part_counts", "terms", "number", "boxes", "box", "own"]) (sc := defScope st_looksums) (by decide +kernel)) (fun _ _ _ _ _ => (KX.pg_tupK K (n := 2) rfl (pgs_cons (pg_name (i := 7) sc_looksums.nd rfl (.inl rfl)) (pgs_cons (pg_name (i := 8) sc_looksums.nd rfl (.inl rfl)) pgs_nil)))) (fun _ _ _ _ _ => pts_nil) (fun _ _ _ _ _ => (pe_or (pe_cmpR op_isN (pv 7) pe_non (nomark _)) (pe_one (pe_chain op_le op_lt pe_int (pv 7) (pv 8)))))) pa_nil)))) (pss_one (ps_raise rfl (takes_of rfl rfl rfl rfl) (pmk_e2 T.exc T.fld T.is1 T.is2 hr (by rfl) (fun _ _ _ _ _ _ _ _ _ => .of_eq rfl) ⟨by decide, by decide, by decide⟩ (by decide +kernel) rfl rfl (pa_cons pe_str (pa_cons (pv 0) pa_nil))))) pss_nil))))))))), ?_⟩
    have hl := hr1.length
    unfold badRl at qx q
    refine ⟨_, rfl, p, _, rfl, .inr (.inl (.inl ep)), _, rfl, rfl, _, rfl, ?_⟩
    rw [eqi, hl]
    by_cases hc : (r.length : Int) = count
    rotate_left
    · rw [decide_eq_false hc]
      rw [if_pos hc] at qx
      exact iteT ⟨_, rfl, (qx _ rfl).here (Same.refl _)⟩
    rw [decide_eq_true hc]
    rw [if_neg (fun z => z hc)] at qx q
    refine iteF ?_
    refine ⟨_, rfl, p, rfl, ⟨vs, SqT.of ep⟩, for_it (walk_tup (xs := vs)) (fun i σ H' => ∃ (y4 y5 y6 : Option V), σ = [some (.str z), some (.ref p), some (.int count), some (.ref pa), y4, y5, y6, none, none] ∧ Same H H' ∧ badSs pc r = badSs pc (r.drop i)) ⟨none, none, none, rfl, Same.refl H, rfl⟩ (fun i σ H' hi P => ?_) (fun i x σ H' H'' hi P y => ?_) (fun σ H' P => ?_)⟩
    · obtain ⟨_, _, _, _, s1, _⟩ := P
      exact SqT.of (s1 _ _ ep)
    · obtain ⟨y4, y5, y6, rfl, s1, hb⟩ := P
      obtain ⟨rfl, ex⟩ := y
      obtain ⟨sm, esm, tp, tvs, rfl, etp, htp⟩ := paired_at hr1 ex
      obtain ⟨hs1, hs2⟩ := hb2 sm (List.mem_of_getElem? esm)
      rw [drop_at esm, badSs_cons] at hb
      refine ⟨_, rfl, tp, rfl, ⟨tvs, SqT.of (s1 _ _ etp)⟩, for_it (walk_tup (xs := tvs)) (fun j σ H' => ∃ (y5 y6 : Option V), σ = [some (.str z), some (.ref p), some (.int count), some (.ref pa), some (.ref tp), y5, y6, none, none] ∧ Same H H' ∧ badTs pc sm = badTs pc (sm.drop j)) ⟨_, _, rfl, s1, rfl⟩ (fun j σ H' hj P => ?_) (fun j x σ H' H'' hj P y => ?_) (fun σ H' P => ?_)⟩
      · obtain ⟨_, _, _, s2, _⟩ := P
        exact SqT.of (s2 _ _ etp)
      · obtain ⟨y5, y6, rfl, s2, hb'⟩ := P
        obtain ⟨rfl, ex'⟩ := y
        obtain ⟨t, et, tq, fq, bq, rfl, e1, e2, e3⟩ := paired_at htp ex'
        rw [drop_at et, badTs_cons] at hb'
        have hbl := hs2 t (List.mem_of_getElem? et)
        have bad : ∀ w, badTm pc t = some w → RefR T.C E H (w, z) := fun w hw => by
          refine qx w ?_
          rw [hb, hb', hw]
        refine ⟨tq, _, rfl, .inl (.inl (s2 _ _ e1)), rfl, _, _, rfl, _, _, rfl, rfl, ?_⟩
        refine ⟨_, rfl, fq, t.1, rfl, s2 _ _ e2, _, rfl, ?_⟩
        unfold badTm at bad hb'
        cases hf : isFr t.1 with
        | false =>
          rw [hf] at bad
          exact iteT ⟨_, rfl, (bad _ rfl).here s2⟩
        | true =>
          rw [hf] at bad hb'
          rw [if_neg (by decide)] at bad hb'
          refine iteF ?_
          have epa2 := s2 _ _ epa
          refine ⟨_, rfl, bq, _, rfl, .inr (.inl (.inl (s2 _ _ e3))), _, rfl, pa, _, rfl, .inl (SqL.of epa2), rfl, _, rfl, ?_⟩
          rw [eqi, List.length_map, List.length_map]
          by_cases hle : t.2.length = pc.length
          rotate_left
          · rw [decide_eq_false (show ¬ ((t.2.length : Int) = (pc.length : Int)) by omega)]
            rw [if_pos hle] at bad
            exact iteT ⟨_, rfl, (bad _ rfl).here s2⟩
          rw [decide_eq_true (show ((t.2.length : Int) = (pc.length : Int)) by omega)]
          rw [if_neg (fun z => z hle)] at bad hb'
          refine iteF ?_
          refine ⟨_, rfl, _, rfl, bq, pa, _, _, rfl, ZM.Sq.t (s2 _ _ e3), ZM.Sq.l epa2, fun D nD => ?_⟩
          refine walk_it (ZM.walkM (n := t.2.length) (xs := t.2.map oV) (ys := pc.map V.int) (by rw [List.length_map, List.length_map]; omega)) (fun m Hx => Same H'' Hx ∧ Hx D = some (.lst ((((t.2.zip pc).map bxOk).take m).map V.bl))) ⟨same_new nD, upd_same⟩ (fun m Hx hm P => ⟨ZM.Sq.t (P.1 _ _ (s2 _ _ e3)), ZM.Sq.l (P.1 _ _ epa2)⟩) (fun m x Hx Hy hm P y => ?_) (fun Hx P => ?_)
          · obtain ⟨sx, eD⟩ := P
            obtain ⟨Tt, x1, x2, rfl, nT, rfl, e1', e2'⟩ := y
            have hm2 : m < pc.length := by omega
            have e1'' : x1 = oV t.2[m] := by
              dsimp only at e1'
              rw [List.getElem?_map, List.getElem?_eq_getElem hm] at e1'
              exact (Option.some.inj e1').symm
            have e2'' : x2 = .int pc[m] := by
              dsimp only at e2'
              rw [List.getElem?_map, List.getElem?_eq_getElem hm2] at e2'
              exact (Option.some.inj e2').symm
            subst e1'' e2''
            have sT := same_new (o := .tup [oV t.2[m], .int pc[m]]) nT
            refine ⟨Tt, _, rfl, .inl (.inl upd_same), rfl, _, _, rfl, _, _, rfl, rfl, rfl, ?_⟩
            generalize upd Hx Tt (.tup [oV t.2[m], .int pc[m]]) = Hy at sT
            have fin : ∀ b : Bool, b = bxOk (t.2[m], pc[m]) → ∃ acc, Hy D = some (.lst acc) ∧ acc.length < sizeLine ∧ (Same H'' (upd Hy D (.lst (acc ++ [.bl b]))) ∧ upd Hy D (.lst (acc ++ [.bl b])) D = some (.lst ((((t.2.zip pc).map bxOk).take (m + 1)).map V.bl))) := fun b hb => by
              refine ⟨_, sT _ _ eD, ?_, fun c o e => ?_, ?_⟩
              · rw [List.length_map, List.length_take]
                exact Nat.lt_of_le_of_lt (show _ ≤ 1000 by omega) (by decide)
              · rw [upd_ne (ne_of_none e nD)]
                exact sT _ _ (sx _ _ e)
              · have hz : m < (t.2.zip pc).length := by
                  rw [List.length_zip]
                  omega
                rw [upd_same, List.take_add_one, List.getElem?_map, List.getElem?_eq_getElem hz, List.getElem_zip, List.map_append, hb]
                rfl
            unfold tYes
            refine iteT ?_
            cases hbx : t.2[m] with
            | none =>
              rw [hbx] at fin
              exact ⟨_, rfl, rfl, true, (by show V.bl (decide (V.non = V.non)) = _; simp), iteT (fin true rfl)⟩
            | some x =>
              rw [hbx] at fin
              refine ⟨_, rfl, rfl, false, (by show V.bl (decide (V.int x = V.non)) = _; simp), iteF ?_⟩
              refine ⟨_, rfl, _, _, rfl, rfl, _, rfl, ?_⟩
              by_cases h0 : 0 ≤ x
              · rw [decide_eq_true h0]
                refine iteT ⟨_, rfl, _, _, rfl, rfl, fin _ ?_⟩
                show _ = (decide (0 ≤ x) && decide (x < pc[m]))
                rw [decide_eq_true h0]
                rfl
              · rw [decide_eq_false h0]
                refine iteF (fin _ ?_)
                show _ = (decide (0 ≤ x) && decide (x < pc[m]))
                rw [decide_eq_false h0]
                rfl
          · obtain ⟨sx, eD⟩ := P
            have ea : Hx D = some (.lst (((t.2.zip pc).map bxOk).map V.bl)) := by
              rw [eD, List.take_of_length_le]
              rw [List.length_map, List.length_zip]
              omega
            refine ⟨D, (t.2.zip pc).map bxOk, rfl, SqL.of ea, _, rfl, ?_⟩
            rw [show ((t.2.zip pc).map bxOk).all id = (t.2.zip pc).all bxOk by rw [List.all_map]; rfl]
            cases ha : (t.2.zip pc).all bxOk with
            | false =>
              rw [ha] at bad
              exact iteT ⟨_, rfl, (bad _ rfl).here (s2.trans sx)⟩
            | true =>
              rw [ha] at hb'
              rw [if_neg (by decide)] at hb'
              dsimp only at hb'
              exact iteF ⟨_, _, rfl, s2.trans sx, hb'⟩
      · obtain ⟨y5, y6, rfl, s2, hb'⟩ := P
        rw [htp.length, List.drop_length] at hb'
        have hb'' : badTs pc sm = none := hb'
        rw [hb''] at hb
        exact ⟨_, _, _, rfl, s2, hb⟩
    · obtain ⟨y4, y5, y6, rfl, s1, hb⟩ := P
      rw [hl, List.drop_length] at hb
      exact q hb _ s1
end

/-! ### look_reader -/
section
variable {P : Program} {w : World} {K : PySem.W.Frag} {mg : Str → Option Value} {base : Heap}
theorem ents_names {ks : List Nam} {w : Wood} : (ents ks w).map (·.1.1) = (mks w).map (·.1) := by
  rw [← ents_fst (ks := ks), List.map_map]
  rfl
theorem row_len {H : Hp} {ks : List Nam} {kvs : List (Key × V)} {es : List (Mk × Nat)} (h : Paired (RowAt H ks) kvs es) : kvs.length = es.length := h.length
theorem badRs_cons {wd : Wood} {cs : List Int} {z : (Mk × Nat) × List (List Trm)} {t : List ((Mk × Nat) × List (List Trm))} : badRs wd cs (z :: t) = match badRl (cs.getD z.1.2 0) (cnts cs (pks wd z.1)) z.2 with
    | some w => some (w, S z.1.1.1)
    | none => badRs wd cs t := rfl
def spLr (C : Addr) : Sp := fun vs H Q E => ∃ (p t : Addr) (wd : Wood) (rd : Rdr), vs = [.ref p, .ref t] ∧ WdAt H p wd ∧ Good wd ∧ RdAt H t rd ∧ TmR 1000 rd ∧ (∀ r, badR wd rd = some r → RefR C E H r) ∧ (badR wd rd = none → ∀ H', Same H H' → Q (.bl true) H')
theorem ok_lookreader (T : Tx P K mg) : FnOk P w K mg base (L2.CX P w) 4 T.f_lookreader T.fd_lookreader ["wood", "reader"] (spLr T.C) := by
  refine T.F_lookreader.okX sc_lookreader (fun vs H Q E h => ?_) (fun cdv A outer s H vs Q E hr h => ?_)
  · obtain ⟨a, b, wd, rd, rfl, _⟩ := h
    rfl
  · obtain ⟨p, t, wd, ⟨cs, rs⟩, rfl, hw, good, ⟨c, rv, et, ec, hrs⟩, tm, qx, q⟩ := h
    refine ⟨_, (pss_cons (ps_asg (pv 1) (pg_tup rfl (pgs_cons (pg_name (i := 2) sc_lookreader.nd rfl (.inr rfl)) (pgs_cons (pg_name (i := 3) sc_lookreader.nd rfl (.inl rfl)) pgs_nil)))) (pss_cons (ps_set (i := 4) sc_lookreader.nd rfl (.inl rfl) (pe_call (ok_table T) (hr.mono (by decide) : Room 1 _) (by rfl) T.g_table T.F_table.kp T.b_table .nil pass0 (pa_cons (pv 0) pa_nil))) (pss_cons (ps_if (PW.pt (pw_or (pt_cmpR op_ne (pe_callB call_len_seq (by rfl) T.m_len PySem.boot_len (pa_cons (pv 2) pa_nil)) (pe_callB call_len_seq (by rfl) T.m_len PySem.boot_len (pa_cons (pv 0) pa_nil)) (nomark _)) (pw_or1 (pt_not (pt_val (pe_callB (cr_all rfl) (by rfl) T.m_all (by decide +kernel) (pa_cons (pe_lc (own := [("count", 10)]) (by rfl) sc_lookreader.nd (pi_tup (pv 2)) (blkOk_by (own := [("count", 10)]) (N := ["wood", "reader", "counts", "rules", "table", "maker", "sums", "kind", "parts", "part", "count"]) (sc := defScope st_lookreader) (by decide +kernel)) (fun _ _ _ _ _ => (pg_name (i := 10) sc_lookreader.nd rfl (.inl rfl))) (fun _ _ _ _ _ => pts_nil) (fun _ _ _ _ _ => (pe_chain op_le op_le pe_int (pv 10) (pe_glob (v := .int 4) (by rfl) T.c_MOST_BOXES ⟨_, rfl⟩)))) pa_nil))))))) (pss_one (ps_raise rfl (takes_of rfl rfl rfl rfl) (pmk_e2 T.exc T.fld T.is1 T.is2 hr (by rfl) (fun _ _ _ _ _ _ _ _ _ => .of_eq rfl) ⟨by decide, by decide, by decide⟩ (by decide +kernel) rfl rfl (pa_cons pe_str (pa_cons pe_str pa_nil))))) pss_nil) (pss_cons (ps_if (pt_cmpR op_ne (pe_callB call_len_seq (by rfl) T.m_len PySem.boot_len (pa_cons (pv 3) pa_nil)) (pe_callB call_lenD (by rfl) T.m_len PySem.boot_len (pa_cons (pv 4) pa_nil)) (nomark _)) (pss_one (ps_raise rfl (takes_of rfl rfl rfl rfl) (pmk_e2 T.exc T.fld T.is1 T.is2 hr (by rfl) (fun _ _ _ _ _ _ _ _ _ => .of_eq rfl) ⟨by decide, by decide, by decide⟩ (by decide +kernel) rfl rfl (pa_cons pe_str (pa_cons pe_str pa_nil))))) pss_nil) (pss_cons (ps_for (passes_of rfl) rfl (ZM.pi_zipM false true (by rfl) T.m_zip (pa_cons (pe_callTy (call_list_dK rfl) (by rfl) T.m_list (by decide +kernel) (pa_cons (pv 4) pa_nil)) (pa_cons (pv 3) pa_nil))) (pg_tup rfl (pgs_cons (pg_name (i := 5) sc_lookreader.nd rfl (.inl rfl)) (pgs_cons (pg_name (i := 6) sc_lookreader.nd rfl (.inl rfl)) pgs_nil))) (pss_cons (ps_asg (pe_dget (KX.hu hr) (pv 4) (pv 5) (fun _ _ => rfl)) (pg_tup rfl (pgs_cons (pg_name (i := 7) sc_lookreader.nd rfl (.inl rfl)) (pgs_cons (pg_name (i := 8) sc_lookreader.nd rfl (.inl rfl)) pgs_nil)))) (pss_one (ps_expr (pe_call (E := E) (ok_looksums T) (hr.mono (by decide) : Room 3 _) (by rfl) T.g_looksums T.F_looksums.kp T.b_looksums .nil (passes_call (takes_of rfl rfl rfl rfl) (fun _ _ _ _ h => h)) (pa_cons (pv 5) (pa_cons (pv 6) (pa_cons (pe_ix ix_tup (pv 2) (pv 7) (fun _ _ => rfl)) (pa_cons (pe_lc (own := [("part", 9)]) (by rfl) sc_lookreader.nd (pi_tup (pv 8)) (blkOk_by (own := [("part", 9)]) (N := ["wood", "reader", "counts", "rules", "table", "maker", "sums", "kind", "parts", "part", "count"]) (sc := defScope st_lookreader) (by decide +kernel)) (fun _ _ _ _ _ => (pg_name (i := 9) sc_lookreader.nd rfl (.inl rfl))) (fun _ _ _ _ _ => pts_nil) (fun _ _ _ _ _ => (pe_ix (KX.ix_tupK K) (pv 2) (pv 9) (fun _ _ => rfl)))) pa_nil))))))))) (pss_one (ps_ret pe_bl))))))), ?_⟩
    dsimp only at ec hrs qx q
    have hb1 := tm.cnt
    have hb2 := tm.few
    dsimp only at hb1 hb2
    obtain ⟨rp, rvs, rfl, erp, hrv⟩ := hrs
    refine ⟨_, rfl, t, _, rfl, .inl (.inl et), rfl, _, _, rfl, _, _, rfl, rfl, ?_⟩
    refine ⟨_, rfl, p, wd, rfl, hw, good, fun Tb H1 kvs nTb s1 eTb hkv => ?_⟩
    have hw' := hw
    obtain ⟨wvs, ewp, hwv⟩ := hw
    unfold badR at qx q
    dsimp only at qx q
    -- counts
    have cases1 : (¬ (cs.length = wd.length) ∨ cs.all cOk = false) ∨ (cs.length = wd.length ∧ cs.all cOk = true) := by
      by_cases h1 : cs.length = wd.length
      · cases h2 : cs.all cOk with
        | true => exact .inr ⟨h1, rfl⟩
        | false => exact .inl (.inr rfl)
      · exact .inl (.inl h1)
    refine ⟨_, rfl, c, _, rfl, .inr (.inl (.inl (s1 _ _ ec))), _, rfl, p, _, rfl, .inr (.inl (.inl (s1 _ _ ewp))), rfl, _, rfl, ?_⟩
    rw [eqi, List.length_map, hwv.length]
    by_cases hl : cs.length = wd.length
    rotate_left
    · rw [decide_eq_false (show ¬ ((cs.length : Int) = (wd.length : Int)) by omega)]
      rw [if_pos (.inl hl)] at qx
      exact iteT ((qx _ rfl).here s1)
    rw [decide_eq_true (show ((cs.length : Int) = (wd.length : Int)) by omega)]
    refine iteF ?_
    refine ⟨_, rfl, c, rfl, ⟨_, SqT.of (s1 _ _ ec)⟩, fun D nD => ?_⟩
    refine walk_it (walk_tup (xs := cs.map V.int)) (fun m Hx => Same H1 Hx ∧ Hx D = some (.lst (((cs.map cOk).take m).map V.bl))) ⟨same_new nD, upd_same⟩ (fun m Hx hm P => SqT.of (P.1 _ _ (s1 _ _ ec))) (fun m x Hx Hy hm P y => ?_) (fun H2 P => ?_)
    · obtain ⟨sx, eD⟩ := P
      obtain ⟨rfl, ex⟩ := y
      rw [List.length_map] at hm
      have ex' : x = .int cs[m] := by
        rw [List.getElem?_map, List.getElem?_eq_getElem hm] at ex
        exact (Option.some.inj ex).symm
      subst ex'
      have fin : ∀ b : Bool, b = cOk cs[m] → ∃ acc, Hy D = some (.lst acc) ∧ acc.length < sizeLine ∧ (Same H1 (upd Hy D (.lst (acc ++ [.bl b]))) ∧ upd Hy D (.lst (acc ++ [.bl b])) D = some (.lst (((cs.map cOk).take (m + 1)).map V.bl))) := fun b hb => by
        refine ⟨_, eD, ?_, fun c o e => ?_, ?_⟩
        · rw [List.length_map, List.length_take]
          exact Nat.lt_of_le_of_lt (show _ ≤ 1000 by omega) (by decide)
        · rw [upd_ne (ne_of_none e nD)]
          exact sx _ _ e
        · rw [upd_same, List.take_add_one, List.getElem?_map, List.getElem?_eq_getElem hm, List.map_append, hb]
          rfl
      refine ⟨rfl, ?_⟩
      unfold tYes
      refine iteT ?_
      refine ⟨_, rfl, _, _, rfl, rfl, _, rfl, ?_⟩
      by_cases h0 : 0 ≤ cs[m]
      · rw [decide_eq_true h0]
        refine iteT ⟨_, _, rfl, rfl, fin _ ?_⟩
        unfold cOk
        rw [decide_eq_true h0]
        rfl
      · rw [decide_eq_false h0]
        refine iteF (fin _ ?_)
        unfold cOk
        rw [decide_eq_false h0]
        rfl
    obtain ⟨s2, eD⟩ := P
    rw [List.length_map, show cs.length = (cs.map cOk).length by rw [List.length_map], List.take_length] at eD
    refine ⟨D, cs.map cOk, rfl, SqL.of eD, _, rfl, ?_⟩
    rw [show (cs.map cOk).all id = cs.all cOk by rw [List.all_map]; rfl]
    cases hcok : cs.all cOk with
    | false =>
      rw [if_pos (.inr hcok)] at qx
      exact iteT ((qx _ rfl).here (s1.trans s2))
    | true =>
    rw [if_neg (fun z => by
      rcases z with z | z
      · exact z hl
      · rw [hcok] at z
        cases z)] at qx q
    refine iteF ?_
    have s12 := s1.trans s2
    have eTb2 := s2 _ _ eTb
    have hkl := row_len hkv
    -- rules
    refine ⟨_, rfl, rp, _, rfl, .inr (.inl (.inl (s12 _ _ erp))), _, rfl, Tb, kvs, rfl, eTb2, rfl, _, rfl, ?_⟩
    rw [eqi, hrv.length, hkl]
    by_cases hrl : rs.length = (ents (kds wd) wd).length
    rotate_left
    · rw [decide_eq_false (show ¬ ((rs.length : Int) = ((ents (kds wd) wd).length : Int)) by omega)]
      rw [if_pos hrl] at qx
      exact iteT ((qx _ rfl).here s12)
    rw [decide_eq_true (show ((rs.length : Int) = ((ents (kds wd) wd).length : Int)) by omega)]
    rw [if_neg (fun z => z hrl)] at qx q
    refine iteF ?_
    have h12 := ents_len good
    refine ⟨_, rfl, Tb, kvs, rfl, eTb2, fun Ln nLn => ?_⟩
    rw [row_keys hkv]
    have sL := same_new (o := .lst (nmsV ((ents (kds wd) wd).map (·.1.1)))) nLn
    have s23 := s12.trans sL
    refine ⟨_, rfl, Ln, rp, _, _, rfl, ZM.Sq.l upd_same, ZM.Sq.t (s23 _ _ erp), ?_⟩
    have eLn : upd H2 Ln (.lst (nmsV ((ents (kds wd) wd).map (·.1.1)))) Ln = some (.lst (nmsV ((ents (kds wd) wd).map (·.1.1)))) := upd_same
    generalize upd H2 Ln (.lst (nmsV ((ents (kds wd) wd).map (·.1.1)))) = H3 at sL s23 eLn
    have s13 := s2.trans sL
    have hnl : (nmsV ((ents (kds wd) wd).map (·.1.1))).length = (ents (kds wd) wd).length := by
      unfold nmsV
      rw [List.length_map, List.length_map]
    refine for_it (ZM.walkM (n := (ents (kds wd) wd).length) (xs := nmsV ((ents (kds wd) wd).map (·.1.1))) (ys := rvs) (by rw [hnl, hrv.length]; omega)) (fun i σ H' => ∃ (y5 y6 y7 y8 : Option V), σ = [some (.ref p), some (.ref t), some (.ref c), some (.ref rp), some (.ref Tb), y5, y6, y7, y8, none, none] ∧ Same H3 H' ∧ badRs wd cs ((ents (kds wd) wd).zip rs) = badRs wd cs (((ents (kds wd) wd).zip rs).drop i)) ⟨none, none, none, none, rfl, Same.refl _, rfl⟩ (fun i σ H' hi P => ?_) (fun i x σ H' H'' hi P y => ?_) (fun σ H' P => ?_)
    · obtain ⟨_, _, _, _, _, s4, _⟩ := P
      exact ⟨ZM.Sq.l (s4 _ _ eLn), ZM.Sq.t (s4 _ _ (s23 _ _ erp))⟩
    · obtain ⟨y5, y6, y7, y8, rfl, s4, hb⟩ := P
      obtain ⟨Tt, x1, x2, rfl, nT, rfl, e1, e2⟩ := y
      have hir : i < rs.length := by omega
      obtain ⟨rl, erl, hrl2⟩ := paired_at hrv e2
      have e1' : x1 = .str (S (ents (kds wd) wd)[i].1.1) := by
        dsimp only at e1
        unfold nmsV at e1
        rw [List.getElem?_map, List.getElem?_map, List.getElem?_eq_getElem hi] at e1
        exact (Option.some.inj e1).symm
      subst e1'
      have hem : (ents (kds wd) wd)[i] ∈ ents (kds wd) wd := List.getElem_mem hi
      have hzi : ((ents (kds wd) wd).zip rs)[i]? = some ((ents (kds wd) wd)[i], rl) := by
        rw [List.getElem?_zip_eq_some]
        exact ⟨List.getElem?_eq_getElem hi, erl⟩
      rw [drop_at hzi, badRs_cons] at hb
      dsimp only at hb
      generalize (ents (kds wd) wd)[i] = e at hem hb
      have sT := same_new (o := .tup [.str (S e.1.1), x2]) nT
      have s5 := s4.trans sT
      refine ⟨Tt, _, rfl, .inl (.inl upd_same), rfl, _, _, rfl, _, _, rfl, rfl, ?_⟩
      generalize upd H' Tt (.tup [.str (S e.1.1), x2]) = H5 at sT s5
      obtain ⟨t1, u1, ev, et1, eu1⟩ := row_some hkv (by rw [ents_names]; exact good.makers) e hem
      have s15 := s13.trans s5
      have g := DGet.k (k := Ky e.1.1) (s15 _ _ eTb)
      rw [ev] at g
      rw [prts_pks] at eu1
      refine ⟨_, rfl, _, rfl, Tb, .ref t1, rfl, g, ?_⟩
      refine ⟨t1, _, rfl, .inl (.inl (s15 _ _ et1)), rfl, _, _, rfl, _, _, rfl, rfl, ?_⟩
      have s05 := s1.trans s15
      have hlt := ents_lt hem
      -- look_sums(maker, sums, counts[kind], [..])
      refine ⟨_, rfl, _, rfl, _, rfl, _, rfl, c, _, _, _, rfl, rfl, SqT.of (s05 _ _ ec), ints_at (by omega), ?_⟩
      refine ⟨_, rfl, u1, rfl, ⟨_, SqT.of (s15 _ _ eu1)⟩, fun Dp nDp => ?_⟩
      have hp2 := pks_le good hem
      refine walk_it (walk_tup (xs := natV (pks wd e))) (fun m Hx => Same H5 Hx ∧ Hx Dp = some (.lst ((cnts cs ((pks wd e).take m)).map V.int))) ⟨same_new nDp, upd_same⟩ (fun m Hx hm P => SqT.of (P.1 _ _ (s15 _ _ eu1))) (fun m x Hx Hy hm P y => ?_) (fun H6 P => ?_)
      · obtain ⟨sx, eDp⟩ := P
        obtain ⟨rfl, ex⟩ := y
        rw [natV_len] at hm
        have ex' : x = .int ((pks wd e)[m] : Nat) := by
          rw [List.getElem?_map, List.getElem?_eq_getElem hm] at ex
          exact (Option.some.inj ex).symm
        subst ex'
        have hklt := pks_lt good hem _ (List.getElem_mem hm)
        refine ⟨rfl, ?_⟩
        unfold tYes
        refine iteT ?_
        refine ⟨_, rfl, _, rfl, c, _, _, _, rfl, rfl, SqT.of (sx _ _ (s05 _ _ ec)), ints_at (by omega), _, eDp, ?_, fun c o ec => ?_, ?_⟩
        · unfold cnts
          rw [List.length_map, List.length_map, List.length_take]
          exact Nat.lt_of_le_of_lt (show _ ≤ 1000 by omega) (by decide)
        · rw [upd_ne (ne_of_none ec nDp)]
          exact sx _ _ ec
        · unfold cnts
          rw [upd_same, List.take_add_one, List.getElem?_eq_getElem hm, List.map_append, List.map_append]
          rfl
      obtain ⟨s6, eDp⟩ := P
      rw [natV_len, List.take_length] at eDp
      have s06 := s05.trans s6
      refine ⟨S e.1.1, x2, _, Dp, cnts cs (pks wd e), rl, rfl, hrl2.mono (KT.of s06), eDp, tm.rul rl (List.mem_of_getElem? erl), fun w hw' d H' s' ed => ?_, fun hn H' s' => ?_⟩
      · rw [hw'] at hb
        dsimp only at hb
        exact qx _ hb d H' (s06.trans s') ed
      · rw [hn] at hb
        dsimp only at hb
        exact ⟨_, _, _, _, rfl, (s5.trans s6).trans s', hb⟩
    · obtain ⟨y5, y6, y7, y8, rfl, s4, hb⟩ := P
      rw [List.drop_of_length_le (by rw [List.length_zip]; omega)] at hb
      exact q hb _ (s23.trans s4)
end

theorem dp_all {K : PySem.W.Frag} {H : Hp} {n : Nat} : ∀ {vs : List V}, (∀ v ∈ vs, ∃ d, Dp K H v d ∧ d.canLay0 = true ∧ d.depth ≤ n) → ∃ ds, DpAll K H vs ds ∧ PyData.canLayAll0 ds = true ∧ PyData.depthAll ds ≤ n ∧ ds.length = vs.length
  | [], _ => ⟨[], .nil, rfl, Nat.zero_le _, rfl⟩
  | v :: r, h => by
    obtain ⟨d, h1, h2, h3⟩ := h v List.mem_cons_self
    obtain ⟨ds, g1, g2, g3, g4⟩ := dp_all (vs := r) fun u hu => h u (List.mem_cons_of_mem _ hu)
    refine ⟨d :: ds, .cons h1 g1, ?_, ?_, by rw [List.length_cons, List.length_cons, g4]⟩
    · show (d.canLay0 && PyData.canLayAll0 ds) = true
      rw [h2, g2]
      rfl
    · show max d.depth (PyData.depthAll ds) ≤ n
      omega
theorem dp_lst {K : PySem.W.Frag} {H : Hp} {n : Nat} {a : Addr} {vs : List V} (e : SqL K H a vs) (h : ∀ v ∈ vs, ∃ d, Dp K H v d ∧ d.canLay0 = true ∧ d.depth ≤ n) : ∃ ds, Dp K H (.ref a) (.list ds) ∧ (PyData.list ds).canLay0 = true ∧ (PyData.list ds).depth ≤ n + 1 ∧ ds.length = vs.length := by
  obtain ⟨ds, g1, g2, g3, g4⟩ := dp_all h
  exact ⟨ds, .lst e g1, g2, Nat.succ_le_succ g3, g4⟩
theorem dp_tup {K : PySem.W.Frag} {H : Hp} {n : Nat} {a : Addr} {vs : List V} (e : SqT K H a vs) (h : ∀ v ∈ vs, ∃ d, Dp K H v d ∧ d.canLay0 = true ∧ d.depth ≤ n) : ∃ ds, Dp K H (.ref a) (.tuple ds) ∧ (PyData.tuple ds).canLay0 = true ∧ (PyData.tuple ds).depth ≤ n + 1 ∧ ds.length = vs.length := by
  obtain ⟨ds, g1, g2, g3, g4⟩ := dp_all h
  exact ⟨ds, .tup e g1, g2, Nat.succ_le_succ g3, g4⟩
theorem dp_str {K : PySem.W.Frag} {H : Hp} {n : Nat} {z : Nam} (h : tx z) : ∃ d, Dp K H (.str (S z)) d ∧ d.canLay0 = true ∧ d.depth ≤ n := ⟨_, .str _, h.2, Nat.zero_le _⟩
theorem two_mem {α : Type} {P : α → Prop} {x y : α} (hx : P x) (hy : P y) : ∀ v ∈ [x, y], P v := fun v hv => by
  rcases List.mem_cons.mp hv with rfl | hv
  · exact hx
  · rw [List.mem_singleton.mp hv]
    exact hy
theorem shaped_of {d : PyData} {n : Nat} (h1 : d.canLay0 = true) (h2 : d.depth ≤ n) (h3 : n ≤ 64) : SeqAt.shaped d = true := by
  show (d.canLay0 && decide (d.depth ≤ 64)) = true
  rw [h1, decide_eq_true (Nat.le_trans h2 h3)]
  rfl
theorem eqv_nil {ds : List PyData} : PyData.eqv (.list ds) (.list []) = decide (ds.length = 0) := by
  cases ds <;> rfl

/-! ### what the law finds amiss -/
section
variable {P : Program} {w : World} {K : PySem.W.Frag} {mg : Str → Option Value} {base : Heap}
def Tol (Q : VK) (H : Hp) (r : Str × Str) : Prop := ∀ (t : Addr) (H' : Hp), Same H H' → H' t = some (.tup [.str r.1, .str r.2]) → Q (.ref t) H'
theorem Tol.here {Q : VK} {H H1 : Hp} {a b : Str} (h : Tol Q H (a, b)) (s : Same H H1) : 2 ≤ sizeLine ∧ ∀ t, H1 t = none → Q (.ref t) (upd H1 t (.tup [.str a, .str b])) := ⟨s2, fun t n => h t _ (s.trans (same_new n)) upd_same⟩
def spRd : Sp := fun vs H Q _ => ∃ (p t : Addr) (wd : Wood) (rd : Rdr), vs = [.ref p, .ref t] ∧ WdAt H p wd ∧ Good wd ∧ RdAt H t rd ∧ TmR 1000 rd ∧ (∀ r, badR wd rd = some r → Tol Q H r) ∧ (badR wd rd = none → ∀ H', Same H H' → Q .non H')
theorem all_no {α : Type} {f : α → Bool} {l : List α} {x : α} (h : x ∈ l) (hx : f x = false) : l.all f = false := List.all_eq_false.mpr ⟨x, h, by rw [hx]; exact Bool.false_ne_true⟩
theorem ok_rdue (T : Tx P K mg) : FnOk P w K mg base CX0 2 T.f_rdue T.fd_rdue ["_law_wood_here", "_law_reader_here"] spRd := by
  refine T.F_rdue.ok sc_rdue (fun vs H Q E h => ?_) (fun cdv A outer s H vs Q E hr h => ?_)
  · obtain ⟨a, b, wd, rd, rfl, _⟩ := h
    rfl
  · obtain ⟨p, t, wd, ⟨cs, rs⟩, rfl, hw, good, ⟨c, rv, et, ec, hrs⟩, tm, qx, q⟩ := h
    refine ⟨_, (pss_cons (ps_asg (pv 1) (pg_tup rfl (pgs_cons (pg_name (i := 2) sc_rdue.nd rfl (.inl rfl)) (pgs_cons (pg_name (i := 3) sc_rdue.nd rfl (.inl rfl)) pgs_nil)))) (pss_cons (ps_set (i := 4) sc_rdue.nd rfl (.inl rfl) (pe_call (ok_lmakers T) (hr.mono (by decide) : Room 1 _) (by rfl) T.g_lmakers T.F_lmakers.kp T.b_lmakers .nil pass0 (pa_cons (pv 0) pa_nil))) (pss_cons (ps_if (PW.pt (pw_or (pt_cmpR op_ne (pe_callB call_len_seq (by rfl) T.m_len PySem.boot_len (pa_cons (pv 2) pa_nil)) (pe_callB call_len_seq (by rfl) T.m_len PySem.boot_len (pa_cons (pv 0) pa_nil)) (nomark _)) (pw_or1 (pt_cmpR (op_neD hr.units) (pe_lc (own := [("_law_count", 15)]) (by rfl) sc_rdue.nd (pi_tup (pv 2)) (blkOk_by (own := [("_law_count", 15)]) (N := ["_law_wood_here", "_law_reader_here", "_law_counts", "_law_rules", "_law_makers_here", "_law_maker", "_law_kind", "_law_parts", "_law_sums", "_law_terms", "_law_upper", "_law_lower", "_law_boxes", "_law_one", "_law_part", "_law_count"]) (sc := defScope st_rdue) (by decide +kernel)) (fun _ _ _ _ _ => (pg_name (i := 15) sc_rdue.nd rfl (.inl rfl))) (fun _ _ _ _ _ => (pts_one (PW.pt (pw_or (pt_cmpR op_lt (pv 15) pe_int (nomark _)) (pw_or1 (pt_cmpR op_gt (pv 15) pe_int (nomark _))))))) (fun _ _ _ _ _ => (pv 15))) (pe_lst pa_nil) (nomark _))))) (pss_one (ps_ret (pe_tup (pa_cons pe_str (pa_cons pe_str pa_nil))))) pss_nil) (pss_cons (ps_if (pt_cmpR op_ne (pe_callB call_len_seq (by rfl) T.m_len PySem.boot_len (pa_cons (pv 3) pa_nil)) (pe_callB call_len_seq (by rfl) T.m_len PySem.boot_len (pa_cons (pv 4) pa_nil)) (nomark _)) (pss_one (ps_ret (pe_tup (pa_cons pe_str (pa_cons pe_str pa_nil))))) pss_nil) (pss_cons (ps_for PassesOwn.never rfl (ZM.pi_zipM false true (by rfl) T.m_zip (pa_cons (pv 4) (pa_cons (pv 3) pa_nil))) (pg_tup rfl (pgs_cons (pg_tup rfl (pgs_cons (pg_name (i := 5) sc_rdue.nd rfl (.inl rfl)) (pgs_cons (pg_name (i := 6) sc_rdue.nd rfl (.inl rfl)) (pgs_cons (pg_name (i := 7) sc_rdue.nd rfl (.inl rfl)) pgs_nil)))) (pgs_cons (pg_name (i := 8) sc_rdue.nd rfl (.inl rfl)) pgs_nil))) (pss_cons (ps_if (pt_cmpR op_ne (pe_callB call_len_seq (by rfl) T.m_len PySem.boot_len (pa_cons (pv 8) pa_nil)) (pe_ix ix_tup (pv 2) (pv 6) (fun _ _ => rfl)) (nomark _)) (pss_one (ps_ret (pe_tup (pa_cons pe_str (pa_cons (pv 5) pa_nil))))) pss_nil) (pss_one (ps_for PassesOwn.never rfl (pi_tup (pv 8)) (pg_name (i := 9) sc_rdue.nd rfl (.inl rfl)) (pss_one (ps_for PassesOwn.never rfl (pi_tup (pv 9)) (pg_tup rfl (pgs_cons (pg_tup rfl (pgs_cons (pg_name (i := 10) sc_rdue.nd rfl (.inl rfl)) (pgs_cons (pg_name (i := 11) sc_rdue.nd rfl (.inl rfl)) pgs_nil))) (pgs_cons (pg_name (i := 12) sc_rdue.nd rfl (.inl rfl)) pgs_nil))) (pss_cons (ps_if (PW.pt (pw_or (pt_cmpR op_lt (pv 11) pe_int (nomark _)) (pw_or1 (pt_cmpR op_ne (pe_call (ok_shared T) (hr.mono (by decide) : Room 1 _) (by rfl) T.g_shared T.F_shared.kp T.b_shared .nil pass0 (pa_cons (pv 11) (pa_cons (pe_callB call_abs (by rfl) T.m_abs (by decide +kernel) (pa_cons (pv 10) pa_nil)) pa_nil))) pe_int (nomark _))))) (pss_one (ps_ret (pe_tup (pa_cons pe_str (pa_cons (pv 5) pa_nil))))) pss_nil) (pss_cons (ps_if (pt_cmpR op_ne (pe_callB call_len_seq (by rfl) T.m_len PySem.boot_len (pa_cons (pv 12) pa_nil)) (pe_callB call_len_seq (by rfl) T.m_len PySem.boot_len (pa_cons (pv 7) pa_nil)) (nomark _)) (pss_one (ps_ret (pe_tup (pa_cons pe_str (pa_cons (pv 5) pa_nil))))) pss_nil) (pss_one (ps_for PassesOwn.never rfl (ZM.pi_zipM true true (by rfl) T.m_zip (pa_cons (pv 12) (pa_cons (pv 7) pa_nil))) (pg_tup rfl (pgs_cons (pg_name (i := 13) sc_rdue.nd rfl (.inl rfl)) (pgs_cons (pg_name (i := 14) sc_rdue.nd rfl (.inl rfl)) pgs_nil))) (pss_one (ps_if (PW.pt (pw_and (pt_cmpR op_notN (pv 13) pe_non (nomark _)) (pw_and1 (pt_not (pt_chain op_le op_lt pe_int (pv 13) (pe_ix ix_tup (pv 2) (pv 14) (fun _ _ => rfl))))))) (pss_one (ps_ret (pe_tup (pa_cons pe_str (pa_cons (pv 5) pa_nil))))) pss_nil)))))))))))) (pss_one (ps_ret pe_non))))))), ?_⟩
    dsimp only at ec hrs qx q
    have hb1 := tm.cnt
    have hb2 := tm.few
    dsimp only at hb1 hb2
    obtain ⟨rp, rvs, rfl, erp, hrv⟩ := hrs
    refine ⟨_, rfl, t, _, rfl, .inl (.inl et), rfl, _, _, rfl, _, _, rfl, rfl, ?_⟩
    refine ⟨_, rfl, p, wd, rfl, hw, good, fun L H1 ds nL s1 eL hds => ?_⟩
    obtain ⟨wvs, ewp, hwv⟩ := hw
    unfold badR at qx q
    dsimp only at qx q
    refine ⟨_, rfl, c, _, rfl, .inr (.inl (.inl (s1 _ _ ec))), _, rfl, p, _, rfl, .inr (.inl (.inl (s1 _ _ ewp))), rfl, _, rfl, ?_⟩
    rw [eqi, List.length_map, hwv.length]
    by_cases hl : cs.length = wd.length
    rotate_left
    · rw [decide_eq_false (show ¬ ((cs.length : Int) = (wd.length : Int)) by omega)]
      rw [if_pos (.inl hl)] at qx
      exact iteT ((qx _ rfl).here s1)
    rw [decide_eq_true (show ((cs.length : Int) = (wd.length : Int)) by omega)]
    refine iteF ?_
    refine ⟨_, rfl, c, rfl, ⟨_, SqT.of (s1 _ _ ec)⟩, fun D nD => ?_⟩
    refine walk_it (walk_tup (xs := cs.map V.int)) (fun m Hx => Same H1 Hx ∧ Hx D = some (.lst (((cs.take m).filter fun c => !cOk c).map V.int))) ⟨same_new nD, upd_same⟩ (fun m Hx hm P => SqT.of (P.1 _ _ (s1 _ _ ec))) (fun m x Hx Hy hm P y => ?_) (fun H2 P => ?_)
    · obtain ⟨sx, eD⟩ := P
      obtain ⟨rfl, ex⟩ := y
      rw [List.length_map] at hm
      have ex' : x = .int cs[m] := by
        rw [List.getElem?_map, List.getElem?_eq_getElem hm] at ex
        exact (Option.some.inj ex).symm
      subst ex'
      have yes : cOk cs[m] = false → ∃ acc, Hy D = some (.lst acc) ∧ acc.length < sizeLine ∧ (Same H1 (upd Hy D (.lst (acc ++ [.int cs[m]]))) ∧ upd Hy D (.lst (acc ++ [.int cs[m]])) D = some (.lst (((cs.take (m + 1)).filter fun c => !cOk c).map V.int))) := fun hb => by
        refine ⟨_, eD, ?_, fun c o e => ?_, ?_⟩
        · rw [List.length_map]
          have := List.length_filter_le (fun c => !cOk c) (cs.take m)
          rw [List.length_take] at this
          exact Nat.lt_of_le_of_lt (show _ ≤ 1000 by omega) (by decide)
        · rw [upd_ne (ne_of_none e nD)]
          exact sx _ _ e
        · rw [upd_same, List.take_add_one, List.getElem?_eq_getElem hm, List.filter_append, show ((some cs[m]).toList.filter fun c => !cOk c) = [cs[m]] by simp [hb], List.map_append]
          rfl
      refine ⟨rfl, _, rfl, _, _, rfl, rfl, _, rfl, ?_⟩
      by_cases h0 : cs[m] < 0
      · rw [decide_eq_true h0]
        refine iteT (iteT ⟨_, rfl, yes ?_⟩)
        unfold cOk
        rw [decide_eq_false (show ¬ (0 ≤ cs[m]) by omega)]
        rfl
      rw [decide_eq_false h0]
      refine iteF ⟨_, rfl, _, _, rfl, rfl, _, rfl, ?_⟩
      by_cases h4 : 4 < cs[m]
      · rw [decide_eq_true h4]
        refine iteT ⟨_, rfl, yes ?_⟩
        unfold cOk
        rw [decide_eq_false (show ¬ (cs[m] ≤ 4) by omega)]
        simp
      · rw [decide_eq_false h4]
        refine iteF ⟨sx, ?_⟩
        have hyes : cOk cs[m] = true := by
          unfold cOk
          rw [decide_eq_true (show 0 ≤ cs[m] by omega), decide_eq_true (show cs[m] ≤ 4 by omega)]
          rfl
        rw [eD, List.take_add_one, List.getElem?_eq_getElem hm, List.filter_append, show ((some cs[m]).toList.filter fun c => !cOk c) = [] by simp [hyes], List.append_nil]
    obtain ⟨s2', eD⟩ := P
    rw [List.length_map, List.take_length] at eD
    refine ⟨s0, fun L3 nL3 => ?_⟩
    have sL3 := same_new (o := .lst []) nL3
    obtain ⟨dd, p1, p2, p3, p4⟩ := dp_lst (K := K) (n := 0) (SqL.of (sL3 _ _ eD)) (fun v hv => by
      obtain ⟨x, _, rfl⟩ := List.mem_map.mp hv
      exact ⟨_, .int _, rfl, Nat.zero_le _⟩)
    refine ⟨.list dd, .list [], p1, .lst (SqL.of upd_same) .nil, shaped_of p2 p3 (by decide), rfl, _, rfl, ?_⟩
    rw [eqv_nil, p4, List.length_map]
    have s12 : Same H (upd H2 L3 (.lst [])) := (s1.trans s2').trans sL3
    have s1x : Same H1 (upd H2 L3 (.lst [])) := s2'.trans sL3
    clear p1
    generalize upd H2 L3 (.lst []) = H3 at sL3 s12 s1x
    have hall : decide ((cs.filter fun c => !cOk c).length = 0) = cs.all cOk := by
      rw [Bool.eq_iff_iff, decide_eq_true_iff, List.length_eq_zero_iff, List.filter_eq_nil_iff, List.all_eq_true]
      simp
    rw [hall]
    cases hcok : cs.all cOk with
    | false =>
      rw [if_pos (.inr hcok)] at qx
      exact iteT ((qx _ rfl).here s12)
    | true =>
    rw [if_neg (fun z => by
      rcases z with z | z
      · exact z hl
      · rw [hcok] at z
        cases z)] at qx q
    refine iteF ?_
    have hdl := hds.length
    have eL3 := s1x _ _ eL
    refine ⟨_, rfl, rp, _, rfl, .inr (.inl (.inl (s12 _ _ erp))), _, rfl, L, _, rfl, .inl (SqL.of eL3), rfl, _, rfl, ?_⟩
    rw [eqi, hrv.length, hdl]
    by_cases hrl : rs.length = (ents (kds wd) wd).length
    rotate_left
    · rw [decide_eq_false (show ¬ ((rs.length : Int) = ((ents (kds wd) wd).length : Int)) by omega)]
      rw [if_pos hrl] at qx
      exact iteT ((qx _ rfl).here s12)
    rw [decide_eq_true (show ((rs.length : Int) = ((ents (kds wd) wd).length : Int)) by omega)]
    rw [if_neg (fun z => z hrl)] at qx q
    refine iteF ?_
    refine ⟨_, rfl, _, rfl, L, rp, _, _, rfl, ZM.Sq.l eL3, ZM.Sq.t (s12 _ _ erp), ?_⟩
    refine for_it (ZM.walkM (n := (ents (kds wd) wd).length) (xs := ds) (ys := rvs) (by rw [hdl, hrv.length]; omega)) (fun i σ H' => ∃ (y5 y6 y7 y8 y9 y10 y11 y12 y13 y14 : Option V), σ = [some (.ref p), some (.ref t), some (.ref c), some (.ref rp), some (.ref L), y5, y6, y7, y8, y9, y10, y11, y12, y13, y14, none] ∧ Same H3 H' ∧ badRs wd cs ((ents (kds wd) wd).zip rs) = badRs wd cs (((ents (kds wd) wd).zip rs).drop i)) ⟨none, none, none, none, none, none, none, none, none, none, rfl, Same.refl _, rfl⟩ (fun i σ H' hi P => ?_) (fun i x σ H' H'' hi P y => ?_) (fun σ H' P => ?_)
    · obtain ⟨_, _, _, _, _, _, _, _, _, _, _, s4, _⟩ := P
      exact ⟨ZM.Sq.l (s4 _ _ eL3), ZM.Sq.t (s4 _ _ (s12 _ _ erp))⟩
    · obtain ⟨y5, y6, y7, y8, y9, y10, y11, y12, y13, y14, rfl, s4, hb⟩ := P
      obtain ⟨Tt, x1, x2, rfl, nT, rfl, e1, e2⟩ := y
      obtain ⟨e, ee, t1, u1, rfl, et1, eu1⟩ := paired_at hds e1
      obtain ⟨rl, erl, rlp, rlvs, rfl, erlp, hrl2⟩ := paired_at hrv e2
      have hem := List.mem_of_getElem? ee
      have hzi : ((ents (kds wd) wd).zip rs)[i]? = some (e, rl) := by
        rw [List.getElem?_zip_eq_some]
        exact ⟨ee, erl⟩
      rw [drop_at hzi, badRs_cons] at hb
      dsimp only at hb
      rw [prts_pks] at eu1
      have sT := same_new (o := .tup [.ref t1, .ref rlp]) nT
      have s5 := s4.trans sT
      have s05 := s12.trans s5
      have s15 := s1x.trans s5
      refine ⟨Tt, _, rfl, .inl (.inl upd_same), rfl, _, _, rfl, t1, _, rfl, .inl (.inl (s15 _ _ et1)), rfl, _, _, rfl, _, _, rfl, _, _, rfl, rfl, _, _, rfl, rfl, ?_⟩
      generalize upd H' Tt (.tup [.ref t1, .ref rlp]) = H5 at sT s5 s05 s15
      have hlt := ents_lt hem
      have bad : ∀ w, badRl (cs.getD e.2 0) (cnts cs (pks wd e)) rl = some w → Tol Q H (w, S e.1.1) := fun w hw => by
        refine qx _ ?_
        rw [hb, hw]
      unfold badRl at bad hb
      obtain ⟨hr1, hr2⟩ := tm.rul rl (List.mem_of_getElem? erl)
      -- sums
      refine ⟨_, rfl, rlp, _, rfl, .inr (.inl (.inl (s05 _ _ erlp))), _, rfl, _, rfl, c, _, _, _, rfl, rfl, SqT.of (s05 _ _ ec), ints_at (by omega), rfl, _, rfl, ?_⟩
      rw [eqi, hrl2.length]
      by_cases hsl : (rl.length : Int) = cs.getD e.2 0
      rotate_left
      · rw [decide_eq_false hsl]
        rw [if_pos hsl] at bad
        exact iteT ⟨_, rfl, (bad _ rfl).here s05⟩
      rw [decide_eq_true hsl]
      rw [if_neg (fun z => z hsl)] at bad hb
      refine iteF ?_
      refine ⟨_, rfl, rlp, rfl, ⟨rlvs, SqT.of (s05 _ _ erlp)⟩, for_it (walk_tup (xs := rlvs)) (fun j σ H' => ∃ (y9 y10 y11 y12 y13 y14 : Option V), σ = [some (.ref p), some (.ref t), some (.ref c), some (.ref rp), some (.ref L), some (.str (S e.1.1)), some (.int (e.2 : Nat)), some (.ref u1), some (.ref rlp), y9, y10, y11, y12, y13, y14, none] ∧ Same H5 H' ∧ badSs (cnts cs (pks wd e)) rl = badSs (cnts cs (pks wd e)) (rl.drop j)) ⟨_, _, _, _, _, _, rfl, Same.refl _, rfl⟩ (fun j σ H' hj P => ?_) (fun j x σ H' H'' hj P y => ?_) (fun σ H' P => ?_)⟩
      · obtain ⟨_, _, _, _, _, _, _, s6, _⟩ := P
        exact SqT.of (s6 _ _ (s05 _ _ erlp))
      · obtain ⟨y9, y10, y11, y12, y13, y14, rfl, s6, hbj⟩ := P
        obtain ⟨rfl, ex⟩ := y
        obtain ⟨sm, esm, tp, tvs, rfl, etp, htp⟩ := paired_at hrl2 ex
        obtain ⟨hs1, hs2⟩ := hr2 sm (List.mem_of_getElem? esm)
        rw [drop_at esm, badSs_cons] at hbj
        have s06 := s05.trans s6
        refine ⟨_, rfl, tp, rfl, ⟨tvs, SqT.of (s06 _ _ etp)⟩, for_it (walk_tup (xs := tvs)) (fun m σ H' => ∃ (y10 y11 y12 y13 y14 : Option V), σ = [some (.ref p), some (.ref t), some (.ref c), some (.ref rp), some (.ref L), some (.str (S e.1.1)), some (.int (e.2 : Nat)), some (.ref u1), some (.ref rlp), some (.ref tp), y10, y11, y12, y13, y14, none] ∧ Same H5 H' ∧ badTs (cnts cs (pks wd e)) sm = badTs (cnts cs (pks wd e)) (sm.drop m)) ⟨_, _, _, _, _, rfl, s6, rfl⟩ (fun m σ H' hm P => ?_) (fun m x σ H' H'' hm P y => ?_) (fun σ H' P => ?_)⟩
        · obtain ⟨_, _, _, _, _, _, s7, _⟩ := P
          exact SqT.of (s7 _ _ (s05 _ _ etp))
        · obtain ⟨y10, y11, y12, y13, y14, rfl, s7, hbm⟩ := P
          obtain ⟨rfl, ex'⟩ := y
          obtain ⟨tt, ett, tq, fq, bq, rfl, f1, f2, f3⟩ := paired_at htp ex'
          rw [drop_at ett, badTs_cons] at hbm
          have hbl := hs2 tt (List.mem_of_getElem? ett)
          have s07 := s05.trans s7
          have s17 := s15.trans s7
          have badT : ∀ w, badTm (cnts cs (pks wd e)) tt = some w → Tol Q H (w, S e.1.1) := fun w hw => by
            refine bad w ?_
            rw [hbj, hbm, hw]
          unfold badTm at badT hbm
          refine ⟨tq, _, rfl, .inl (.inl (s07 _ _ f1)), rfl, _, _, rfl, fq, _, rfl, .inl (.inl (s07 _ _ f2)), rfl, _, _, rfl, _, _, rfl, rfl, _, _, rfl, rfl, ?_⟩
          refine ⟨_, rfl, _, _, rfl, rfl, _, rfl, ?_⟩
          have hnum : isFr tt.1 = false → Tol Q H ("number", S e.1.1) := fun hf => badT _ (by rw [hf]; rfl)
          by_cases hlo : tt.1.2 < 1
          · rw [decide_eq_true hlo]
            refine iteT ⟨_, rfl, (hnum ?_).here s07⟩
            unfold isFr
            rw [decide_eq_false (show ¬ (1 ≤ tt.1.2) by omega)]
            rfl
          rw [decide_eq_false hlo]
          refine iteF ⟨_, rfl, _, rfl, _, rfl, tt.1.2, _, rfl, by omega, ?_, rfl, _, rfl, ?_⟩
          · split <;> omega
          rw [eqi, Int.gcd_comm, abs_gcd]
          have hfr : isFr tt.1 = decide (((Int.gcd tt.1.1 tt.1.2 : Nat) : Int) = 1) := by
            unfold isFr
            rw [decide_eq_true (show 1 ≤ tt.1.2 by omega), Bool.true_and, decide_eq_decide]
            omega
          by_cases hg : ((Int.gcd tt.1.1 tt.1.2 : Nat) : Int) = 1
          rotate_left
          · rw [decide_eq_false hg]
            refine iteT ⟨_, rfl, (hnum ?_).here s07⟩
            rw [hfr, decide_eq_false hg]
          rw [decide_eq_true hg] at hfr ⊢
          rw [hfr] at badT hbm
          rw [if_neg (by decide)] at badT hbm
          refine iteF ?_
          have hcl : (cnts cs (pks wd e)).length = (pks wd e).length := List.length_map _
          refine ⟨_, rfl, bq, _, rfl, .inr (.inl (.inl (s07 _ _ f3))), _, rfl, u1, _, rfl, .inr (.inl (.inl (s17 _ _ eu1))), rfl, _, rfl, ?_⟩
          rw [eqi, List.length_map, natV_len]
          rw [hcl] at badT hbm
          by_cases hle : tt.2.length = (pks wd e).length
          rotate_left
          · rw [decide_eq_false (show ¬ ((tt.2.length : Int) = ((pks wd e).length : Int)) by omega)]
            rw [if_pos hle] at badT
            exact iteT ⟨_, rfl, (badT _ rfl).here s07⟩
          rw [decide_eq_true (show ((tt.2.length : Int) = ((pks wd e).length : Int)) by omega)]
          rw [if_neg (fun z => z hle)] at badT hbm
          refine iteF ?_
          refine ⟨_, rfl, _, rfl, bq, u1, _, _, rfl, ZM.Sq.t (s07 _ _ f3), ZM.Sq.t (s17 _ _ eu1), ?_⟩
          refine for_it (ZM.walkM (n := tt.2.length) (xs := tt.2.map oV) (ys := natV (pks wd e)) (by rw [List.length_map, natV_len]; omega)) (fun n σ H' => ∃ (y13 y14 : Option V), σ = [some (.ref p), some (.ref t), some (.ref c), some (.ref rp), some (.ref L), some (.str (S e.1.1)), some (.int (e.2 : Nat)), some (.ref u1), some (.ref rlp), some (.ref tp), some (.int tt.1.1), some (.int tt.1.2), some (.ref bq), y13, y14, none] ∧ Same H5 H' ∧ ((tt.2.zip (cnts cs (pks wd e))).take n).all bxOk = true) ⟨_, _, rfl, s7, rfl⟩ (fun n σ H' hn P => ?_) (fun n x σ H' H'' hn P y => ?_) (fun σ H' P => ?_)
          · obtain ⟨_, _, _, s8, _⟩ := P
            exact ⟨ZM.Sq.t (s8 _ _ (s05 _ _ f3)), ZM.Sq.t (s8 _ _ (s15 _ _ eu1))⟩
          · obtain ⟨y13, y14, rfl, s8, hall8⟩ := P
            obtain ⟨Tz, x1, x2, rfl, nTz, rfl, g1, g2⟩ := y
            have hn2 : n < (pks wd e).length := by omega
            have g1' : x1 = oV tt.2[n] := by
              dsimp only at g1
              rw [List.getElem?_map, List.getElem?_eq_getElem hn] at g1
              exact (Option.some.inj g1).symm
            have g2' : x2 = .int ((pks wd e)[n] : Nat) := by
              dsimp only at g2
              rw [List.getElem?_map, List.getElem?_eq_getElem hn2] at g2
              exact (Option.some.inj g2).symm
            subst g1' g2'
            have sZ := same_new (o := .tup [oV tt.2[n], .int ((pks wd e)[n] : Nat)]) nTz
            refine ⟨Tz, _, rfl, .inl (.inl upd_same), rfl, _, _, rfl, _, _, rfl, rfl, ?_⟩
            generalize upd H' Tz (.tup [oV tt.2[n], .int ((pks wd e)[n] : Nat)]) = H9 at sZ
            have s9 := s8.trans sZ
            have s09 := s05.trans s9
            have hklt := pks_lt good hem _ (List.getElem_mem hn2)
            have hz : n < (tt.2.zip (cnts cs (pks wd e))).length := by
              rw [List.length_zip, hcl]
              omega
            have ezn : (tt.2.zip (cnts cs (pks wd e)))[n] = (tt.2[n], cs.getD (pks wd e)[n] 0) := by
              rw [List.getElem_zip]
              unfold cnts
              rw [List.getElem_map]
            have next : bxOk (tt.2[n], cs.getD (pks wd e)[n] 0) = true → ((tt.2.zip (cnts cs (pks wd e))).take (n + 1)).all bxOk = true := fun hk => by
              rw [List.take_add_one, List.getElem?_eq_getElem hz, ezn, List.all_append, hall8]
              show (true && (bxOk (tt.2[n], cs.getD (pks wd e)[n] 0) && true)) = true
              rw [hk]
              rfl
            have out : bxOk (tt.2[n], cs.getD (pks wd e)[n] 0) = false → Tol Q H ("box", S e.1.1) := fun hk => by
              refine badT _ ?_
              rw [if_pos]
              refine all_no (x := (tt.2[n], cs.getD (pks wd e)[n] 0)) ?_ hk
              rw [← ezn]
              exact List.getElem_mem hz
            cases hbx : tt.2[n] with
            | none =>
              rw [hbx] at next out
              refine ⟨_, rfl, rfl, false, (by show V.bl (!decide (V.non = V.non)) = _; simp), iteF ?_⟩
              exact ⟨_, _, rfl, s9, next rfl⟩
            | some x =>
              rw [hbx] at next out
              have hbo : bxOk (some x, cs.getD (pks wd e)[n] 0) = (decide (0 ≤ x) && decide (x < cs.getD (pks wd e)[n] 0)) := rfl
              rw [hbo] at next out
              refine ⟨_, rfl, rfl, true, (by show V.bl (!decide (V.int x = V.non)) = _; simp), iteT ?_⟩
              refine ⟨_, rfl, _, _, rfl, rfl, _, rfl, ?_⟩
              by_cases h0 : 0 ≤ x
              rotate_left
              · rw [decide_eq_false h0] at out ⊢
                exact iteF ⟨_, rfl, iteT ⟨_, rfl, (out rfl).here s09⟩⟩
              rw [decide_eq_true h0] at next out ⊢
              refine iteT ⟨_, rfl, _, rfl, c, _, _, _, rfl, rfl, SqT.of (s09 _ _ ec), ints_at (by omega), _, _, rfl, rfl, _, rfl, ?_⟩
              by_cases h1 : x < cs.getD (pks wd e)[n] 0
              · rw [decide_eq_true h1] at next ⊢
                exact iteF ⟨_, _, rfl, s9, next rfl⟩
              · rw [decide_eq_false h1] at out ⊢
                exact iteT ⟨_, rfl, (out rfl).here s09⟩
          · obtain ⟨y13, y14, rfl, s8, hall8⟩ := P
            rw [List.take_of_length_le (by rw [List.length_zip, hcl]; omega)] at hall8
            rw [hall8] at hbm
            rw [if_neg (by decide)] at hbm
            dsimp only at hbm
            exact ⟨_, _, _, _, _, rfl, s8, hbm⟩
        · obtain ⟨y10, y11, y12, y13, y14, rfl, s7, hbm⟩ := P
          rw [htp.length, List.drop_length] at hbm
          have hbm' : badTs (cnts cs (pks wd e)) sm = none := hbm
          rw [hbm'] at hbj
          exact ⟨_, _, _, _, _, _, rfl, s7, hbj⟩
      · obtain ⟨y9, y10, y11, y12, y13, y14, rfl, s6, hbj⟩ := P
        rw [hrl2.length, List.drop_length] at hbj
        have hbj' : badSs (cnts cs (pks wd e)) rl = none := hbj
        rw [hbj'] at hb
        dsimp only at hb
        exact ⟨_, _, _, _, _, _, _, _, _, _, rfl, s5.trans s6, hb⟩
    · obtain ⟨y5, y6, y7, y8, y9, y10, y11, y12, y13, y14, rfl, s4, hb⟩ := P
      rw [List.drop_of_length_le (by rw [List.length_zip]; omega)] at hb
      exact q hb _ (s12.trans s4)
end

/-! ### told and due -/
def tolds (wd : Wood) (rd : Rdr) : List V := match badR wd rd with
  | none => [.str "let by"]
  | some r => [.str "refused", .str r.1, .str r.2]
section
variable {P : Program} {w : World} {K : PySem.W.Frag} {mg : Str → Option Value} {base : Heap}
theorem s10 : 10 ≤ sizeLine := by decide
def spTold : Sp := fun vs H Q _ => ∃ (p t : Addr) (wd : Wood) (rd : Rdr), vs = [.ref p, .ref t] ∧ WdAt H p wd ∧ Good wd ∧ RdAt H t rd ∧ TmR 1000 rd ∧ ∀ (u : Addr) (H' : Hp), Same H H' → H' u = some (.tup (tolds wd rd)) → Q (.ref u) H'
theorem ok_due (T : Tx P K mg) : FnOk P w K mg base CX0 3 T.f_due T.fd_due ["_law_wood_here", "_law_reader_here"] spTold := by
  refine T.F_due.ok sc_due (fun vs H Q E h => ?_) (fun cdv A outer s H vs Q E hr h => ?_)
  · obtain ⟨a, b, wd, rd, rfl, _⟩ := h
    rfl
  · obtain ⟨p, t, wd, rd, rfl, hw, good, ht, tm, q⟩ := h
    refine ⟨_, (pss_cons (ps_set (i := 2) sc_due.nd rfl (.inl rfl) (pe_call (ok_rdue T) (hr.mono (by decide) : Room 2 _) (by rfl) T.g_rdue T.F_rdue.kp T.b_rdue .nil pass0 (pa_cons (pv 0) (pa_cons (pv 1) pa_nil)))) (pss_cons (ps_if (pt_cmpR op_isN (pv 2) pe_non (nomark _)) (pss_one (ps_ret (pe_tup (pa_cons pe_str pa_nil)))) pss_nil) (pss_one (ps_ret (pe_op op_catT (pe_tup (pa_cons pe_str pa_nil)) (pv 2)))))), ?_⟩
    unfold tolds at q
    refine ⟨_, rfl, _, rfl, p, t, wd, rd, rfl, hw, good, ht, tm, fun r hr t1 H1 s1 et => ?_, fun hb H1 s1 => ?_⟩
    · rw [hr] at q
      refine ⟨_, rfl, rfl, _, rfl, iteF ?_⟩
      refine ⟨B14.s1, fun u nu => ⟨_, rfl, u, t1, _, _, rfl, rfl, .inl (.inl upd_same), .inl (.inl ((same_new nu) _ _ et)), (by intro z; cases z), s3, (fun z => by cases z), fun _ v nv => ?_⟩⟩
      exact q v _ ((s1.trans (same_new nu)).trans (same_new nv)) upd_same
    · rw [hb] at q
      refine ⟨_, rfl, rfl, _, rfl, iteT ⟨B14.s1, fun u nu => ?_⟩⟩
      exact q u _ (s1.trans (same_new nu)) upd_same
theorem ok_told (T : Tx P K mg) : FnOk P w K mg base CX0 5 T.f_told T.fd_told ["_law_wood_here", "_law_reader_here"] spTold := by
  refine T.F_told.ok sc_told (fun vs H Q E h => ?_) (fun cdv A outer s H vs Q E hr h => ?_)
  · obtain ⟨a, b, wd, rd, rfl, _⟩ := h
    rfl
  · obtain ⟨p, t, wd, rd, rfl, hw, good, ht, tm, q⟩ := h
    refine ⟨_, (pss_cons (ps_set (i := 2) sc_told.nd rfl (.inl rfl) (pe_tup (pa_cons pe_str pa_nil))) (pss_cons (ps_try_as (i := 3) (Wout := fun _ _ _ _ => False) rfl rfl sc_told.nd rfl rfl ⟨rfl, by decide, .inl T.g_BoughError⟩ takes0 (fun W pn xe tk _ => (pss_one (ps_if (pt_cmpR op_is_bl (pe_callS (ok_lookreader T) (hr.mono (by decide) : Room 4 _) (by rfl) T.g_lookreader T.F_lookreader.kp T.b_lookreader (fun σ => passAt tk σ) (by exact (pa_cons (pv 0) (pa_cons (pv 1) pa_nil)))) pe_bl (nomark _)) (pss_one (ps_set (i := 2) sc_told.nd rfl (.inl rfl) (pe_tup (pa_cons pe_str pa_nil)))) pss_nil))) (fun a oe cls d pn hz hf => (pss_cons (ps_set (i := 4) sc_told.nd rfl (.inl rfl) (pe_callB (BI.call_FT T.exI hz hf) (by rfl) T.m_isinstance (by decide +kernel) (pa_cons (pv 3) (pa_cons (pe_tup (pa_cons (pe_glob (v := .ref T.C_NoFit) (by rfl) T.g_NoFit rfl) (pa_cons (pe_glob (v := .ref T.C_NoPrinter) (by rfl) T.g_NoPrinter rfl) (pa_cons (pe_glob (v := .ref T.C_NoRow) (by rfl) T.g_NoRow rfl) (pa_cons (pe_glob (v := .ref T.C_NoText) (by rfl) T.g_NoText rfl) (pa_cons (pe_glob (v := .ref T.C_NoTree) (by rfl) T.g_NoTree rfl) (pa_cons (pe_glob (v := .ref T.C_NoTurner) (by rfl) T.g_NoTurner rfl) (pa_cons (pe_glob (v := .ref T.C_NoWood) (by rfl) T.g_NoWood rfl) (pa_cons (pe_glob (v := .ref T.C_NoWord) (by rfl) T.g_NoWord rfl) (pa_cons (pe_glob (v := .ref T.C_TooLong) (by rfl) T.g_TooLong rfl) (pa_cons (pe_glob (v := .ref T.C_TooWide) (by rfl) T.g_TooWide rfl) pa_nil))))))))))) pa_nil)))) (pss_one (ps_if (PW.pt (pw_and (pt_val (pe_callB (BI.call_F T.exI hz hf) (by rfl) T.m_isinstance (by decide +kernel) (pa_cons (pv 3) (pa_cons (pe_glob (v := .ref T.C) (by rfl) T.exc.gC rfl) pa_nil)))) (pw_and (pt_val (pe_callB (BI.call_F T.exI hz hf) (by rfl) T.m_isinstance (by decide +kernel) (pa_cons (pv 3) (pa_cons (pe_bltn (v := .ty "ValueError") (by rfl) T.m_ValueError (by decide +kernel) rfl) pa_nil)))) (pw_and1 (pt_not (pt_val (pv 4))))))) (pss_one (ps_set (i := 2) sc_told.nd rfl (.inl rfl) (pe_tup (pa_cons pe_str (pa_cons (pe_xf T.xfc T.noWord hz hf (pv 3)) (pa_cons (pe_xf T.xfc T.noMaker hz hf (pv 3)) pa_nil)))))) pss_nil))))) (pss_one (ps_ret (pv 2))))), ?_⟩
    unfold tolds at q
    refine ⟨s1, fun t0 nt0 => ?_⟩
    have sA : Same H (upd H t0 (.tup [.str "other"])) := same_new nt0
    refine ⟨_, rfl, _, rfl, p, t, wd, rd, rfl, hw.mono (KT.of sA), good, ht.mono (KT.of sA), tm, fun r hr d H1 s1 ed => ?_, fun hb H1 s1 => ?_⟩
    · rw [hr] at q
      refine ⟨true, T.exm, fun _ x _ => ?_, fun z => Bool.noConfusion z⟩
      refine ⟨_, rfl, s10, fun tc ntc => ?_⟩
      have ed2 := (same_new (o := .tup [.ref T.C_NoFit, .ref T.C_NoPrinter, .ref T.C_NoRow, .ref T.C_NoText, .ref T.C_NoTree, .ref T.C_NoTurner, .ref T.C_NoWood, .ref T.C_NoWord, .ref T.C_TooLong, .ref T.C_TooWide]) ntc) _ _ ed
      refine ⟨tc, _, _, false, d, _, rfl, rfl, ed2, rfl, upd_same, .cons (fun u h => h) (.cons (fun u h => h) (.cons (fun u h => h) (.cons (fun u h => h) (.cons (fun u h => h) (.cons (fun u h => h) (.cons (fun u h => h) (.cons (fun u h => h) (.cons (fun u h => h) (.cons (fun u h => h) .nil))))))))), ?_, ?_⟩
      · exact kitAny_cons T.k_NoFit (fun _ => kitAny_cons T.k_NoPrinter (fun _ => kitAny_cons T.k_NoRow (fun _ => kitAny_cons T.k_NoText (fun _ => kitAny_cons T.k_NoTree (fun _ => kitAny_cons T.k_NoTurner (fun _ => kitAny_cons T.k_NoWood (fun _ => kitAny_cons T.k_NoWord (fun _ => kitAny_cons T.k_TooLong (fun _ => kitAny_cons T.k_TooWide (fun _ => kitAny_nil) nofun) nofun) nofun) nofun) nofun) nofun) nofun) nofun) nofun) nofun
      refine ⟨_, rfl, _, _, true, d, _, rfl, rfl, ed2, rfl, (fun u h => h), T.kC, _, rfl, iteT ?_⟩
      refine ⟨_, rfl, _, _, true, d, _, rfl, rfl, ed2, rfl, (fun u h => h), T.kV, _, rfl, iteT ?_⟩
      refine ⟨_, rfl, _, rfl, iteT ?_⟩
      refine ⟨_, rfl, rfl, rfl, d, _, .str r.1, rfl, ed2, rfl, ?_⟩
      refine ⟨_, rfl, rfl, rfl, d, _, .str r.2, rfl, ed2, rfl, ?_⟩
      refine ⟨B14.s3, fun u nu => ?_⟩
      exact ⟨_, rfl, q u _ (((sA.trans s1).trans (same_new ntc)).trans (same_new nu)) upd_same⟩
    · rw [hb] at q
      refine ⟨_, _, rfl, rfl, _, rfl, iteT ⟨B14.s1, fun u nu => ?_⟩⟩
      exact ⟨_, rfl, q u _ ((sA.trans s1).trans (same_new nu)) upd_same⟩
end

/-! ### _law_fraction, _law_reader -/
theorem Gr.new {a p : Addr} {H Hx : Hp} {o : HO} (g : Gr a H Hx) (n : H p = none) (na : p ≠ a) : Gr a H (upd Hx p o) := ⟨fun c u nc e => by
  rw [upd_ne (ne_of_none e n)]
  exact g.1 _ _ nc e, by
  obtain ⟨x, y, z, e⟩ := g.2
  exact ⟨x, y, z, by rw [upd_ne na.symm]; exact e⟩⟩
structure FrOk (f : Frc) : Prop where
  low : isFr f = true
  up : f.1.natAbs ≤ 1000
  lo : f.2 ≤ 100
theorem low_ok {u l : Int} (hl : 0 < l) (hu : u.natAbs ≤ 1000) (hl2 : l ≤ 100) : FrOk (u / (Int.gcd u l : Int), l / (Int.gcd u l : Int)) := by
  have gp : 0 < Int.gcd u l := Int.gcd_pos_of_ne_zero_right u (by omega)
  have gp' : (0 : Int) < (Int.gcd u l : Int) := by omega
  have gle : (Int.gcd u l : Int) ≤ l := Int.le_of_dvd hl (Int.gcd_dvd_right u l)
  have h1 : (1 : Int) ≤ l / (Int.gcd u l : Int) := Int.le_ediv_of_mul_le gp' (by omega)
  have h2 : l / (Int.gcd u l : Int) ≤ l := Int.ediv_le_self _ (Int.le_of_lt hl)
  have h3 : (u / (Int.gcd u l : Int)).natAbs ≤ u.natAbs := Int.natAbs_ediv_le_natAbs _ _
  refine ⟨?_, by dsimp only; omega, by dsimp only; omega⟩
  unfold isFr
  dsimp only
  rw [decide_eq_true h1, Int.gcd_ediv_gcd_ediv_gcd gp]
  rfl
theorem s7 : 7 ≤ sizeLine := by decide
theorem ints_ix {cs : List Int} {d : Int} (h0 : 0 ≤ d) (h1 : d < cs.length) : ∃ v ∈ cs, atI (cs.map V.int) d = some (.int v) := by
  have l : d.toNat < cs.length := by omega
  refine ⟨cs[d.toNat], List.getElem_mem l, at_of (j := d.toNat) (by omega) ?_⟩
  rw [List.getElem?_map, List.getElem?_eq_getElem l]
  rfl
section
variable {P : Program} {w : World} {K : PySem.W.Frag} {mg : Str → Option Value} {base : Heap}
def spLf : Sp := fun vs H Q _ => ∃ a : Addr, vs = [.ref a] ∧ Drw H a ∧ ∀ (p : Addr) (H' : Hp) (f : Frc), Gr a H H' → H' p = some (.tup [.int f.1, .int f.2]) → FrOk f → Q (.ref p) H'
theorem ok_lfrac (T : Tx P K mg) : FnOk P w K mg base CX0 2 T.f_lfrac T.fd_lfrac ["_law_box_here"] spLf := by
  refine T.F_lfrac.ok sc_lfrac (fun vs H Q E h => ?_) (fun cdv A outer s H vs Q E hr h => ?_)
  · obtain ⟨a, rfl, _⟩ := h
    rfl
  · obtain ⟨a, rfl, dr, q⟩ := h
    refine ⟨_, (pss_cons (ps_set (i := 1) sc_lfrac.nd rfl (.inl rfl) (pe_call (ok_take T) (hr.mono (by decide) : Room 1 _) (by rfl) T.g_take T.F_take.kp T.b_take .nil pass0 (pa_cons (pv 0) (pa_cons pe_int pa_nil)))) (pss_cons (ps_set (i := 2) sc_lfrac.nd rfl (.inl rfl) (pe_ix ix_list (pe_lst (pa_cons (pe_op op_sub (pe_call (ok_take T) (hr.mono (by decide) : Room 1 _) (by rfl) T.g_take T.F_take.kp T.b_take .nil pass0 (pa_cons (pv 0) (pa_cons pe_int pa_nil))) pe_int) (pa_cons (pe_op op_sub (pe_call (ok_take T) (hr.mono (by decide) : Room 1 _) (by rfl) T.g_take T.F_take.kp T.b_take .nil pass0 (pa_cons (pv 0) (pa_cons pe_int pa_nil))) pe_int) pa_nil))) (pe_callTy call_int1 (by rfl) T.m_int (by decide +kernel) (pa_cons (pe_cmpR op_eq (pv 1) pe_int (nomark _)) pa_nil)) (fun _ _ => rfl))) (pss_cons (ps_set (i := 3) sc_lfrac.nd rfl (.inl rfl) (pe_op op_add pe_int (pe_call (ok_take T) (hr.mono (by decide) : Room 1 _) (by rfl) T.g_take T.F_take.kp T.b_take .nil pass0 (pa_cons (pv 0) (pa_cons (pe_ix ix_list (pe_lst (pa_cons pe_int (pa_cons pe_int (pa_cons pe_int (pa_cons pe_int pa_nil))))) (pe_call (ok_take T) (hr.mono (by decide) : Room 1 _) (by rfl) T.g_take T.F_take.kp T.b_take .nil pass0 (pa_cons (pv 0) (pa_cons pe_int pa_nil))) (fun _ _ => rfl)) pa_nil))))) (pss_cons (ps_set (i := 4) sc_lfrac.nd rfl (.inl rfl) (pe_call (ok_shared T) (hr.mono (by decide) : Room 1 _) (by rfl) T.g_shared T.F_shared.kp T.b_shared .nil pass0 (pa_cons (pv 3) (pa_cons (pe_callB call_abs (by rfl) T.m_abs (by decide +kernel) (pa_cons (pv 2) pa_nil)) pa_nil)))) (pss_one (ps_ret (pe_tup (pa_cons (pe_op op_fdivW (pv 2) (pv 4)) (pa_cons (pe_op op_fdivW (pv 3) (pv 4)) pa_nil))))))))), ?_⟩
    refine ⟨_, rfl, a, 4, rfl, dr, by decide, by decide +kernel, fun fo H1 fo0 fo1 g1 => ?_⟩
    refine ⟨_, rfl, a, 7, rfl, g1.2, by decide, by decide +kernel, fun d7 H2 d70 d71 g2 => ⟨_, _, rfl, rfl, ?_⟩⟩
    refine ⟨_, rfl, a, 2001, rfl, g2.2, by decide, by decide +kernel, fun d8 H3 d80 d81 g3 => ⟨_, _, rfl, rfl, ?_⟩⟩
    refine ⟨s2, fun L nL => ⟨_, rfl, rfl, .inr ⟨_, rfl, ?_⟩⟩⟩
    obtain ⟨u, hu, hu1⟩ : ∃ u : Int, atI [V.int (d7 - 3), .int (d8 - 1000)] (if decide (V.int fo = V.int 0) = true then 1 else 0) = some (.int u) ∧ u.natAbs ≤ 1000 := by
      cases decide (V.int fo = V.int 0)
      · exact ⟨d7 - 3, rfl, by omega⟩
      · exact ⟨d8 - 1000, rfl, by omega⟩
    refine ⟨L, _, _, _, rfl, rfl, SqL.of upd_same, hu, ?_⟩
    have sL := same_new (o := .lst [.int (d7 - 3), .int (d8 - 1000)]) nL
    have G3 : Gr a H (upd H3 L (.lst [.int (d7 - 3), .int (d8 - 1000)])) := ((g1.trans g2).trans g3).trans (Gr.of sL g3.2)
    generalize upd H3 L (.lst [.int (d7 - 3), .int (d8 - 1000)]) = H4 at G3
    refine ⟨_, rfl, s4, fun L2' nL2 => ?_⟩
    have sM := same_new (o := .lst [.int 1, .int 1, .int 4, .int 100]) nL2
    have nLa : L2' ≠ a := (G3.2.ne nL2).symm
    refine ⟨_, rfl, a, 4, rfl, G3.2.mono sM, by decide, by decide +kernel, fun d4 H5 d40 d41 g5 => ?_⟩
    obtain ⟨mv, hmv, hat⟩ := ints_ix (cs := [1, 1, 4, 100]) d40 d41
    have mb : 1 ≤ mv ∧ mv ≤ 100 := by
      have k : ∀ x ∈ ([1, 1, 4, 100] : List Int), 1 ≤ x ∧ x ≤ 100 := by decide
      exact k mv hmv
    refine ⟨L2', _, d4, .int mv, rfl, rfl, SqL.of (g5.1 _ _ nLa upd_same), hat, ?_⟩
    refine ⟨a, mv, rfl, g5.2, by omega, Nat.lt_of_le_of_lt (show mv.natAbs ≤ 100 by omega) (by decide +kernel), fun lw H6 lw0 lw1 g6 => ⟨_, _, rfl, rfl, ?_⟩⟩
    have G6 : Gr a H H6 := ((G3.trans (Gr.of sM G3.2)).trans g5).trans g6
    have hl : (0 : Int) < 1 + lw := by omega
    refine ⟨_, rfl, _, rfl, _, rfl, 1 + lw, _, rfl, by omega, by split <;> omega, ?_⟩
    rw [Int.gcd_comm, abs_gcd]
    have gp : 0 < Int.gcd u (1 + lw) := Int.gcd_pos_of_ne_zero_right u (by omega)
    have gle : (Int.gcd u (1 + lw) : Int) ≤ 1 + lw := Int.le_of_dvd hl (Int.gcd_dvd_right u _)
    have wd : ((Int.gcd u (1 + lw) : Nat) : Int).natAbs < 2 ^ 8000 := Nat.lt_of_le_of_lt (show _ ≤ 1000 by omega) (by decide +kernel)
    refine ⟨_, rfl, _, rfl, _, _, rfl, rfl, wide_div (by omega) wd (by decide) (by decide), _, rfl, _, rfl, _, _, rfl, rfl, wide_div (by omega) wd (by decide) (by decide), s2, fun p np => ?_⟩
    exact q p _ (u / (Int.gcd u (1 + lw) : Int), (1 + lw) / (Int.gcd u (1 + lw) : Int)) (G6.trans (Gr.of (same_new np) G6.2)) upd_same (low_ok hl hu1 (by omega))
end
/-- a term, a maker's sums, a reader as they are drawn -/
structure GoodT (pc : List Int) (t : Trm) : Prop where
  fr : FrOk t.1
  len : t.2.length = pc.length
  box : (t.2.zip pc).all bxOk = true
def GoodS (pc : List Int) (s : List Trm) : Prop := s.length ≤ 6 ∧ ∀ t ∈ s, GoodT pc t
def GoodL (count : Int) (pc : List Int) (r : List (List Trm)) : Prop := (r.length : Int) = count ∧ ∀ s ∈ r, GoodS pc s
structure GoodR (wd : Wood) (rd : Rdr) : Prop where
  cl : rd.1.length = wd.length
  ck : rd.1.all cOk = true
  rl : rd.2.length = (ents (kds wd) wd).length
  rows : ∀ (i : Nat) (e : Mk × Nat) (r : List (List Trm)), (ents (kds wd) wd)[i]? = some e → rd.2[i]? = some r → GoodL (rd.1.getD e.2 0) (cnts rd.1 (pks wd e)) r
theorem GoodR.tm {wd : Wood} {rd : Rdr} {b : Nat} (g : Good wd) (h : GoodR wd rd) (hb : 12 ≤ b) : TmR b rd := by
  have h12 := ents_len g
  refine ⟨?_, ?_, fun r hr => ?_⟩
  · have := g.few
    have := h.cl
    omega
  · have := h.rl
    omega
  · obtain ⟨i, hi, rfl⟩ := List.getElem_of_mem hr
    have hi2 : i < (ents (kds wd) wd).length := by
      have := h.rl
      omega
    obtain ⟨h1, h2⟩ := h.rows i _ _ (List.getElem?_eq_getElem hi2) (List.getElem?_eq_getElem hi)
    have hem : (ents (kds wd) wd)[i] ∈ ents (kds wd) wd := List.getElem_mem hi2
    refine ⟨?_, fun s hs => ⟨Nat.le_trans (h2 s hs).1 (by omega), fun t ht => ?_⟩⟩
    · have hlt := ents_lt hem
      have hc := h.cl
      have hl : (ents (kds wd) wd)[i].2 < rd.1.length := by omega
      have hck := List.all_eq_true.mp h.ck _ (List.getElem_mem hl)
      rw [List.getD_eq_getElem?_getD, List.getElem?_eq_getElem hl] at h1
      unfold cOk at hck
      have h4 := of_decide_eq_true (Bool.and_eq_true_iff.mp hck).2
      have h1' : (rd.2[i].length : Int) = rd.1[(ents (kds wd) wd)[i].2] := h1
      omega
    · rw [((h2 s hs).2 t ht).len]
      unfold cnts
      rw [List.length_map]
      have := pks_le g hem
      omega
theorem cOk_at {cs : List Int} {k : Nat} (h : cs.all cOk = true) (hk : k < cs.length) : 0 ≤ cs.getD k 0 ∧ cs.getD k 0 ≤ 4 := by
  have h1 := List.all_eq_true.mp h _ (List.getElem_mem hk)
  rw [List.getD_eq_getElem?_getD, List.getElem?_eq_getElem hk]
  unfold cOk at h1
  obtain ⟨h2, h3⟩ := Bool.and_eq_true_iff.mp h1
  exact ⟨of_decide_eq_true h2, of_decide_eq_true h3⟩
def pickO (p : Int) : Option Int := if p = 0 then none else some (p - 1)
theorem Paired.gr {α : Type} {F : Hp → V → α → Prop} (hF : ∀ {H H' : Hp} {v : V} {x : α}, KT H H' → F H v x → F H' v x) {a : Addr} {H H' : Hp} {vs : List V} {xs : List α} (d : Drw H a) (g : Gr a H H') (h : Paired (F H) vs xs) : Paired (F H') vs xs := Paired.mapP h fun _ _ z => hF (KT.gr d g) z
theorem TmAt.dp {K : PySem.W.Frag} {H : Hp} {v : V} {t : Trm} (h : TmAt H v t) : ∃ d, Dp K H v d ∧ d.canLay0 = true ∧ d.depth ≤ 2 := by
  obtain ⟨p, q, r, rfl, h1, h2, h3⟩ := h
  obtain ⟨d1, a1, a2, a3, _⟩ := dp_tup (K := K) (n := 0) (SqT.of h2) (two_mem ⟨_, .int _, rfl, Nat.zero_le _⟩ ⟨_, .int _, rfl, Nat.zero_le _⟩)
  obtain ⟨d2, b1, b2, b3, _⟩ := dp_tup (K := K) (n := 0) (SqT.of h3) (fun v hv => by
    obtain ⟨o, _, rfl⟩ := List.mem_map.mp hv
    cases o with
    | none => exact ⟨_, .non, rfl, Nat.zero_le _⟩
    | some i => exact ⟨_, .int _, rfl, Nat.zero_le _⟩)
  obtain ⟨dl, l1, l2, l3, _⟩ := dp_tup (K := K) (n := 1) (SqT.of h1) (two_mem ⟨_, a1, a2, a3⟩ ⟨_, b1, b2, b3⟩)
  exact ⟨_, l1, l2, l3⟩
theorem paired_mem {α β : Type} {F : α → β → Prop} {xs : List α} {ys : List β} (h : Paired F xs ys) {x : α} (hx : x ∈ xs) : ∃ y ∈ ys, F x y := by
  obtain ⟨i, hi, rfl⟩ := List.getElem_of_mem hx
  obtain ⟨y, ey, hF⟩ := paired_at h (List.getElem?_eq_getElem hi)
  exact ⟨y, List.mem_of_getElem? ey, hF⟩
section
variable {P : Program} {w : World} {K : PySem.W.Frag} {mg : Str → Option Value} {base : Heap}
def spRdr : Sp := fun vs H Q _ => ∃ (a p : Addr) (wd : Wood), vs = [.ref a, .ref p] ∧ Drw H a ∧ WdAt H p wd ∧ Good wd ∧ ∀ (t : Addr) (H' : Hp) (rd : Rdr), Gr a H H' → RdAt H' t rd → GoodR wd rd → Q (.ref t) H'
theorem ok_reader (T : Tx P K mg) : FnOk P w K mg base CX0 3 T.f_reader T.fd_reader ["_law_box_here", "_law_wood_here"] spRdr := by
  refine T.F_reader.ok sc_reader (fun vs H Q E h => ?_) (fun cdv A outer s H vs Q E hr h => ?_)
  · obtain ⟨a, p, wd, rfl, _⟩ := h
    rfl
  · obtain ⟨a, p, wd, rfl, dr, hw, good, q⟩ := h
    refine ⟨_, (pss_cons (ps_set (i := 3) sc_reader.nd rfl (.inr rfl) (pe_callTy call_tuple_of (by rfl) T.m_tuple (by decide +kernel) (pa_cons (pe_lc (own := [("_law_kind", 2)]) (by rfl) sc_reader.nd (pi_tup (pv 1)) (blkOk_by (own := [("_law_kind", 2)]) (N := ["_law_box_here", "_law_wood_here", "_law_kind", "_law_counts", "_law_rules", "_law_maker", "_law_parts", "_law_sums", "_law_k", "_law_terms", "_law_j", "_law_picks", "_law_term", "_law_part", "_law_pick"]) (sc := defScope st_reader) (by decide +kernel)) (fun _ _ _ _ _ => (pg_name (i := 2) sc_reader.nd rfl (.inl rfl))) (fun _ _ _ _ _ => pts_nil) (fun _ _ _ _ _ => (pe_ix (KX.ix_listK K) (pe_lst (pa_cons pe_int (pa_cons pe_int (pa_cons pe_int (pa_cons pe_int (pa_cons pe_int (pa_cons pe_int (pa_cons pe_int pa_nil)))))))) (pe_call (ok_take T) (hr.mono (by decide) : Room 1 _) (by rfl) T.g_take T.F_take.kp T.b_take .nil pass0 (pa_cons (pv 0) (pa_cons pe_int pa_nil))) (fun _ _ => rfl)))) pa_nil))) (pss_cons (ps_set (i := 4) sc_reader.nd rfl (.inl rfl) (pe_lst pa_nil)) (pss_cons (ps_for PassesOwn.never rfl (pi_list (pe_call (ok_lmakers T) (hr.mono (by decide) : Room 1 _) (by rfl) T.g_lmakers T.F_lmakers.kp T.b_lmakers .nil pass0 (pa_cons (pv 1) pa_nil))) (pg_tup rfl (pgs_cons (pg_name (i := 5) sc_reader.nd rfl (.inl rfl)) (pgs_cons (pg_name (i := 2) sc_reader.nd rfl (.inl rfl)) (pgs_cons (pg_name (i := 6) sc_reader.nd rfl (.inl rfl)) pgs_nil)))) (pss_cons (ps_set (i := 7) sc_reader.nd rfl (.inl rfl) (pe_lst pa_nil)) (pss_cons (ps_for PassesOwn.never rfl (pi_range1 (by rfl) T.m_range (pa_cons (pe_ix ix_tup (pv 3) (pv 2) (fun _ _ => rfl)) pa_nil)) (pg_name (i := 8) sc_reader.nd rfl (.inl rfl)) (pss_cons (ps_set (i := 9) sc_reader.nd rfl (.inl rfl) (pe_lst pa_nil)) (pss_cons (ps_for PassesOwn.never rfl (pi_range1 (by rfl) T.m_range (pa_cons (pe_call (ok_take T) (hr.mono (by decide) : Room 1 _) (by rfl) T.g_take T.F_take.kp T.b_take .nil pass0 (pa_cons (pv 0) (pa_cons (pe_ix ix_list (pe_lst (pa_cons pe_int (pa_cons pe_int pa_nil))) (pe_callTy call_int1 (by rfl) T.m_int (by decide +kernel) (pa_cons (pe_cmpR op_eq (pe_call (ok_take T) (hr.mono (by decide) : Room 1 _) (by rfl) T.g_take T.F_take.kp T.b_take .nil pass0 (pa_cons (pv 0) (pa_cons pe_int pa_nil))) pe_int (nomark _)) pa_nil)) (fun _ _ => rfl)) pa_nil))) pa_nil)) (pg_name (i := 10) sc_reader.nd rfl (.inl rfl)) (pss_cons (ps_setLc (i := 11) (own := [("_law_part", 13)]) (by rfl) sc_reader.nd rfl rfl (sw_true rfl rfl rfl (by decide +kernel)) (pi_tup (pv 6)) (blkOk_by (own := [("_law_part", 13)]) (N := ["_law_box_here", "_law_wood_here", "_law_kind", "_law_counts", "_law_rules", "_law_maker", "_law_parts", "_law_sums", "_law_k", "_law_terms", "_law_j", "_law_picks", "_law_term", "_law_part", "_law_pick"]) (sc := defScope st_reader) (by decide +kernel)) (fun _ _ _ _ _ => (pg_name (i := 13) sc_reader.nd rfl (.inl rfl))) (fun _ _ _ _ _ => pts_nil) (fun _ _ _ _ _ => (pe_call (ok_take T) (hr.mono (by decide) : Room 1 _) (by rfl) T.g_take T.F_take.kp T.b_take .nil pass0 (pa_cons (pv 0) (pa_cons (pe_op op_add (pe_ix (KX.ix_tupK K) (pv 3) (pv 13) (fun _ _ => rfl)) pe_int) pa_nil))))) (pss_cons (ps_set (i := 12) sc_reader.nd rfl (.inl rfl) (pe_tup (pa_cons (pe_call (ok_lfrac T) (hr.mono (by decide) : Room 2 _) (by rfl) T.g_lfrac T.F_lfrac.kp T.b_lfrac .nil pass0 (pa_cons (pv 0) pa_nil)) (pa_cons (pe_callTy call_tuple_of (by rfl) T.m_tuple (by decide +kernel) (pa_cons (pe_lc (own := [("_law_pick", 14)]) (by rfl) sc_reader.nd (pi_list (pv 11)) (blkOk_by (own := [("_law_pick", 14)]) (N := ["_law_box_here", "_law_wood_here", "_law_kind", "_law_counts", "_law_rules", "_law_maker", "_law_parts", "_law_sums", "_law_k", "_law_terms", "_law_j", "_law_picks", "_law_term", "_law_part", "_law_pick"]) (sc := defScope st_reader) (by decide +kernel)) (fun _ _ _ _ _ => (pg_name (i := 14) sc_reader.nd rfl (.inl rfl))) (fun _ _ _ _ _ => pts_nil) (fun _ _ _ _ _ => (pe_ix (KX.ix_listK K) (pe_lst (pa_cons (pe_op op_sub (pv 14) pe_int) (pa_cons pe_non pa_nil))) (pe_callTy call_int1 (by rfl) T.m_int (by decide +kernel) (pa_cons (pe_cmpR op_eq (pv 14) pe_int (nomark _)) pa_nil)) (fun _ _ => rfl)))) pa_nil)) pa_nil)))) (C8.pss_cut (ps_if (PW.pt (pw_and (pt_cmpR (op_neD hr.units) (pv 9) (pe_lst pa_nil) (nomark _)) (pw_and1 (pt_cmpR op_eq (pe_call (ok_take T) (hr.mono (by decide) : Room 1 _) (by rfl) T.g_take T.F_take.kp T.b_take .nil pass0 (pa_cons (pv 0) (pa_cons pe_int pa_nil))) pe_int (nomark _))))) (pss_one (ps_set (i := 12) sc_reader.nd rfl (.inl rfl) (pe_ix ix_list (pv 9) (pe_call (ok_take T) (hr.mono (by decide) : Room 1 _) (by rfl) T.g_take T.F_take.kp T.b_take .nil pass0 (pa_cons (pv 0) (pa_cons (pe_callB call_len_seq (by rfl) T.m_len PySem.boot_len (pa_cons (pv 9) pa_nil)) pa_nil))) (fun _ _ => rfl)))) pss_nil) (pss_one (ps_expr (pe_bm PySem.F.plainAttrs_list PySem.F.slot_list_append PySem.F.type_list_append mt_append (pv 9) (pa_cons (pv 12) pa_nil)))))))) (pss_one (ps_expr (pe_bm PySem.F.plainAttrs_list PySem.F.slot_list_append PySem.F.type_list_append mt_append (pv 7) (pa_cons (pe_callTy call_tuple_of (by rfl) T.m_tuple (by decide +kernel) (pa_cons (pv 9) pa_nil)) pa_nil))))))) (pss_one (ps_expr (pe_bm PySem.F.plainAttrs_list PySem.F.slot_list_append PySem.F.type_list_append mt_append (pv 4) (pa_cons (pe_callTy call_tuple_of (by rfl) T.m_tuple (by decide +kernel) (pa_cons (pv 7) pa_nil)) pa_nil))))))) (pss_one (ps_ret (pe_tup (pa_cons (pv 3) (pa_cons (pe_callTy call_tuple_of (by rfl) T.m_tuple (by decide +kernel) (pa_cons (pv 4) pa_nil)) pa_nil)))))))), ?_⟩
    have hw' := hw
    obtain ⟨vs, ep, hwv⟩ := hw'
    have hwl := hwv.length
    have hfew := good.few
    -- the counts
    refine ⟨_, rfl, p, rfl, ⟨vs, SqT.of ep⟩, fun D nD => ?_⟩
    have nDa : D ≠ a := (dr.ne nD).symm
    refine walk_it (walk_tup (xs := vs)) (fun i Hx => Gr a H Hx ∧ ∃ cs : List Int, Hx D = some (.lst (cs.map V.int)) ∧ cs.length = i ∧ cs.all cOk = true) ⟨Gr.of (same_new nD) dr, [], upd_same, rfl, rfl⟩ (fun i Hx hi P => SqT.of (KT.gr dr P.1 _ _ ep)) (fun i x Hx Hy hi P y => ?_) (fun H1 P => ?_)
    · obtain ⟨gx, cs, eD, hcl, hck⟩ := P
      obtain ⟨rfl, ex⟩ := y
      refine ⟨rfl, ?_⟩
      unfold tYes
      refine iteT ⟨s7, fun L nL => ?_⟩
      have sL := same_new (o := .lst [.int 0, .int 1, .int 1, .int 2, .int 2, .int 3, .int 4]) nL
      have nLa : L ≠ a := (gx.2.ne nL).symm
      refine ⟨_, rfl, a, 7, rfl, gx.2.mono sL, by decide, by decide +kernel, fun d7 Hz d70 d71 gz => ?_⟩
      obtain ⟨v, hv, hat⟩ := ints_ix (cs := [0, 1, 1, 2, 2, 3, 4]) d70 d71
      have hvk : cOk v = true := by
        have k : ∀ x ∈ ([0, 1, 1, 2, 2, 3, 4] : List Int), cOk x = true := by decide
        exact k v hv
      have eDz := gz.1 _ _ nDa (sL _ _ eD)
      refine ⟨L, _, d7, .int v, rfl, rfl, SqL.of (gz.1 _ _ nLa upd_same), hat, _, eDz, ?_, ?_, cs ++ [v], ?_, by rw [List.length_append, hcl]; rfl, ?_⟩
      · rw [List.length_map]
        exact Nat.lt_of_le_of_lt (show _ ≤ 1000 by omega) (by decide)
      · exact ((gx.trans (Gr.of sL gx.2)).trans gz).new nD nDa
      · rw [upd_same, List.map_append]
        rfl
      · rw [List.all_append, hck]
        show (true && (cOk v && true)) = true
        rw [hvk]
        rfl
    obtain ⟨g1, cs, eD, hcl, hck⟩ := P
    rw [hwl] at hcl
    refine ⟨D, _, rfl, .inl ⟨SqL.of eD, fun c nc => ?_⟩⟩
    have sc := same_new (o := .tup (cs.map V.int)) nc
    have ec : upd H1 c (.tup (cs.map V.int)) c = some (.tup (cs.map V.int)) := upd_same
    have gc : Gr a H (upd H1 c (.tup (cs.map V.int))) := g1.trans (Gr.of sc g1.2)
    generalize upd H1 c (.tup (cs.map V.int)) = H2 at ec gc
    -- the rules
    refine ⟨s0, fun Rl nRl => ?_⟩
    have nRla : Rl ≠ a := (gc.2.ne nRl).symm
    have sR := same_new (o := .lst []) nRl
    refine ⟨_, rfl, p, wd, rfl, hw.mono ((KT.gr dr gc).trans (KT.of sR)), good, fun L H3 ds nL s3 eL hds => ?_⟩
    have nLa : L ≠ a := ((gc.2.mono sR).ne nL).symm
    refine ⟨L, rfl, ⟨ds, SqL.of eL⟩, ?_⟩
    have g23 : Gr a H2 H3 := Gr.of (sR.trans s3) gc.2
    have eRl3 : H3 Rl = some (.lst []) := s3 _ _ upd_same
    have nLR : L ≠ Rl := fun z => by
      rw [z, upd_same] at nL
      cases nL
    have h12 := ents_len good
    refine for_it (walk_list (xs := ds)) (fun i σ Hx => ∃ (y2 y5 y6 y7 y8 y9 y10 y11 y12 y13 : Option V) (rvs : List V) (rs : Rules), σ = [some (.ref a), some (.ref p), y2, some (.ref c), some (.ref Rl), y5, y6, y7, y8, y9, y10, y11, y12, y13, none] ∧ Gr a H2 Hx ∧ Hx L = some (.lst ds) ∧ Paired (DueAt Hx (kds wd)) ds (ents (kds wd) wd) ∧ Hx Rl = some (.lst rvs) ∧ Paired (RlAt Hx) rvs rs ∧ rs.length = i ∧ ∀ (j : Nat) (e : Mk × Nat) (r : List (List Trm)), (ents (kds wd) wd)[j]? = some e → rs[j]? = some r → GoodL (cs.getD e.2 0) (cnts cs (pks wd e)) r)
      ⟨none, none, none, none, none, none, none, none, none, none, [], [], rfl, g23, eL, hds, eRl3, .nil, rfl, fun j e r _ h => by simp at h⟩ (fun i σ Hx hi P => ?_) (fun i x σ Hw Hx hi P y => ?_) (fun σ Hx P => ?_)
    · obtain ⟨_, _, _, _, _, _, _, _, _, _, _, _, _, _, e, _⟩ := P
      exact SqL.of e
    · obtain ⟨y2, y5, y6, y7, y8, y9, y10, y11, y12, y13, rvs, rs, rfl, gx, eLx, hdx, eRx, hrx, hrl, hgood⟩ := P
      obtain ⟨rfl, ex⟩ := y
      obtain ⟨e, ee, t1, u1, rfl, et1, eu1⟩ := paired_at hdx ex
      have hem := List.mem_of_getElem? ee
      rw [prts_pks] at eu1
      refine ⟨t1, _, rfl, .inl (.inl et1), rfl, _, _, rfl, _, _, rfl, _, _, rfl, rfl, ?_⟩
      have hlt := ents_lt hem
      have hp2 := pks_le good hem
      obtain ⟨c0, c4⟩ := cOk_at (k := e.2) hck (by omega)
      generalize hcnt : cs.getD e.2 0 = cnt at c0 c4
      -- the sums
      refine ⟨s0, fun Sm nSm => ?_⟩
      have nSma : Sm ≠ a := (gx.2.ne nSm).symm
      have sS := same_new (o := .lst []) nSm
      have ecx : Hx c = some (.tup (cs.map V.int)) := KT.gr gc.2 gx _ _ ec
      refine ⟨_, rfl, _, rfl, c, _, _, _, rfl, rfl, SqT.of (sS _ _ ecx), ints_at (by omega), ?_⟩
      rw [hcnt]
      refine ⟨cnt, rfl, by omega, by omega, ?_⟩
      refine for_range (lo := 0) (n := cnt.toNat) (fun k σ Hy => ∃ (z8 z9 z10 z11 z12 z13 : Option V) (svs : List V) (ss : List (List Trm)), σ = [some (.ref a), some (.ref p), some (.int (e.2 : Nat)), some (.ref c), some (.ref Rl), some (.str (S e.1.1)), some (.ref u1), some (.ref Sm), z8, z9, z10, z11, z12, z13, none] ∧ Gr a Hx Hy ∧ Hy Sm = some (.lst svs) ∧ Paired (SmAt Hy) svs ss ∧ ss.length = k ∧ ∀ s ∈ ss, GoodS (cnts cs (pks wd e)) s)
        ⟨_, _, _, _, _, _, [], [], rfl, Gr.of sS gx.2, upd_same, .nil, rfl, fun _ h => nomatch h⟩ (fun k σ Hy hk P => ?_) (fun σ Hy P => ?_)
      · obtain ⟨z8, z9, z10, z11, z12, z13, svs, ss, rfl, gy, eSm, hsv, hsl, hss⟩ := P
        -- the terms
        refine ⟨s0, fun Te nTe => ?_⟩
        have nTea : Te ≠ a := (gy.2.ne nTe).symm
        have sT := same_new (o := .lst []) nTe
        refine ⟨_, rfl, s2, fun L7 nL7 => ?_⟩
        have sL7 := same_new (o := .lst [.int 4, .int 7]) nL7
        have nL7a : L7 ≠ a := ((gy.2.mono sT).ne nL7).symm
        refine ⟨_, rfl, a, 4, rfl, (gy.2.mono sT).mono sL7, by decide, by decide +kernel, fun d4 Hz d40 d41 gz => ?_⟩
        refine ⟨rfl, .inr ⟨_, rfl, ?_⟩⟩
        obtain ⟨m7, hm7, hm7a, hm7b⟩ : ∃ m7 : Int, atI [V.int 4, .int 7] (if decide (V.int d4 = V.int 0) = true then 1 else 0) = some (.int m7) ∧ 1 ≤ m7 ∧ m7 ≤ 7 := by
          cases decide (V.int d4 = V.int 0)
          · exact ⟨4, rfl, by decide, by decide⟩
          · exact ⟨7, rfl, by decide, by decide⟩
        refine ⟨L7, _, _, _, rfl, rfl, SqL.of (gz.1 _ _ nL7a upd_same), hm7, ?_⟩
        refine ⟨a, m7, rfl, gz.2, by omega, Nat.lt_of_le_of_lt (show m7.natAbs ≤ 7 by omega) (by decide +kernel), fun nt Ha nt0 nt1 ga => ?_⟩
        refine ⟨nt, rfl, by omega, by omega, ?_⟩
        have gya : Gr a Hy Ha := ((Gr.of (sT.trans sL7) gy.2).trans gz).trans ga
        have eTea : Ha Te = some (.lst []) := ga.1 _ _ nTea (gz.1 _ _ nTea (sL7 _ _ upd_same))
        refine for_range (lo := 0) (n := nt.toNat) (fun j σ Hb => ∃ (z10 z11 z12 z13 : Option V) (tvs : List V) (ts : List Trm), σ = [some (.ref a), some (.ref p), some (.int (e.2 : Nat)), some (.ref c), some (.ref Rl), some (.str (S e.1.1)), some (.ref u1), some (.ref Sm), some (.int (0 + (k : Int))), some (.ref Te), z10, z11, z12, z13, none] ∧ Gr a Hy Hb ∧ Hb Te = some (.lst tvs) ∧ Paired (TmAt Hb) tvs ts ∧ ts.length = j ∧ ∀ t ∈ ts, GoodT (cnts cs (pks wd e)) t)
          ⟨_, _, _, _, [], [], rfl, gya, eTea, .nil, rfl, fun _ h => nomatch h⟩ (fun j σ Hb hj P => ?_) (fun σ Hb P => ?_)
        · obtain ⟨z10, z11, z12, z13, tvs, ts, rfl, gb, eTe, htv, htl, hts⟩ := P
          have ecb : Hb c = some (.tup (cs.map V.int)) := KT.gr gy.2 gb _ _ (KT.gr gx.2 gy _ _ ecx)
          have eub : Hb u1 = some (.tup (natV (pks wd e))) := KT.gr gy.2 gb _ _ (KT.gr gx.2 gy _ _ eu1)
          -- picks
          refine ⟨_, rfl, u1, rfl, ⟨_, SqT.of eub⟩, fun Pk nPk => ?_⟩
          have nPka : Pk ≠ a := (gb.2.ne nPk).symm
          refine walk_it (walk_tup (xs := natV (pks wd e))) (fun m Hc => Gr a Hb Hc ∧ ∃ ps : List Int, Hc Pk = some (.lst (ps.map V.int)) ∧ ps.length = m ∧ (((ps.map pickO)).zip (cnts cs (pks wd e))).all bxOk = true) ⟨Gr.of (same_new nPk) gb.2, [], upd_same, rfl, rfl⟩ (fun m Hc hm P => SqT.of (KT.gr gb.2 P.1 _ _ eub)) (fun m x Hc Hd hm P y => ?_) (fun Hc P => ?_)
          · obtain ⟨gc', ps, ePk, hpl, hpall⟩ := P
            obtain ⟨rfl, ex'⟩ := y
            rw [natV_len] at hm
            have ex'' : x = .int ((pks wd e)[m] : Nat) := by
              rw [List.getElem?_map, List.getElem?_eq_getElem hm] at ex'
              exact (Option.some.inj ex').symm
            subst ex''
            have hklt := pks_lt good hem _ (List.getElem_mem hm)
            obtain ⟨q0, q4⟩ := cOk_at (k := (pks wd e)[m]) hck (by omega)
            have ecd : Hd c = some (.tup (cs.map V.int)) := KT.gr gb.2 gc' _ _ ecb
            refine ⟨rfl, ?_⟩
            unfold tYes
            refine iteT ?_
            refine ⟨_, rfl, _, rfl, _, rfl, c, _, _, _, rfl, rfl, SqT.of ecd, ints_at (by omega), _, _, rfl, rfl, ?_⟩
            refine ⟨a, _, rfl, gc'.2, by omega, Nat.lt_of_le_of_lt (show (cs.getD (pks wd e)[m] 0 + 1).natAbs ≤ 100 by omega) (by decide +kernel), fun pk He pk0 pk1 ge => ?_⟩
            have ePke := ge.1 _ _ nPka ePk
            refine ⟨_, ePke, ?_, ?_, ps ++ [pk], ?_, by rw [List.length_append, hpl]; rfl, ?_⟩
            · rw [List.length_map]
              exact Nat.lt_of_le_of_lt (show _ ≤ 1000 by omega) (by decide)
            · exact (gc'.trans ge).new nPk nPka
            · rw [upd_same, List.map_append]
              rfl
            · have hcl' : (cnts cs (pks wd e)).length = (pks wd e).length := List.length_map _
              have hm2 : m < (cnts cs (pks wd e)).length := by omega
              have h1 : cnts cs (pks wd e) = (cnts cs (pks wd e)).take m ++ (cnts cs (pks wd e))[m] :: (cnts cs (pks wd e)).drop (m + 1) := by
                rw [← List.drop_eq_getElem_cons hm2, List.take_append_drop]
              have h2 : (ps.map pickO).length = ((cnts cs (pks wd e)).take m).length := by
                rw [List.length_map, List.length_take]
                omega
              have h3 : (ps.map pickO).zip (cnts cs (pks wd e)) = (ps.map pickO).zip ((cnts cs (pks wd e)).take m) := by
                conv => lhs; rw [h1]
                rw [show ps.map pickO = ps.map pickO ++ [] by simp, List.zip_append (by simpa using h2)]
                simp
              rw [h3] at hpall
              rw [List.map_append]
              conv => lhs; rw [h1]
              rw [List.zip_append h2, List.all_append, hpall]
              have hcm : (cnts cs (pks wd e))[m] = cs.getD (pks wd e)[m] 0 := List.getElem_map _
              rw [hcm]
              show (true && (bxOk (pickO pk, cs.getD (pks wd e)[m] 0) && true)) = true
              have : bxOk (pickO pk, cs.getD (pks wd e)[m] 0) = true := by
                unfold pickO
                split
                · rfl
                · show (decide (0 ≤ pk - 1) && decide (pk - 1 < cs.getD (pks wd e)[m] 0)) = true
                  rw [decide_eq_true (by omega), decide_eq_true (by omega)]
                  rfl
              rw [this]
              rfl
          obtain ⟨gc', ps, ePk, hpl, hpall⟩ := P
          rw [natV_len] at hpl
          -- a term
          refine ⟨_, rfl, a, rfl, gc'.2, fun fq He f ge efq hfok => ?_⟩
          have ePke := ge.1 _ _ nPka ePk
          refine ⟨_, rfl, Pk, rfl, ⟨_, SqL.of ePke⟩, fun Bx nBx => ?_⟩
          refine walk_it (walk_list (xs := ps.map V.int)) (fun m Hf => Same He Hf ∧ Hf Bx = some (.lst (((ps.take m).map pickO).map oV))) ⟨same_new nBx, upd_same⟩ (fun m Hf hm P => SqL.of (P.1 _ _ ePke)) (fun m x Hf Hg hm P y => ?_) (fun Hf P => ?_)
          · obtain ⟨sf, eBx⟩ := P
            obtain ⟨rfl, ex'⟩ := y
            rw [List.length_map] at hm
            have ex'' : x = .int ps[m] := by
              rw [List.getElem?_map, List.getElem?_eq_getElem hm] at ex'
              exact (Option.some.inj ex').symm
            subst ex''
            refine ⟨rfl, ?_⟩
            unfold tYes
            refine iteT ?_
            refine ⟨_, rfl, _, _, rfl, rfl, s2, fun Lk nLk => ⟨_, rfl, rfl, .inr ⟨_, rfl, ?_⟩⟩⟩
            have sk := same_new (o := .lst [.int (ps[m] - 1), .non]) nLk
            have hat : atI [V.int (ps[m] - 1), .non] (if decide (V.int ps[m] = V.int 0) = true then 1 else 0) = some (oV (pickO ps[m])) := by
              rw [eqi]
              unfold pickO
              by_cases hz : ps[m] = 0
              · rw [decide_eq_true hz, if_pos rfl, if_pos hz]
                rfl
              · rw [decide_eq_false hz, if_neg (by decide), if_neg hz]
                rfl
            refine ⟨Lk, _, _, _, rfl, rfl, SqL.of upd_same, hat, _, sk _ _ eBx, ?_, fun c o ec => ?_, ?_⟩
            · rw [List.length_map, List.length_map, List.length_take]
              exact Nat.lt_of_le_of_lt (show _ ≤ 1000 by omega) (by decide)
            · rw [upd_ne (ne_of_none ec nBx)]
              exact sk _ _ (sf _ _ ec)
            · rw [upd_same, List.take_add_one, List.getElem?_eq_getElem hm, List.map_append, List.map_append]
              rfl
          obtain ⟨sf, eBx⟩ := P
          rw [List.length_map, List.take_length] at eBx
          refine ⟨Bx, _, rfl, .inl ⟨SqL.of eBx, fun bq nbq => ⟨s2, fun tq ntq => ?_⟩⟩⟩
          have sq1 := (sf.trans (same_new (o := .tup ((ps.map pickO).map oV)) nbq)).trans (same_new (o := .tup [.ref fq, .ref bq]) ntq)
          have ebq : upd (upd Hf bq (.tup ((ps.map pickO).map oV))) tq (.tup [.ref fq, .ref bq]) bq = some (.tup ((ps.map pickO).map oV)) := (same_new ntq) _ _ upd_same
          have etq : upd (upd Hf bq (.tup ((ps.map pickO).map oV))) tq (.tup [.ref fq, .ref bq]) tq = some (.tup [.ref fq, .ref bq]) := upd_same
          have gq : Gr a Hb (upd (upd Hf bq (.tup ((ps.map pickO).map oV))) tq (.tup [.ref fq, .ref bq])) := (gc'.trans ge).trans (Gr.of sq1 ge.2)
          generalize upd (upd Hf bq (.tup ((ps.map pickO).map oV))) tq (.tup [.ref fq, .ref bq]) = Hq at sq1 ebq etq gq
          have hterm : TmAt Hq (.ref tq) (f, ps.map pickO) := ⟨tq, fq, bq, rfl, etq, sq1 _ _ efq, ebq⟩
          have hgt : GoodT (cnts cs (pks wd e)) (f, ps.map pickO) := ⟨hfok, by
            show (ps.map pickO).length = (cnts cs (pks wd e)).length
            unfold cnts
            rw [List.length_map, List.length_map, hpl], hpall⟩
          have eTeq := gq.1 _ _ nTea eTe
          have htvq : Paired (TmAt Hq) tvs ts := Paired.gr (F := TmAt) (fun k h => TmAt.mono k h) gb.2 gq htv
          clear ge gc' ePk ePke eBx ebq etq sq1
          obtain ⟨M, hM⟩ : ∃ M : L2.St → Hp → Prop, M = fun σ Hr => ∃ (v : V) (t : Trm), σ = [some (.ref a), some (.ref p), some (.int (e.2 : Nat)), some (.ref c), some (.ref Rl), some (.str (S e.1.1)), some (.ref u1), some (.ref Sm), some (.int (0 + (k : Int))), some (.ref Te), some (.int (0 + (j : Int))), some (.ref Pk), some v, z13, none] ∧ TmAt Hr v t ∧ GoodT (cnts cs (pks wd e)) t ∧ Gr a Hq Hr := ⟨_, rfl⟩
          refine ⟨M, ?_, fun σ1 Hr h1 => ?_⟩
          · refine ⟨_, rfl, s0, fun L8 nL8 => ?_⟩
            have s8 := same_new (o := .lst []) nL8
            have htv8 : Paired (TmAt (upd Hq L8 (.lst []))) tvs ts := Paired.mapP htvq fun _ _ z => z.mono (KT.of s8)
            obtain ⟨dd, p1, p2, p3, p4⟩ := dp_lst (K := K) (n := 2) (SqL.of (s8 _ _ eTeq)) (fun v hv => by
              obtain ⟨t, _, hF⟩ := paired_mem htv8 hv
              exact hF.dp)
            refine ⟨.list dd, .list [], p1, .lst (SqL.of upd_same) .nil, shaped_of p2 p3 (by decide), rfl, _, rfl, ?_⟩
            rw [eqv_nil, p4, htv.length]
            have g8 : Gr a Hq (upd Hq L8 (.lst [])) := Gr.of s8 gq.2
            have same : ∀ {Hr : Hp}, Gr a Hq Hr → M [some (.ref a), some (.ref p), some (.int (e.2 : Nat)), some (.ref c), some (.ref Rl), some (.str (S e.1.1)), some (.ref u1), some (.ref Sm), some (.int (0 + (k : Int))), some (.ref Te), some (.int (0 + (j : Int))), some (.ref Pk), some (.ref tq), z13, none] Hr := fun {Hr} g => by
              rw [hM]
              exact ⟨_, _, rfl, hterm.mono (KT.gr gq.2 g), hgt, g⟩
            by_cases hz : ts.length = 0
            · rw [decide_eq_true hz]
              exact iteF (same g8)
            rw [decide_eq_false hz]
            refine iteT ?_
            refine ⟨_, rfl, a, 8, rfl, g8.2, by decide, by decide +kernel, fun d8 Hr d80 d81 gr => ?_⟩
            refine ⟨rfl, _, rfl, ite2 (fun c => ?_) (fun c => same (g8.trans gr))⟩
            have htl' := htv.length
            have eTer := gr.1 _ _ nTea (s8 _ _ eTeq)
            refine ⟨_, rfl, _, rfl, _, rfl, Te, _, rfl, .inl (SqL.of eTer), a, _, rfl, gr.2, by omega, Nat.lt_of_le_of_lt (show ((tvs.length : Nat) : Int).natAbs ≤ 100 by omega) (by decide +kernel), fun d9 Hs d90 d91 gs => ?_⟩
            have hd9 : d9.toNat < tvs.length := by omega
            have gqs : Gr a Hq Hs := (g8.trans gr).trans gs
            obtain ⟨t9, et9, hF9⟩ := paired_at htvq (List.getElem?_eq_getElem hd9)
            refine ⟨Te, _, d9, _, rfl, rfl, SqL.of (gs.1 _ _ nTea eTer), at_of (j := d9.toNat) (by omega) (List.getElem?_eq_getElem hd9), ?_⟩
            show M _ _
            rw [hM]
            exact ⟨_, t9, rfl, hF9.mono (KT.gr gq.2 gqs), hts t9 (List.mem_of_getElem? et9), gqs⟩
          rw [hM] at h1
          obtain ⟨v, t, rfl, htm, htg, gr⟩ := h1
          clear hM M
          have eTer := gr.1 _ _ nTea eTeq
          have htl' := htv.length
          refine ⟨.ref Te, rfl, .inl ⟨rfl, _, SqL.of eTer⟩, _, rfl, Te, _, _, rfl, rfl, eTer, Nat.lt_of_le_of_lt (show tvs.length ≤ 1000 by omega) (by decide), ?_⟩
          have kt : KT Hr (upd Hr Te (.lst (tvs ++ [v]))) := KT.lst eTer
          refine ⟨_, _, _, _, tvs ++ [v], ts ++ [t], rfl, ((gb.trans gq).trans gr).new nTe nTea, upd_same, paired_snoc (Paired.mapP (Paired.gr (F := TmAt) (fun k h => TmAt.mono k h) gq.2 gr htvq) fun _ _ z => z.mono kt) (htm.mono kt), by rw [List.length_append, htl]; rfl, fun t' ht' => ?_⟩
          rcases List.mem_append.mp ht' with h | h
          · exact hts t' h
          · rw [List.mem_singleton.mp h]
            exact htg
        · obtain ⟨z10, z11, z12, z13, tvs, ts, rfl, gb, eTe, htv, htl, hts⟩ := P
          have eSmb := gb.1 _ _ nSma eSm
          refine ⟨.ref Sm, rfl, .inl ⟨rfl, _, SqL.of eSmb⟩, _, rfl, Te, _, rfl, .inl ⟨SqL.of eTe, fun tt ntt => ?_⟩⟩
          have st := same_new (o := .tup tvs) ntt
          have ett : upd Hb tt (.tup tvs) tt = some (.tup tvs) := upd_same
          have gt : Gr a Hy (upd Hb tt (.tup tvs)) := gb.trans (Gr.of st gb.2)
          have eSmt := st _ _ eSmb
          have htvt : Paired (TmAt (upd Hb tt (.tup tvs))) tvs ts := Paired.mapP htv fun _ _ z => z.mono (KT.of st)
          generalize upd Hb tt (.tup tvs) = Ht at st ett gt eSmt htvt
          have hsvl := hsv.length
          refine ⟨Sm, _, _, rfl, rfl, eSmt, Nat.lt_of_le_of_lt (show svs.length ≤ 1000 by omega) (by decide), ?_⟩
          have kt : KT Ht (upd Ht Sm (.lst (svs ++ [.ref tt]))) := KT.lst eSmt
          refine ⟨_, _, _, _, _, _, svs ++ [.ref tt], ss ++ [ts], rfl, (gy.trans gt).new nSm nSma, upd_same, paired_snoc (Paired.mapP (Paired.gr (F := SmAt) (fun k h => SmAt.mono k h) gy.2 gt hsv) fun _ _ z => SmAt.mono kt z) ⟨tt, tvs, rfl, kt _ _ ett, Paired.mapP htvt fun _ _ z => z.mono kt⟩, by rw [List.length_append, hsl]; rfl, fun s' hs' => ?_⟩
          rcases List.mem_append.mp hs' with h | h
          · exact hss s' h
          · rw [List.mem_singleton.mp h]
            exact ⟨by omega, hts⟩
      · obtain ⟨z8, z9, z10, z11, z12, z13, svs, ss, rfl, gy, eSm, hsv, hsl, hss⟩ := P
        have eRly := gy.1 _ _ nRla eRx
        refine ⟨.ref Rl, rfl, .inl ⟨rfl, _, SqL.of eRly⟩, _, rfl, Sm, _, rfl, .inl ⟨SqL.of eSm, fun tt ntt => ?_⟩⟩
        have st := same_new (o := .tup svs) ntt
        have ett : upd Hy tt (.tup svs) tt = some (.tup svs) := upd_same
        have gt : Gr a Hx (upd Hy tt (.tup svs)) := gy.trans (Gr.of st gy.2)
        have eRt := st _ _ eRly
        have hsvt : Paired (SmAt (upd Hy tt (.tup svs))) svs ss := Paired.mapP hsv fun _ _ z => SmAt.mono (KT.of st) z
        generalize upd Hy tt (.tup svs) = Ht at st ett gt eRt hsvt
        have hrvl := hrx.length
        have hdl := hdx.length
        refine ⟨Rl, _, _, rfl, rfl, eRt, Nat.lt_of_le_of_lt (show rvs.length ≤ 1000 by omega) (by decide), ?_⟩
        have kt : KT Ht (upd Ht Rl (.lst (rvs ++ [.ref tt]))) := KT.lst eRt
        refine ⟨_, _, _, _, _, _, _, _, _, _, rvs ++ [.ref tt], rs ++ [ss], rfl, (gx.trans gt).new nRl nRla, ?_, ?_, upd_same, paired_snoc (Paired.mapP (Paired.gr (F := RlAt) (fun k h => RlAt.mono k h) gx.2 gt hrx) fun _ _ z => RlAt.mono kt z) ⟨tt, svs, rfl, kt _ _ ett, Paired.mapP hsvt fun _ _ z => SmAt.mono kt z⟩, by rw [List.length_append, hrl]; rfl, fun j' e' r' h1 h2 => ?_⟩
        · rw [upd_ne nLR]
          exact gt.1 _ _ nLa eLx
        · exact Paired.mapP hdx fun _ _ z => (z.mono (KT.gr gx.2 gt)).mono kt
        · by_cases hj' : j' < rs.length
          · rw [List.getElem?_append_left hj'] at h2
            exact hgood j' e' r' h1 h2
          · rw [List.getElem?_append_right (by omega)] at h2
            have hj0 : j' = i := by
              have := (List.getElem?_eq_some_iff.mp h2).1
              rw [List.length_singleton] at this
              omega
            subst hj0
            rw [hrl, Nat.sub_self] at h2
            cases Option.some.inj h2
            rw [ee] at h1
            cases Option.some.inj h1
            exact ⟨by rw [hsl, hcnt]; omega, hss⟩
    · obtain ⟨y2, y5, y6, y7, y8, y9, y10, y11, y12, y13, rvs, rs, rfl, gx, eLx, hdx, eRx, hrx, hrl, hgood⟩ := P
      have ecx : Hx c = some (.tup (cs.map V.int)) := KT.gr gc.2 gx _ _ ec
      refine ⟨_, rfl, _, rfl, Rl, _, rfl, .inl ⟨SqL.of eRx, fun rt nrt => ⟨s2, fun tt ntt => ?_⟩⟩⟩
      have st := (same_new (o := .tup rvs) nrt).trans (same_new (o := .tup [.ref c, .ref rt]) ntt)
      refine q tt _ (cs, rs) ((gc.trans gx).trans (Gr.of st gx.2)) ⟨c, .ref rt, upd_same, st _ _ ecx, rt, rvs, rfl, (same_new ntt) _ _ upd_same, Paired.mapP hrx fun _ _ z => RlAt.mono (KT.of st) z⟩ ⟨hcl, hck, ?_, hgood⟩
      show rs.length = _
      rw [hrl, hdx.length]
end

theorem slA_of {K : PySem.W.Frag} {H : Hp} {t : Addr} {xs : List V} {lo hi : Option Int} {Q : VK} (e : H t = some (.tup xs)) (q : ∀ p' H', Same H H' → H' p' = some (.tup (cutV xs lo hi)) → Q (.ref p') H') : rSlA K (.ref t) lo hi H Q := by
  refine ⟨t, xs, rfl, SqT.of e, fun h => q t H (Same.refl H) ?_, fun _ p' n => q p' _ (same_new n) upd_same⟩
  unfold cutV
  rw [h.1, h.2, List.drop_zero, Nat.sub_zero, List.take_length]
  exact e
theorem catA_of {K : PySem.W.Frag} {H : Hp} {t u : Addr} {xs ys : List V} {Q : VK} (e : H t = some (.tup xs)) (e2 : H u = some (.tup ys)) (hz : xs.length + ys.length ≤ sizeLine) (q : ∀ p' H', Same H H' → H' p' = some (.tup (xs ++ ys)) → Q (.ref p') H') : rCatA K (.ref t) (.ref u) H Q := by
  refine ⟨t, u, xs, ys, rfl, rfl, SqT.of e, SqT.of e2, hz, fun h => q u H (Same.refl H) ?_, fun _ h => q t H (Same.refl H) ?_, fun _ _ p' n => q p' _ (same_new n) upd_same⟩
  · rw [h]
    exact e2
  · rw [h, List.append_nil]
    exact e
theorem cut_hi {xs : List V} {k : Int} (h : 0 ≤ k) : (cutV xs none (some k)).length = min k.toNat xs.length := by
  unfold cutV
  rw [List.length_take, List.length_drop]
  show min ((if k < 0 then _ else min k.toNat xs.length) - 0) (xs.length - 0) = _
  rw [if_neg (by omega)]
  omega
theorem cut_lo {xs : List V} {k : Int} : (cutV xs (some k) none).length = xs.length - (if k < 0 then (k + (xs.length : Int)).toNat else min k.toNat xs.length) := by
  unfold cutV
  rw [List.length_take, List.length_drop]
  show min (xs.length - (if k < 0 then _ else min k.toNat xs.length)) (xs.length - (if k < 0 then _ else min k.toNat xs.length)) = _
  exact Nat.min_self _
theorem tailOf {T G : Prop} (f : T → G) (t : T) : G := f t

/-! ### _law_with -/
section
variable {P : Program} {w : World} {K : PySem.W.Frag} {mg : Str → Option Value} {base : Heap}
theorem repA_of {K : PySem.W.Frag} {H : Hp} {t : Addr} {xs : List V} {k : Int} {Q : VK} (e : H t = some (.tup xs)) (hl : xs.length ≤ 1000) (hk : k = 0 ∨ k = 2) (q : ∀ p' H', Same H H' → H' p' = some (.tup (List.replicate k.toNat xs).flatten) → Q (.ref p') H') : BR.rRepA K (.ref t) (.int k) H Q := by
  refine ⟨t, k, xs, rfl, rfl, SqT.of e, hl, hk, fun h => q t H (Same.refl H) ?_, fun _ p' n => q p' _ (same_new n) upd_same⟩
  rw [e, h]
  simp
theorem cut_mem {xs : List V} {lo hi : Option Int} : ∀ v ∈ cutV xs lo hi, v ∈ xs := fun v hv => List.mem_of_mem_drop (List.mem_of_mem_take hv)
theorem cut_mid {xs : List V} {k : Int} (h : 0 ≤ k) : (cutV xs (some k) (some (k + 1))).length ≤ 1 ∧ (cutV xs (some k) (some (k + 1))).length + min k.toNat xs.length ≤ xs.length := by
  unfold cutV
  rw [List.length_take, List.length_drop]
  have e1 : HT.sIx xs.length 0 (some k) = min k.toNat xs.length := by
    show (if k < 0 then _ else min k.toNat xs.length) = _
    rw [if_neg (by omega)]
  have e2 : HT.sIx xs.length xs.length (some (k + 1)) = min (k + 1).toNat xs.length := by
    show (if k + 1 < 0 then _ else min (k + 1).toNat xs.length) = _
    rw [if_neg (by omega)]
  rw [e1, e2]
  omega
def spWith : Sp := fun vs H Q _ => ∃ (p : Addr) (at' way : Int) (v : V) (xs : List V), vs = [.ref p, .int at', .int way, v] ∧ H p = some (.tup xs) ∧ 0 ≤ at' ∧ 0 ≤ way ∧ way ≤ 3 ∧ xs.length ≤ 900 ∧ ∀ (u : Addr) (H' : Hp) (ys : List V), Same H H' → H' u = some (.tup ys) → (∀ y ∈ ys, y ∈ xs ∨ y = v) → ys.length ≤ xs.length + 1 → Q (.ref u) H'
theorem ok_with (T : Tx P K mg) : FnOk P w K mg base CX0 1 T.f_with T.fd_with ["_law_some", "_law_at", "_law_way", "_law_one"] spWith := by
  refine T.F_with.ok sc_with (fun vs H Q E h => ?_) (fun cdv A outer s H vs Q E hr h => ?_)
  · obtain ⟨p, a, w', v, xs, rfl, _⟩ := h
    rfl
  · obtain ⟨p, at', way, v, xs, rfl, ep, a0, w0, w3, hl, q⟩ := h
    refine ⟨_, (pss_cons (ps_if (pt_cmpR op_lt (pv 2) pe_int (nomark _)) (pss_one (ps_ret (pe_op op_catA (pe_op op_catA (pe_slice sl_tupA (pv 0) po_none (po_some (pv 1))) (pe_tup (pa_cons (pv 3) pa_nil))) (pe_slice sl_tupA (pv 0) (po_some (pe_op op_add (pv 1) (pv 2))) po_none)))) pss_nil) (pss_one (ps_ret (pe_op op_catA (pe_op op_catA (pe_slice sl_tupA (pv 0) po_none (po_some (pv 1))) (pe_op BR.op_repA (pe_slice sl_tupA (pv 0) (po_some (pv 1)) (po_some (pe_op op_add (pv 1) pe_int))) (pe_op op_mul pe_int (pe_op op_sub (pv 2) pe_int)))) (pe_slice sl_tupA (pv 0) (po_some (pe_op op_add (pv 1) pe_int)) po_none))))), ?_⟩
    have c1 := cut_hi (xs := xs) a0
    refine ⟨_, rfl, _, _, rfl, rfl, _, rfl, ite2 (fun c => ?_) (fun c => ?_)⟩
    · have w2 : way < 2 := of_decide_eq_true c
      refine ⟨_, rfl, _, rfl, _, rfl, slA_of ep fun u1 Hd sd ed => ?_⟩
      refine ⟨_, rfl, s1, fun u2 nu2 => ?_⟩
      have sb := sd.trans (same_new (o := .tup [v]) nu2)
      refine catA_of ((same_new nu2) _ _ ed) upd_same ?_ fun u3 He se ee => ?_
      · exact small_len (by rw [c1]; show min at'.toNat xs.length + 1 ≤ 1000; omega)
      have sf := sb.trans se
      refine ⟨_, rfl, _, rfl, _, rfl, _, _, rfl, rfl, _, rfl, ?_⟩
      dsimp only [tNoPart]
      refine slA_of (sf _ _ ep) fun u4 Hf sf2 ef => ?_
      have c2 := cut_lo (xs := xs) (k := at' + way)
      rw [if_neg (by omega)] at c2
      refine catA_of (sf2 _ _ ee) ef ?_ fun u5 Hg sg eg => ?_
      · exact small_len (by rw [List.length_append, c1, c2]; show min at'.toNat xs.length + 1 + _ ≤ 1000; omega)
      refine q u5 Hg _ ((sf.trans sf2).trans sg) eg (fun y hy => ?_) ?_
      · rcases List.mem_append.mp hy with hy | hy
        · rcases List.mem_append.mp hy with hy | hy
          · exact .inl (cut_mem y hy)
          · exact .inr (List.mem_singleton.mp hy)
        · exact .inl (cut_mem y hy)
      · rw [List.length_append, List.length_append, c1, c2]
        show min at'.toNat xs.length + 1 + _ ≤ xs.length + 1
        omega
    · have w2 : ¬ way < 2 := of_decide_eq_false (Bool.eq_false_iff.mpr c)
      refine ⟨_, rfl, _, rfl, _, rfl, slA_of ep fun u1 Hd sd ed => ?_⟩
      refine ⟨_, rfl, _, rfl, _, rfl, _, rfl, _, _, rfl, rfl, _, rfl, slA_of (sd _ _ ep) fun u2 He se ee => ?_⟩
      obtain ⟨m1, m2⟩ := cut_mid (xs := xs) a0
      refine ⟨_, rfl, _, _, rfl, rfl, _, _, rfl, rfl, .inl ⟨by decide, by decide⟩, ?_⟩
      refine repA_of ee (by omega) (by omega) fun u3 Hf sf ef => ?_
      have hfl : (List.replicate (2 * (way - 2)).toNat (cutV xs (some at') (some (at' + 1)))).flatten.length = (2 * (way - 2)).toNat * (cutV xs (some at') (some (at' + 1))).length := by
        rw [List.length_flatten, List.map_replicate, List.sum_replicate_nat]
      have hw23 : (2 * (way - 2)).toNat = 0 ∨ (2 * (way - 2)).toNat = 2 := by omega
      have hfl2 : (List.replicate (2 * (way - 2)).toNat (cutV xs (some at') (some (at' + 1)))).flatten.length ≤ 2 * (cutV xs (some at') (some (at' + 1))).length := by
        rw [hfl]
        rcases hw23 with h | h <;> rw [h] <;> omega
      have s3' := (sd.trans se).trans sf
      refine catA_of (sf _ _ (se _ _ ed)) ef ?_ fun u4 Hg sg eg => ?_
      · exact small_len (by rw [c1]; omega)
      have s4' := s3'.trans sg
      refine ⟨_, rfl, _, rfl, _, _, rfl, rfl, _, rfl, ?_⟩
      dsimp only [tNoPart]
      refine slA_of (s4' _ _ ep) fun u5 Hh sh eh => ?_
      have c2 := cut_lo (xs := xs) (k := at' + 1)
      rw [if_neg (by omega)] at c2
      refine catA_of (sh _ _ eg) eh ?_ fun u6 Hi si ei => ?_
      · exact small_len (by rw [List.length_append, c1, c2]; omega)
      refine q u6 Hi _ ((s4'.trans sh).trans si) ei (fun y hy => .inl ?_) ?_
      · rcases List.mem_append.mp hy with hy | hy
        · rcases List.mem_append.mp hy with hy | hy
          · exact cut_mem y hy
          · obtain ⟨l, hl', hy⟩ := List.mem_flatten.mp hy
            rw [(List.mem_replicate.mp hl').2] at hy
            exact cut_mem y hy
        · exact cut_mem y hy
      · rw [List.length_append, List.length_append, c1, c2]
        by_cases hz : at'.toNat < xs.length
        · omega
        · omega
end

/-! ### _law_spoilt_term -/
def FrT (H : Hp) (t : Addr) : Prop := ∃ f : Frc, H t = some (.tup [.int f.1, .int f.2])
theorem FrT.kt {H H' : Hp} {t : Addr} (k : KT H H') (h : FrT H t) : FrT H' t := by
  obtain ⟨f, e⟩ := h
  exact ⟨f, k _ _ e⟩
theorem s9 : 9 ≤ sizeLine := by decide
theorem at_mem {xs : List V} {d : Int} (h0 : 0 ≤ d) (h1 : d < xs.length) : ∃ v ∈ xs, atI xs d = some v := by
  have l : d.toNat < xs.length := by omega
  exact ⟨xs[d.toNat], List.getElem_mem l, at_of (j := d.toNat) (by omega) (List.getElem?_eq_getElem l)⟩
theorem oVs {ys : List V} (h : ∀ y ∈ ys, ∃ o, y = oV o) : ∃ os : List (Option Int), ys = os.map oV := by
  induction ys with
  | nil => exact ⟨[], rfl⟩
  | cons v r ih =>
    obtain ⟨o, rfl⟩ := h v List.mem_cons_self
    obtain ⟨os, rfl⟩ := ih fun u hu => h u (List.mem_cons_of_mem _ hu)
    exact ⟨o :: os, rfl⟩
section
variable {P : Program} {w : World} {K : PySem.W.Frag} {mg : Str → Option Value} {base : Heap}
def spSt : Sp := fun vs H Q _ => ∃ (a : Addr) (v : V) (t : Trm), vs = [.ref a, v] ∧ Drw H a ∧ TmAt H v t ∧ t.2.length ≤ 100 ∧ ∀ (tt : Addr) (H' : Hp) (t' : Trm), Gr a H H' → TmAt H' (.ref tt) t' → t'.2.length ≤ t.2.length + 1 → Q (.ref tt) H'
theorem ok_sterm (T : Tx P K mg) : FnOk P w K mg base CX0 2 T.f_sterm T.fd_sterm ["_law_box_here", "_law_term"] spSt := by
  refine T.F_sterm.ok sc_sterm (fun vs H Q E h => ?_) (fun cdv A outer s H vs Q E hr h => ?_)
  · obtain ⟨a, v, t, rfl, _⟩ := h
    rfl
  · obtain ⟨a, v, t, rfl, dr, ⟨tq, fq, bq, rfl, e1, e2, e3⟩, hl, q⟩ := h
    refine ⟨_, (pss_cons (ps_asg (pv 1) (pg_tup rfl (pgs_cons (pg_name (i := 2) sc_sterm.nd rfl (.inl rfl)) (pgs_cons (pg_name (i := 3) sc_sterm.nd rfl (.inl rfl)) pgs_nil)))) (pss_cons (ps_par (i := 4) (j := 5) (by rfl) sc_sterm.nd rfl rfl (by decide) rfl rfl (pa_cons (pe_call (ok_take T) (hr.mono (by decide) : Room 1 _) (by rfl) T.g_take T.F_take.kp T.b_take .nil pass0 (pa_cons (pv 0) (pa_cons (pe_op op_add (pe_callB call_len_seq (by rfl) T.m_len PySem.boot_len (pa_cons (pv 3) pa_nil)) pe_int) pa_nil))) (pa_cons (pe_call (ok_take T) (hr.mono (by decide) : Room 1 _) (by rfl) T.g_take T.F_take.kp T.b_take .nil pass0 (pa_cons (pv 0) (pa_cons pe_int pa_nil))) pa_nil)) (by rfl)) (pss_cons (ps_set (i := 6) sc_sterm.nd rfl (.inl rfl) (pe_ix ix_list (pe_lst (pa_cons (pe_tup (pa_cons pe_int (pa_cons pe_int pa_nil))) (pa_cons (pe_tup (pa_cons pe_int (pa_cons pe_int pa_nil))) (pa_cons (pe_tup (pa_cons pe_int (pa_cons pe_int pa_nil))) (pa_cons (pe_tup (pa_cons pe_int (pa_cons (pe_op op_sub pe_int pe_int) pa_nil))) (pa_cons (pe_tup (pa_cons pe_int (pa_cons pe_int pa_nil))) (pa_cons (pe_tup (pa_cons (pe_op op_sub pe_int pe_int) (pa_cons pe_int pa_nil))) (pa_cons (pe_tup (pa_cons pe_int (pa_cons pe_int pa_nil))) (pa_cons (pe_tup (pa_cons pe_int (pa_cons pe_int pa_nil))) (pa_cons (pe_tup (pa_cons (pe_op op_sub pe_int pe_int) (pa_cons pe_int pa_nil))) pa_nil)))))))))) (pe_call (ok_take T) (hr.mono (by decide) : Room 1 _) (by rfl) T.g_take T.F_take.kp T.b_take .nil pass0 (pa_cons (pv 0) (pa_cons pe_int pa_nil))) (fun _ _ => rfl))) (pss_cons (ps_if (pt_cmpR op_lt (pv 5) pe_int (nomark _)) (pss_one (ps_ret (pe_tup (pa_cons (pv 6) (pa_cons (pv 3) pa_nil))))) pss_nil) (pss_cons (ps_set (i := 7) sc_sterm.nd rfl (.inl rfl) (pe_ix ix_list (pe_lst (pa_cons pe_non (pa_cons (pe_op op_sub pe_int pe_int) (pa_cons pe_int (pa_cons pe_int (pa_cons pe_int (pa_cons (pe_call (ok_take T) (hr.mono (by decide) : Room 1 _) (by rfl) T.g_take T.F_take.kp T.b_take .nil pass0 (pa_cons (pv 0) (pa_cons pe_int pa_nil))) (pa_cons (pe_op op_pow pe_int pe_int) pa_nil)))))))) (pe_call (ok_take T) (hr.mono (by decide) : Room 1 _) (by rfl) T.g_take T.F_take.kp T.b_take .nil pass0 (pa_cons (pv 0) (pa_cons pe_int pa_nil))) (fun _ _ => rfl))) (pss_one (ps_ret (pe_tup (pa_cons (pv 2) (pa_cons (pe_call (ok_with T) (hr.mono (by decide) : Room 1 _) (by rfl) T.g_with T.F_with.kp T.b_with .nil pass0 (pa_cons (pv 3) (pa_cons (pv 4) (pa_cons (pe_ix ix_list (pe_lst (pa_cons pe_int (pa_cons pe_int (pa_cons pe_int (pa_cons pe_int pa_nil))))) (pe_op op_sub (pv 5) pe_int) (fun _ _ => rfl)) (pa_cons (pv 7) pa_nil))))) pa_nil)))))))))), ?_⟩
    refine ⟨_, rfl, tq, _, rfl, .inl (.inl e1), rfl, _, _, rfl, _, _, rfl, rfl, ?_⟩
    refine ⟨_, rfl, _, rfl, bq, _, rfl, .inr (.inl (.inl e3)), _, _, rfl, rfl, ?_⟩
    rw [List.length_map]
    refine ⟨a, _, rfl, dr, by omega, Nat.lt_of_le_of_lt (show ((t.2.length : Int) + 1).natAbs ≤ 200 by omega) (by decide +kernel), fun at' H1 a0 a1 g1 => ?_⟩
    refine ⟨_, rfl, a, 6, rfl, g1.2, by decide, by decide +kernel, fun way H2 w0 w1 g2 => ⟨_, _, rfl, ?_⟩⟩
    -- odd ones
    refine ⟨s2, fun t1 n1 => ?_⟩
    have z1 : Same H2 (upd H2 t1 (.tup [.int 2, .int 4])) := same_new n1
    have f1 : FrT (upd H2 t1 (.tup [.int 2, .int 4])) t1 := ⟨(2, 4), upd_same⟩
    generalize upd H2 t1 (.tup [.int 2, .int 4]) = K1 at z1 f1
    refine ⟨s2, fun t2 n2 => ?_⟩
    have z2 : Same K1 (upd K1 t2 (.tup [.int 0, .int 2])) := same_new n2
    have f2 : FrT (upd K1 t2 (.tup [.int 0, .int 2])) t2 := ⟨(0, 2), upd_same⟩
    generalize upd K1 t2 (.tup [.int 0, .int 2]) = K2 at z2 f2
    refine ⟨s2, fun t3 n3 => ?_⟩
    have z3 : Same K2 (upd K2 t3 (.tup [.int 1, .int 0])) := same_new n3
    have f3 : FrT (upd K2 t3 (.tup [.int 1, .int 0])) t3 := ⟨(1, 0), upd_same⟩
    generalize upd K2 t3 (.tup [.int 1, .int 0]) = K3 at z3 f3
    refine ⟨_, _, rfl, rfl, s2, fun t4 n4 => ?_⟩
    have z4 : Same K3 (upd K3 t4 (.tup [.int 1, .int (0 - 1)])) := same_new n4
    have f4 : FrT (upd K3 t4 (.tup [.int 1, .int (0 - 1)])) t4 := ⟨(1, (0 - 1)), upd_same⟩
    generalize upd K3 t4 (.tup [.int 1, .int (0 - 1)]) = K4 at z4 f4
    refine ⟨s2, fun t5 n5 => ?_⟩
    have z5 : Same K4 (upd K4 t5 (.tup [.int 0, .int 0])) := same_new n5
    have f5 : FrT (upd K4 t5 (.tup [.int 0, .int 0])) t5 := ⟨(0, 0), upd_same⟩
    generalize upd K4 t5 (.tup [.int 0, .int 0]) = K5 at z5 f5
    refine ⟨_, _, rfl, rfl, s2, fun t6 n6 => ?_⟩
    have z6 : Same K5 (upd K5 t6 (.tup [.int (0 - 6), .int 3])) := same_new n6
    have f6 : FrT (upd K5 t6 (.tup [.int (0 - 6), .int 3])) t6 := ⟨((0 - 6), 3), upd_same⟩
    generalize upd K5 t6 (.tup [.int (0 - 6), .int 3]) = K6 at z6 f6
    refine ⟨s2, fun t7 n7 => ?_⟩
    have z7 : Same K6 (upd K6 t7 (.tup [.int 5, .int 1])) := same_new n7
    have f7 : FrT (upd K6 t7 (.tup [.int 5, .int 1])) t7 := ⟨(5, 1), upd_same⟩
    generalize upd K6 t7 (.tup [.int 5, .int 1]) = K7 at z7 f7
    refine ⟨s2, fun t8 n8 => ?_⟩
    have z8 : Same K7 (upd K7 t8 (.tup [.int 0, .int 1])) := same_new n8
    have f8 : FrT (upd K7 t8 (.tup [.int 0, .int 1])) t8 := ⟨(0, 1), upd_same⟩
    generalize upd K7 t8 (.tup [.int 0, .int 1]) = K8 at z8 f8
    refine ⟨_, _, rfl, rfl, s2, fun t9 n9 => ?_⟩
    have z9 : Same K8 (upd K8 t9 (.tup [.int (0 - 3), .int 7])) := same_new n9
    have f9 : FrT (upd K8 t9 (.tup [.int (0 - 3), .int 7])) t9 := ⟨((0 - 3), 7), upd_same⟩
    generalize upd K8 t9 (.tup [.int (0 - 3), .int 7]) = K9 at z9 f9
    have m8 := z9
    have m7 := z8.trans m8
    have m6 := z7.trans m7
    have m5 := z6.trans m6
    have m4 := z5.trans m5
    have m3 := z4.trans m4
    have m2 := z3.trans m3
    have m1 := z2.trans m2
    have m0 := z1.trans m1
    have hall : ∀ v ∈ [V.ref t1, .ref t2, .ref t3, .ref t4, .ref t5, .ref t6, .ref t7, .ref t8, .ref t9], ∃ t, v = .ref t ∧ FrT K9 t := fun v hv => by
      simp only [List.mem_cons, List.not_mem_nil, or_false] at hv
      rcases hv with rfl | rfl | rfl | rfl | rfl | rfl | rfl | rfl | rfl
      · exact ⟨_, rfl, f1.kt (KT.of m1)⟩
      · exact ⟨_, rfl, f2.kt (KT.of m2)⟩
      · exact ⟨_, rfl, f3.kt (KT.of m3)⟩
      · exact ⟨_, rfl, f4.kt (KT.of m4)⟩
      · exact ⟨_, rfl, f5.kt (KT.of m5)⟩
      · exact ⟨_, rfl, f6.kt (KT.of m6)⟩
      · exact ⟨_, rfl, f7.kt (KT.of m7)⟩
      · exact ⟨_, rfl, f8.kt (KT.of m8)⟩
      · exact ⟨_, rfl, f9⟩
    have d9 : Drw K9 a := g2.2.mono m0
    refine ⟨s9, fun L nL => ?_⟩
    have sL := same_new (o := .lst [.ref t1, .ref t2, .ref t3, .ref t4, .ref t5, .ref t6, .ref t7, .ref t8, .ref t9]) nL
    have nLa : L ≠ a := (d9.ne nL).symm
    refine ⟨_, rfl, a, 9, rfl, d9.mono sL, by decide, by decide +kernel, fun dd H3 dd0 dd1 g3 => ?_⟩
    obtain ⟨v9, hv9, hat9⟩ := at_mem (xs := [V.ref t1, .ref t2, .ref t3, .ref t4, .ref t5, .ref t6, .ref t7, .ref t8, .ref t9]) dd0 dd1
    obtain ⟨to, rfl, fo⟩ := hall v9 hv9
    refine ⟨L, _, dd, .ref to, rfl, rfl, SqL.of (g3.1 _ _ nLa upd_same), hat9, ?_⟩
    have G3 : Gr a H H3 := ((g1.trans g2).trans (Gr.of (m0.trans sL) g2.2)).trans g3
    have fo3 : FrT H3 to := (fo.kt (KT.of sL)).kt (KT.gr (d9.mono sL) g3)
    clear hall f1 f2 f3 f4 f5 f6 f7 f8 f9 z1 z2 z3 z4 z5 z6 z7 z8 z9 m0 m1 m2 m3 m4 m5 m6 m7 m8 sL
    have e2' := KT.gr dr G3 _ _ e2
    have e3' := KT.gr dr G3 _ _ e3
    refine ⟨_, rfl, _, _, rfl, rfl, _, rfl, ite2 (fun c => ?_) (fun c => ?_)⟩
    · refine ⟨_, rfl, _, rfl, s2, fun tt ntt => ?_⟩
      obtain ⟨f, ef⟩ := fo3
      have st := same_new (o := .tup [.ref to, .ref bq]) ntt
      exact q tt _ (f, t.2) (G3.trans (Gr.of st G3.2)) ⟨tt, to, bq, rfl, upd_same, st _ _ ef, st _ _ e3'⟩ (Nat.le_succ _)
    have w2 : ¬ way < 2 := of_decide_eq_false (Bool.eq_false_iff.mpr c)
    -- one
    refine ⟨_, _, rfl, rfl, _, rfl, a, 9, rfl, G3.2, by decide, by decide +kernel, fun v4 H4 v40 v41 g4 => ?_⟩
    refine ⟨_, _, rfl, rfl, ⟨by decide, by decide, by decide⟩, s7, fun L5 nL5 => ?_⟩
    obtain ⟨xs7, hxs7, hl7, ho7⟩ : ∃ xs7 : List V, [V.non, .int (0 - 1), .int 0, .int 1, .int 4, .int v4, .int (10 ^ (9 : Int).toNat)] = xs7 ∧ xs7.length = 7 ∧ ∀ v ∈ xs7, ∃ o, v = oV o := ⟨_, rfl, rfl, fun v hv => by
      simp only [List.mem_cons, List.not_mem_nil, or_false] at hv
      rcases hv with rfl | rfl | rfl | rfl | rfl | rfl | rfl
      · exact ⟨none, rfl⟩
      all_goals exact ⟨some _, rfl⟩⟩
    have s5 := same_new (o := .lst [V.non, .int (0 - 1), .int 0, .int 1, .int 4, .int v4, .int (10 ^ (9 : Int).toNat)]) nL5
    have nL5a : L5 ≠ a := (g4.2.ne nL5).symm
    refine ⟨_, rfl, a, 7, rfl, g4.2.mono s5, by decide, by decide +kernel, fun d6 H6 d60 d61 g6 => ?_⟩
    obtain ⟨v6, hv6, hat6⟩ := at_mem (xs := xs7) d60 (by rw [hl7]; exact d61)
    obtain ⟨o6, rfl⟩ := ho7 v6 hv6
    subst hxs7
    refine ⟨L5, _, d6, oV o6, rfl, rfl, SqL.of (g6.1 _ _ nL5a upd_same), hat6, ?_⟩
    have G6 : Gr a H H6 := ((G3.trans g4).trans (Gr.of s5 g4.2)).trans g6
    have e2'' := KT.gr dr G6 _ _ e2
    have e3'' := KT.gr dr G6 _ _ e3
    refine ⟨_, rfl, _, rfl, _, rfl, s4, fun L8 nL8 => ?_⟩
    have s8 := same_new (o := .lst [.int 1, .int 1, .int 0, .int 2]) nL8
    obtain ⟨wv, hwv, hatw⟩ := ints_ix (cs := [1, 1, 0, 2]) (d := way - 2) (by omega) (by show way - 2 < 4; omega)
    have hwb : 0 ≤ wv ∧ wv ≤ 3 := by
      have k : ∀ x ∈ ([1, 1, 0, 2] : List Int), 0 ≤ x ∧ x ≤ 3 := by decide
      exact k wv hwv
    refine ⟨_, rfl, _, _, rfl, rfl, L8, _, _, .int wv, rfl, rfl, SqL.of upd_same, hatw, _, rfl, bq, at', wv, oV o6, _, rfl, s8 _ _ e3'', a0, hwb.1, hwb.2, by rw [List.length_map]; omega, fun u H' ys s' eu hy hyl => ?_⟩
    rw [List.length_map] at hyl
    obtain ⟨os, rfl⟩ := oVs (ys := ys) fun y hy' => by
      rcases hy y hy' with h | h
      · obtain ⟨o, _, rfl⟩ := List.mem_map.mp h
        exact ⟨o, rfl⟩
      · exact ⟨o6, h⟩
    rw [List.length_map] at hyl
    refine ⟨s2, fun tt ntt => ?_⟩
    have st := (s8.trans s').trans (same_new (o := .tup [.ref fq, .ref u]) ntt)
    exact q tt _ (t.1, os) (G6.trans (Gr.of st G6.2)) ⟨tt, fq, u, rfl, upd_same, st _ _ e2'', (same_new ntt) _ _ eu⟩ hyl
end

/-! ### _law_spoilt -/
theorem with_paired {α : Type} {F : V → α → Prop} {xs : List V} {zs : List α} {v : V} {z0 : α} (hx : Paired F xs zs) (hv : F v z0) : ∀ {ys : List V}, (∀ y ∈ ys, y ∈ xs ∨ y = v) → ∃ zs', Paired F ys zs' ∧ ∀ z ∈ zs', z ∈ zs ∨ z = z0
  | [], _ => ⟨[], .nil, fun _ h => nomatch h⟩
  | y :: r, hy => by
    obtain ⟨zs', h1, h2⟩ := with_paired hx hv (ys := r) fun u hu => hy u (List.mem_cons_of_mem _ hu)
    obtain ⟨z, hz, hF⟩ : ∃ z, (z ∈ zs ∨ z = z0) ∧ F y z := by
      rcases hy y List.mem_cons_self with h | rfl
      · obtain ⟨z, hz, hF⟩ := paired_mem hx h
        exact ⟨z, .inl hz, hF⟩
      · exact ⟨z0, .inr rfl, hv⟩
    refine ⟨z :: zs', .cons hF h1, fun u hu => ?_⟩
    rcases List.mem_cons.mp hu with rfl | hu
    · exact hz
    · exact h2 u hu
theorem TOf.dp {K : PySem.W.Frag} {α : Type} {F : Hp → V → α → Prop} {H : Hp} {n : Nat} (hF : ∀ v x, F H v x → ∃ d, Dp K H v d ∧ d.canLay0 = true ∧ d.depth ≤ n) {v : V} {xs : List α} (h : TOf F H v xs) : ∃ ds, Dp K H v (.tuple ds) ∧ (PyData.tuple ds).canLay0 = true ∧ (PyData.tuple ds).depth ≤ n + 1 ∧ ds.length = xs.length := by
  obtain ⟨p, vs, rfl, e, hp⟩ := h
  obtain ⟨ds, g1, g2, g3, g4⟩ := dp_tup (K := K) (n := n) (SqT.of e) (fun v hv => by
    obtain ⟨x, _, hx⟩ := paired_mem hp hv
    exact hF v x hx)
  exact ⟨ds, g1, g2, g3, by rw [g4, hp.length]⟩
theorem dpOf {K : PySem.W.Frag} {α : Type} {F : Hp → V → α → Prop} {H : Hp} {n : Nat} (hF : ∀ v x, F H v x → ∃ d, Dp K H v d ∧ d.canLay0 = true ∧ d.depth ≤ n) (v : V) (xs : List α) (h : TOf F H v xs) : ∃ d, Dp K H v d ∧ d.canLay0 = true ∧ d.depth ≤ n + 1 := by
  obtain ⟨ds, h1, h2, h3, _⟩ := TOf.dp hF h
  exact ⟨_, h1, h2, h3⟩
theorem eqvT_nil {ds : List PyData} : PyData.eqv (.tuple ds) (.tuple []) = decide (ds.length = 0) := by
  cases ds <;> rfl
theorem s8 : 8 ≤ sizeLine := by decide
theorem SmB.le {b c : Nat} (h : b ≤ c) {s : List Trm} (x : SmB b s) : SmB c s := ⟨Nat.le_trans x.1 h, fun t ht => Nat.le_trans (x.2 t ht) h⟩
theorem RlB.le {b c : Nat} (h : b ≤ c) {r : List (List Trm)} (x : RlB b r) : RlB c r := ⟨Nat.le_trans x.1 h, fun s hs => (x.2 s hs).le h⟩
theorem max_of {n : Nat} : ∃ mx : Int, (if ((n : Nat) : Int) > 1 then ((n : Nat) : Int) else 1) = mx ∧ 1 ≤ mx ∧ (n ≤ 200 → mx ≤ 200) ∧ (0 < n → mx ≤ n) := by
  refine ⟨_, rfl, ?_, ?_, ?_⟩ <;> split <;> omega
section
variable {P : Program} {w : World} {K : PySem.W.Frag} {mg : Str → Option Value} {base : Heap}
def spSpl : Sp := fun vs H Q _ => ∃ (a t : Addr) (b : Nat) (rd : Rdr), vs = [.ref a, .ref t] ∧ Drw H a ∧ RdAt H t rd ∧ TmR b rd ∧ b ≤ 90 ∧ ∀ (t' : Addr) (H' : Hp) (rd' : Rdr), Gr a H H' → RdAt H' t' rd' → TmR (b + 1) rd' → Q (.ref t') H'
theorem ok_spoilt (T : Tx P K mg) : FnOk P w K mg base CX0 3 T.f_spoilt T.fd_spoilt ["_law_box_here", "_law_reader_here"] spSpl := by
  refine T.F_spoilt.ok sc_spoilt (fun vs H Q E h => ?_) (fun cdv A outer s H vs Q E hr h => ?_)
  · obtain ⟨a, t, b, rd, rfl, _⟩ := h
    rfl
  · obtain ⟨a, t, b, ⟨cs, rs⟩, rfl, dr, ⟨c, rv, et, ec, hrs⟩, tm, hb, q⟩ := h
    refine ⟨_, (pss_cons (ps_asg (pv 1) (pg_tup rfl (pgs_cons (pg_name (i := 2) sc_spoilt.nd rfl (.inl rfl)) (pgs_cons (pg_name (i := 3) sc_spoilt.nd rfl (.inl rfl)) pgs_nil)))) (pss_cons (ps_par (i := 4) (j := 5) (by rfl) sc_spoilt.nd rfl rfl (by decide) rfl rfl (pa_cons (pe_call (ok_take T) (hr.mono (by decide) : Room 1 _) (by rfl) T.g_take T.F_take.kp T.b_take .nil pass0 (pa_cons (pv 0) (pa_cons pe_int pa_nil))) (pa_cons (pe_call (ok_take T) (hr.mono (by decide) : Room 1 _) (by rfl) T.g_take T.F_take.kp T.b_take .nil pass0 (pa_cons (pv 0) (pa_cons pe_int pa_nil))) pa_nil)) (by rfl)) (pss_cons (ps_if (pt_cmpR op_lt (pv 4) pe_int (nomark _)) (pss_cons (ps_set (i := 6) sc_spoilt.nd rfl (.inl rfl) (pe_ix ix_list (pe_lst (pa_cons pe_int (pa_cons pe_int (pa_cons pe_int (pa_cons pe_int (pa_cons pe_int (pa_cons pe_int (pa_cons (pe_op op_sub pe_int pe_int) (pa_cons (pe_op op_pow pe_int pe_int) pa_nil))))))))) (pe_call (ok_take T) (hr.mono (by decide) : Room 1 _) (by rfl) T.g_take T.F_take.kp T.b_take .nil pass0 (pa_cons (pv 0) (pa_cons pe_int pa_nil))) (fun _ _ => rfl))) (pss_one (ps_ret (pe_tup (pa_cons (pe_call (ok_with T) (hr.mono (by decide) : Room 1 _) (by rfl) T.g_with T.F_with.kp T.b_with .nil pass0 (pa_cons (pv 2) (pa_cons (pe_call (ok_take T) (hr.mono (by decide) : Room 1 _) (by rfl) T.g_take T.F_take.kp T.b_take .nil pass0 (pa_cons (pv 0) (pa_cons (pe_callB (call_max2 rfl) (by rfl) T.m_max (by decide +kernel) (pa_cons pe_int (pa_cons (pe_callB call_len_seq (by rfl) T.m_len PySem.boot_len (pa_cons (pv 2) pa_nil)) pa_nil))) pa_nil))) (pa_cons (pe_ix ix_list (pe_lst (pa_cons pe_int (pa_cons (pv 5) pa_nil))) (pv 4) (fun _ _ => rfl)) (pa_cons (pv 6) pa_nil))))) (pa_cons (pv 3) pa_nil)))))) pss_nil) (pss_cons (ps_set (i := 7) sc_spoilt.nd rfl (.inl rfl) (pe_call (ok_take T) (hr.mono (by decide) : Room 1 _) (by rfl) T.g_take T.F_take.kp T.b_take .nil pass0 (pa_cons (pv 0) (pa_cons (pe_callB (call_max2 rfl) (by rfl) T.m_max (by decide +kernel) (pa_cons pe_int (pa_cons (pe_callB call_len_seq (by rfl) T.m_len PySem.boot_len (pa_cons (pv 3) pa_nil)) pa_nil))) pa_nil)))) (pss_cons (ps_if (PW.pt (pw_or (pt_cmpR op_eq (pv 4) pe_int (nomark _)) (pw_or1 (pt_cmpR (op_eqD hr.units) (pv 3) (pe_tup pa_nil) (nomark _))))) (pss_one (ps_ret (pe_tup (pa_cons (pv 2) (pa_cons (pe_call (ok_with T) (hr.mono (by decide) : Room 1 _) (by rfl) T.g_with T.F_with.kp T.b_with .nil pass0 (pa_cons (pv 3) (pa_cons (pv 7) (pa_cons (pv 5) (pa_cons (pe_tup pa_nil) pa_nil))))) pa_nil))))) pss_nil) (pss_cons (ps_set (i := 8) sc_spoilt.nd rfl (.inl rfl) (pe_ix ix_tup (pv 3) (pv 7) (fun _ _ => rfl))) (pss_cons (ps_set (i := 9) sc_spoilt.nd rfl (.inl rfl) (pe_call (ok_take T) (hr.mono (by decide) : Room 1 _) (by rfl) T.g_take T.F_take.kp T.b_take .nil pass0 (pa_cons (pv 0) (pa_cons (pe_callB (call_max2 rfl) (by rfl) T.m_max (by decide +kernel) (pa_cons pe_int (pa_cons (pe_callB call_len_seq (by rfl) T.m_len PySem.boot_len (pa_cons (pv 8) pa_nil)) pa_nil))) pa_nil)))) (pss_cons (ps_if (PW.pt (pw_or (pt_cmpR op_eq (pv 4) pe_int (nomark _)) (pw_or1 (pt_cmpR (op_eqD hr.units) (pv 8) (pe_tup pa_nil) (nomark _))))) (pss_one (ps_ret (pe_tup (pa_cons (pv 2) (pa_cons (pe_call (ok_with T) (hr.mono (by decide) : Room 1 _) (by rfl) T.g_with T.F_with.kp T.b_with .nil pass0 (pa_cons (pv 3) (pa_cons (pv 7) (pa_cons pe_int (pa_cons (pe_call (ok_with T) (hr.mono (by decide) : Room 1 _) (by rfl) T.g_with T.F_with.kp T.b_with .nil pass0 (pa_cons (pv 8) (pa_cons (pv 9) (pa_cons (pv 5) (pa_cons (pe_tup pa_nil) pa_nil))))) pa_nil))))) pa_nil))))) pss_nil) (pss_cons (ps_set (i := 10) sc_spoilt.nd rfl (.inl rfl) (pe_ix ix_tup (pv 8) (pv 9) (fun _ _ => rfl))) (pss_cons (ps_set (i := 11) sc_spoilt.nd rfl (.inl rfl) (pe_call (ok_take T) (hr.mono (by decide) : Room 1 _) (by rfl) T.g_take T.F_take.kp T.b_take .nil pass0 (pa_cons (pv 0) (pa_cons (pe_callB (call_max2 rfl) (by rfl) T.m_max (by decide +kernel) (pa_cons pe_int (pa_cons (pe_callB call_len_seq (by rfl) T.m_len PySem.boot_len (pa_cons (pv 10) pa_nil)) pa_nil))) pa_nil)))) (C8.pss_cut (ps_if (PW.pt (pw_or (pt_cmpR op_eq (pv 4) pe_int (nomark _)) (pw_or1 (pt_cmpR (op_eqD hr.units) (pv 10) (pe_tup pa_nil) (nomark _))))) (pss_one (ps_set (i := 10) sc_spoilt.nd rfl (.inl rfl) (pe_call (ok_with T) (hr.mono (by decide) : Room 1 _) (by rfl) T.g_with T.F_with.kp T.b_with .nil pass0 (pa_cons (pv 10) (pa_cons (pv 11) (pa_cons (pv 5) (pa_cons (pe_tup (pa_cons (pe_tup (pa_cons pe_int (pa_cons pe_int pa_nil))) (pa_cons (pe_tup pa_nil) pa_nil))) pa_nil))))))) (pss_one (ps_set (i := 10) sc_spoilt.nd rfl (.inl rfl) (pe_call (ok_with T) (hr.mono (by decide) : Room 1 _) (by rfl) T.g_with T.F_with.kp T.b_with .nil pass0 (pa_cons (pv 10) (pa_cons (pv 11) (pa_cons pe_int (pa_cons (pe_call (ok_sterm T) (hr.mono (by decide) : Room 2 _) (by rfl) T.g_sterm T.F_sterm.kp T.b_sterm .nil pass0 (pa_cons (pv 0) (pa_cons (pe_ix ix_tup (pv 10) (pv 11) (fun _ _ => rfl)) pa_nil))) pa_nil)))))))) (pss_one (ps_ret (pe_tup (pa_cons (pv 2) (pa_cons (pe_call (ok_with T) (hr.mono (by decide) : Room 1 _) (by rfl) T.g_with T.F_with.kp T.b_with .nil pass0 (pa_cons (pv 3) (pa_cons (pv 7) (pa_cons pe_int (pa_cons (pe_call (ok_with T) (hr.mono (by decide) : Room 1 _) (by rfl) T.g_with T.F_with.kp T.b_with .nil pass0 (pa_cons (pv 8) (pa_cons (pv 9) (pa_cons pe_int (pa_cons (pv 10) pa_nil))))) pa_nil))))) pa_nil)))))))))))))))), ?_⟩
    dsimp only at ec hrs
    have hb1 := tm.cnt
    have hb2 := tm.few
    have hb3 := tm.rul
    dsimp only at hb1 hb2 hb3
    obtain ⟨rp, rvs, rfl, erp, hrv⟩ := hrs
    have hrl := hrv.length
    have ret : ∀ (Hx : Hp) (u : Addr) (ys : List V) (v0 : V) (z0 : List (List Trm)), Gr a H Hx → Hx u = some (.tup ys) → (∀ y ∈ ys, y ∈ rvs ∨ y = v0) → RlAt Hx v0 z0 → RlB (b + 1) z0 → ys.length ≤ rvs.length + 1 → ∀ tt, Hx tt = none → Q (.ref tt) (upd Hx tt (.tup [.ref c, .ref u])) := fun Hx u ys v0 z0 g eu hy hv0 hz0 hyl tt ntt => by
      have st := same_new (o := .tup [.ref c, .ref u]) ntt
      obtain ⟨zs', h1, h2⟩ := with_paired (Paired.gr (F := RlAt) (fun k h => RlAt.mono k h) dr g hrv) hv0 hy
      have hl1 := h1.length
      refine q tt _ (cs, zs') (g.trans (Gr.of st g.2)) ⟨c, .ref u, upd_same, st _ _ (KT.gr dr g _ _ ec), u, ys, rfl, st _ _ eu, Paired.mapP h1 fun _ _ z => RlAt.mono (KT.of st) z⟩ ⟨?_, ?_, fun r hr => ?_⟩
      · show cs.length ≤ b + 1
        omega
      · show zs'.length ≤ b + 1
        omega
      · rcases h2 r hr with h | rfl
        · exact (hb3 r h).le (Nat.le_succ _)
        · exact hz0
    refine ⟨_, rfl, t, _, rfl, .inl (.inl et), rfl, _, _, rfl, _, _, rfl, rfl, ?_⟩
    refine ⟨_, rfl, a, 8, rfl, dr, by decide, by decide +kernel, fun way H1 w0 w1 g1 => ?_⟩
    refine ⟨_, rfl, a, 4, rfl, g1.2, by decide, by decide +kernel, fun form H2 f0 f1 g2 => ⟨_, _, rfl, ?_⟩⟩
    have G2 : Gr a H H2 := g1.trans g2
    refine ⟨_, rfl, _, _, rfl, rfl, _, rfl, ite2 (fun cw => ?_) (fun cw => ?_)⟩
    · -- a count
      have hw2 : way < 2 := of_decide_eq_true cw
      refine ⟨_, _, rfl, rfl, _, _, rfl, rfl, ⟨by decide, by decide, by decide⟩, s8, fun L nL => ?_⟩
      have sL := same_new (o := .lst [.int 0, .int 1, .int 2, .int 3, .int 4, .int 5, .int (0 - 1), .int (10 ^ (9 : Int).toNat)]) nL
      have nLa : L ≠ a := (G2.2.ne nL).symm
      refine ⟨_, rfl, a, 8, rfl, G2.2.mono sL, by decide, by decide +kernel, fun d8 H3 d80 d81 g3 => ?_⟩
      obtain ⟨num, hnum, hat⟩ := ints_ix (cs := [0, 1, 2, 3, 4, 5, 0 - 1, 10 ^ (9 : Int).toNat]) d80 d81
      refine ⟨L, _, d8, .int num, rfl, rfl, SqL.of (g3.1 _ _ nLa upd_same), hat, ?_⟩
      have G3 : Gr a H H3 := (G2.trans (Gr.of sL G2.2)).trans g3
      have ec3 := KT.gr dr G3 _ _ ec
      refine ⟨_, rfl, _, rfl, _, rfl, c, _, rfl, .inr (.inl (.inl ec3)), _, _, rfl, ?_⟩
      rw [List.length_map]
      obtain ⟨mx, hmx, mx1, mx2, mx3⟩ := max_of (n := cs.length)
      rw [hmx]
      refine ⟨a, mx, rfl, G3.2, by omega, Nat.lt_of_le_of_lt (show mx.natAbs ≤ 200 by omega) (by decide +kernel), fun at' H4 a0 a1 g4 => ?_⟩
      have G4 := G3.trans g4
      refine ⟨_, rfl, s2, fun L3 nL3 => ?_⟩
      have sL3 := same_new (o := .lst [.int 1, .int form]) nL3
      obtain ⟨wv, hwv, hatw⟩ := ints_ix (cs := [1, form]) (d := way) w0 hw2
      have hwb : 0 ≤ wv ∧ wv ≤ 3 := by
        rcases List.mem_cons.mp hwv with rfl | h
        · exact ⟨by decide, by decide⟩
        · rw [List.mem_singleton.mp h]
          omega
      refine ⟨_, rfl, L3, _, way, .int wv, rfl, rfl, SqL.of upd_same, hatw, _, rfl, c, at', wv, .int num, _, rfl, sL3 _ _ (KT.gr dr G4 _ _ ec), a0, hwb.1, hwb.2, by rw [List.length_map]; omega, fun u H' ys s' eu hy hyl => ?_⟩
      have G5 := G4.trans (Gr.of (sL3.trans s') G4.2)
      refine ⟨_, rfl, s2, fun tt ntt => ?_⟩
      have st := same_new (o := .tup [.ref u, .ref rp]) ntt
      obtain ⟨ns, rfl⟩ : ∃ ns : List Int, ys = ns.map V.int := by
        have : ∀ y ∈ ys, ∃ n : Int, y = .int n := fun y hy' => by
          rcases hy y hy' with h | h
          · obtain ⟨n, _, rfl⟩ := List.mem_map.mp h
            exact ⟨n, rfl⟩
          · exact ⟨num, h⟩
        clear hy hyl eu
        induction ys with
        | nil => exact ⟨[], rfl⟩
        | cons v r ih =>
          obtain ⟨n, rfl⟩ := this v List.mem_cons_self
          obtain ⟨ns, rfl⟩ := ih fun u hu => this u (List.mem_cons_of_mem _ hu)
          exact ⟨n :: ns, rfl⟩
      rw [List.length_map, List.length_map] at hyl
      refine q tt _ (ns, rs) (G5.trans (Gr.of st G5.2)) ⟨u, .ref rp, upd_same, st _ _ eu, rp, rvs, rfl, st _ _ (KT.gr dr G5 _ _ erp), Paired.mapP (Paired.gr (F := RlAt) (fun k h => RlAt.mono k h) dr G5 hrv) fun _ _ z => RlAt.mono (KT.of st) z⟩ ⟨?_, ?_, fun r hr => (hb3 r hr).le (Nat.le_succ _)⟩
      · show ns.length ≤ b + 1
        omega
      · show rs.length ≤ b + 1
        omega
    -- at
    have erp2 := KT.gr dr G2 _ _ erp
    refine ⟨_, rfl, _, rfl, rp, _, rfl, .inr (.inl (.inl erp2)), _, _, rfl, ?_⟩
    obtain ⟨mx, hmx, mx1, mx2, mx3⟩ := max_of (n := rvs.length)
    rw [hmx]
    refine ⟨a, mx, rfl, G2.2, by omega, Nat.lt_of_le_of_lt (show mx.natAbs ≤ 200 by omega) (by decide +kernel), fun at' H3 a0 a1 g3 => ?_⟩
    have G3 := G2.trans g3
    have erp3 := KT.gr dr G3 _ _ erp
    have hrv3 := Paired.gr (F := RlAt) (fun k h => RlAt.mono k h) dr G3 hrv
    have retA : ∀ (Hx : Hp), Same H3 Hx → ∀ (te : Addr), Hx te = none → ∀ (u : Addr) (H' : Hp) (ys : List V), Same (upd Hx te (.tup [])) H' → H' u = some (.tup ys) → (∀ y ∈ ys, y ∈ rvs ∨ y = .ref te) → ys.length ≤ rvs.length + 1 → 2 ≤ sizeLine ∧ ∀ tt, H' tt = none → Q (.ref tt) (upd H' tt (.tup [.ref c, .ref u])) := fun Hx sx te nte u H' ys s' eu hy hyl => by
      have sy := (sx.trans (same_new (o := .tup []) nte)).trans s'
      exact ⟨s2, ret H' u ys (.ref te) [] (G3.trans (Gr.of sy G3.2)) eu hy ⟨te, [], rfl, s' _ _ upd_same, .nil⟩ ⟨Nat.zero_le _, fun _ h => nomatch h⟩ hyl⟩
    refine ⟨_, rfl, rfl, _, rfl, ite2 (fun c2 => ?_) (fun c2 => ?_)⟩
    · exact ⟨_, rfl, _, rfl, _, rfl, _, rfl, s0, fun te nte => ⟨rp, at', form, .ref te, rvs, rfl, (same_new nte) _ _ erp3, a0, f0, by omega, by omega, fun u H' ys s' eu hy hyl => retA H3 (Same.refl _) te nte u H' ys s' eu hy hyl⟩⟩
    refine ⟨_, rfl, s0, fun tz ntz => ?_⟩
    have sz := same_new (o := .tup []) ntz
    obtain ⟨dd, p1, p2, p3, p4⟩ := TOf.dp (K := K) (F := RlAt) (H := upd H3 tz (.tup [])) (n := 4) (fun v x h => dpOf (fun v x h => dpOf (fun v x h => TmAt.dp h) v x h) v x h) (v := .ref rp) (xs := rs) ⟨rp, rvs, rfl, sz _ _ erp3, Paired.mapP hrv3 fun _ _ z => RlAt.mono (KT.of sz) z⟩
    refine ⟨.tuple dd, .tuple [], p1, .tup (SqT.of upd_same) .nil, shaped_of p2 p3 (by decide), rfl, _, rfl, ?_⟩
    rw [eqvT_nil, p4]
    by_cases hz : rs.length = 0
    · rw [decide_eq_true hz]
      refine iteT ?_
      exact ⟨_, rfl, _, rfl, _, rfl, _, rfl, s0, fun te nte => ⟨rp, at', form, .ref te, rvs, rfl, (same_new nte) _ _ (sz _ _ erp3), a0, f0, by omega, by omega, fun u H' ys s' eu hy hyl => retA _ sz te nte u H' ys s' eu hy hyl⟩⟩
    rw [decide_eq_false hz]
    refine iteF ?_
    have G4 : Gr a H (upd H3 tz (.tup [])) := G3.trans (Gr.of sz G3.2)
    have erp4 := sz _ _ erp3
    clear p1 retA hrv3
    generalize upd H3 tz (.tup []) = H4 at sz G4 erp4
    have hat' : at'.toNat < rvs.length := by
      have := mx3 (by omega)
      omega
    obtain ⟨rl, erl, sp, svs, ev, esp, hsv⟩ := paired_at hrv (List.getElem?_eq_getElem hat')
    obtain ⟨hr1, hr2⟩ := hb3 rl (List.mem_of_getElem? erl)
    have hsl := hsv.length
    -- sums
    refine ⟨_, rfl, _, rfl, rp, rvs, at', .ref sp, rfl, rfl, SqT.of erp4, at_of (j := at'.toNat) (by omega) (by rw [List.getElem?_eq_getElem hat', ev]), ?_⟩
    have esp4 := KT.gr dr G4 _ _ esp
    refine ⟨_, rfl, _, rfl, sp, _, rfl, .inr (.inl (.inl esp4)), _, _, rfl, ?_⟩
    obtain ⟨mx', hmx', mx1', mx2', mx3'⟩ := max_of (n := svs.length)
    rw [hmx']
    refine ⟨a, mx', rfl, G4.2, by omega, Nat.lt_of_le_of_lt (show mx'.natAbs ≤ 200 by omega) (by decide +kernel), fun spot H5 sp0 sp1 g5 => ?_⟩
    have G5 := G4.trans g5
    -- makers' sums with other ones
    have retB : ∀ (Hx : Hp), Gr a H Hx → ∀ (v : V) (sm : List Trm), SmAt Hx v sm → SmB (b + 1) sm → ∀ (wy : Int), 0 ≤ wy → wy ≤ 3 → ∀ (u1 : Addr) (H' : Hp) (ys1 : List V), Same Hx H' → H' u1 = some (.tup ys1) → (∀ y ∈ ys1, y ∈ svs ∨ y = v) → ys1.length ≤ svs.length + 1 →
        ∀ (u2 : Addr) (H'' : Hp) (ys2 : List V), Same H' H'' → H'' u2 = some (.tup ys2) → (∀ y ∈ ys2, y ∈ rvs ∨ y = .ref u1) → ys2.length ≤ rvs.length + 1 → 2 ≤ sizeLine ∧ ∀ tt, H'' tt = none → Q (.ref tt) (upd H'' tt (.tup [.ref c, .ref u2])) := fun Hx gx v sm hv hsm wy _ _ u1 H' ys1 s' eu1 hy1 hyl1 u2 H'' ys2 s'' eu2 hy2 hyl2 => by
      have g1' := gx.trans (Gr.of s' gx.2)
      have g2' := g1'.trans (Gr.of s'' g1'.2)
      obtain ⟨ss', k1, k2⟩ := with_paired (Paired.gr (F := SmAt) (fun k h => SmAt.mono k h) dr g1' hsv) (SmAt.mono (KT.of s') hv) hy1
      have kl := k1.length
      refine ⟨s2, ret H'' u2 ys2 (.ref u1) ss' g2' eu2 hy2 ⟨u1, ys1, rfl, s'' _ _ eu1, Paired.mapP k1 fun _ _ z => SmAt.mono (KT.of s'') z⟩ ⟨by omega, fun s hs => ?_⟩ hyl2⟩
      rcases k2 s hs with h | rfl
      · exact (hr2 s h).le (Nat.le_succ _)
      · exact hsm
    have empt : ∀ {Hx : Hp} {te : Addr}, Hx te = some (.tup []) → SmAt Hx (.ref te) [] := fun {Hx te} e => ⟨te, [], rfl, e, .nil⟩
    have emptB : SmB (b + 1) [] := ⟨Nat.zero_le _, fun _ h => nomatch h⟩
    have hsv5 := Paired.gr (F := SmAt) (fun k h => SmAt.mono k h) dr G5 hsv
    have esp5 := KT.gr dr G5 _ _ esp
    have erp5 := KT.gr dr G5 _ _ erp
    refine ⟨_, rfl, rfl, _, rfl, ite2 (fun c3 => ?_) (fun c3 => ?_)⟩
    · refine ⟨_, rfl, _, rfl, _, rfl, _, rfl, _, rfl, _, rfl, s0, fun te nte => ?_⟩
      have se := same_new (o := .tup []) nte
      exact ⟨sp, spot, form, .ref te, svs, rfl, se _ _ esp5, sp0, f0, by omega, by omega, fun u1 H' ys1 s' eu1 hy1 hyl1 => ⟨rp, at', 1, .ref u1, rvs, rfl, s' _ _ (se _ _ erp5), a0, by decide, by decide, by omega, fun u2 H'' ys2 s'' eu2 hy2 hyl2 => retB _ (G5.trans (Gr.of se G5.2)) (.ref te) [] (empt upd_same) emptB 0 (by decide) (by decide) u1 H' ys1 s' eu1 hy1 hyl1 u2 H'' ys2 s'' eu2 hy2 hyl2⟩⟩
    refine ⟨_, rfl, s0, fun ty nty => ?_⟩
    have sy := same_new (o := .tup []) nty
    obtain ⟨dd2, p12, p22, p32, p42⟩ := TOf.dp (K := K) (F := SmAt) (H := upd H5 ty (.tup [])) (n := 3) (fun v x h => dpOf (fun v x h => TmAt.dp h) v x h) (v := .ref sp) (xs := rl) ⟨sp, svs, rfl, sy _ _ esp5, Paired.mapP hsv5 fun _ _ z => SmAt.mono (KT.of sy) z⟩
    refine ⟨.tuple dd2, .tuple [], p12, .tup (SqT.of upd_same) .nil, shaped_of p22 p32 (by decide), rfl, _, rfl, ?_⟩
    rw [eqvT_nil, p42]
    by_cases hz2 : rl.length = 0
    · rw [decide_eq_true hz2]
      refine iteT ?_
      refine ⟨_, rfl, _, rfl, _, rfl, _, rfl, _, rfl, _, rfl, s0, fun te nte => ?_⟩
      have se := sy.trans (same_new (o := .tup []) nte)
      exact ⟨sp, spot, form, .ref te, svs, rfl, se _ _ esp5, sp0, f0, by omega, by omega, fun u1 H' ys1 s' eu1 hy1 hyl1 => ⟨rp, at', 1, .ref u1, rvs, rfl, s' _ _ (se _ _ erp5), a0, by decide, by decide, by omega, fun u2 H'' ys2 s'' eu2 hy2 hyl2 => retB _ (G5.trans (Gr.of se G5.2)) (.ref te) [] (empt upd_same) emptB 0 (by decide) (by decide) u1 H' ys1 s' eu1 hy1 hyl1 u2 H'' ys2 s'' eu2 hy2 hyl2⟩⟩
    rw [decide_eq_false hz2]
    refine iteF ?_
    have G6 : Gr a H (upd H5 ty (.tup [])) := G5.trans (Gr.of sy G5.2)
    clear p12 hsv5
    generalize upd H5 ty (.tup []) = H6 at sy G6
    have hsp' : spot.toNat < svs.length := by
      have := mx3' (by omega)
      omega
    obtain ⟨sm, esm, tp, tvs, ev2, etp, htv⟩ := paired_at hsv (List.getElem?_eq_getElem hsp')
    obtain ⟨hs1, hs2⟩ := hr2 sm (List.mem_of_getElem? esm)
    have htl := htv.length
    -- terms
    have esp6 := KT.gr dr G6 _ _ esp
    have etp6 := KT.gr dr G6 _ _ etp
    refine ⟨_, rfl, _, rfl, sp, svs, spot, .ref tp, rfl, rfl, SqT.of esp6, at_of (j := spot.toNat) (by omega) (by rw [List.getElem?_eq_getElem hsp', ev2]), ?_⟩
    refine ⟨_, rfl, _, rfl, tp, _, rfl, .inr (.inl (.inl etp6)), _, _, rfl, ?_⟩
    obtain ⟨mx'', hmx'', mx1'', mx2'', mx3''⟩ := max_of (n := tvs.length)
    rw [hmx'']
    refine ⟨a, mx'', rfl, G6.2, by omega, Nat.lt_of_le_of_lt (show mx''.natAbs ≤ 200 by omega) (by decide +kernel), fun place H7 pl0 pl1 g7 => ?_⟩
    have G7 := G6.trans g7
    have etp7 := KT.gr dr G7 _ _ etp
    have htv7 := Paired.gr (F := TmAt) (fun k h => TmAt.mono k h) dr G7 htv
    obtain ⟨M, hM⟩ : ∃ M : L2.St → Hp → Prop, M = fun σ Hx => ∃ (v : V) (sm' : List Trm), σ = [some (.ref a), some (.ref t), some (.ref c), some (.ref rp), some (.int way), some (.int form), none, some (.int at'), some (.ref sp), some (.int spot), some v, some (.int place)] ∧ SmAt Hx v sm' ∧ SmB (b + 1) sm' ∧ Gr a H Hx := ⟨_, rfl⟩
    have fin : ∀ (Hx : Hp), Gr a H Hx → ∀ (v : V) (t0 : Trm), TmAt Hx v t0 → t0.2.length ≤ b + 1 → ∀ (u : Addr) (H' : Hp) (ys : List V), Same Hx H' → H' u = some (.tup ys) → (∀ y ∈ ys, y ∈ tvs ∨ y = v) → ys.length ≤ tvs.length + 1 → M [some (.ref a), some (.ref t), some (.ref c), some (.ref rp), some (.int way), some (.int form), none, some (.int at'), some (.ref sp), some (.int spot), some (.ref u), some (.int place)] H' := fun Hx gx v t0 hv ht0 u H' ys s' eu hy hyl => by
      have g1' := gx.trans (Gr.of s' gx.2)
      obtain ⟨ts', k1, k2⟩ := with_paired (Paired.gr (F := TmAt) (fun k h => TmAt.mono k h) dr g1' htv) (TmAt.mono (KT.of s') hv) hy
      have kl := k1.length
      rw [hM]
      refine ⟨_, ts', rfl, ⟨u, ys, rfl, eu, k1⟩, ⟨by omega, fun t' ht' => ?_⟩, g1'⟩
      rcases k2 t' ht' with h | rfl
      · exact Nat.le_trans (hs2 t' h) (Nat.le_succ _)
      · exact ht0
    refine ⟨M, ?_, fun σ1 Hx h1 => ?_⟩
    · have more : ∀ (Hx : Hp), Same H7 Hx → 2 ≤ sizeLine ∧ ∀ t1, Hx t1 = none → 0 ≤ sizeLine ∧ ∀ t2, upd Hx t1 (.tup [.int 1, .int 1]) t2 = none → 2 ≤ sizeLine ∧ ∀ t3, upd (upd Hx t1 (.tup [.int 1, .int 1])) t2 (.tup []) t3 = none → ∃ (p : Addr) (at1 wy : Int) (v : V) (xs : List V), [V.ref tp, .int place, .int form, .ref t3] = [.ref p, .int at1, .int wy, v] ∧ upd (upd (upd Hx t1 (.tup [.int 1, .int 1])) t2 (.tup [])) t3 (.tup [.ref t1, .ref t2]) p = some (.tup xs) ∧ 0 ≤ at1 ∧ 0 ≤ wy ∧ wy ≤ 3 ∧ xs.length ≤ 900 ∧ ∀ (u : Addr) (H' : Hp) (ys : List V), Same (upd (upd (upd Hx t1 (.tup [.int 1, .int 1])) t2 (.tup [])) t3 (.tup [.ref t1, .ref t2])) H' → H' u = some (.tup ys) → (∀ y ∈ ys, y ∈ xs ∨ y = v) → ys.length ≤ xs.length + 1 → M [some (.ref a), some (.ref t), some (.ref c), some (.ref rp), some (.int way), some (.int form), none, some (.int at'), some (.ref sp), some (.int spot), some (.ref u), some (.int place)] H' := fun Hx sx => by
        refine ⟨s2, fun t1 n1 => ⟨s0, fun t2 n2 => ⟨s2, fun t3 n3 => ?_⟩⟩⟩
        have s3 := ((sx.trans (same_new (o := .tup [.int 1, .int 1]) n1)).trans (same_new (o := .tup []) n2)).trans (same_new (o := .tup [.ref t1, .ref t2]) n3)
        refine ⟨tp, place, form, .ref t3, tvs, rfl, s3 _ _ etp7, pl0, f0, by omega, by omega, fun u H' ys s' eu hy hyl => ?_⟩
        exact fin _ (G7.trans (Gr.of s3 G7.2)) (.ref t3) ((1, 1), []) ⟨t3, t1, t2, rfl, upd_same, (same_new n3) _ _ ((same_new n2) _ _ upd_same), (same_new n3) _ _ upd_same⟩ (Nat.zero_le _) u H' ys s' eu hy hyl
      refine ⟨_, rfl, rfl, _, rfl, ite2 (fun c4 => ?_) (fun c4 => ?_)⟩
      · exact ⟨_, rfl, _, rfl, _, rfl, more H7 (Same.refl _)⟩
      refine ⟨_, rfl, s0, fun tx ntx => ?_⟩
      have sx := same_new (o := .tup []) ntx
      obtain ⟨dd3, p13, p23, p33, p43⟩ := TOf.dp (K := K) (F := TmAt) (H := upd H7 tx (.tup [])) (n := 2) (fun v x h => TmAt.dp h) (v := .ref tp) (xs := sm) ⟨tp, tvs, rfl, sx _ _ etp7, Paired.mapP htv7 fun _ _ z => z.mono (KT.of sx)⟩
      refine ⟨.tuple dd3, .tuple [], p13, .tup (SqT.of upd_same) .nil, shaped_of p23 p33 (by decide), rfl, _, rfl, ?_⟩
      rw [eqvT_nil, p43]
      by_cases hz3 : sm.length = 0
      · rw [decide_eq_true hz3]
        refine iteT ?_
        exact ⟨_, rfl, _, rfl, _, rfl, more _ sx⟩
      rw [decide_eq_false hz3]
      refine iteF ?_
      have hpl' : place.toNat < tvs.length := by
        have := mx3'' (by omega)
        omega
      have G8 : Gr a H (upd H7 tx (.tup [])) := G7.trans (Gr.of sx G7.2)
      have etp8 := sx _ _ etp7
      have htv8 := Paired.mapP htv7 fun _ _ z => TmAt.mono (KT.of sx) z
      generalize upd H7 tx (.tup []) = H8 at G8 etp8 htv8
      obtain ⟨t8, et8, ht8⟩ := paired_at htv8 (List.getElem?_eq_getElem hpl')
      have hl8 := hs2 t8 (List.mem_of_getElem? et8)
      refine ⟨_, rfl, _, rfl, _, rfl, _, rfl, _, rfl, tp, tvs, place, _, rfl, rfl, SqT.of etp8, at_of (j := place.toNat) (by omega) (List.getElem?_eq_getElem hpl'), ?_⟩
      refine ⟨a, _, t8, rfl, G8.2, ht8, by omega, fun tt H9 t9 g9 ht9 hl9 => ?_⟩
      have G9 := G8.trans g9
      exact ⟨tp, place, 1, .ref tt, tvs, rfl, KT.gr dr G9 _ _ etp, pl0, by decide, by decide, by omega, fun u H' ys s' eu hy hyl => fin _ G9 (.ref tt) t9 ht9 (by omega) u H' ys s' eu hy hyl⟩
    · rw [hM] at h1
      obtain ⟨v, sm', rfl, hsm', hsmb, gx⟩ := h1
      refine ⟨_, rfl, _, rfl, _, rfl, _, rfl, _, rfl, _, rfl, ?_⟩
      exact ⟨sp, spot, 1, v, svs, rfl, KT.gr dr gx _ _ esp, sp0, by decide, by decide, by omega, fun u1 H' ys1 s' eu1 hy1 hyl1 => ⟨rp, at', 1, .ref u1, rvs, rfl, s' _ _ (KT.gr dr gx _ _ erp), a0, by decide, by decide, by omega, fun u2 H'' ys2 s'' eu2 hy2 hyl2 => retB _ gx v sm' hsm' hsmb 0 (by decide) (by decide) u1 H' ys1 s' eu1 hy1 hyl1 u2 H'' ys2 s'' eu2 hy2 hyl2⟩⟩
end

/-! ### the law -/
def spLaw (K : PySem.W.Frag) : Sp := fun vs H Q _ => ∃ (a : Addr) (ns : List Int), vs = [.ref a] ∧ SqL K H a (ns.map V.int) ∧ ns.length ≤ 63 ∧ ∀ H', Q (.bl true) H'
theorem nm_tx {n : Nam} (h : nmB (S n) = true) : tx n := by
  unfold nmB at h
  simp only [Bool.and_eq_true, decide_eq_true_eq, List.all_eq_true] at h
  obtain ⟨⟨⟨h1, h2⟩, h3⟩, h4⟩ := h
  rw [S_len] at h2
  exact ⟨by omega, ok_S.mpr fun c hc => abc_small (h4 c (by simpa [S] using hc))⟩
theorem ent_tx {wd : Wood} (g : Good wd) {e : Mk × Nat} (he : e ∈ ents (kds wd) wd) : tx e.1.1 := nm_tx (g.makerN _ (by
  rw [← ents_names (ks := kds wd)]
  exact List.mem_map_of_mem he))
theorem badTm_ok {pc : List Int} {t : Trm} {w : Str} (h : badTm pc t = some w) : PyData.strOk w = true := by
  unfold badTm at h
  split at h
  · cases h
    decide +kernel
  · split at h
    · cases h
      decide +kernel
    · split at h
      · cases h
        decide +kernel
      · cases h
theorem badTs_ok {pc : List Int} {w : Str} : ∀ {ts : List Trm}, badTs pc ts = some w → PyData.strOk w = true
  | [], h => by cases h
  | t :: r, h => by
    rw [badTs_cons] at h
    cases e : badTm pc t with
    | some x =>
      rw [e] at h
      cases h
      exact badTm_ok e
    | none =>
      rw [e] at h
      exact badTs_ok h
theorem badSs_ok {pc : List Int} {w : Str} : ∀ {ts : List (List Trm)}, badSs pc ts = some w → PyData.strOk w = true
  | [], h => by cases h
  | t :: r, h => by
    rw [badSs_cons] at h
    cases e : badTs pc t with
    | some x =>
      rw [e] at h
      cases h
      exact badTs_ok e
    | none =>
      rw [e] at h
      exact badSs_ok h
theorem badRl_ok {c : Int} {pc : List Int} {r : List (List Trm)} {w : Str} (h : badRl c pc r = some w) : PyData.strOk w = true := by
  unfold badRl at h
  split at h
  · cases h
    decide +kernel
  · exact badSs_ok h
theorem badRs_ok {wd : Wood} {cs : List Int} {r : Str × Str} : ∀ {zs : List ((Mk × Nat) × List (List Trm))}, (∀ z ∈ zs, tx z.1.1.1) → badRs wd cs zs = some r → PyData.strOk r.1 = true ∧ PyData.strOk r.2 = true
  | [], _, h => by cases h
  | z :: t, hz, h => by
    rw [badRs_cons] at h
    cases e : badRl (cs.getD z.1.2 0) (cnts cs (pks wd z.1)) z.2 with
    | some x =>
      rw [e] at h
      cases h
      exact ⟨badRl_ok e, (hz z List.mem_cons_self).2⟩
    | none =>
      rw [e] at h
      exact badRs_ok (fun u hu => hz u (List.mem_cons_of_mem _ hu)) h
theorem badR_ok {wd : Wood} (g : Good wd) {rd : Rdr} {r : Str × Str} (h : badR wd rd = some r) : PyData.strOk r.1 = true ∧ PyData.strOk r.2 = true := by
  unfold badR at h
  split at h
  · cases h
    exact ⟨by decide +kernel, by decide +kernel⟩
  · split at h
    · cases h
      exact ⟨by decide +kernel, by decide +kernel⟩
    · exact badRs_ok (fun z hz => ent_tx g (List.of_mem_zip hz).1) h
def toldz (wd : Wood) (rd : Rdr) : List Str := match badR wd rd with
  | none => ["let by"]
  | some r => ["refused", r.1, r.2]
theorem tolds_eq (wd : Wood) (rd : Rdr) : tolds wd rd = (toldz wd rd).map V.str := by
  unfold tolds toldz
  cases badR wd rd <;> rfl
theorem toldz_ok {wd : Wood} (g : Good wd) {rd : Rdr} : ∀ z ∈ toldz wd rd, PyData.strOk z = true := by
  unfold toldz
  cases e : badR wd rd with
  | none =>
    intro z hz
    rw [List.mem_singleton.mp hz]
    decide +kernel
  | some r =>
    obtain ⟨h1, h2⟩ := badR_ok g e
    intro z hz
    rcases List.mem_cons.mp hz with rfl | hz
    · decide +kernel
    · rcases List.mem_cons.mp hz with rfl | hz
      · exact h1
      · rw [List.mem_singleton.mp hz]
        exact h2
theorem shaped_tuple {ds : List PyData} (h : ∀ d ∈ ds, flD d = true) : SeqAt.shaped (.tuple ds) = true := by
  obtain ⟨x, y⟩ := fl_all h
  show ((PyData.tuple ds).canLay0 && decide ((PyData.tuple ds).depth ≤ 64)) = true
  rw [show (PyData.tuple ds).canLay0 = PyData.canLayAll0 ds from rfl, x, show (PyData.tuple ds).depth = PyData.depthAll ds + 1 from rfl, y]
  rfl
theorem eqv_self (zs : List Str) : PyData.eqv (.tuple (zs.map PyData.str)) (.tuple (zs.map PyData.str)) = true := by
  show PyData.eqvAll _ _ = true
  rw [eqv_strs]
  exact decide_eq_true rfl
theorem MkAt.dp {K : PySem.W.Frag} {H : Hp} {v : V} {m : Mk} (h1 : tx m.1) (h2 : ∀ q ∈ m.2, tx q) (h : MkAt H v m) : ∃ d, Dp K H v d ∧ d.canLay0 = true ∧ d.depth ≤ 2 := by
  obtain ⟨p, t, rfl, e1, e2⟩ := h
  obtain ⟨dt, t1, t2, t3, _⟩ := dp_tup (K := K) (n := 0) (SqT.of e2) (fun v hv => by
    obtain ⟨q, hq, rfl⟩ := List.mem_map.mp hv
    exact dp_str (h2 q hq))
  obtain ⟨dl, l1, l2, l3, _⟩ := dp_tup (K := K) (n := 1) (SqT.of e1) (two_mem (dp_str h1) ⟨_, t1, t2, t3⟩)
  exact ⟨_, l1, l2, l3⟩
theorem WdAt.dp {K : PySem.W.Frag} {H : Hp} {p : Addr} {wd : Wood} (g : wd = [] ∨ Good wd) (h : WdAt H p wd) : ∃ ds, Dp K H (.ref p) (.tuple ds) ∧ SeqAt.shaped (.tuple ds) = true ∧ ds.length = wd.length := by
  obtain ⟨vs, e, hp⟩ := h
  obtain ⟨ds, g1, g2, g3, g4⟩ := dp_tup (K := K) (n := 4) (SqT.of e) (fun v hv => by
    obtain ⟨k, hk, p, t, vs, rfl, e1, e2, hm⟩ := paired_mem hp hv
    have good : Good wd := by
      rcases g with rfl | g
      · cases hk
      · exact g
    obtain ⟨dt, t1, t2, t3, _⟩ := dp_tup (K := K) (n := 2) (SqT.of e2) (fun v hv => by
      obtain ⟨m, hm', hF⟩ := paired_mem hm hv
      have hmk : m ∈ mks wd := by
        unfold mks
        exact List.mem_flatMap.mpr ⟨k, hk, hm'⟩
      exact hF.dp (nm_tx (good.makerN _ (List.mem_map_of_mem hmk))) (fun q hq => nm_tx (good.kindN q ((good.parts m hmk).2 q hq))))
    obtain ⟨dl, l1, l2, l3, _⟩ := dp_tup (K := K) (n := 3) (SqT.of e1) (two_mem (dp_str (nm_tx (good.kindN _ (List.mem_map_of_mem hk)))) ⟨_, t1, t2, t3⟩)
    exact ⟨_, l1, l2, l3⟩)
  exact ⟨ds, g1, shaped_of g2 g3 (by decide), by rw [g4, hp.length]⟩
section
variable {P : Program} {w : World} {K : PySem.W.Frag} {mg : Str → Option Value} {base : Heap}
theorem ok_law (T : Tx P K mg) {f : Addr} {fd : FuncData} (F : Fun K "law" "law" st_law f fd) : FnOk P w K mg base CX0 6 f fd ["_law_script"] (spLaw K) := by
  refine F.ok sc_law (fun vs H Q E h => ?_) (fun cdv A outer s H vs Q E hr h => ?_)
  · obtain ⟨a, ns, rfl, _⟩ := h
    rfl
  · obtain ⟨a, ns, rfl, hS, hlen63, q⟩ := h
    refine ⟨_, (pss_cons (ps_set (i := 1) sc_law.nd rfl (.inl rfl) (pe_tup pa_nil)) (pss_cons (ps_for PassesOwn.never rfl (pi_range1 (by rfl) T.m_range (pa_cons (pe_callB (call_max2 rfl) (by rfl) T.m_max (by decide +kernel) (pa_cons pe_int (pa_cons (pe_callB (call_min2 rfl) (by rfl) T.m_min (by decide +kernel) (pa_cons pe_int (pa_cons (pe_callB call_len_seq (by rfl) T.m_len PySem.boot_len (pa_cons (pv 0) pa_nil)) pa_nil))) pa_nil))) pa_nil)) (pg_name (i := 2) sc_law.nd rfl (.inl rfl)) (pss_cons (ps_set (i := 3) sc_law.nd rfl (.inl rfl) (pe_call (ok_box T) (hr.mono (by decide) : Room 1 _) (by rfl) T.g_box T.F_box.kp T.b_box .nil pass0 (pa_cons (pv 0) (pa_cons (pv 2) pa_nil)))) (pss_cons (ps_set (i := 4) sc_law.nd rfl (.inl rfl) (pe_call (ok_wood T) (hr.mono (by decide) : Room 3 _) (by rfl) T.g_wood T.F_wood.kp T.b_wood .nil pass0 (pa_cons (pv 3) (pa_cons pe_int pa_nil)))) (pss_cons (ps_set (i := 5) sc_law.nd rfl (.inl rfl) (pe_call (ok_reader T) (hr.mono (by decide) : Room 3 _) (by rfl) T.g_reader T.F_reader.kp T.b_reader .nil pass0 (pa_cons (pv 3) (pa_cons (pv 4) pa_nil)))) (pss_cons (ps_set (i := 6) sc_law.nd rfl (.inl rfl) (pv 5)) (pss_cons (ps_for PassesOwn.never rfl (pi_range1 (by rfl) T.m_range (pa_cons (pe_op op_add pe_int (pe_call (ok_take T) (hr.mono (by decide) : Room 1 _) (by rfl) T.g_take T.F_take.kp T.b_take .nil pass0 (pa_cons (pv 3) (pa_cons pe_int pa_nil)))) pa_nil)) (pg_name (i := 7) sc_law.nd rfl (.inl rfl)) (pss_one (ps_set (i := 6) sc_law.nd rfl (.inl rfl) (pe_call (ok_spoilt T) (hr.mono (by decide) : Room 3 _) (by rfl) T.g_spoilt T.F_spoilt.kp T.b_spoilt .nil pass0 (pa_cons (pv 3) (pa_cons (pv 6) pa_nil)))))) (pss_cons (ps_for PassesOwn.never rfl (pi_tup (pe_tup (pa_cons (pv 6) (pa_cons (pv 5) (pa_cons (pv 6) pa_nil))))) (pg_name (i := 8) sc_law.nd rfl (.inl rfl)) (pss_one (ps_if (pt_cmpR (op_neD hr.units) (pe_call (ok_told T) (hr.mono (by decide) : Room 5 _) (by rfl) T.g_told T.F_told.kp T.b_told .nil pass0 (pa_cons (pv 4) (pa_cons (pv 8) pa_nil))) (pe_call (ok_due T) (hr.mono (by decide) : Room 3 _) (by rfl) T.g_due T.F_due.kp T.b_due .nil pass0 (pa_cons (pv 4) (pa_cons (pv 8) pa_nil))) (nomark _)) (pss_one (ps_ret pe_bl)) pss_nil))) (pss_cons (ps_if (PW.pt (pw_and (pt_cmpR (op_neD hr.units) (pv 1) (pe_tup pa_nil) (nomark _)) (pw_and1 (pt_cmpR (op_neD hr.units) (pe_call (ok_told T) (hr.mono (by decide) : Room 5 _) (by rfl) T.g_told T.F_told.kp T.b_told .nil pass0 (pa_cons (pv 1) (pa_cons (pv 5) pa_nil))) (pe_call (ok_due T) (hr.mono (by decide) : Room 3 _) (by rfl) T.g_due T.F_due.kp T.b_due .nil pass0 (pa_cons (pv 1) (pa_cons (pv 5) pa_nil))) (nomark _))))) (pss_one (ps_ret pe_bl)) pss_nil) (pss_one (ps_set (i := 1) sc_law.nd rfl (.inl rfl) (pv 4))))))))))) (pss_one (ps_ret pe_bl)))), ?_⟩
    refine ⟨s0, fun t0 nt0 => ?_⟩
    have sA := same_new (o := .tup []) nt0
    refine ⟨.ref a, rfl, a, _, rfl, .inl (sA.seq hS), _, _, rfl, _, _, rfl, ?_⟩
    rw [List.length_map]
    obtain ⟨n, hn, hn3, hn8⟩ : ∃ n : Nat, (if (if (ns.length : Int) < 8 then (ns.length : Int) else 8) > 3 then (if (ns.length : Int) < 8 then (ns.length : Int) else 8) else 3) = (n : Int) ∧ 3 ≤ n ∧ n ≤ 8 := by
      refine ⟨max 3 (min 8 ns.length), ?_, by omega, by omega⟩
      split <;> split at * <;> omega
    rw [hn]
    refine ⟨_, rfl, by omega, by omega, for_range (lo := 0) (n := (n : Int).toNat) (fun i σ H' => ∃ (y2 y3 y4 y5 y6 y7 y8 : Option V) (l : Addr) (wl : Wood), σ = [some (.ref a), some (.ref l), y2, y3, y4, y5, y6, y7, y8] ∧ Same H H' ∧ WdAt H' l wl ∧ (wl = [] ∨ Good wl))
      ⟨none, none, none, none, none, none, none, t0, [], rfl, sA, ⟨[], upd_same, .nil⟩, .inl rfl⟩ (fun i σ H' hi hP => ?_) (fun σ H' hP => ?_)⟩
    · obtain ⟨y2, y3, y4, y5, y6, y7, y8, l, wl, rfl, sm, hwl, hgl⟩ := hP
      refine ⟨.ref a, rfl, _, rfl, a, ns, _, rfl, sm.seq hS, by omega, by omega, fun b H1 nb s1 db => ?_⟩
      have nbH : H b = none := Same.free sm nb
      refine ⟨_, rfl, b, 12, rfl, db, by decide, by decide, fun p H2 wd g2 hw good => ?_⟩
      refine ⟨_, rfl, _, rfl, b, p, wd, rfl, g2.2, hw, good, fun t H3 rd g3 hrd hgr => ?_⟩
      have tm0 : TmR 12 rd := hgr.tm good (by decide)
      refine ⟨_, rfl, ?_⟩
      refine ⟨_, rfl, b, 3, rfl, g3.2, by decide, by decide +kernel, fun t4 H4 t40 t41 g4 => ?_⟩
      refine ⟨_, _, rfl, rfl, 1 + t4, rfl, by omega, by omega, ?_⟩
      have G4 : Gr b H1 H4 := (g2.trans g3).trans g4
      refine for_range (lo := 0) (n := (1 + t4).toNat) (fun j σ H' => ∃ (y7 : Option V) (t' : Addr) (rd' : Rdr), σ = [some (.ref a), some (.ref l), some (.int (0 + (i : Int))), some (.ref b), some (.ref p), some (.ref t), some (.ref t'), y7, y8] ∧ Gr b H1 H' ∧ WdAt H' p wd ∧ RdAt H' t rd ∧ RdAt H' t' rd' ∧ TmR (12 + j) rd') ⟨y7, t, rd, rfl, G4, hw.mono (KT.gr g2.2 (g3.trans g4)), hrd.mono (KT.gr g3.2 g4), hrd.mono (KT.gr g3.2 g4), tm0⟩ (fun j σ H' hj hP => ?_) (fun σ H' hP => ?_)
      · obtain ⟨z7, t', rd', rfl, g5, hw5, hr5, hr5', tm⟩ := hP
        refine ⟨_, rfl, _, rfl, b, t', 12 + j, rd', rfl, g5.2, hr5', tm, by omega, fun t2 H6 rd2 g6 hr6 tm6 => ?_⟩
        exact ⟨_, t2, rd2, rfl, g5.trans g6, hw5.mono (KT.gr g5.2 g6), hr5.mono (KT.gr g5.2 g6), hr6, tm6⟩
      · obtain ⟨z7, t', rd', rfl, g5, hw5, hr5, hr5', tm⟩ := hP
        have up : ∀ {c : Nat} {r : Rdr}, c ≤ 1000 → TmR c r → TmR 1000 r := fun {c r} hc x => ⟨Nat.le_trans x.cnt hc, Nat.le_trans x.few hc, fun y hy => (x.rul y hy).le hc⟩
        have tmA : TmR 1000 rd' := up (by omega) tm
        have tmB : TmR 1000 rd := up (by decide) tm0
        refine ⟨_, rfl, _, rfl, _, rfl, s3, fun tt ntt => ?_⟩
        have sT := same_new (o := .tup [.ref t', .ref t, .ref t']) ntt
        refine ⟨tt, rfl, ⟨_, SqT.of upd_same⟩, for_it (walk_tup (xs := [V.ref t', .ref t, .ref t'])) (fun i' σ H'' => ∃ (z8 : Option V), σ = [some (.ref a), some (.ref l), some (.int (0 + (i : Int))), some (.ref b), some (.ref p), some (.ref t), some (.ref t'), z7, z8] ∧ Same (upd H' tt (.tup [.ref t', .ref t, .ref t'])) H'') ⟨_, rfl, Same.refl _⟩ (fun i' σ H'' hi P => ?_) (fun i' x σ H'' Hx hi P y => ?_) (fun σ H'' P => ?_)⟩
        · obtain ⟨_, _, s5⟩ := P
          exact SqT.of (s5 _ _ upd_same)
        · obtain ⟨z8, rfl, s5⟩ := P
          obtain ⟨rfl, ex⟩ := y
          have s6 := sT.trans s5
          obtain ⟨p3, rd3, rfl, hr6, tm6⟩ : ∃ p3 rd3, x = .ref p3 ∧ RdAt Hx p3 rd3 ∧ TmR 1000 rd3 := by
            have hx := List.mem_of_getElem? ex
            rcases List.mem_cons.mp hx with rfl | hx
            · exact ⟨_, _, rfl, hr5'.mono (KT.of s6), tmA⟩
            · rcases List.mem_cons.mp hx with rfl | hx
              · exact ⟨_, _, rfl, hr5.mono (KT.of s6), tmB⟩
              · rw [List.mem_singleton.mp hx]
                exact ⟨_, _, rfl, hr5'.mono (KT.of s6), tmA⟩
          have hwx := hw5.mono (KT.of s6)
          refine ⟨_, rfl, _, rfl, p, p3, wd, rd3, rfl, hwx, good, hr6, tm6, fun t1 H7 s7 e1 => ?_⟩
          refine ⟨_, rfl, _, rfl, p, p3, wd, rd3, rfl, hwx.mono (KT.of s7), good, hr6.mono (KT.of s7), tm6, fun t2 H8 s8 e2 => ?_⟩
          have ok := toldz_ok good (rd := rd3)
          refine ⟨.tuple _, .tuple _, .tup (SqT.of (by rw [s8 _ _ e1, tolds_eq])) (dpAll_strs _), .tup (SqT.of (by rw [e2, tolds_eq])) (dpAll_strs _), shaped_tuple (flat_strs ok), shaped_tuple (flat_strs ok), _, rfl, ?_⟩
          rw [eqv_self]
          exact iteF ⟨_, rfl, (s5.trans s7).trans s8⟩
        · obtain ⟨z8, rfl, s5⟩ := P
          have sb : ∀ {c : Addr} {o : HO}, H c = some o → H'' c = some o := fun {c o} e => s5 _ _ (sT _ _ (g5.1 _ _ (ne_of_none e nbH) (s1 _ _ (sm _ _ e))))
          have smx : Same H H'' := fun c o e => sb e
          have kt : KT H1 H'' := (KT.gr db g5).trans (KT.of (sT.trans s5))
          have hwlx : WdAt H'' l wl := (hwl.mono (KT.of s1)).mono kt
          have hwx : WdAt H'' p wd := hw5.mono (KT.of (sT.trans s5))
          have hrx : RdAt H'' t rd := hr5.mono (KT.of (sT.trans s5))
          refine ⟨_, rfl, s0, fun te nte => ?_⟩
          have se := same_new (o := .tup []) nte
          obtain ⟨dd, p1, p2, p3⟩ := (hwlx.mono (KT.of se)).dp (K := K) hgl
          refine ⟨.tuple dd, .tuple [], p1, .tup (SqT.of upd_same) .nil, p2, rfl, _, rfl, ?_⟩
          rw [eqvT_nil, p3]
          by_cases hz : List.length wl = 0
          · rw [decide_eq_true hz]
            refine iteF ?_
            exact ⟨_, rfl, _, _, _, _, _, _, _, p, wd, rfl, smx.trans se, hwx.mono (KT.of se), .inr good⟩
          rw [decide_eq_false hz]
          refine iteT ?_
          have goodl : Good wl := by
            rcases hgl with h | h
            · rw [h] at hz
              exact absurd rfl hz
            · exact h
          refine ⟨_, rfl, _, rfl, l, t, wl, rd, rfl, hwlx.mono (KT.of se), goodl, hrx.mono (KT.of se), tmB, fun t1 H7 s7 e1 => ?_⟩
          refine ⟨_, rfl, _, rfl, l, t, wl, rd, rfl, (hwlx.mono (KT.of se)).mono (KT.of s7), goodl, (hrx.mono (KT.of se)).mono (KT.of s7), tmB, fun t2 H8 s8 e2 => ?_⟩
          have ok := toldz_ok goodl (rd := rd)
          refine ⟨.tuple _, .tuple _, .tup (SqT.of (by rw [s8 _ _ e1, tolds_eq])) (dpAll_strs _), .tup (SqT.of (by rw [e2, tolds_eq])) (dpAll_strs _), shaped_tuple (flat_strs ok), shaped_tuple (flat_strs ok), _, rfl, ?_⟩
          rw [eqv_self]
          have sf := (se.trans s7).trans s8
          exact iteF ⟨_, rfl, _, _, _, _, _, _, _, p, wd, rfl, smx.trans sf, hwx.mono (KT.of sf), .inr good⟩
    · obtain ⟨_, _, _, _, _, _, _, _, _, rfl, _⟩ := hP
      exact q _
end

theorem all_mk {l : PySem.W.OpenLaw} {w : World} {K : PySem.W.Frag} {h : Heap} {mg : Str → Option Value} {fa : Addr} (X : K.In h) (G : h.Ns mainGlobals mg) (hfa : mg "law" = some (.ref fa))
    {f_cdiv : Addr} {od_cdiv an_cdiv : Option Addr} {sl_cdiv : Array (Option Value)} {oc_cdiv kV_cdiv dc_cdiv pm_cdiv cd_cdiv ct_cdiv : Value}
    (a_cdiv : PySem.W.nsIn K mainGlobals "common_divisor" = some (some (.ref f_cdiv))) (l_cdiv : K.lookup f_cdiv = some ⟨oc_cdiv, od_cdiv, .func (PySem.W.fnOf "common_divisor" "common_divisor" (defArgs st_cdiv) (defBody st_cdiv) (defScope st_cdiv) .none kV_cdiv dc_cdiv pm_cdiv an_cdiv cd_cdiv ct_cdiv), sl_cdiv⟩) (c_cdiv : PySem.W.codeIn K cd_cdiv "common_divisor" = true) (k_cdiv : PySem.W.keepIn K (.ref f_cdiv) = true)
    {f_table : Addr} {od_table an_table : Option Addr} {sl_table : Array (Option Value)} {oc_table kV_table dc_table pm_table cd_table ct_table : Value}
    (a_table : PySem.W.nsIn K mainGlobals "maker_table" = some (some (.ref f_table))) (l_table : K.lookup f_table = some ⟨oc_table, od_table, .func (PySem.W.fnOf "maker_table" "maker_table" (defArgs st_table) (defBody st_table) (defScope st_table) .none kV_table dc_table pm_table an_table cd_table ct_table), sl_table⟩) (c_table : PySem.W.codeIn K cd_table "maker_table" = true) (k_table : PySem.W.keepIn K (.ref f_table) = true)
    {f_lookreader : Addr} {od_lookreader an_lookreader : Option Addr} {sl_lookreader : Array (Option Value)} {oc_lookreader kV_lookreader dc_lookreader pm_lookreader cd_lookreader ct_lookreader : Value}
    (a_lookreader : PySem.W.nsIn K mainGlobals "look_reader" = some (some (.ref f_lookreader))) (l_lookreader : K.lookup f_lookreader = some ⟨oc_lookreader, od_lookreader, .func (PySem.W.fnOf "look_reader" "look_reader" (defArgs st_lookreader) (defBody st_lookreader) (defScope st_lookreader) .none kV_lookreader dc_lookreader pm_lookreader an_lookreader cd_lookreader ct_lookreader), sl_lookreader⟩) (c_lookreader : PySem.W.codeIn K cd_lookreader "look_reader" = true) (k_lookreader : PySem.W.keepIn K (.ref f_lookreader) = true)
    {f_looksums : Addr} {od_looksums an_looksums : Option Addr} {sl_looksums : Array (Option Value)} {oc_looksums kV_looksums dc_looksums pm_looksums cd_looksums ct_looksums : Value}
    (a_looksums : PySem.W.nsIn K mainGlobals "look_sums" = some (some (.ref f_looksums))) (l_looksums : K.lookup f_looksums = some ⟨oc_looksums, od_looksums, .func (PySem.W.fnOf "look_sums" "look_sums" (defArgs st_looksums) (defBody st_looksums) (defScope st_looksums) .none kV_looksums dc_looksums pm_looksums an_looksums cd_looksums ct_looksums), sl_looksums⟩) (c_looksums : PySem.W.codeIn K cd_looksums "look_sums" = true) (k_looksums : PySem.W.keepIn K (.ref f_looksums) = true)
    {f_isfr : Addr} {od_isfr an_isfr : Option Addr} {sl_isfr : Array (Option Value)} {oc_isfr kV_isfr dc_isfr pm_isfr cd_isfr ct_isfr : Value}
    (a_isfr : PySem.W.nsIn K mainGlobals "is_fraction" = some (some (.ref f_isfr))) (l_isfr : K.lookup f_isfr = some ⟨oc_isfr, od_isfr, .func (PySem.W.fnOf "is_fraction" "is_fraction" (defArgs st_isfr) (defBody st_isfr) (defScope st_isfr) .none kV_isfr dc_isfr pm_isfr an_isfr cd_isfr ct_isfr), sl_isfr⟩) (c_isfr : PySem.W.codeIn K cd_isfr "is_fraction" = true) (k_isfr : PySem.W.keepIn K (.ref f_isfr) = true)
    {f_box : Addr} {od_box an_box : Option Addr} {sl_box : Array (Option Value)} {oc_box kV_box dc_box pm_box cd_box ct_box : Value}
    (a_box : PySem.W.nsIn K mainGlobals "_law_box" = some (some (.ref f_box))) (l_box : K.lookup f_box = some ⟨oc_box, od_box, .func (PySem.W.fnOf "_law_box" "_law_box" (defArgs st_box) (defBody st_box) (defScope st_box) .none kV_box dc_box pm_box an_box cd_box ct_box), sl_box⟩) (c_box : PySem.W.codeIn K cd_box "_law_box" = true) (k_box : PySem.W.keepIn K (.ref f_box) = true)
    {f_take : Addr} {od_take an_take : Option Addr} {sl_take : Array (Option Value)} {oc_take kV_take dc_take pm_take cd_take ct_take : Value}
    (a_take : PySem.W.nsIn K mainGlobals "_law_take" = some (some (.ref f_take))) (l_take : K.lookup f_take = some ⟨oc_take, od_take, .func (PySem.W.fnOf "_law_take" "_law_take" (defArgs st_take) (defBody st_take) (defScope st_take) .none kV_take dc_take pm_take an_take cd_take ct_take), sl_take⟩) (c_take : PySem.W.codeIn K cd_take "_law_take" = true) (k_take : PySem.W.keepIn K (.ref f_take) = true)
    {f_names : Addr} {od_names an_names : Option Addr} {sl_names : Array (Option Value)} {oc_names kV_names dc_names pm_names cd_names ct_names : Value}
    (a_names : PySem.W.nsIn K mainGlobals "_law_names" = some (some (.ref f_names))) (l_names : K.lookup f_names = some ⟨oc_names, od_names, .func (PySem.W.fnOf "_law_names" "_law_names" (defArgs st_names) (defBody st_names) (defScope st_names) .none kV_names dc_names pm_names an_names cd_names ct_names), sl_names⟩) (c_names : PySem.W.codeIn K cd_names "_law_names" = true) (k_names : PySem.W.keepIn K (.ref f_names) = true)
    {f_wood : Addr} {od_wood an_wood : Option Addr} {sl_wood : Array (Option Value)} {oc_wood kV_wood dc_wood pm_wood cd_wood ct_wood : Value}
    (a_wood : PySem.W.nsIn K mainGlobals "_law_wood" = some (some (.ref f_wood))) (l_wood : K.lookup f_wood = some ⟨oc_wood, od_wood, .func (PySem.W.fnOf "_law_wood" "_law_wood" (defArgs st_wood) (defBody st_wood) (defScope st_wood) .none kV_wood dc_wood pm_wood an_wood cd_wood ct_wood), sl_wood⟩) (c_wood : PySem.W.codeIn K cd_wood "_law_wood" = true) (k_wood : PySem.W.keepIn K (.ref f_wood) = true)
    {f_lmakers : Addr} {od_lmakers an_lmakers : Option Addr} {sl_lmakers : Array (Option Value)} {oc_lmakers kV_lmakers dc_lmakers pm_lmakers cd_lmakers ct_lmakers : Value}
    (a_lmakers : PySem.W.nsIn K mainGlobals "_law_makers" = some (some (.ref f_lmakers))) (l_lmakers : K.lookup f_lmakers = some ⟨oc_lmakers, od_lmakers, .func (PySem.W.fnOf "_law_makers" "_law_makers" (defArgs st_lmakers) (defBody st_lmakers) (defScope st_lmakers) .none kV_lmakers dc_lmakers pm_lmakers an_lmakers cd_lmakers ct_lmakers), sl_lmakers⟩) (c_lmakers : PySem.W.codeIn K cd_lmakers "_law_makers" = true) (k_lmakers : PySem.W.keepIn K (.ref f_lmakers) = true)
    {f_shared : Addr} {od_shared an_shared : Option Addr} {sl_shared : Array (Option Value)} {oc_shared kV_shared dc_shared pm_shared cd_shared ct_shared : Value}
    (a_shared : PySem.W.nsIn K mainGlobals "_law_shared" = some (some (.ref f_shared))) (l_shared : K.lookup f_shared = some ⟨oc_shared, od_shared, .func (PySem.W.fnOf "_law_shared" "_law_shared" (defArgs st_shared) (defBody st_shared) (defScope st_shared) .none kV_shared dc_shared pm_shared an_shared cd_shared ct_shared), sl_shared⟩) (c_shared : PySem.W.codeIn K cd_shared "_law_shared" = true) (k_shared : PySem.W.keepIn K (.ref f_shared) = true)
    {f_lfrac : Addr} {od_lfrac an_lfrac : Option Addr} {sl_lfrac : Array (Option Value)} {oc_lfrac kV_lfrac dc_lfrac pm_lfrac cd_lfrac ct_lfrac : Value}
    (a_lfrac : PySem.W.nsIn K mainGlobals "_law_fraction" = some (some (.ref f_lfrac))) (l_lfrac : K.lookup f_lfrac = some ⟨oc_lfrac, od_lfrac, .func (PySem.W.fnOf "_law_fraction" "_law_fraction" (defArgs st_lfrac) (defBody st_lfrac) (defScope st_lfrac) .none kV_lfrac dc_lfrac pm_lfrac an_lfrac cd_lfrac ct_lfrac), sl_lfrac⟩) (c_lfrac : PySem.W.codeIn K cd_lfrac "_law_fraction" = true) (k_lfrac : PySem.W.keepIn K (.ref f_lfrac) = true)
    {f_reader : Addr} {od_reader an_reader : Option Addr} {sl_reader : Array (Option Value)} {oc_reader kV_reader dc_reader pm_reader cd_reader ct_reader : Value}
    (a_reader : PySem.W.nsIn K mainGlobals "_law_reader" = some (some (.ref f_reader))) (l_reader : K.lookup f_reader = some ⟨oc_reader, od_reader, .func (PySem.W.fnOf "_law_reader" "_law_reader" (defArgs st_reader) (defBody st_reader) (defScope st_reader) .none kV_reader dc_reader pm_reader an_reader cd_reader ct_reader), sl_reader⟩) (c_reader : PySem.W.codeIn K cd_reader "_law_reader" = true) (k_reader : PySem.W.keepIn K (.ref f_reader) = true)
    {f_rdue : Addr} {od_rdue an_rdue : Option Addr} {sl_rdue : Array (Option Value)} {oc_rdue kV_rdue dc_rdue pm_rdue cd_rdue ct_rdue : Value}
    (a_rdue : PySem.W.nsIn K mainGlobals "_law_reader_due" = some (some (.ref f_rdue))) (l_rdue : K.lookup f_rdue = some ⟨oc_rdue, od_rdue, .func (PySem.W.fnOf "_law_reader_due" "_law_reader_due" (defArgs st_rdue) (defBody st_rdue) (defScope st_rdue) .none kV_rdue dc_rdue pm_rdue an_rdue cd_rdue ct_rdue), sl_rdue⟩) (c_rdue : PySem.W.codeIn K cd_rdue "_law_reader_due" = true) (k_rdue : PySem.W.keepIn K (.ref f_rdue) = true)
    {f_with : Addr} {od_with an_with : Option Addr} {sl_with : Array (Option Value)} {oc_with kV_with dc_with pm_with cd_with ct_with : Value}
    (a_with : PySem.W.nsIn K mainGlobals "_law_with" = some (some (.ref f_with))) (l_with : K.lookup f_with = some ⟨oc_with, od_with, .func (PySem.W.fnOf "_law_with" "_law_with" (defArgs st_with) (defBody st_with) (defScope st_with) .none kV_with dc_with pm_with an_with cd_with ct_with), sl_with⟩) (c_with : PySem.W.codeIn K cd_with "_law_with" = true) (k_with : PySem.W.keepIn K (.ref f_with) = true)
    {f_sterm : Addr} {od_sterm an_sterm : Option Addr} {sl_sterm : Array (Option Value)} {oc_sterm kV_sterm dc_sterm pm_sterm cd_sterm ct_sterm : Value}
    (a_sterm : PySem.W.nsIn K mainGlobals "_law_spoilt_term" = some (some (.ref f_sterm))) (l_sterm : K.lookup f_sterm = some ⟨oc_sterm, od_sterm, .func (PySem.W.fnOf "_law_spoilt_term" "_law_spoilt_term" (defArgs st_sterm) (defBody st_sterm) (defScope st_sterm) .none kV_sterm dc_sterm pm_sterm an_sterm cd_sterm ct_sterm), sl_sterm⟩) (c_sterm : PySem.W.codeIn K cd_sterm "_law_spoilt_term" = true) (k_sterm : PySem.W.keepIn K (.ref f_sterm) = true)
    {f_spoilt : Addr} {od_spoilt an_spoilt : Option Addr} {sl_spoilt : Array (Option Value)} {oc_spoilt kV_spoilt dc_spoilt pm_spoilt cd_spoilt ct_spoilt : Value}
    (a_spoilt : PySem.W.nsIn K mainGlobals "_law_spoilt" = some (some (.ref f_spoilt))) (l_spoilt : K.lookup f_spoilt = some ⟨oc_spoilt, od_spoilt, .func (PySem.W.fnOf "_law_spoilt" "_law_spoilt" (defArgs st_spoilt) (defBody st_spoilt) (defScope st_spoilt) .none kV_spoilt dc_spoilt pm_spoilt an_spoilt cd_spoilt ct_spoilt), sl_spoilt⟩) (c_spoilt : PySem.W.codeIn K cd_spoilt "_law_spoilt" = true) (k_spoilt : PySem.W.keepIn K (.ref f_spoilt) = true)
    {f_told : Addr} {od_told an_told : Option Addr} {sl_told : Array (Option Value)} {oc_told kV_told dc_told pm_told cd_told ct_told : Value}
    (a_told : PySem.W.nsIn K mainGlobals "_law_told" = some (some (.ref f_told))) (l_told : K.lookup f_told = some ⟨oc_told, od_told, .func (PySem.W.fnOf "_law_told" "_law_told" (defArgs st_told) (defBody st_told) (defScope st_told) .none kV_told dc_told pm_told an_told cd_told ct_told), sl_told⟩) (c_told : PySem.W.codeIn K cd_told "_law_told" = true) (k_told : PySem.W.keepIn K (.ref f_told) = true)
    {f_due : Addr} {od_due an_due : Option Addr} {sl_due : Array (Option Value)} {oc_due kV_due dc_due pm_due cd_due ct_due : Value}
    (a_due : PySem.W.nsIn K mainGlobals "_law_due" = some (some (.ref f_due))) (l_due : K.lookup f_due = some ⟨oc_due, od_due, .func (PySem.W.fnOf "_law_due" "_law_due" (defArgs st_due) (defBody st_due) (defScope st_due) .none kV_due dc_due pm_due an_due cd_due ct_due), sl_due⟩) (c_due : PySem.W.codeIn K cd_due "_law_due" = true) (k_due : PySem.W.keepIn K (.ref f_due) = true)
    {f_law : Addr} {od_law an_law : Option Addr} {sl_law : Array (Option Value)} {oc_law kV_law dc_law pm_law cd_law ct_law : Value}
    (a_law : PySem.W.nsIn K mainGlobals "law" = some (some (.ref f_law))) (l_law : K.lookup f_law = some ⟨oc_law, od_law, .func (PySem.W.fnOf "law" "law" (defArgs st_law) (defBody st_law) (defScope st_law) .none kV_law dc_law pm_law an_law cd_law ct_law), sl_law⟩) (c_law : PySem.W.codeIn K cd_law "law" = true) (k_law : PySem.W.keepIn K (.ref f_law) = true)
    (z_len : PySem.W.nsIn K mainGlobals "len" = some none)
    (z_int : PySem.W.nsIn K mainGlobals "int" = some none)
    (z_abs : PySem.W.nsIn K mainGlobals "abs" = some none)
    (z_list : PySem.W.nsIn K mainGlobals "list" = some none)
    (z_tuple : PySem.W.nsIn K mainGlobals "tuple" = some none)
    (z_zip : PySem.W.nsIn K mainGlobals "zip" = some none)
    (z_isinstance : PySem.W.nsIn K mainGlobals "isinstance" = some none)
    (z_max : PySem.W.nsIn K mainGlobals "max" = some none)
    (z_min : PySem.W.nsIn K mainGlobals "min" = some none)
    (z_range : PySem.W.nsIn K mainGlobals "range" = some none)
    (z_enumerate : PySem.W.nsIn K mainGlobals "enumerate" = some none)
    (z_all : PySem.W.nsIn K mainGlobals "all" = some none)
    (z_ValueError : PySem.W.nsIn K mainGlobals "ValueError" = some none)
    (z_super : PySem.W.nsIn K mainGlobals "super" = some none)
    {t_MOST_BOXES : Tok}
    (a_MOST_BOXES : PySem.W.nsIn K mainGlobals "MOST_BOXES" = some (some (.int 4 t_MOST_BOXES)))
    {C fI cc cda CB : Addr} {nmX qX : Str} {N : Addr} {bs : List Value} {sn : List Str} {sub : List Value} {ab : Bool} {col : Option Bool} {dd : Option Addr} {m0 m1 m2 m3 m5 : Option Value}
    {C_NoFit C_NoPrinter C_NoRow C_NoText C_NoTree C_NoTurner C_NoWood C_NoWord C_TooLong C_TooWide : Addr}
    (aC : PySem.W.nsIn K mainGlobals "NoReader" = some (some (.ref C))) (aB : PySem.W.nsIn K mainGlobals "BoughError" = some (some (.ref CB)))
    (xL : K.lookup C = some (excClassObj nmX qX C N bs [.ref CB, .type "ValueError", .type "Exception", .type "BaseException", .type "object"] true sn sub ab col dd m0 m1 m2 m3 m5 "ValueError.__new__"))
    (iC : PySem.W.findIn K (.ref C) "__init__" = some (some (.ref fI))) (tI : PySem.W.typeIn K (.ref fI) = some (.type "function"))
    {ocI kVI dcI pmI ctI : Value} {odI anI : Option Addr} {slI : Array (Option Value)} (lI : K.lookup fI = some ⟨ocI, odI, .func (PySem.W.ksFn "__init__" "NoReader.__init__" (defArgs st_nr) (defBody st_nr) (defScope st_nr) .none kVI dcI pmI anI (.ref cda) ctI cc), slI⟩) (cI : PySem.W.codeIn K (.ref cda) "NoReader.__init__" = true)
    {cclX : Value} {cddX : Option Addr} {vsX : Array Value} {ccsX : Array (Option Value)} (lcd : K.lookup cda = some ⟨cclX, cddX, .fields vsX, ccsX⟩) {fileX : Str} {tfX : Tok} (vs2 : vsX[2]? = some (.str fileX tfX)) (fileE : ((l.prog.main.file : Str) == fileX) = true)
    {clX : Value} {cldX : Option Addr} {cslX : Array (Option Value)} (lcc : K.lookup cc = some ⟨clX, cldX, .cell (some (.ref C)), cslX⟩)
    (supC : PySem.W.ks_superIn K C C "__init__" = some (some (.builtin "ValueError.__init__"))) (opq : PySem.W.nsIn K cStatics "thirdparty.any" = some none) (topN : (l.prog.main.scope.names.lookup ("super" : Str)).isSome = false)
    (subB : PySem.W.subIn K (.ref C) (.type "ValueError") = some true) (subC : PySem.W.mroIn K C (.ref C) = some true) (kC : PySem.W.keepIn K (.ref C) = true) (exC : PySem.W.subIn K (.ref C) (.type "BaseException") = some true) (tyC : PySem.W.typeIn K (.ref C) = some (.type "type"))
    (gaC : PySem.W.findIn K (.ref C) "__getattribute__" = some (some (.builtin "BaseException.__getattribute__"))) (ggC : PySem.W.findIn K (.ref C) "__getattr__" = some none) (hdC : PySem.W.hasDictIn K C = true) (clC : PySem.W.findIn K (.ref C) "__class__" = some (some (.builtin "object.__class__")))
    (snC : PySem.W.specialIn K (.builtin "object.__class__") "__get__" = some (some (.builtin "getset_descriptor.__get__"))) (tkC : PySem.W.takesIn K (.builtin "object.__class__") = some true) (mrC : PySem.W.mroIn K C (.type "object") = some true)
    (saC : PySem.W.findIn K (.ref C) "__setattr__" = some (some (.builtin "object.__setattr__"))) (nW : PySem.W.findIn K (.ref C) "word" = some none) (nN : PySem.W.findIn K (.ref C) "maker" = some none)
    (exB : PySem.W.subIn K (.ref CB) (.type "BaseException") = some true) (hdB : PySem.W.hasDictIn K CB = true) (tyB : PySem.W.typeIn K (.ref CB) = some (.type "type")) (sCB : PySem.W.subIn K (.ref C) (.ref CB) = some true)
    (kCC : PySem.W.kitOne K (.ref C) (.ref C) = some true) (kVE : PySem.W.kitOne K (.ref C) (.type "ValueError") = some true)
    (g_NoFit : PySem.W.nsIn K mainGlobals "NoFit" = some (some (.ref C_NoFit))) (k_NoFit : PySem.W.kitOne K (.ref C) (.ref C_NoFit) = some false)
    (g_NoPrinter : PySem.W.nsIn K mainGlobals "NoPrinter" = some (some (.ref C_NoPrinter))) (k_NoPrinter : PySem.W.kitOne K (.ref C) (.ref C_NoPrinter) = some false)
    (g_NoRow : PySem.W.nsIn K mainGlobals "NoRow" = some (some (.ref C_NoRow))) (k_NoRow : PySem.W.kitOne K (.ref C) (.ref C_NoRow) = some false)
    (g_NoText : PySem.W.nsIn K mainGlobals "NoText" = some (some (.ref C_NoText))) (k_NoText : PySem.W.kitOne K (.ref C) (.ref C_NoText) = some false)
    (g_NoTree : PySem.W.nsIn K mainGlobals "NoTree" = some (some (.ref C_NoTree))) (k_NoTree : PySem.W.kitOne K (.ref C) (.ref C_NoTree) = some false)
    (g_NoTurner : PySem.W.nsIn K mainGlobals "NoTurner" = some (some (.ref C_NoTurner))) (k_NoTurner : PySem.W.kitOne K (.ref C) (.ref C_NoTurner) = some false)
    (g_NoWood : PySem.W.nsIn K mainGlobals "NoWood" = some (some (.ref C_NoWood))) (k_NoWood : PySem.W.kitOne K (.ref C) (.ref C_NoWood) = some false)
    (g_NoWord : PySem.W.nsIn K mainGlobals "NoWord" = some (some (.ref C_NoWord))) (k_NoWord : PySem.W.kitOne K (.ref C) (.ref C_NoWord) = some false)
    (g_TooLong : PySem.W.nsIn K mainGlobals "TooLong" = some (some (.ref C_TooLong))) (k_TooLong : PySem.W.kitOne K (.ref C) (.ref C_TooLong) = some false)
    (g_TooWide : PySem.W.nsIn K mainGlobals "TooWide" = some (some (.ref C_TooWide))) (k_TooWide : PySem.W.kitOne K (.ref C) (.ref C_TooWide) = some false)
    : ∃ fd : FuncData, (∀ (s : Shared) (v : Value), BindsTo s fd ⟨[v], []⟩ [("_law_script", v)]) ∧ ∀ base : Heap, K.In base → base.Ns mainGlobals mg → FnOk l.prog w K mg base CX0 6 fa fd ["_law_script"] (spLaw K) := by
  have e := hfa.symm.trans (PySem.W.mg_of X G a_law)
  cases e
  have F_cdiv := fun_mk (st := st_cdiv) l_cdiv c_cdiv k_cdiv
  have b_cdiv := F_cdiv.binds (ps := ["one", "other"]) fun _ _ _ _ _ _ us hl => match us, hl with | [_, _], _ => rfl
  have F_table := fun_mk (st := st_table) l_table c_table k_table
  have b_table := F_table.binds (ps := ["wood"]) fun _ _ _ _ _ _ us hl => match us, hl with | [_], _ => rfl
  have F_lookreader := fun_mk (st := st_lookreader) l_lookreader c_lookreader k_lookreader
  have b_lookreader := F_lookreader.binds (ps := ["wood", "reader"]) fun _ _ _ _ _ _ us hl => match us, hl with | [_, _], _ => rfl
  have F_looksums := fun_mk (st := st_looksums) l_looksums c_looksums k_looksums
  have b_looksums := F_looksums.binds (ps := ["maker", "sums", "count", "part_counts"]) fun _ _ _ _ _ _ us hl => match us, hl with | [_, _, _, _], _ => rfl
  have F_isfr := fun_mk (st := st_isfr) l_isfr c_isfr k_isfr
  have b_isfr := F_isfr.binds (ps := ["number"]) fun _ _ _ _ _ _ us hl => match us, hl with | [_], _ => rfl
  have F_box := fun_mk (st := st_box) l_box c_box k_box
  have b_box := F_box.binds (ps := ["_law_script", "_law_k"]) fun _ _ _ _ _ _ us hl => match us, hl with | [_, _], _ => rfl
  have F_take := fun_mk (st := st_take) l_take c_take k_take
  have b_take := F_take.binds (ps := ["_law_box_here", "_law_many"]) fun _ _ _ _ _ _ us hl => match us, hl with | [_, _], _ => rfl
  have F_names := fun_mk (st := st_names) l_names c_names k_names
  have b_names := F_names.binds (ps := ["_law_box_here", "_law_many"]) fun _ _ _ _ _ _ us hl => match us, hl with | [_, _], _ => rfl
  have F_wood := fun_mk (st := st_wood) l_wood c_wood k_wood
  have b_wood := F_wood.binds (ps := ["_law_box_here", "_law_most"]) fun _ _ _ _ _ _ us hl => match us, hl with | [_, _], _ => rfl
  have F_lmakers := fun_mk (st := st_lmakers) l_lmakers c_lmakers k_lmakers
  have b_lmakers := F_lmakers.binds (ps := ["_law_wood_here"]) fun _ _ _ _ _ _ us hl => match us, hl with | [_], _ => rfl
  have F_shared := fun_mk (st := st_shared) l_shared c_shared k_shared
  have b_shared := F_shared.binds (ps := ["_law_one", "_law_other"]) fun _ _ _ _ _ _ us hl => match us, hl with | [_, _], _ => rfl
  have F_lfrac := fun_mk (st := st_lfrac) l_lfrac c_lfrac k_lfrac
  have b_lfrac := F_lfrac.binds (ps := ["_law_box_here"]) fun _ _ _ _ _ _ us hl => match us, hl with | [_], _ => rfl
  have F_reader := fun_mk (st := st_reader) l_reader c_reader k_reader
  have b_reader := F_reader.binds (ps := ["_law_box_here", "_law_wood_here"]) fun _ _ _ _ _ _ us hl => match us, hl with | [_, _], _ => rfl
  have F_rdue := fun_mk (st := st_rdue) l_rdue c_rdue k_rdue
  have b_rdue := F_rdue.binds (ps := ["_law_wood_here", "_law_reader_here"]) fun _ _ _ _ _ _ us hl => match us, hl with | [_, _], _ => rfl
  have F_with := fun_mk (st := st_with) l_with c_with k_with
  have b_with := F_with.binds (ps := ["_law_some", "_law_at", "_law_way", "_law_one"]) fun _ _ _ _ _ _ us hl => match us, hl with | [_, _, _, _], _ => rfl
  have F_sterm := fun_mk (st := st_sterm) l_sterm c_sterm k_sterm
  have b_sterm := F_sterm.binds (ps := ["_law_box_here", "_law_term"]) fun _ _ _ _ _ _ us hl => match us, hl with | [_, _], _ => rfl
  have F_spoilt := fun_mk (st := st_spoilt) l_spoilt c_spoilt k_spoilt
  have b_spoilt := F_spoilt.binds (ps := ["_law_box_here", "_law_reader_here"]) fun _ _ _ _ _ _ us hl => match us, hl with | [_, _], _ => rfl
  have F_told := fun_mk (st := st_told) l_told c_told k_told
  have b_told := F_told.binds (ps := ["_law_wood_here", "_law_reader_here"]) fun _ _ _ _ _ _ us hl => match us, hl with | [_, _], _ => rfl
  have F_due := fun_mk (st := st_due) l_due c_due k_due
  have b_due := F_due.binds (ps := ["_law_wood_here", "_law_reader_here"]) fun _ _ _ _ _ _ us hl => match us, hl with | [_, _], _ => rfl
  have F_law := fun_mk (st := st_law) l_law c_law k_law
  have exc : PySem.BX.ETxt l.prog K mg C fI cc cda "ValueError" "ValueError.__new__" "ValueError.__init__" [.type "ValueError", .type "Exception", .type "BaseException", .type "object"] "NoReader" "NoReader.__init__" (defArgs st_nr) fs_nr [fs_nr1, fs_nr2] (defScope st_nr) := { gC := PySem.W.mg_of X G aC, cls := ⟨_, _, _, _, _, _, _, _, _, _, _, _, _, _, _, xL, fun _ => rfl⟩, base := F.excBase_ValueError, kxs := PySem.W.kxs_ValueError, iC := iC, tI := tI, fn := ⟨_, _, _, _, _, _, _, _, lI⟩, code := cI, cdo := ⟨_, _, _, _, _, _, lcd, vs2, fileE⟩, cell := ⟨_, _, _, lcc⟩, sup := supC, opq := opq, noS := PySem.W.mg_none_of X G z_super, topS := topN, subB := subB, subC := subC, kC := kC, exC := exC, tyC := tyC, kS := by decide +kernel, kCl := by decide +kernel, kSf := by decide +kernel, kF := rfl, st := ⟨_, _, _, _, _, _, _, _, rfl, fun L => ⟨rfl, rfl, _, rfl⟩⟩, hd := ⟨_, rfl, rfl⟩ }
  have T : Tx l.prog K mg := { f_cdiv := f_cdiv, fd_cdiv := _, F_cdiv := F_cdiv, g_cdiv := PySem.W.mg_of X G a_cdiv, b_cdiv := b_cdiv, f_table := f_table, fd_table := _, F_table := F_table, g_table := PySem.W.mg_of X G a_table, b_table := b_table, f_lookreader := f_lookreader, fd_lookreader := _, F_lookreader := F_lookreader, g_lookreader := PySem.W.mg_of X G a_lookreader, b_lookreader := b_lookreader, f_looksums := f_looksums, fd_looksums := _, F_looksums := F_looksums, g_looksums := PySem.W.mg_of X G a_looksums, b_looksums := b_looksums, f_isfr := f_isfr, fd_isfr := _, F_isfr := F_isfr, g_isfr := PySem.W.mg_of X G a_isfr, b_isfr := b_isfr, f_box := f_box, fd_box := _, F_box := F_box, g_box := PySem.W.mg_of X G a_box, b_box := b_box, f_take := f_take, fd_take := _, F_take := F_take, g_take := PySem.W.mg_of X G a_take, b_take := b_take, f_names := f_names, fd_names := _, F_names := F_names, g_names := PySem.W.mg_of X G a_names, b_names := b_names, f_wood := f_wood, fd_wood := _, F_wood := F_wood, g_wood := PySem.W.mg_of X G a_wood, b_wood := b_wood, f_lmakers := f_lmakers, fd_lmakers := _, F_lmakers := F_lmakers, g_lmakers := PySem.W.mg_of X G a_lmakers, b_lmakers := b_lmakers, f_shared := f_shared, fd_shared := _, F_shared := F_shared, g_shared := PySem.W.mg_of X G a_shared, b_shared := b_shared, f_lfrac := f_lfrac, fd_lfrac := _, F_lfrac := F_lfrac, g_lfrac := PySem.W.mg_of X G a_lfrac, b_lfrac := b_lfrac, f_reader := f_reader, fd_reader := _, F_reader := F_reader, g_reader := PySem.W.mg_of X G a_reader, b_reader := b_reader, f_rdue := f_rdue, fd_rdue := _, F_rdue := F_rdue, g_rdue := PySem.W.mg_of X G a_rdue, b_rdue := b_rdue, f_with := f_with, fd_with := _, F_with := F_with, g_with := PySem.W.mg_of X G a_with, b_with := b_with, f_sterm := f_sterm, fd_sterm := _, F_sterm := F_sterm, g_sterm := PySem.W.mg_of X G a_sterm, b_sterm := b_sterm, f_spoilt := f_spoilt, fd_spoilt := _, F_spoilt := F_spoilt, g_spoilt := PySem.W.mg_of X G a_spoilt, b_spoilt := b_spoilt, f_told := f_told, fd_told := _, F_told := F_told, g_told := PySem.W.mg_of X G a_told, b_told := b_told, f_due := f_due, fd_due := _, F_due := F_due, g_due := PySem.W.mg_of X G a_due, b_due := b_due, m_len := PySem.W.mg_none_of X G z_len, m_int := PySem.W.mg_none_of X G z_int, m_abs := PySem.W.mg_none_of X G z_abs, m_list := PySem.W.mg_none_of X G z_list, m_tuple := PySem.W.mg_none_of X G z_tuple, m_zip := PySem.W.mg_none_of X G z_zip, m_isinstance := PySem.W.mg_none_of X G z_isinstance, m_max := PySem.W.mg_none_of X G z_max, m_min := PySem.W.mg_none_of X G z_min, m_range := PySem.W.mg_none_of X G z_range, m_enumerate := PySem.W.mg_none_of X G z_enumerate, m_all := PySem.W.mg_none_of X G z_all, m_ValueError := PySem.W.mg_none_of X G z_ValueError, m_super := PySem.W.mg_none_of X G z_super, t_MOST_BOXES := t_MOST_BOXES, c_MOST_BOXES := PySem.W.mg_of X G a_MOST_BOXES, C := C, fI := fI, cc := cc, cda := cda, CB := CB, exc := exc, fld := ⟨⟨_, (by unfold PySem.W.clsIn; rw [xL]), rfl, rfl⟩, saC, fun f hf => by rcases List.mem_cons.mp hf with rfl | hf; exact nW; rw [List.mem_singleton.mp hf]; exact nN⟩, is1 := ⟨_, _, _, _, rfl, by decide +kernel, by decide +kernel, fun L => rfl⟩, is2 := ⟨_, _, _, _, rfl, by decide +kernel, by decide +kernel, fun L => rfl⟩, exI := ⟨gaC, ggC, exC, hdC, clC, snC, tkC, mrC⟩, xfc := ⟨gaC, ggC, exC, hdC⟩, noWord := nW, noMaker := nN, g_BoughError := PySem.W.mg_of X G aB, exm := PySem.W.exm_ref exB hdB tyB sCB, kC := kCC, kV := kVE, C_NoFit := C_NoFit, g_NoFit := PySem.W.mg_of X G g_NoFit, k_NoFit := k_NoFit, C_NoPrinter := C_NoPrinter, g_NoPrinter := PySem.W.mg_of X G g_NoPrinter, k_NoPrinter := k_NoPrinter, C_NoRow := C_NoRow, g_NoRow := PySem.W.mg_of X G g_NoRow, k_NoRow := k_NoRow, C_NoText := C_NoText, g_NoText := PySem.W.mg_of X G g_NoText, k_NoText := k_NoText, C_NoTree := C_NoTree, g_NoTree := PySem.W.mg_of X G g_NoTree, k_NoTree := k_NoTree, C_NoTurner := C_NoTurner, g_NoTurner := PySem.W.mg_of X G g_NoTurner, k_NoTurner := k_NoTurner, C_NoWood := C_NoWood, g_NoWood := PySem.W.mg_of X G g_NoWood, k_NoWood := k_NoWood, C_NoWord := C_NoWord, g_NoWord := PySem.W.mg_of X G g_NoWord, k_NoWord := k_NoWord, C_TooLong := C_TooLong, g_TooLong := PySem.W.mg_of X G g_TooLong, k_TooLong := k_TooLong, C_TooWide := C_TooWide, g_TooWide := PySem.W.mg_of X G g_TooWide, k_TooWide := k_TooWide }
  exact ⟨PySem.W.fnOf "law" "law" (defArgs st_law) (defBody st_law) (defScope st_law) .none kV_law dc_law pm_law an_law cd_law ct_law, fun s v => .of_eq rfl, fun base _ _ => ok_law T F_law⟩
end B14
open PySem PySem.W PyProof.Rows
set_option maxRecDepth 100000 in
set_option maxHeartbeats 0 in
theorem PySem.Challenge.cw_boughkept_k14_readers_looked_at_holds : PySem.Challenge.rw_boughkept_k14_readers_looked_at.Holds := by
  w_on; o_law; k_head; (case hw => w_witness2)
  k_fill
  refine L2.walk_of (l := PySem.Challenge.rw_boughkept_k14_readers_looked_at) (n := 63) (k := 6) (x := "_law_script") (CX := fun _ => L2.CX0) (sp := fun w => B14.spLaw _) rfl (by decide) rfl ⟨rfl, by decide, by decide⟩ (fun w h Y => PySem.W.kIn_of Y) ?F (fun _ _ a ns hl _ hS => ⟨a, ns, rfl, hS, hl, fun _ => rfl⟩) (fun _ _ _ _ _ h => h)
  case F =>
    intro w mg fa h KX G hmg
    refine' B14.all_mk KX G hmg ?a_cdiv ?l_cdiv ?c_cdiv ?k_cdiv ?a_table ?l_table ?c_table ?k_table ?a_lookreader ?l_lookreader ?c_lookreader ?k_lookreader ?a_looksums ?l_looksums ?c_looksums ?k_looksums ?a_isfr ?l_isfr ?c_isfr ?k_isfr ?a_box ?l_box ?c_box ?k_box ?a_take ?l_take ?c_take ?k_take ?a_names ?l_names ?c_names ?k_names ?a_wood ?l_wood ?c_wood ?k_wood ?a_lmakers ?l_lmakers ?c_lmakers ?k_lmakers ?a_shared ?l_shared ?c_shared ?k_shared ?a_lfrac ?l_lfrac ?c_lfrac ?k_lfrac ?a_reader ?l_reader ?c_reader ?k_reader ?a_rdue ?l_rdue ?c_rdue ?k_rdue ?a_with ?l_with ?c_with ?k_with ?a_sterm ?l_sterm ?c_sterm ?k_sterm ?a_spoilt ?l_spoilt ?c_spoilt ?k_spoilt ?a_told ?l_told ?c_told ?k_told ?a_due ?l_due ?c_due ?k_due ?a_law ?l_law ?c_law ?k_law ?z_len ?z_int ?z_abs ?z_list ?z_tuple ?z_zip ?z_isinstance ?z_max ?z_min ?z_range ?z_enumerate ?z_all ?z_ValueError ?z_super ?a_MOST_BOXES ?aC ?aB ?xL ?iC ?tI ?lI ?cI ?lcd ?vs2 ?fileE ?lcc ?supC ?opq ?topN ?subB ?subC ?kC ?exC ?tyC ?gaC ?ggC ?hdC ?clC ?snC ?tkC ?mrC ?saC ?nW ?nN ?exB ?hdB ?tyB ?sCB ?kCC ?kVE ?g_NoFit ?k_NoFit ?g_NoPrinter ?k_NoPrinter ?g_NoRow ?k_NoRow ?g_NoText ?k_NoText ?g_NoTree ?k_NoTree ?g_NoTurner ?k_NoTurner ?g_NoWood ?k_NoWood ?g_NoWord ?k_NoWord ?g_TooLong ?k_TooLong ?g_TooWide ?k_TooWide
    (case a_cdiv => k_is)
    (case l_cdiv => k_is)
    (case c_cdiv => k_is)
    (case k_cdiv => k_is)
    (case a_table => k_is)
    (case l_table => k_is)
    (case c_table => k_is)
    (case k_table => k_is)
    (case a_lookreader => k_is)
    (case l_lookreader => k_is)
    (case c_lookreader => k_is)
    (case k_lookreader => k_is)
    (case a_looksums => k_is)
    (case l_looksums => k_is)
    (case c_looksums => k_is)
    (case k_looksums => k_is)
    (case a_isfr => k_is)
    (case l_isfr => k_is)
    (case c_isfr => k_is)
    (case k_isfr => k_is)
    (case a_box => k_is)
    (case l_box => k_is)
    (case c_box => k_is)
    (case k_box => k_is)
    (case a_take => k_is)
    (case l_take => k_is)
    (case c_take => k_is)
    (case k_take => k_is)
    (case a_names => k_is)
    (case l_names => k_is)
    (case c_names => k_is)
    (case k_names => k_is)
    (case a_wood => k_is)
    (case l_wood => k_is)
    (case c_wood => k_is)
    (case k_wood => k_is)
    (case a_lmakers => k_is)
    (case l_lmakers => k_is)
    (case c_lmakers => k_is)
    (case k_lmakers => k_is)
    (case a_shared => k_is)
    (case l_shared => k_is)
    (case c_shared => k_is)
    (case k_shared => k_is)
    (case a_lfrac => k_is)
    (case l_lfrac => k_is)
    (case c_lfrac => k_is)
    (case k_lfrac => k_is)
    (case a_reader => k_is)
    (case l_reader => k_is)
    (case c_reader => k_is)
    (case k_reader => k_is)
    (case a_rdue => k_is)
    (case l_rdue => k_is)
    (case c_rdue => k_is)
    (case k_rdue => k_is)
    (case a_with => k_is)
    (case l_with => k_is)
    (case c_with => k_is)
    (case k_with => k_is)
    (case a_sterm => k_is)
    (case l_sterm => k_is)
    (case c_sterm => k_is)
    (case k_sterm => k_is)
    (case a_spoilt => k_is)
    (case l_spoilt => k_is)
    (case c_spoilt => k_is)
    (case k_spoilt => k_is)
    (case a_told => k_is)
    (case l_told => k_is)
    (case c_told => k_is)
    (case k_told => k_is)
    (case a_due => k_is)
    (case l_due => k_is)
    (case c_due => k_is)
    (case k_due => k_is)
    (case a_law => k_is)
    (case l_law => k_is)
    (case c_law => k_is)
    (case k_law => k_is)
    (case z_len => k_is)
    (case z_int => k_is)
    (case z_abs => k_is)
    (case z_list => k_is)
    (case z_tuple => k_is)
    (case z_zip => k_is)
    (case z_isinstance => k_is)
    (case z_max => k_is)
    (case z_min => k_is)
    (case z_range => k_is)
    (case z_enumerate => k_is)
    (case z_all => k_is)
    (case z_ValueError => k_is)
    (case z_super => k_is)
    (case a_MOST_BOXES => k_is)
    (case aC => k_is)
    (case aB => k_is)
    (case xL => k_is)
    (case iC => k_is)
    (case tI => k_is)
    (case lI => k_is)
    (case cI => k_is)
    (case lcd => k_is)
    (case vs2 => rfl)
    (case fileE => first | rfl | decide +kernel)
    (case lcc => k_is)
    (case supC => ks_is)
    (case opq => k_is)
    (case topN => first | rfl | decide +kernel)
    (case subB => k_is)
    (case subC => k_is)
    (case kC => k_is)
    (case exC => k_is)
    (case tyC => k_is)
    (case gaC => k_is)
    (case ggC => k_is)
    (case hdC => k_is)
    (case clC => k_is)
    (case snC => k_is)
    (case tkC => k_is)
    (case mrC => k_is)
    (case saC => k_is)
    (case nW => k_is)
    (case nN => k_is)
    (case exB => k_is)
    (case hdB => k_is)
    (case tyB => k_is)
    (case sCB => first | rfl | k_is)
    (case kCC => kit_is)
    (case kVE => kit_is)
    (case g_NoFit => k_is)
    (case k_NoFit => kit_is)
    (case g_NoPrinter => k_is)
    (case k_NoPrinter => kit_is)
    (case g_NoRow => k_is)
    (case k_NoRow => kit_is)
    (case g_NoText => k_is)
    (case k_NoText => kit_is)
    (case g_NoTree => k_is)
    (case k_NoTree => kit_is)
    (case g_NoTurner => k_is)
    (case k_NoTurner => kit_is)
    (case g_NoWood => k_is)
    (case k_NoWood => kit_is)
    (case g_NoWord => k_is)
    (case k_NoWord => kit_is)
    (case g_TooLong => k_is)
    (case k_TooLong => kit_is)
    (case g_TooWide => k_is)
    (case k_TooWide => kit_is)
