import PyProof.Rows.All
import Wide.All
import OpenK.AllK
import Wide.FinOn
import KE.KExcSuper
import HandS.Exc
import HandS.ExcInit
import HandS.ExcSuper
import HandS.ExcField
import KE.KIsAll
import KE.KTryMore
import HandS.Base
import HandS.Call
import HandS.ExcIs
import HandS.IsInst
import PyProof.ToksMono
import HandS.List
import HandS.Text
import HandS.Replace
import HandS.ReplaceLit
import PyProof.ListMulRoad
import PyProof.FactsAll.tuple_2
import PyProof.StrOps2
import HandS.TupMul
import HandS.Rev
import HandS.Iter
import HandS.RevTup
import HandS.MapObj
import PyProof.JoinWalk
import KE.KItemsList
import HandS.Zip
import KE.GoesEnum
import HandS.Wide
import HandS.Conv
import HandS.DictComp
import HandS.Words
import KE.KIntText
import PyProof.EqAt
import PyProof.EqKinds
import PyProof.TupleCall
import KE.RegKIsAll
import HandS.ForMost
import HandS.ForExc
import HandS.WideBits
import HandS.Defaults
import HandS.CallSlots
import HandS.StrMore
import HandS.Small
import HandS.Style
import HandS.Walk
import HandS.Codes
import HandS.TupLe
import HandS.TupAny
import HandS.More
import HandS.FStr
import PySem.Challenge.RW_boughkept_k02_fractions_written
set_option Elab.async false
set_option linter.all false
set_option maxRecDepth 100000
set_option maxHeartbeats 2000000
namespace PySem
namespace BX
open PySem.W PySem.Calls PyProof.Rows PySem.HandSPX
/-- what the written part says of an own exception class at C whose __init__ (at fI) begins with super().__init__(text) -/
structure ETxt (P : Program) (K : Frag) (mg : Str → Option Value) (C fI cc cda : Addr) (B newId initId : String) (bmB : List Value) (nmC qual : Str) (params : Arguments) (first : Stmt) (rest : List Stmt) (scope : Scope) : Prop where
  gC : mg nmC = some (.ref C)
  cls : ∃ nm q N bs bm sn sub ab col dd k0 k1 k2 k3 k5, K.lookup C = some (excClassObj nm q C N bs bm true sn sub ab col dd k0 k1 k2 k3 k5 newId) ∧ (∀ X : String, bm.contains (.type X) = bmB.contains (.type X))
  base : ExcBaseFacts B newId initId bmB
  kxs : KxsFacts B initId
  iC : findIn K (.ref C) "__init__" = some (some (.ref fI))
  tI : typeIn K (.ref fI) = some (.type "function")
  fn : ∃ (oc : Value) (od : Option Addr) (kV doc pm : Value) (an : Option Addr) (ct : Value) (osl : Array (Option Value)), K.lookup fI = some ⟨oc, od, .func (ksFn "__init__" qual params (first :: rest) scope .none kV doc pm an (.ref cda) ct cc), osl⟩
  code : codeIn K (.ref cda) qual = true
  cdo : ∃ (ccl : Value) (cdd : Option Addr) (vs : Array Value) (ccs : Array (Option Value)) (file : Str) (tf : Tok), K.lookup cda = some ⟨ccl, cdd, .fields vs, ccs⟩ ∧ vs[2]? = some (.str file tf) ∧ ((P.main.file : Str) == file) = true
  cell : ∃ (cl : Value) (cld : Option Addr) (csl : Array (Option Value)), K.lookup cc = some ⟨cl, cld, .cell (some (.ref C)), csl⟩
  sup : ks_superIn K C C "__init__" = some (some (.builtin initId))
  opq : nsIn K cStatics "thirdparty.any" = some none
  noS : mg "super" = none
  topS : (P.main.scope.names.lookup ("super" : Str)).isSome = false
  subB : subIn K (.ref C) (.type B) = some true
  subC : mroIn K C (.ref C) = some true
  kC : keepIn K (.ref C) = true
  exC : subIn K (.ref C) (.type "BaseException") = some true
  tyC : typeIn K (.ref C) = some (.type "type")
  kS : scope.names.lookup ("super" : Str) = some .globalImplicit
  kCl : scope.names.lookup ("__class__" : Str) = some .free
  kSf : scope.names.lookup ("self" : Str) = some .local
  kF : scope.kind = .function
  st : ∃ (p0 p1 p2 p3 p4 p5 : Pos) (msg : Str) (j : Nat), first = .Expr (.Call (.Attribute (.Call (.Name "super" p0) [] [] p1) "__init__" p2) [.Constant (.str msg) j p3] [] p4) p5 ∧ ∀ L : Addr,
    interactive (ksEnv qual scope L fI (.ref cda) cc) = false ∧ swapsWith (.Call (.Attribute (.Call (.Name "super" p0) [] [] p1) "__init__" p2) [.Constant (.str msg) j p3] [] p4) none p5.line (ksEnv qual scope L fI (.ref cda) cc) = pure false ∧
    ∃ pl : Sem Bool, eval (.Call (.Attribute (.Call (.Name "super" p0) [] [] p1) "__init__" p2) [.Constant (.str msg) j p3] [] p4) (ksEnv qual scope L fI (.ref cda) cc) = (do
      let ov ← attributeBase (.Call (.Name "super" p0) [] [] p1) "__init__" (ksEnv qual scope L fI (.ref cda) cc) (eval (.Call (.Name "super" p0) [] [] p1) (ksEnv qual scope L fI (.ref cda) cc))
      standAt p2.atName
      let (f, fst) ← holding [ov] (getMethod ov "__init__" pl)
      callWith p4 f fst (backTo p4 (starEach [.Constant (.str msg) j p3] (ksEnv qual scope L fI (.ref cda) cc))) [])
  hd : ∃ ar : Arg, (params.posonlyargs ++ params.args).head? = some ar ∧ ar.arg = ("self" : Str)
section
variable {prog : Program} {w : World} {A : Around} {E : Value → Shared → Prop} {K : Frag} {mg mb : Str → Option Value} {C fI cc cda : Addr} {B newId initId : String} {bmB : List Value} {nmC qual : Str} {params : Arguments} {first : Stmt} {rest : List Stmt} {scope : Scope}
variable {h : Heap} {g : Array GenState} {d : Drawn} {t : Nat} {os : OsState}
/-- super().__init__(text): the args are laid anew -/
theorem call_mw (T : ETxt prog K mg C fI cc cda B newId initId bmB nmC qual params first rest scope) {u e t0 : Addr} {us : List Value} {Q : Value → Shared → Prop} (X : K.In h)
    (he : h.get? e = some (excO C t0)) (hu : h.get? u = some (kxs_mw initId e)) (hrest : us.length ≤ sizeLine)
    (hq : ∀ h' t1, (∀ b o, b ≠ e → h.get? b = some o → h'.get? b = some o) → h'.get? e = some (excO C t1) → Q .none ⟨h', g, d, t, os⟩) :
    wpAny (model prog w) A (call (.ref u) us) Q E ⟨h, g, d, t, os⟩ := by
  obtain ⟨nm, q, N, bs, bm, sn, sub, ab, col, dd, k0, k1, k2, k3, k5, hC, hbm⟩ := T.cls
  refine wpAny_call (codeAny_of_tree ?_)
  show wpAny _ A.in1 (callAny (.ref u) ⟨us, []⟩) _ _ _
  simp only [callAny]
  refine wpAny_bind (wpAny_load hu ?_)
  simp only [kxs_mw, show (Value.type "method-wrapper" == Value.type "method" || Value.type "method-wrapper" == Value.type "builtin_function_or_method" || Value.type "method-wrapper" == Value.type "method-wrapper") = true by decide, if_true]
  refine KFB.if_so (by decide) ?_
  refine wpAny_bind (check_bound_init T.base.toExcCallFacts (X _ _ hC) he rfl ?_)
  refine wpAny_bind (wpAny_pure (wpAny_pure ?_))
  refine ⟨plainId_quiet T.base.init.plain _, codeAny_builtin T.base.initEntry ?_⟩
  exact exc_init_tree (cls := .ref C) (t0 := t0) (dv := none) (c2 := .none) (c3 := .none) (b4 := .bool false) he hrest fun h' k e' _ => hq h' h.objs.size k e'

theorem super_stmt (T : ETxt prog K mg C fI cc cda B newId initId bmB nmC qual params first rest scope) {L x t0 : Addr} {m : Str → Option Value} {Q : Flow → Shared → Prop} (X : K.In h)
    (hg : h.Ns mainGlobals mg) (hb : h.Ns builtinsNs mb) (hS : mb "super" = some (.type "super")) (hL : h.Ns L m) (hself : m "self" = some (.ref x)) (hx : h.get? x = some (excO C t0)) (hxC : x ≠ C)
    (hq : ∀ h' tk t1, (∀ b o, b ≠ x → h.get? b = some o → h'.get? b = some o) → h'.get? x = some (excO C t1) → Q .next ⟨h', g, d, tk, os⟩) :
    _root_.PySem.wpAt (model prog w) A (.func (first :: rest) (ksEnv qual scope L fI (.ref cda) cc))
      (exec first (ksEnv qual scope L fI (.ref cda) cc)) Q E ⟨h, g, d, t, os⟩ := by
  obtain ⟨nm, q, N, bs, bm, sn, sub, ab, col, dd, k0, k1, k2, k3, k5, hC, hbm⟩ := T.cls
  obtain ⟨oc, od, kV, doc, pm, an, ct, osl, hf⟩ := T.fn
  obtain ⟨ccl, cdd, vs, ccs, file, tf, hcda, hvs, hfile⟩ := T.cdo
  obtain ⟨cl, cld, csl, hcc⟩ := T.cell
  obtain ⟨ar, har, harg⟩ := T.hd
  have hcd : clsIn K C = some { name := nm, bases := bs, mro := .ref C :: bm, ns := N, qualname := q, hasDict := true, slotNames := sn, subclasses := sub, abstract := ab, collection := col, hasDel := false } := by unfold clsIn; rw [hC] <;> rfl
  have hD := X _ _ hC
  obtain ⟨p0, p1, p2, p3, p4, p5, msg, j, rfl, hst⟩ := T.st
  obtain ⟨hi, hsw, pl, hev⟩ := hst L
  refine ks_wpAt_Expr_any (hi := hi) (hs := hsw) ?_
  refine ks_wpAt_MethodCall (pl := pl) (he := hev) ?_
  refine ks_wpAt_super_base (env := ksEnv qual scope L fI (.ref cda) cc) T.kS T.kCl (by decide) rfl (X _ _ hf) rfl har rfl (X _ _ hcda) rfl hvs hfile T.topS ?_
  refine ks_loadName_global T.kF T.kS (loadGlobal_builtin (env := ksEnv qual scope L fI (.ref cda) cc) hg T.noS hb hS ⟨rfl, ?_⟩)
  refine wpAny_loadName_free T.kF T.kCl rfl ⟨_, X _ _ hcc, rfl⟩ ?_
  rw [harg]
  refine wpAny_loadName_local T.kF T.kSf hL hself ?_
  refine ks_wpAny_isType_cls hD rfl ⟨rfl, ?_⟩
  refine ks_wpAny_call_super hD rfl hx rfl (fun c e => by cases e) (looks_mroIn X T.subC) (fun h1 e1 k1' => ?_)
  have X1 : K.In h1 := X.keeps k1'
  have hx1 := k1' _ _ hx
  have hsup : alongIn K "__init__" (((Value.ref C :: bm).dropWhile (· != .ref C)).drop 1) = some (some (.builtin initId)) := by
    have z := T.sup
    unfold ks_superIn at z
    rw [hcd] at z
    exact z
  have hI1 : InstAt h1 x (excO C t0) C none := ⟨hx1, rfl, rfl, trivial⟩
  have hmro : Looks (model prog w) h1 (mroOf (.ref C)) (Value.ref C :: bm) := (looks_clsIn X1 hcd).andThen .now
  refine kxs_getMethod T.kxs e1 (looks_opaque X1 T.opq) hmro rfl X1 hsup (hI1.type.andThen (looks_subIn X1 T.subB)) hxC (by decide) ?_
  have hx2 : (h1.push (kxs_mw initId x)).get? x = some (excO C t0) := Heap.get?_push_of_some _ hx1
  have hu2 : (h1.push (kxs_mw initId x)).get? h1.objs.size = some (kxs_mw initId x) := Heap.get?_push_size _ rfl
  have X2 : K.In (h1.push (kxs_mw initId x)) := X1.keeps fun b o e => Heap.get?_push_of_some _ e
  refine kxs_callWith (i := initId) (x := x) (by rfl) ?_
  refine evalArgs_plain ?_
  refine Calls.spliced_cons ?_
  show wpAny _ _ (eval (.Constant (.str msg) j p3) _) _ _ _
  refine Calls.Constant_str ?_
  refine Calls.spliced_nil ?_
  refine ⟨hu2, ?_⟩
  refine call_mw T X2 hx2 hu2 (by rw [sizeLine_eq]; exact (by decide : 1 ≤ 16777216)) fun h' t1 k e => ?_
  exact hq h' _ t1 (fun b o hb z => k b o hb (Heap.get?_push_of_some _ (k1' b o z))) e
/-- __init__ without fields of its own -/
theorem init0 (T : ETxt prog K mg C fI cc cda B newId initId bmB nmC qual params first [] scope) {R : Result → Shared → Prop} {s : Shared} {x t0 : Addr} (X : K.In s.heap) (hlim : s.heap.NoLimit)
    (hg : s.heap.Ns mainGlobals mg) (hb : s.heap.Ns builtinsNs mb) (hS : mb "super" = some (.type "super")) (hx : s.heap.get? x = some (excO C t0)) (hxC : x ≠ C) (hroom : A.depth < recursionLimit)
    (hbind : ∀ (kV doc pm : Value) (an : Option Addr) (ct : Value), BindsTo s (ksFn "__init__" qual params [first] scope .none kV doc pm an (.ref cda) ct cc) ⟨[.ref x], []⟩ [("self", .ref x)])
    (hcell : ∀ z ∈ scope.names, z.2 ≠ .cell) (hco : scope.isCoroutine = false) (hgen : scope.isGenerator = false)
    (hq : ∀ h' tk t1, (∀ b o, b ≠ x → s.heap.get? b = some o → h'.get? b = some o) → h'.get? x = some (excO C t1) → R (.ok (.ret .none)) { s with heap := h', toks := tk }) :
    codeAny (model prog w) A (.call (.ref fI) ⟨[.ref x], []⟩) R s := by
  obtain ⟨oc, od, kV, doc, pm, an, ct, osl, hf⟩ := T.fn
  refine ks_codeAny_call_defAt (fd := ksFn "__init__" qual params [first] scope .none kV doc pm an (.ref cda) ct cc) (body := [first]) (binds := [("self", .ref x)]) hroom (X _ _ hf) rfl hlim (codeRec_of X T.code) rfl (hbind kV doc pm an ct) hcell ?_ (fun h₁ hns hk => ?_) hco hgen T.kF
  · intro y hy
    rw [List.mem_singleton.mp hy]
    exact T.kSf
  obtain ⟨hp, g, d, t, os⟩ := s
  refine ks_wpAt_execs_cons ?_
  refine super_stmt (mb := mb) (m := fun x_1 => List.lookup x_1 [(("self" : Str), Value.ref x)].reverse) T (X.keeps hk) ?_ ?_ hS hns (by simp [List.lookup]) (hk _ _ hx) hxC (fun h' tk t1 k e => ?_)
  · exact hg.keeps hk
  · exact hb.keeps hk
  · refine wpAt_of_wpAny (wpAny_execs_nil ?_)
    exact hq h' tk t1 (fun b o hb z => k b o hb (hk b o z)) e
/-- C() -/
theorem made0 (T : ETxt prog K mg C fI cc cda B newId initId bmB nmC qual params first [] scope) {R : Result → Shared → Prop} {s : Shared} (X : K.In s.heap) (hlim : s.heap.NoLimit)
    (hg : s.heap.Ns mainGlobals mg) (hb : s.heap.Ns builtinsNs mb) (hS : mb "super" = some (.type "super")) (hroom : A.depth + 1 < recursionLimit)
    (hbind : ∀ (x : Addr) (s : Shared) (kV doc pm : Value) (an : Option Addr) (ct : Value), BindsTo s (ksFn "__init__" qual params [first] scope .none kV doc pm an (.ref cda) ct cc) ⟨[.ref x], []⟩ [("self", .ref x)])
    (hcell : ∀ z ∈ scope.names, z.2 ≠ .cell) (hco : scope.isCoroutine = false) (hgen : scope.isGenerator = false)
    (hq : ∀ h' tk t1, (∀ b o, s.heap.get? b = some o → h'.get? b = some o) → h'.get? (s.heap.objs.size + 1) = some (excO C t1) → R (.ok (.ret (.ref (s.heap.objs.size + 1)))) { s with heap := h', toks := tk }) :
    codeAny (model prog w) A (.call (.ref C) ⟨[], []⟩) R s := by
  obtain ⟨nm, q, N, bs, bm, sn, sub, ab, col, dd, k0, k1, k2, k3, k5, hC, hbm⟩ := T.cls
  obtain ⟨hp, g, dr, tk, os⟩ := s
  have k : ∀ b o, hp.get? b = some o → ((hp.push (kdv_tup [])).push (excO C hp.objs.size)).get? b = some o := fun b o e => Heap.get?_push_of_some _ (Heap.get?_push_of_some _ e)
  have hget : ((hp.push (kdv_tup [])).push (excO C hp.objs.size)).get? (hp.objs.size + 1) = some (excO C hp.objs.size) := by heap_get
  have hne : hp.objs.size + 1 ≠ C := fun z => by
    have := Heap.lt_size (X _ _ hC)
    rw [← z] at this
    exact absurd this (by show ¬ (hp.objs.size + 1 < hp.objs.size); omega)
  refine call_own T.base hbm (X _ _ hC) (looks_findIn X T.iC) (fun self => bind_fn X self T.tI) (by rw [sizeLine_eq]; exact (by decide : 0 ≤ 16777216)) ?_
  refine init0 (mb := mb) (s := ⟨(hp.push (kdv_tup [])).push (excO C hp.objs.size), g, dr, tk, os⟩) T (X.keeps k) (hlim.keeps k) (hg.keeps k) (hb.keeps k) hS hget hne ?_ (hbind _ _) hcell hco hgen fun h' tk' t1 k' e => ?_
  · show A.depth + 1 < recursionLimit
    exact hroom
  · refine ⟨rfl, hq h' tk' t1 (fun b o z => k' b o (Nat.ne_of_lt (Nat.lt_succ_of_lt (Heap.lt_size z))) (k b o z)) e⟩
end
end BX
end PySem
namespace L2
open PySem PySem.Spec PyProof.Rows
theorem pmk_e0 {X : Cx} {C fI cc cda : Addr} {B newId initId : String} {bmB : List Value} {nmC qual : Str} {params : Arguments} {first : Stmt} {scope : Scope} {p pos : Pos} {k : Nat}
    (T : PySem.BX.ETxt X.prog X.K X.mg C fI cc cda B newId initId bmB nmC qual params first [] scope) (hr : Room k X.A) (hg : Gl X nmC)
    (hbind : ∀ (x : Addr) (s : Shared) (kV doc pm : Value) (an : Option Addr) (ct : Value), BindsTo s (PySem.W.ksFn "__init__" qual params [first] scope .none kV doc pm an (.ref cda) ct cc) ⟨[.ref x], []⟩ [("self", .ref x)])
    (hcell : ∀ z ∈ scope.names, z.2 ≠ .cell) (hco : scope.isCoroutine = false) (hgen : scope.isGenerator = false) (hdb : (nmC == ("__debug__" : Str)) = false := by decide) :
    PMk X (.Call (.Name nmC p) [] [] pos) (fun _ H Q => Q (.ref C) none H) := by
  intro pins s σ H Q I h
  refine wpAny_Call_Name_kw (ld_glob I hg T.gC ?_ hdb)
  refine PySem.W.callWith_K0 I.kIn T.kC ?_
  show wpAny _ _ (call (.ref C) []) _ _ _
  have hlim := I.nolimit
  obtain ⟨mb, hb1, hb2⟩ := I.mod.blt
  have hbS : mb "super" = some (.type "super") := (hb2 _ (by decide)).trans (by first | rfl | decide +kernel)
  obtain ⟨hp, gg, dr, tk, os⟩ := s
  refine wpAny_call (PySem.BX.made0 (mb := mb) T I.kIn hlim (I.mod.glob.keeps I.bk) (hb1.keeps I.bk) hbS (by have := hr.dp; omega) hbind hcell hco hgen fun h' tk' t1 kp e => ?_)
  show MkP X pins σ Q (.ref (hp.objs.size + 1)) ⟨h', gg, dr, tk', os⟩
  obtain ⟨G', g1, g2⟩ := restrict h' fun b => decide (b ≠ hp.objs.size + 1)
  have gk : ∀ b, b ≠ hp.objs.size + 1 → G'.get? b = h'.get? b := fun b hb => g1 b (decide_eq_true hb)
  have ge : G'.get? (hp.objs.size + 1) = none := g2 _ (by simp)
  have old : ∀ b o, hp.get? b = some o → G'.get? b = some o := fun b o q => (gk b (Nat.ne_of_lt (Nat.lt_succ_of_lt (Heap.lt_size q)))).trans (kp b o q)
  have J : Inv X pins σ H ⟨G', gg, dr, tk', os⟩ := I.kept (t' := tk') old
  refine ⟨hp.objs.size + 1, _, _, ⟨G', gg, dr, tk', os⟩, H, .ref C, none, rfl, J, fun b o q => ?_, ge, e, ⟨rfl, rfl⟩, rfl, rfl, I.hok.fresh (Nat.le_succ _), rfl, I.bare, raises_own T.exC T.tyC, h⟩
  by_cases hb : b = hp.objs.size + 1
  · have q' : G'.get? b = some o := q
    rw [hb, ge] at q'; cases q'
  · exact (gk b hb).symm.trans q
end L2
set_option Elab.async false
set_option linter.all false
set_option maxRecDepth 100000
set_option maxHeartbeats 2000000
namespace PySem
namespace BX
open PySem.W PySem.Calls PyProof.Rows PySem.HandSPX
section
variable {prog : Program} {w : World} {A : Around} {E : Value → Shared → Prop} {K : Frag} {C : Addr} {cd : ClassData}
variable {h : Heap} {g : Array GenState} {d : Drawn} {t : Nat} {os : OsState}
/-- self.f = p, the first field -/
theorem st_new {env : Env} {m : Str → Option Value} {x t1 : Addr} {f p : Str} {v : Value} {p1 p2 p3 pos : Pos} {Q : Flow → Shared → Prop} (X : K.In h) (hL : h.Ns env.locals m) (hself : m "self" = some (.ref x)) (hp : m p = some v)
    (hx : h.get? x = some (excO C t1)) (hcl : clsIn K C = some cd) (hm : refsVE cd.mro = true) (hh : cd.hasDict = true) (sa : findIn K (.ref C) "__setattr__" = some (some (.builtin "object.__setattr__"))) (hno : findIn K (.ref C) f = some none)
    (hk : env.scope.kind = .function) (hl : env.kindOf p = some .local) (hls : env.kindOf "self" = some .local) (hd : (p == ("__debug__" : Str)) = false) (hs : swapsWith (.Name p p3) (some (.Attribute (.Name "self" p1) f p2)) pos.line env = pure false)
    (hq : ∀ h' tk' dx, (∀ b o, b ≠ x → h.get? b = some o → h'.get? b = some o) → h.objs.size ≤ dx → dx ≠ x → h'.get? x = some { cls := .ref C, dict := some dx, data := .fields #[.ref t1, .none, .none, .none, .bool false, .none] } →
      h'.Ns1 dx (fun y => if y = f then some v else none) → Q .next ⟨h', g, d, tk', os⟩) :
    wpAny (model prog w) A (exec (.Assign [.Attribute (.Name "self" p1) f p2] (.Name p p3) pos) env) Q E ⟨h, g, d, t, os⟩ := by
  refine plainObj_wpAny_Assign_Attribute (ESX.ldL (s := ⟨h, g, d, t, os⟩) hL hp (ESX.ldL (s := ⟨h, g, d, t, os⟩) hL hself ?_ hk hls) hk hl hd) hs
  refine set_plain (s := ⟨h, g, d, t, os⟩) X (ox := excO C t1) (od := none) ⟨hx, rfl, rfl, trivial⟩ sa ?_
  exact exc_osa X hx hcl hm hh hno (fun h' tk' dx k dn dne hx' hn => hq h' tk' dx k dn dne hx' hn)
/-- self.f = p, a further field -/
theorem st_old {env : Env} {m m0 : Str → Option Value} {nl : List Str} {x t1 dx : Addr} {f p : Str} {v : Value} {p1 p2 p3 pos : Pos} {Q : Flow → Shared → Prop} (X : K.In h) (hL : h.Ns env.locals m) (hself : m "self" = some (.ref x)) (hp : m p = some v)
    (hx : h.get? x = some { cls := .ref C, dict := some dx, data := .fields #[.ref t1, .none, .none, .none, .bool false, .none] }) (hns : h.Ns1 dx m0) (hw : Within m0 nl) (hz : nl.length ≤ 1000) (hcl : clsIn K C = some cd) (hm : refsVE cd.mro = true) (hh : cd.hasDict = true)
    (sa : findIn K (.ref C) "__setattr__" = some (some (.builtin "object.__setattr__"))) (hno : findIn K (.ref C) f = some none)
    (hk : env.scope.kind = .function) (hl : env.kindOf p = some .local) (hls : env.kindOf "self" = some .local) (hd : (p == ("__debug__" : Str)) = false) (hs : swapsWith (.Name p p3) (some (.Attribute (.Name "self" p1) f p2)) pos.line env = pure false)
    (hq : ∀ h' tk', (∀ b o, b ≠ dx → h.get? b = some o → h'.get? b = some o) → h'.Ns1 dx (fun y => if y = f then some v else m0 y) → Q .next ⟨h', g, d, tk', os⟩) :
    wpAny (model prog w) A (exec (.Assign [.Attribute (.Name "self" p1) f p2] (.Name p p3) pos) env) Q E ⟨h, g, d, t, os⟩ := by
  refine plainObj_wpAny_Assign_Attribute (ESX.ldL (s := ⟨h, g, d, t, os⟩) hL hp (ESX.ldL (s := ⟨h, g, d, t, os⟩) hL hself ?_ hk hls) hk hl hd) hs
  obtain ⟨oD, _, _, hoD, _, _⟩ := hns.count hw
  refine set_plain (s := ⟨h, g, d, t, os⟩) X (ox := { cls := .ref C, dict := some dx, data := .fields #[.ref t1, .none, .none, .none, .bool false, .none] }) (od := some oD) ⟨hx, rfl, rfl, hoD⟩ sa ?_
  exact PySem.OEX.osa_old X hx hns hw hz hcl hm hh hno (fun h' tk' k hn => hq h' tk' k hn)
end
/-- what is asked of a class whose fields are set -/
structure FTxt (K : Frag) (C : Addr) (names : List Str) : Prop where
  cl : ∃ cd : ClassData, clsIn K C = some cd ∧ refsVE cd.mro = true ∧ cd.hasDict = true
  sa : findIn K (.ref C) "__setattr__" = some (some (.builtin "object.__setattr__"))
  no : ∀ f ∈ names, findIn K (.ref C) f = some none
/-- self.f = p -/
def IsF (qual : Str) (scope : Scope) (fI cda cc : Addr) (st : Stmt) (f p : Str) : Prop := ∃ a1 a2 a3 pos : Pos, st = .Assign [.Attribute (.Name "self" a1) f a2] (.Name p a3) pos ∧ scope.names.lookup p = some .local ∧ (p == ("__debug__" : Str)) = false ∧
  ∀ L : Addr, swapsWith (.Name p a3) (some (.Attribute (.Name "self" a1) f a2)) pos.line (ksEnv qual scope L fI (.ref cda) cc) = pure false
section
variable {prog : Program} {w : World} {A : Around} {E : Value → Shared → Prop} {K : Frag} {mg mb : Str → Option Value} {C fI cc cda : Addr} {B newId initId : String} {bmB : List Value} {nmC qual : Str} {params : Arguments} {first s1 s2 : Stmt} {scope : Scope}
theorem init1 {f p : Str} {u : Value} (T : ETxt prog K mg C fI cc cda B newId initId bmB nmC qual params first [s1] scope) (F : FTxt K C [f]) (i1 : IsF qual scope fI cda cc s1 f p) {R : Result → Shared → Prop} {s : Shared} {x t0 : Addr} (X : K.In s.heap) (hlim : s.heap.NoLimit)
    (hg : s.heap.Ns mainGlobals mg) (hb : s.heap.Ns builtinsNs mb) (hS : mb "super" = some (.type "super")) (hx : s.heap.get? x = some (excO C t0)) (hxK : ∀ b o, K.lookup b = some o → b ≠ x) (hroom : A.depth < recursionLimit)
    (hbind : ∀ (kV doc pm : Value) (an : Option Addr) (ct : Value), BindsTo s (ksFn "__init__" qual params [first, s1] scope .none kV doc pm an (.ref cda) ct cc) ⟨[.ref x, u], []⟩ [("self", .ref x), (p, u)])
    (hps : p ≠ "self") (hcell : ∀ z ∈ scope.names, z.2 ≠ .cell) (hco : scope.isCoroutine = false) (hgen : scope.isGenerator = false)
    (hq : ∀ h' tk t1 dx, (∀ b o, b ≠ x → s.heap.get? b = some o → h'.get? b = some o) → s.heap.objs.size ≤ dx → dx ≠ x → h'.get? x = some { cls := .ref C, dict := some dx, data := .fields #[.ref t1, .none, .none, .none, .bool false, .none] } →
      h'.Ns1 dx (fun y => if y = f then some u else none) → R (.ok (.ret .none)) { s with heap := h', toks := tk }) :
    codeAny (model prog w) A (.call (.ref fI) ⟨[.ref x, u], []⟩) R s := by
  obtain ⟨oc, od, kV, doc, pm, an, ct, osl, hf⟩ := T.fn
  obtain ⟨cd, hcl, hm, hh⟩ := F.cl
  obtain ⟨a1, a2, a3, pos, rfl, hlp, hdp, hsw⟩ := i1
  have hxC : x ≠ C := fun z => by
    obtain ⟨nm, q, N, bs, bm, sn, sub, ab, col, dd, k0, k1, k2, k3, k5, hC, hbm⟩ := T.cls
    exact hxK _ _ hC z.symm
  refine ks_codeAny_call_defAt (fd := ksFn "__init__" qual params [first, .Assign [.Attribute (.Name "self" a1) f a2] (.Name p a3) pos] scope .none kV doc pm an (.ref cda) ct cc) (body := [first, .Assign [.Attribute (.Name "self" a1) f a2] (.Name p a3) pos]) (binds := [("self", .ref x), (p, u)]) hroom (X _ _ hf) rfl hlim (codeRec_of X T.code) rfl (hbind kV doc pm an ct) hcell ?_ (fun h₁ hns hk => ?_) hco hgen T.kF
  · intro y hy
    rcases List.mem_cons.mp hy with rfl | hy
    · exact T.kSf
    · rw [List.mem_singleton.mp hy]
      exact hlp
  have hms : List.lookup ("self" : Str) [(("self" : Str), Value.ref x), (p, u)].reverse = some (.ref x) := by
    show List.lookup ("self" : Str) [(p, u), (("self" : Str), Value.ref x)] = _
    rw [List.lookup_cons, show (("self" : Str) == p) = false from beq_false_of_ne (Ne.symm hps)]
    rfl
  have hmp : List.lookup p [(("self" : Str), Value.ref x), (p, u)].reverse = some u := by
    show List.lookup p [(p, u), (("self" : Str), Value.ref x)] = _
    rw [List.lookup_cons, show (p == p) = true from beq_self_eq_true p]
  obtain ⟨hp, g, d, t, os⟩ := s
  have hLx : hp.objs.size ≠ x := (Nat.ne_of_lt (Heap.lt_size hx)).symm
  refine ks_wpAt_execs_cons ?_
  refine super_stmt (mb := mb) (m := fun y => List.lookup y [(("self" : Str), Value.ref x), (p, u)].reverse) T (X.keeps hk) (hg.keeps hk) (hb.keeps hk) hS hns hms (hk _ _ hx) hxC (fun h' tk t1 k e => ?_)
  have X' : K.In h' := fun b o l => k b o (hxK b o l) (hk _ _ (X b o l))
  have hns' : h'.Ns hp.objs.size (fun y => List.lookup y [(("self" : Str), Value.ref x), (p, u)].reverse) := hns.at fun o z => k _ _ hLx z
  refine wpAt_of_wpAny (wpAny_execs_cons ?_)
  refine st_new X' hns' hms hmp e hcl hm hh F.sa (F.no f List.mem_cons_self) T.kF hlp T.kSf hdp (hsw _) fun h2 tk2 dx k2 dn dne hx2 hn2 => ?_
  refine wpAny_execs_nil ?_
  refine hq h2 tk2 t1 dx (fun b o hb z => k2 b o hb (k b o hb (hk _ _ z))) ?_ dne hx2 hn2
  have : hp.objs.size < h'.objs.size := by
    obtain ⟨o, _, _, z, _⟩ := hns'
    exact Heap.lt_size z
  show hp.objs.size ≤ dx
  omega
theorem init2 {f1 f2 p1 p2 : Str} {u1 u2 : Value} (T : ETxt prog K mg C fI cc cda B newId initId bmB nmC qual params first [s1, s2] scope) (F : FTxt K C [f1, f2]) (i1 : IsF qual scope fI cda cc s1 f1 p1) (i2 : IsF qual scope fI cda cc s2 f2 p2) {R : Result → Shared → Prop} {s : Shared} {x t0 : Addr} (X : K.In s.heap) (hlim : s.heap.NoLimit)
    (hg : s.heap.Ns mainGlobals mg) (hb : s.heap.Ns builtinsNs mb) (hS : mb "super" = some (.type "super")) (hx : s.heap.get? x = some (excO C t0)) (hxK : ∀ b o, K.lookup b = some o → b ≠ x) (hroom : A.depth < recursionLimit)
    (hbind : ∀ (kV doc pm : Value) (an : Option Addr) (ct : Value), BindsTo s (ksFn "__init__" qual params [first, s1, s2] scope .none kV doc pm an (.ref cda) ct cc) ⟨[.ref x, u1, u2], []⟩ [("self", .ref x), (p1, u1), (p2, u2)])
    (hps : p1 ≠ "self" ∧ p2 ≠ "self" ∧ p1 ≠ p2) (hcell : ∀ z ∈ scope.names, z.2 ≠ .cell) (hco : scope.isCoroutine = false) (hgen : scope.isGenerator = false)
    (hq : ∀ h' tk t1 dx, (∀ b o, b ≠ x → s.heap.get? b = some o → h'.get? b = some o) → s.heap.objs.size ≤ dx → dx ≠ x → h'.get? x = some { cls := .ref C, dict := some dx, data := .fields #[.ref t1, .none, .none, .none, .bool false, .none] } →
      h'.Ns1 dx (fun y => if y = f2 then some u2 else if y = f1 then some u1 else none) → R (.ok (.ret .none)) { s with heap := h', toks := tk }) :
    codeAny (model prog w) A (.call (.ref fI) ⟨[.ref x, u1, u2], []⟩) R s := by
  obtain ⟨oc, od, kV, doc, pm, an, ct, osl, hf⟩ := T.fn
  obtain ⟨cd, hcl, hm, hh⟩ := F.cl
  obtain ⟨a1, a2, a3, pos, rfl, hlp, hdp, hsw⟩ := i1
  obtain ⟨b1, b2, b3, pos', rfl, hlp', hdp', hsw'⟩ := i2
  have hxC : x ≠ C := fun z => by
    obtain ⟨nm, q, N, bs, bm, sn, sub, ab, col, dd, k0, k1, k2, k3, k5, hC, hbm⟩ := T.cls
    exact hxK _ _ hC z.symm
  refine ks_codeAny_call_defAt (fd := ksFn "__init__" qual params [first, .Assign [.Attribute (.Name "self" a1) f1 a2] (.Name p1 a3) pos, .Assign [.Attribute (.Name "self" b1) f2 b2] (.Name p2 b3) pos'] scope .none kV doc pm an (.ref cda) ct cc) (body := [first, .Assign [.Attribute (.Name "self" a1) f1 a2] (.Name p1 a3) pos, .Assign [.Attribute (.Name "self" b1) f2 b2] (.Name p2 b3) pos']) (binds := [("self", .ref x), (p1, u1), (p2, u2)]) hroom (X _ _ hf) rfl hlim (codeRec_of X T.code) rfl (hbind kV doc pm an ct) hcell ?_ (fun h₁ hns hk => ?_) hco hgen T.kF
  · intro y hy
    rcases List.mem_cons.mp hy with rfl | hy
    · exact T.kSf
    · rcases List.mem_cons.mp hy with rfl | hy
      · exact hlp
      · rw [List.mem_singleton.mp hy]
        exact hlp'
  have hms : List.lookup ("self" : Str) [(("self" : Str), Value.ref x), (p1, u1), (p2, u2)].reverse = some (.ref x) := by
    show List.lookup ("self" : Str) [(p2, u2), (p1, u1), (("self" : Str), Value.ref x)] = _
    rw [List.lookup_cons, show (("self" : Str) == p2) = false from beq_false_of_ne (Ne.symm hps.2.1)]
    show List.lookup ("self" : Str) [(p1, u1), (("self" : Str), Value.ref x)] = _
    rw [List.lookup_cons, show (("self" : Str) == p1) = false from beq_false_of_ne (Ne.symm hps.1)]
    rfl
  have hmp : List.lookup p1 [(("self" : Str), Value.ref x), (p1, u1), (p2, u2)].reverse = some u1 := by
    show List.lookup p1 [(p2, u2), (p1, u1), (("self" : Str), Value.ref x)] = _
    rw [List.lookup_cons, show (p1 == p2) = false from beq_false_of_ne hps.2.2]
    show List.lookup p1 [(p1, u1), (("self" : Str), Value.ref x)] = _
    rw [List.lookup_cons, show (p1 == p1) = true from beq_self_eq_true p1]
  have hmp2 : List.lookup p2 [(("self" : Str), Value.ref x), (p1, u1), (p2, u2)].reverse = some u2 := by
    show List.lookup p2 [(p2, u2), (p1, u1), (("self" : Str), Value.ref x)] = _
    rw [List.lookup_cons, show (p2 == p2) = true from beq_self_eq_true p2]
  obtain ⟨hp, g, d, t, os⟩ := s
  have hLx : hp.objs.size ≠ x := (Nat.ne_of_lt (Heap.lt_size hx)).symm
  refine ks_wpAt_execs_cons ?_
  refine super_stmt (mb := mb) (m := fun y => List.lookup y [(("self" : Str), Value.ref x), (p1, u1), (p2, u2)].reverse) T (X.keeps hk) (hg.keeps hk) (hb.keeps hk) hS hns hms (hk _ _ hx) hxC (fun h' tk t1 k e => ?_)
  have X' : K.In h' := fun b o l => k b o (hxK b o l) (hk _ _ (X b o l))
  have hns' : h'.Ns hp.objs.size (fun y => List.lookup y [(("self" : Str), Value.ref x), (p1, u1), (p2, u2)].reverse) := hns.at fun o z => k _ _ hLx z
  have hlt : hp.objs.size < h'.objs.size := by
    obtain ⟨o, _, _, z, _⟩ := hns'
    exact Heap.lt_size z
  refine wpAt_of_wpAny (wpAny_execs_cons ?_)
  refine st_new X' hns' hms hmp e hcl hm hh F.sa (F.no f1 List.mem_cons_self) T.kF hlp T.kSf hdp (hsw _) fun h2 tk2 dx k2 dn dne hx2 hn2 => ?_
  have X2 : K.In h2 := fun b o l => k2 b o (hxK b o l) (X' b o l)
  have hns2 : h2.Ns hp.objs.size (fun y => List.lookup y [(("self" : Str), Value.ref x), (p1, u1), (p2, u2)].reverse) := hns'.at fun o z => k2 _ _ hLx z
  refine wpAny_execs_cons ?_
  refine st_old X2 hns2 hms hmp2 hx2 hn2 (Within.cons f1 u1 Within.nil) (by show 1 ≤ 1000; decide) hcl hm hh F.sa (F.no f2 (List.mem_cons_of_mem _ List.mem_cons_self)) T.kF hlp' T.kSf hdp' (hsw' _) fun h3 tk3 k3 hn3 => ?_
  refine wpAny_execs_nil ?_
  have ndx : ∀ {b : Addr} {o : Obj}, hp.get? b = some o → b ≠ dx := fun {b o} z y => by
    have := Heap.lt_size z
    rw [y] at this
    exact Nat.lt_irrefl _ (Nat.lt_of_lt_of_le this (Nat.le_trans (Nat.le_of_lt hlt) dn))
  refine hq h3 tk3 t1 dx (fun b o hb z => k3 b o (ndx z) (k2 b o hb (k b o hb (hk _ _ z)))) (by show hp.objs.size ≤ dx; omega) dne (k3 _ _ (Ne.symm dne) hx2) hn3
/-- C(u) -/
theorem made1 {f p : Str} {u : Value} (T : ETxt prog K mg C fI cc cda B newId initId bmB nmC qual params first [s1] scope) (F : FTxt K C [f]) (i1 : IsF qual scope fI cda cc s1 f p) {R : Result → Shared → Prop} {s : Shared} (X : K.In s.heap) (hlim : s.heap.NoLimit)
    (hg : s.heap.Ns mainGlobals mg) (hb : s.heap.Ns builtinsNs mb) (hS : mb "super" = some (.type "super")) (hroom : A.depth + 1 < recursionLimit)
    (hbind : ∀ (x : Addr) (s : Shared) (kV doc pm : Value) (an : Option Addr) (ct : Value), BindsTo s (ksFn "__init__" qual params [first, s1] scope .none kV doc pm an (.ref cda) ct cc) ⟨[.ref x, u], []⟩ [("self", .ref x), (p, u)])
    (hps : p ≠ "self") (hcell : ∀ z ∈ scope.names, z.2 ≠ .cell) (hco : scope.isCoroutine = false) (hgen : scope.isGenerator = false)
    (hq : ∀ h' tk t1 dx, (∀ b o, s.heap.get? b = some o → h'.get? b = some o) → s.heap.objs.size ≤ dx → dx ≠ s.heap.objs.size + 1 → h'.get? (s.heap.objs.size + 1) = some { cls := .ref C, dict := some dx, data := .fields #[.ref t1, .none, .none, .none, .bool false, .none] } →
      h'.Ns1 dx (fun y => if y = f then some u else none) → R (.ok (.ret (.ref (s.heap.objs.size + 1)))) { s with heap := h', toks := tk }) :
    codeAny (model prog w) A (.call (.ref C) ⟨[u], []⟩) R s := by
  obtain ⟨nm, q, N, bs, bm, sn, sub, ab, col, dd, k0, k1, k2, k3, k5, hC, hbm⟩ := T.cls
  obtain ⟨hp, g, dr, tk, os⟩ := s
  have k : ∀ b o, hp.get? b = some o → ((hp.push (kdv_tup [u])).push (excO C hp.objs.size)).get? b = some o := fun b o e => Heap.get?_push_of_some _ (Heap.get?_push_of_some _ e)
  have hget : ((hp.push (kdv_tup [u])).push (excO C hp.objs.size)).get? (hp.objs.size + 1) = some (excO C hp.objs.size) := by heap_get
  have hne : ∀ {b : Addr} {o : Obj}, hp.get? b = some o → b ≠ hp.objs.size + 1 := fun {b o} z y => by
    have := Heap.lt_size z
    rw [y] at this
    exact absurd this (by show ¬ (hp.objs.size + 1 < hp.objs.size); omega)
  refine call_own T.base hbm (X _ _ hC) (looks_findIn X T.iC) (fun self => bind_fn X self T.tI) (by rw [sizeLine_eq]; exact (by decide : 1 ≤ 16777216)) ?_
  refine init1 (mb := mb) (s := ⟨(hp.push (kdv_tup [u])).push (excO C hp.objs.size), g, dr, tk, os⟩) T F i1 (X.keeps k) (hlim.keeps k) (hg.keeps k) (hb.keeps k) hS hget (fun b o l => hne (X b o l)) ?_ (hbind _ _) hps hcell hco hgen fun h' tk' t1 dx k' hdx ndx e hn => ?_
  · show A.depth + 1 < recursionLimit
    exact hroom
  · refine ⟨rfl, hq h' tk' t1 dx (fun b o z => k' b o (hne z) (k b o z)) ?_ ndx e hn⟩
    have : hp.objs.size + 2 ≤ dx := by
      have z : ((hp.push (kdv_tup [u])).push (excO C hp.objs.size)).objs.size = hp.objs.size + 2 := by simp [Heap.push]
      rw [← z]
      exact hdx
    show hp.objs.size ≤ dx
    omega
/-- C(u1, u2) -/
theorem made2 {f1 f2 p1 p2 : Str} {u1 u2 : Value} (T : ETxt prog K mg C fI cc cda B newId initId bmB nmC qual params first [s1, s2] scope) (F : FTxt K C [f1, f2]) (i1 : IsF qual scope fI cda cc s1 f1 p1) (i2 : IsF qual scope fI cda cc s2 f2 p2) {R : Result → Shared → Prop} {s : Shared} (X : K.In s.heap) (hlim : s.heap.NoLimit)
    (hg : s.heap.Ns mainGlobals mg) (hb : s.heap.Ns builtinsNs mb) (hS : mb "super" = some (.type "super")) (hroom : A.depth + 1 < recursionLimit)
    (hbind : ∀ (x : Addr) (s : Shared) (kV doc pm : Value) (an : Option Addr) (ct : Value), BindsTo s (ksFn "__init__" qual params [first, s1, s2] scope .none kV doc pm an (.ref cda) ct cc) ⟨[.ref x, u1, u2], []⟩ [("self", .ref x), (p1, u1), (p2, u2)])
    (hps : p1 ≠ "self" ∧ p2 ≠ "self" ∧ p1 ≠ p2) (hcell : ∀ z ∈ scope.names, z.2 ≠ .cell) (hco : scope.isCoroutine = false) (hgen : scope.isGenerator = false)
    (hq : ∀ h' tk t1 dx, (∀ b o, s.heap.get? b = some o → h'.get? b = some o) → s.heap.objs.size ≤ dx → dx ≠ s.heap.objs.size + 1 → h'.get? (s.heap.objs.size + 1) = some { cls := .ref C, dict := some dx, data := .fields #[.ref t1, .none, .none, .none, .bool false, .none] } →
      h'.Ns1 dx (fun y => if y = f2 then some u2 else if y = f1 then some u1 else none) → R (.ok (.ret (.ref (s.heap.objs.size + 1)))) { s with heap := h', toks := tk }) :
    codeAny (model prog w) A (.call (.ref C) ⟨[u1, u2], []⟩) R s := by
  obtain ⟨nm, q, N, bs, bm, sn, sub, ab, col, dd, k0, k1, k2, k3, k5, hC, hbm⟩ := T.cls
  obtain ⟨hp, g, dr, tk, os⟩ := s
  have k : ∀ b o, hp.get? b = some o → ((hp.push (kdv_tup [u1, u2])).push (excO C hp.objs.size)).get? b = some o := fun b o e => Heap.get?_push_of_some _ (Heap.get?_push_of_some _ e)
  have hget : ((hp.push (kdv_tup [u1, u2])).push (excO C hp.objs.size)).get? (hp.objs.size + 1) = some (excO C hp.objs.size) := by heap_get
  have hne : ∀ {b : Addr} {o : Obj}, hp.get? b = some o → b ≠ hp.objs.size + 1 := fun {b o} z y => by
    have := Heap.lt_size z
    rw [y] at this
    exact absurd this (by show ¬ (hp.objs.size + 1 < hp.objs.size); omega)
  refine call_own T.base hbm (X _ _ hC) (looks_findIn X T.iC) (fun self => bind_fn X self T.tI) (by rw [sizeLine_eq]; exact (by decide : 2 ≤ 16777216)) ?_
  refine init2 (mb := mb) (s := ⟨(hp.push (kdv_tup [u1, u2])).push (excO C hp.objs.size), g, dr, tk, os⟩) T F i1 i2 (X.keeps k) (hlim.keeps k) (hg.keeps k) (hb.keeps k) hS hget (fun b o l => hne (X b o l)) ?_ (hbind _ _) hps hcell hco hgen fun h' tk' t1 dx k' hdx ndx e hn => ?_
  · show A.depth + 1 < recursionLimit
    exact hroom
  · refine ⟨rfl, hq h' tk' t1 dx (fun b o z => k' b o (hne z) (k b o z)) ?_ ndx e hn⟩
    have : hp.objs.size + 2 ≤ dx := by
      have z : ((hp.push (kdv_tup [u1, u2])).push (excO C hp.objs.size)).objs.size = hp.objs.size + 2 := by simp [Heap.push]
      rw [← z]
      exact hdx
    show hp.objs.size ≤ dx
    omega
end
end BX
end PySem
namespace L2
open PySem PySem.Spec PyProof.Rows
/-- C(e) -/
def tMk1 (C : Addr) (f : Str) (ta : TA) : St → Hp → XK → Prop := fun σ H Q => ta σ H fun vs H1 => ∃ y, vs = [y] ∧ ∀ dx, H1 dx = none → Q (.ref C) (some dx) (upd H1 dx (.xd [(f, y)]))
/-- C(e1, e2) -/
def tMk2 (C : Addr) (f1 f2 : Str) (ta : TA) : St → Hp → XK → Prop := fun σ H Q => ta σ H fun vs H1 => ∃ y1 y2, vs = [y1, y2] ∧ ∀ dx, H1 dx = none → Q (.ref C) (some dx) (upd H1 dx (.xd [(f2, y2), (f1, y1)]))
section
variable {X : Cx} {C fI cc cda : Addr} {B newId initId : String} {bmB : List Value} {nmC qual : Str} {params : Arguments} {first s1 s2 : Stmt} {scope : Scope} {p pos : Pos} {k : Nat} {ta : TA}
theorem mk_fin {pins : List (Addr × Obj)} {σ : St} {H : Hp} {Q : XK} {hp h' : Heap} {gg : Array GenState} {dr : Drawn} {tk tk' : Nat} {os : OsState} {t1 dx : Addr} {fs : List (Str × V)} {mA : Str → Option Value} (I : Inv X pins σ H ⟨hp, gg, dr, tk, os⟩) (r : Raises X (.ref C))
    (kp : ∀ b o, hp.get? b = some o → h'.get? b = some o) (hdx : hp.objs.size ≤ dx) (ndx : dx ≠ hp.objs.size + 1) (e : h'.get? (hp.objs.size + 1) = some ({ cls := .ref C, dict := some dx, data := .fields #[.ref t1, .none, .none, .none, .bool false, .none] } : Obj)) (hn : h'.Ns1 dx mA) (rel : ∀ f, RelO (fs.lookup f) (mA f))
    (q : Q (.ref C) (some dx) (upd H dx (.xd fs))) : MkP X pins σ Q (.ref (hp.objs.size + 1)) ⟨h', gg, dr, tk', os⟩ := by
  obtain ⟨G', g1, g2⟩ := restrict h' fun b => decide (b ≠ hp.objs.size + 1)
  have gk : ∀ b, b ≠ hp.objs.size + 1 → G'.get? b = h'.get? b := fun b hb => g1 b (decide_eq_true hb)
  have ge : G'.get? (hp.objs.size + 1) = none := g2 _ (by simp)
  have old : ∀ b o, hp.get? b = some o → G'.get? b = some o := fun b o q => (gk b (Nat.ne_of_lt (Nat.lt_succ_of_lt (Heap.lt_size q)))).trans (kp b o q)
  have J : Inv X pins σ (upd H dx (.xd fs)) ⟨G', gg, dr, tk', os⟩ := I.laid (t' := tk') old hdx ⟨mA, hn.at fun o y => (gk dx ndx).trans y, rel⟩
  refine ⟨hp.objs.size + 1, _, _, ⟨G', gg, dr, tk', os⟩, _, .ref C, some dx, rfl, J, fun b o q => ?_, ge, e, ⟨rfl, rfl⟩, rfl, rfl, ?_, rfl, I.bare, r, q⟩
  · by_cases hb : b = hp.objs.size + 1
    · have q' : G'.get? b = some o := q
      rw [hb, ge] at q'; cases q'
    · exact (gk b hb).symm.trans q
  · rw [upd_ne (Ne.symm ndx)]
    exact I.hok.fresh (Nat.le_succ _)
theorem pmk_e1 {f pn : Str} {e : Expr} (T : PySem.BX.ETxt X.prog X.K X.mg C fI cc cda B newId initId bmB nmC qual params first [s1] scope) (F : PySem.BX.FTxt X.K C [f]) (i1 : PySem.BX.IsF qual scope fI cda cc s1 f pn) (hr : Room k X.A) (hg : Gl X nmC)
    (hbind : ∀ (u : Value) (x : Addr) (s : Shared) (kV doc pm : Value) (an : Option Addr) (ct : Value), BindsTo s (PySem.W.ksFn "__init__" qual params [first, s1] scope .none kV doc pm an (.ref cda) ct cc) ⟨[.ref x, u], []⟩ [("self", .ref x), (pn, u)])
    (hps : pn ≠ "self") (hcell : ∀ z ∈ scope.names, z.2 ≠ .cell) (hco : scope.isCoroutine = false) (hgen : scope.isGenerator = false) (ha : PA X [e] ta) (hdb : (nmC == ("__debug__" : Str)) = false := by decide)
    (he : starEach [e] X.env = (false, eval e X.env) :: starEach [] X.env := by rfl) (hpl : (backTo pos (starEach [] X.env)).any (·.1) = false := by rfl) :
    PMk X (.Call (.Name nmC p) [e] [] pos) (tMk1 C f ta) := by
  intro pins s σ H Q I h
  refine wpAny_Call_Name_kw (ld_glob I hg T.gC ?_ hdb)
  refine PySem.W.callWith_K (h₀ := X.base) I.ok.mod.kin T.kC (thn (ha.run pos pins s σ H _ I h) fun us s1 ⟨vs, H1, I1, r1, y, ev, q1⟩ => ⟨I1.kIn, ?_⟩) he hpl
  subst ev
  cases r1 with
  | @cons _ u _ ur ry rr =>
    cases rr
    show wpAny _ _ (call (.ref C) [u]) _ _ _
    have hlim := I1.nolimit
    obtain ⟨mb, hb1, hb2⟩ := I1.mod.blt
    have hbS : mb "super" = some (.type "super") := (hb2 _ (by decide)).trans (by first | rfl | decide +kernel)
    obtain ⟨hp, gg, dr, tk, os⟩ := s1
    refine wpAny_call (PySem.BX.made1 (mb := mb) T F i1 I1.kIn hlim (I1.mod.glob.keeps I1.bk) (hb1.keeps I1.bk) hbS (by have := hr.dp; omega) (hbind u) hps hcell hco hgen fun h' tk' t1 dx kp hdx ndx e hn => ?_)
    exact mk_fin I1 (raises_own T.exC T.tyC) kp hdx ndx e hn (relO_put (fs := []) ry fun g => True.intro) (q1 dx (I1.hok.fresh hdx))
theorem pmk_e2 {f1 f2 p1 p2 : Str} {e e' : Expr} (T : PySem.BX.ETxt X.prog X.K X.mg C fI cc cda B newId initId bmB nmC qual params first [s1, s2] scope) (F : PySem.BX.FTxt X.K C [f1, f2]) (i1 : PySem.BX.IsF qual scope fI cda cc s1 f1 p1) (i2 : PySem.BX.IsF qual scope fI cda cc s2 f2 p2) (hr : Room k X.A) (hg : Gl X nmC)
    (hbind : ∀ (u1 u2 : Value) (x : Addr) (s : Shared) (kV doc pm : Value) (an : Option Addr) (ct : Value), BindsTo s (PySem.W.ksFn "__init__" qual params [first, s1, s2] scope .none kV doc pm an (.ref cda) ct cc) ⟨[.ref x, u1, u2], []⟩ [("self", .ref x), (p1, u1), (p2, u2)])
    (hps : p1 ≠ "self" ∧ p2 ≠ "self" ∧ p1 ≠ p2) (hcell : ∀ z ∈ scope.names, z.2 ≠ .cell) (hco : scope.isCoroutine = false) (hgen : scope.isGenerator = false) (ha : PA X [e, e'] ta) (hdb : (nmC == ("__debug__" : Str)) = false := by decide)
    (he : starEach [e, e'] X.env = (false, eval e X.env) :: starEach [e'] X.env := by rfl) (hpl : (backTo pos (starEach [e'] X.env)).any (·.1) = false := by rfl) :
    PMk X (.Call (.Name nmC p) [e, e'] [] pos) (tMk2 C f1 f2 ta) := by
  intro pins s σ H Q I h
  refine wpAny_Call_Name_kw (ld_glob I hg T.gC ?_ hdb)
  refine PySem.W.callWith_K (h₀ := X.base) I.ok.mod.kin T.kC (thn (ha.run pos pins s σ H _ I h) fun us s1 ⟨vs, H1, I1, r1, y1, y2, ev, q1⟩ => ⟨I1.kIn, ?_⟩) he hpl
  subst ev
  cases r1 with
  | @cons _ u _ ur ry rr =>
    cases rr with
    | @cons _ u2 _ ur2 ry2 rr2 =>
      cases rr2
      show wpAny _ _ (call (.ref C) [u, u2]) _ _ _
      have hlim := I1.nolimit
      obtain ⟨mb, hb1, hb2⟩ := I1.mod.blt
      have hbS : mb "super" = some (.type "super") := (hb2 _ (by decide)).trans (by first | rfl | decide +kernel)
      obtain ⟨hp, gg, dr, tk, os⟩ := s1
      refine wpAny_call (PySem.BX.made2 (mb := mb) T F i1 i2 I1.kIn hlim (I1.mod.glob.keeps I1.bk) (hb1.keeps I1.bk) hbS (by have := hr.dp; omega) (hbind u u2) hps hcell hco hgen fun h' tk' t1 dx kp hdx ndx e hn => ?_)
      exact mk_fin I1 (raises_own T.exC T.tyC) kp hdx ndx e hn (relO_put ry2 (relO_put (fs := []) ry fun g => True.intro)) (q1 dx (I1.hok.fresh hdx))
end
end L2
set_option Elab.async false
set_option linter.all false
set_option maxRecDepth 100000
set_option maxHeartbeats 4000000
namespace BI
open PySem PySem.W PySem.Spec PySem.Calls PyProof.Rows L2
section
variable {prog : Program} {w : World} {A : Around} {E : Value → Shared → Prop} {s : Shared} {K : Frag} {x D : Addr} {ob : Obj} {own : Option Obj}
theorem find_data {name : Str} {a g : Value} (isc : (clsIn K D).isSome = true) (at' : findIn K (.ref D) name = some (some a)) (ge : specialIn K a "__get__" = some (some g)) (tk : takesIn K a = some true) : findObj K D own name = some (.bind g a) := by
  obtain ⟨cd, e⟩ := Option.isSome_iff_exists.mp isc
  unfold findObj
  rw [e, Option.bind_some, at', Option.bind_some]
  simp [ge, tk]
/-- e.__class__, e with fields or without -/
theorem class_of {Q : Option Value → Shared → Prop} (Z : ExcC K D) (kin : K.In s.heap) (at' : InstAt s.heap x ob D own) (hq : Q (some (.ref D)) { s with toks := s.toks + 1 }) : wpAny (model prog w) A (getAttr? (.ref x) "__class__") Q E s := by
  have fo : findObj K D own "__class__" = some (.bind (.builtin "getset_descriptor.__get__") (.builtin "object.__class__")) := find_data (by obtain ⟨cd, e, _⟩ := any_some Z.hd; rw [e]; rfl) Z.ha Z.hn Z.ht
  obtain ⟨hp, g, d, t, os⟩ := s
  have l0 := at'.type (M := model prog w)
  have l1 := looks_findIn (M := model prog w) kin Z.hg
  have l2 := looks_findIn (M := model prog w) kin Z.hk
  have l3 := looks_find (M := model prog w) kin at' fo
  have isb : Looks (model prog w) hp (isInstance (.ref x) (.type "BaseException")) true := l0.andThen (looks_subIn kin Z.hs)
  have n2 : (Value.builtin "BaseException.__getattribute__" == Value.builtin "object.__getattribute__") = false := by decide +kernel
  have n1 : (onTheHeap (Value.ref D) && Value.builtin "BaseException.__getattribute__" == Value.builtin "object.__getattribute__") = false := by rw [n2]; rfl
  have n0 : (false && onTheHeap (Value.builtin "BaseException.__getattribute__")) = false := rfl
  unfold getAttr? getAttrBy? getAttrBy
  refine wpAny_bind (wpAny_mkText (wpAny_bind (wpAny_attempt (wpAny_holding (wpAny_bind (l0.at (wpAny_bind (l1.at ?_))))))))
  show wpAny _ _ (if (onTheHeap (Value.ref D) && Value.builtin "BaseException.__getattribute__" == Value.builtin "object.__getattribute__") = true then _ else _) _ _ _
  rw [n1, if_neg Bool.false_ne_true]
  unfold getAttrByItsOwn hookBefore
  refine wpAny_bind ?_
  rw [if_pos (show onTheHeap (Value.ref D) = true from rfl)]
  refine l2.at (wpAny_bind (wpAny_attempt (wpAny_holding ?_)))
  unfold callGetattribute
  rw [n0, if_neg Bool.false_ne_true]
  unfold boundAndCalled
  rw [PySem.F.excAttr_ValueError.ga.bind (.ref x)]
  refine wpAny_bind (wpAny_pure ?_)
  show wpAny _ _ (call (.builtin "BaseException.__getattribute__") [.ref x, .str "__class__" t]) _ _ _
  refine wpAny_call (codeAny_call_builtin PySem.F.excAttr_ValueError.ga.plain PySem.F.entry_bexc_ga ?_)
  refine @check_slot (model prog w) _ _ ⟨hp, g, d, t + 1, os⟩ "BaseException.__getattribute__" "BaseException" "__getattribute__" (.ref x) [.str "__class__" t] [] _ (by decide +kernel) (by decide +kernel) isb (PySem.F.args_bexc_ga (.ref x) (.str "__class__" t)) ?_
  unfold Builtin.«object.__getattribute__»
  refine wpAny_bind (wpAny_of_eq (a := ((Value.ref x : Value), [Value.str "__class__" t])) (by first | rfl | (simp only [slotArgs]; rfl)) ?_)
  refine wpAny_bind (wpAny_pure (wpAny_bind (l0.at (wpAny_bind (l3.at ?_)))))
  show wpAny _ _ (holding [Value.builtin "object.__class__"] (call (.builtin "getset_descriptor.__get__") [.builtin "object.__class__", .ref x, .ref D]) >>= ret) _ _ _
  refine wpAny_bind (wpAny_holding (wpAny_call (class_get (s := ⟨hp, g, d, t + 1, os⟩) (ox := ob) (od := own) kin at' Z.hm ?_)))
  refine wpAny_pure ?_
  show wpAny _ _ (handedOut (.ref D)) _ _ _
  rw [handedOut_of (v := .ref D) rfl]
  first
    | exact wpAny_pure (wpAny_pure hq)
    | exact wpAny_pure hq
    | exact wpAny_pure (wpAny_bind (wpAny_pure (wpAny_pure hq)))
theorem kitx (Z : ExcC K D) : KitX K (.ref x) (.ref D) (fun h => InstAt h x ob D own) where
  ty := fun _ _ _ at' => at'.type
  it := fun _ _ kin _ => by
    obtain ⟨cd, e, _⟩ := any_some Z.hd
    unfold clsIn at e
    split at e
    · rename_i c' d' cd' sl' ho
      intro A' Q' E' s' k q
      unfold isType loadHead
      exact wpAny_bind (wpAny_loadPart (k _ _ (kin _ _ ho)) (wpAny_pure q))
    · cases e
  ne := fun h tp dd its n sl kin htp => by
    obtain ⟨cd, e, _⟩ := any_some Z.hd
    refine Bool.eq_false_iff.mpr fun q => ?_
    have e1 : D = tp := Value.ref.inj (beq_iff_eq.mp q)
    subst e1
    unfold clsIn at e
    split at e
    · rename_i c' d' cd' sl' ho
      have z := (kin _ _ ho).symm.trans htp
      cases z
    · cases e
  ca := fun kin at' k => class_of Z kin at' k
end
/-- isinstance(e, c): e the exception that the suite holds, of class D -/
def rF (K : Frag) (D a : Addr) (cls : Value) (d : Option Addr) : List V → Hp → VK → Prop := fun xs H Q => ∃ (c : V) (cv : Value) (b : Bool) (dd : Addr) (fs : List (Str × V)), cls = .ref D ∧ d = some dd ∧ H dd = some (.xd fs) ∧ xs = [.ref a, c] ∧ (∀ u, RelV c u → u = cv) ∧ kitOne K (.ref D) cv = some b ∧ Q (.bl b) H
/-- isinstance(e, (c, ..)) -/
def rFT (K : Frag) (D a : Addr) (cls : Value) (d : Option Addr) : List V → Hp → VK → Prop := fun xs H Q => ∃ (tp : Addr) (cs : List V) (ws : List Value) (b : Bool) (dd : Addr) (fs : List (Str × V)), cls = .ref D ∧ d = some dd ∧ H dd = some (.xd fs) ∧ xs = [.ref a, .ref tp] ∧ H tp = some (.tup cs) ∧ Paired (fun c cv => ∀ u, RelV c u → u = cv) cs ws ∧ kitAny K (.ref D) ws = some b ∧ Q (.bl b) H
theorem vals_all : ∀ {cs : List V} {ws us : List Value}, Paired (fun c cv => ∀ u, RelV c u → u = cv) cs ws → Vals cs us → us = ws
  | _, _, _, .nil, .nil => rfl
  | _, _, _, .cons r t, .cons r' t' => by rw [r _ r', vals_all t t']
section
variable {X : Cx} {a D : Addr} {oe : Obj} {cls : Value} {d : Option Addr} {pn : List (Addr × Obj)}
theorem inst_at {pins : List (Addr × Obj)} {s : Shared} {σ : L2.St} {H : Hp} {dd : Addr} {fs : List (Str × V)} (I : Inv (X.suite a ((a, oe) :: pn)) pins σ H s) (hz : Zc (.ref D) (some dd) oe) (hf : ∃ vs, oe.data = .fields vs) (ed : H dd = some (.xd fs)) : ∃ od, InstAt s.heap a oe D (some od) := by
  obtain ⟨hget, _⟩ := I.pin (a, oe) (List.mem_append.mpr (.inl List.mem_cons_self))
  obtain ⟨vs, hv⟩ := hf
  have hx : ObjOk X.prog X.w H s.heap dd (.xd fs) := I.hok dd _ ed
  obtain ⟨mA, hns, hr⟩ := hx
  obtain ⟨od, ho, hl⟩ := lookIn_ns hns
  exact ⟨od, hget, hz.1, by unfold notCls; rw [hv] <;> rfl, by rw [hz.2]; exact ho⟩
theorem call_F (Z : ExcC X.K D) (hz : Zc cls d oe) (hf : ∃ vs, oe.data = .fields vs) : CallR (X.suite a ((a, oe) :: pn)) (.builtin "isinstance") (rF X.K D a cls d) := by
  intro pins s σ H xs us Q I r h
  obtain ⟨c, cv, b, dd, fs, rfl, rfl, ed, rfl, hcv, e, q⟩ := h
  cases r with
  | cons rx rr =>
    cases rr with
    | cons rt rr =>
      cases rr
      cases rx
      have ec := hcv _ rt
      subst ec
      obtain ⟨od, J⟩ := inst_at I hz hf ed
      exact kia_one (kitx Z) I.kIn J e (fun z => nomatch z) fun tk => ⟨.bl b, H, I.kept (t' := tk) fun _ _ z => z, rfl, q⟩
theorem call_FT (Z : ExcC X.K D) (hz : Zc cls d oe) (hf : ∃ vs, oe.data = .fields vs) : CallR (X.suite a ((a, oe) :: pn)) (.builtin "isinstance") (rFT X.K D a cls d) := by
  intro pins s σ H xs us Q I r h
  obtain ⟨tp, cs, ws, b, dd, fs, rfl, rfl, ed, rfl, hT, hcs, e, q⟩ := h
  cases r with
  | cons rx rr =>
    cases rr with
    | cons rt rr =>
      cases rr
      cases rx
      cases rt
      obtain ⟨od, J⟩ := inst_at I hz hf ed
      have hx : ObjOk X.prog X.w H s.heap tp (.tup cs) := I.hok tp _ hT
      obtain ⟨_, its, rv, o, h1, h2, n, h3⟩ := hx
      have e3 := vals_all hcs rv
      subst e3
      obtain ⟨oc, od', dt, sl⟩ := o
      simp only at h2 h3
      subst h2 h3
      exact kia_tup (kitx Z) I.kIn J h1 e (fun z => nomatch z) fun tk => ⟨.bl b, H, I.kept (t' := tk) fun _ _ z => z, rfl, q⟩
end
end BI
set_option Elab.async false
set_option linter.all false
set_option maxRecDepth 100000
set_option maxHeartbeats 4000000
namespace B2
open PySem PySem.W PySem.Spec PySem.Calls PyProof.Rows L2
theorem CallR.or {X : Cx} {f : Value} {r1 r2 : List V → Hp → VK → Prop} (h1 : CallR X f r1) (h2 : CallR X f r2) : CallR X f (fun xs H Q => r1 xs H Q ∨ r2 xs H Q) := by
  intro pins s σ H xs us Q I r h
  rcases h with h | h
  · exact h1 pins s σ H xs us Q I r h
  · exact h2 pins s σ H xs us Q I r h
section
variable {X : Cx} {a D1 D2 : Addr} {oe : Obj} {cls : Value} {d : Option Addr} {pn : List (Addr × Obj)}
theorem call_F2 (Z1 : ExcC X.K D1) (Z2 : ExcC X.K D2) (hz : Zc cls d oe) (hf : ∃ vs, oe.data = .fields vs) : CallR (X.suite a ((a, oe) :: pn)) (.builtin "isinstance") (fun xs H Q => BI.rF X.K D1 a cls d xs H Q ∨ BI.rF X.K D2 a cls d xs H Q) := CallR.or (BI.call_F Z1 hz hf) (BI.call_F Z2 hz hf)
theorem call_FT2 (Z1 : ExcC X.K D1) (Z2 : ExcC X.K D2) (hz : Zc cls d oe) (hf : ∃ vs, oe.data = .fields vs) : CallR (X.suite a ((a, oe) :: pn)) (.builtin "isinstance") (fun xs H Q => BI.rFT X.K D1 a cls d xs H Q ∨ BI.rFT X.K D2 a cls d xs H Q) := CallR.or (BI.call_FT Z1 hz hf) (BI.call_FT Z2 hz hf)
end
theorem op_eqDK {X : Cx} (K : PySem.W.Frag) (hu : X.A.units + 64 < cLine) (hK : X.K = K := by rfl) : OpR X (compareOp .Eq) (rEqD K) := by
  subst hK
  exact op_eqD hu
/-- sep.join(e), K handed in -/
def rJn (K : PySem.W.Frag) : V → List V → Hp → VK → Prop := fun x xs H Q => ∃ a p, ∃ ys : List Str, x = .str a ∧ xs = [.ref p] ∧ (SqL K H p (ys.map V.str) ∨ SqT K H p (ys.map V.str)) ∧
      (ys.map (·.length)).sum + ys.length * a.length ≤ 16777216 ∧ Q (.str (Txt.join a ys)) H
section
variable {X : Cx} {o e : Expr} {to te : TE}
theorem pe_joinK {apos pos : Pos} (K : PySem.W.Frag) (ho : PE X o to) (he : PE X e te) (hs : starEach [e] X.env = [(false, eval e X.env)] := by rfl) (hbase : attributeBase o "join" X.env (eval o X.env) = eval o X.env := by rfl) (hline : (apos.endLine == pos.line) = true := by rfl) (hK : X.K = K := by rfl) :
    PE X (.Call (.Attribute o "join" apos) [e] [] pos) (tM1 (rJn K) to te) := by
  subst hK
  exact pe_join ho he hs hbase hline
/-- [c + f, ..]: behind the written text a token is out -/
theorem pa_consC {es : List Expr} {f : Expr} {c : Str} {j : Nat} {cp bp : Pos} {op : Operator} {r : R2} {tf : TE} {ta : TA} (ho : OpR X (binaryOp op) r) (hf : PE X f tf) (hr : PAT X es ta)
    (hs : starEach (.BinOp (.Constant (.str c) j cp) op f bp :: es) X.env = (false, eval (.BinOp (.Constant (.str c) j cp) op f bp) X.env) :: starEach es X.env := by rfl) : PA X (.BinOp (.Constant (.str c) j cp) op f bp :: es) (tCons (tOp r (tC (.str c)) tf) ta) := by
  refine ⟨fun pos pins s σ H Q I h => ?_⟩
  rw [hs]
  show wpAny _ _ (spliced ((false, eval (.BinOp (.Constant (.str c) j cp) op f bp) X.env) :: backTo pos (starEach es X.env))) _ _ s
  refine Calls.spliced_cons (wpAny_BinOp (Calls.Constant_str ?_))
  have I0 : Inv X pins σ H { s with toks := s.toks + 1 } := I.tok _
  refine wpAny_mono (PySem.wpAny_toks (hf.run pins { s with toks := s.toks + 1 } σ H _ I0 h)) (fun v s1 q => ?_) fun _ _ z => z.2
  obtain ⟨hk, y, H1, I1, r1, q1⟩ := q
  refine wpAny_mono (PySem.wpAny_toks (ho pins s1 σ H1 (.str c) y (.str c s.toks) v _ I1 ⟨_, rfl⟩ r1 q1)) (fun u s2 q => ?_) fun _ _ z => z.2
  obtain ⟨hk2, x, H2, I2, r2, q2⟩ := q
  have h1 : 1 ≤ s2.toks := by
    have : s.toks + 1 ≤ s1.toks := hk
    omega
  exact thn (hr pos pins s2 σ H2 _ h1 I2 q2) fun us s3 ⟨xs, H3, I3, r3, q3⟩ => ⟨x :: xs, H3, I3, .cons r2 r3, q3⟩
end
end B2
set_option Elab.async false
set_option linter.all false
set_option maxRecDepth 100000
set_option maxHeartbeats 4000000
namespace BO
open PySem PySem.Spec PyProof.Rows L2
theorem tuple_one (l : Addr) (items : Array Value) (n : Nat) (dd : Option Addr) (sl : Array (Option Value)) (u : Tok) (c1 : (items.isEmpty || (1 : Int) == 1) = true) :
    Meets (Builtin.«tuple.__mul__» ⟨[.ref l, .int 1 u], []⟩) (fun _ R s => s.heap.get? l = some { cls := .type "tuple", dict := dd, data := .seq items n, slots := sl } ∧ R (.ok (.ret (Value.ref l))) s) :=
  .of_wp fun prog w A R s h => by
    obtain ⟨hp, g, d, tk, os⟩ := s
    obtain ⟨hl, h⟩ := h
    have f1 := AutoSeq1.idx_int
    wp_walk using wpAny_loadPart' hl
    exact ⟨_, rfl, h⟩
theorem tuple_zero (l : Addr) (items : Array Value) (n : Nat) (dd : Option Addr) (sl : Array (Option Value)) (u : Tok) (c1 : (items.isEmpty || (0 : Int) == 1) = false) :
    Meets (Builtin.«tuple.__mul__» ⟨[.ref l, .int 0 u], []⟩) (fun _ R s => s.heap.get? l = some { cls := .type "tuple", dict := dd, data := .seq items n, slots := sl } ∧
      R (.ok (.ret (Value.ref s.heap.objs.size))) { s with heap := s.heap.push { cls := Value.type "tuple", data := Data.seq #[] }, toks := s.toks }) :=
  .of_wp fun prog w A R s h => by
    obtain ⟨hp, g, d, tk, os⟩ := s
    obtain ⟨hl, h⟩ := h
    have f1 := AutoSeq1.idx_int
    wp_walk using wpAny_loadPart' hl
    repeat (first
      | (refine wpAny_ite_false (decide_eq_false (by rw [c1]; exact Bool.false_ne_true)) ?_; wp_walk using wpAny_loadPart' hl))
    exact ⟨_, rfl, h⟩
/-- t * 0, t * 1, t not empty -/
def rRep01 (K : PySem.W.Frag) : R2 := fun x y H Q => ∃ l k xs, x = .ref l ∧ y = .int k ∧ SqT K H l xs ∧ xs ≠ [] ∧ ((k = 1 ∧ Q (.ref l) H) ∨ (k = 0 ∧ ∀ p, H p = none → Q (.ref p) (upd H p (.tup []))))
/-- z * n -/
def repS (z : Str) (n : Nat) : Str := if n = 1 then z else ⟨(List.replicate n z.cps).foldl (· ++ ·) #[]⟩
def rRepS : R2 := fun x y H Q => ∃ (z : Str) (n : Nat), x = .str z ∧ y = .int (n : Int) ∧ 1 ≤ n ∧ n ≤ 100 ∧ 1 ≤ z.length ∧ z.length ≤ 100 ∧ Q (.str (repS z n)) H
section
variable {X : Cx}
theorem op_rep01 : OpR X (binaryOp .Mult) (rRep01 X.K) := by
  intro pins s σ H x y v u Q I rx ry h
  obtain ⟨l, k, xs, rfl, rfl, hT, hne, q⟩ := h
  cases rx
  obtain ⟨t, rfl⟩ := ry
  obtain ⟨its, r, ⟨⟨cls, dd, data, sl⟩, ho, hc, n, hd⟩, hs⟩ := I.tuple hT
  simp only at hc hd
  subst hc hd
  have hi : its.toArray.isEmpty = false := by
    cases its with
    | nil =>
      cases r
      exact absurd rfl hne
    | cons a b => rfl
  rcases q with ⟨rfl, q⟩ | ⟨rfl, q⟩
  · refine wpAny_binaryOp_repeat_ref (T := "tuple") (U := "int") (by decide) ⟨_, ho, rfl⟩ (fun s' => typeIs_int s' 1 t) noFill_tuple_mul F.fills_int_mul F.slot_int_rmul repeat_tuple F.slot_int_index.lookup
      (call_meets F.slot_int_rmul (typeIs_int s 1 t) F.entry_int_rmul (F.args_int_rmul_2 _ _) (int_rmul_tuple 1 t l its.toArray n dd sl)
        ⟨ho, rfl, ⟨_, ho, rfl⟩, call_meets F.slot_tuple_mul ⟨_, ho, rfl⟩ F.entry_tuple_mul (F.args_tuple_mul_2 _ _) (tuple_one l its.toArray n dd sl t (by rw [hi]; rfl)) ⟨ho, ?_⟩⟩)
    exact ⟨.ref l, H, I, rfl, q⟩
  · refine wpAny_binaryOp_repeat_ref (T := "tuple") (U := "int") (by decide) ⟨_, ho, rfl⟩ (fun s' => typeIs_int s' 0 t) noFill_tuple_mul F.fills_int_mul F.slot_int_rmul repeat_tuple F.slot_int_index.lookup
      (call_meets F.slot_int_rmul (typeIs_int s 0 t) F.entry_int_rmul (F.args_int_rmul_2 _ _) (int_rmul_tuple 0 t l its.toArray n dd sl)
        ⟨ho, rfl, ⟨_, ho, rfl⟩, call_meets F.slot_tuple_mul ⟨_, ho, rfl⟩ F.entry_tuple_mul (F.args_tuple_mul_2 _ _) (tuple_zero l its.toArray n dd sl t (by rw [hi]; rfl)) ⟨ho, ?_⟩⟩)
    refine ⟨.ref s.heap.objs.size, _, I.laid (t' := s.toks) (o := .tup []) (fun b ob q => Heap.get?_push_of_some _ q) (Nat.le_refl _) ?_, rfl, q _ (I.hok.fresh (Nat.le_refl _))⟩
    exact ⟨by rw [sizeLine_eq]; exact (by decide : 0 ≤ 16777216), [], .nil, IsTup.new _ _⟩
theorem fold_rep (a : Array Nat) : ∀ (m : Nat) (b : Array Nat), (List.replicate m a).foldl (fun x1 x2 => x1 ++ x2) b = (b.toList ++ (List.replicate m a.toList).flatten).toArray
  | 0, b => by simp
  | m + 1, b => by
    rw [List.replicate_succ, List.foldl_cons, fold_rep a m (b ++ a), List.replicate_succ, List.flatten_cons]
    simp
theorem repS_eq {z : Str} {n : Nat} (h : 1 ≤ n) : repS z n = ⟨(List.replicate n z.cps.toList).flatten.toArray⟩ := by
  unfold repS
  by_cases e : n = 1
  · subst e
    rw [if_pos rfl]
    simp
  · rw [if_neg e, fold_rep]
    simp
theorem short {k : Nat} (h : k ≤ 100 * 100) : Builtin.Str.tooLong k = false := by
  unfold Builtin.Str.tooLong
  exact decide_eq_false (by rw [sizeLine_eq]; omega)
theorem op_repS : OpR X (binaryOp .Mult) rRepS := by
  intro pins s σ H x y v u Q I rx ry h
  obtain ⟨z, n, rfl, rfl, h1, h2, h3, h4, q⟩ := h
  obtain ⟨t, rfl⟩ := rx
  obtain ⟨t', rfl⟩ := ry
  have hn : ¬ ((n : Int) < 1) := by omega
  have hz : (z.length == 0) = false := beq_false_of_ne (by omega)
  refine P.mul_str (by rw [decide_eq_false (by omega), decide_eq_false (by omega)]; rfl) (fun _ c => ?_) (fun _ c => ?_) ?_
  · have : (100 : Int) ≤ (2 ^ 63 - 1) / (n : Int) := Int.le_ediv_of_mul_le (by omega) (by omega)
    omega
  · rw [Int.toNat_natCast]
    exact short (Nat.mul_le_mul h4 h2)
  · rw [if_neg hn]
    unfold repS at q
    by_cases e : n = 1
    · subst e
      rw [if_pos rfl] at q
      rw [if_pos (by rfl)]
      exact ⟨.str z, H, I, ⟨t, rfl⟩, q⟩
    · rw [if_neg e] at q
      rw [if_neg (by rw [hz, Bool.or_false]; exact fun w => e (by have := beq_iff_eq.mp w; omega))]
      refine ⟨?_, .str _, H, I.tok _, ⟨_, rfl⟩, ?_⟩
      · rw [Int.toNat_natCast, fold_rep]
        show (List.toArray _).size ≤ sizeLine
        rw [List.size_toArray, List.length_append, List.length_flatten, List.map_replicate, List.sum_replicate_nat, sizeLine_eq]
        show (#[] : Array Nat).toList.length + n * z.cps.toList.length ≤ _
        have e3 : z.cps.toList.length = z.length := by simp [Str.length]
        rw [e3]
        have := Nat.mul_le_mul h2 h4
        show 0 + n * z.length ≤ 16777216
        omega
      · rw [Int.toNat_natCast]
        exact q
end
end BO
set_option Elab.async false
set_option linter.all false
set_option maxRecDepth 100000
set_option maxHeartbeats 4000000
namespace BV
open PySem PySem.Spec PyProof.Rows L2 RT
open PySem.Builtin PySem.Builtin.Str
section
variable {prog : Program} {w : World} {A : Around} {E : Value → Shared → Prop} {s : Shared}
/-- sep.join(it), it walks a list from its end -/
theorem join_rev {x : Str} {t : Tok} {it l : Addr} {items : Array Value} {ys : List Str} {Q : Value → Shared → Prop} (hh : A.handled = none) (hit : s.heap.IsRevIter it l ((items.size : Int) - 1)) (hl : s.heap.IsList l items) (hne : l ≠ it) (hn : items.size ≤ sizeLine)
    (hP : ∀ acc : Array Value, ItemsOf (fun i v => items[items.size - 1 - i]? = some v) acc items.size → StrsAre acc.toList ys) (hok : (ys.map (·.length)).sum + ys.length * x.length ≤ 16777216)
    (hq : ∀ (h' : Heap) (t' : Tok) (k : Nat), (∀ b o, b ≠ it → s.heap.get? b = some o → h'.get? b = some o) → Q (.str (Txt.join x ys) t') { s with heap := h', toks := k }) :
    wpAny (model prog w) A (call (.builtin "str.join") [.str x t, .ref it]) Q E s := by
  have hh1 : A.in1.handled = none := hh
  refine wpAny_call (codeAny_call_builtin F.slot_str_join.plain F.entry_str_join (F.slot_str_join.check _ _ _ _ _ _ _ _ (typeIs_str _ _ _) (F.args_str_join_2 _ _) ?_))
  rw [join_tree_other]
  refine wpAny_bind (wpAny_typeOf hit.typeIs ?_)
  show wpAny _ A.in1 ((pyIter (.ref it)).tryCatch _ >>= fun it => collect it >>= fun items => joinTail x items) _ _ s
  refine wpAny_bind (wpAny_tryCatch (wpAny_pyIter_revIter hit ?_))
  refine wpAny_bind (collect_rev (A := A.in1) hh1 hit hl hne hn fun h' tk acc hk hacc => ?_)
  obtain ⟨l, hl, ht⟩ := strsAre_values (hP acc hacc)
  subst ht
  rw [hl]
  have hok' := joinOk_of hok
  unfold JoinOk at hok'
  rw [Bool.not_eq_true'] at hok'
  have g : Gives (joinTail x (strValues l)) (joinMade x l) := by
    have g0 := gives_joinTail x l hok'
    cases l with
    | nil => exact g0
    | cons p r => cases r with
      | nil => exact g0
      | cons q r' => exact g0
  exact g prog w A (wants Q E) _ (post_join l ⟨joinFit_length hok', fun t' k => hq h' t' k hk⟩)
end
section
variable {X : Cx}
/-- sep.join(reversed(xs)), xs a list of texts -/
def tJoinRev (K : PySem.W.Frag) (to te : TE) : TE := fun σ H Q => to σ H fun x H1 => (∃ a, x = .str a) ∧ te σ H1 fun v H2 => ∃ (a : Str) (q : Addr) (ys : List Str), x = .str a ∧ v = .ref q ∧ SqL K H2 q (ys.map V.str) ∧ (ys.map (·.length)).sum + ys.length * a.length ≤ 16777216 ∧ Q (.str (Txt.join a ys.reverse)) H2
theorem pe_joinRev {o e : Expr} {to te : TE} {apos pos p pos2 : Pos} (hc : X.calm = true) (ho : PE X o to) (hg : Gl X "reversed") (hm : X.mg "reversed" = none) (he : PE X e te)
    (hs1 : starEach [.Call (.Name "reversed" p) [e] [] pos2] X.env = [(false, eval (.Call (.Name "reversed" p) [e] [] pos2) X.env)] := by rfl)
    (hs : starEach [e] X.env = (false, eval e X.env) :: starEach [] X.env := by rfl)
    (hbase : attributeBase o "join" X.env (eval o X.env) = eval o X.env := by rfl) (hline : (apos.endLine == pos.line) = true := by rfl) :
    PE X (.Call (.Attribute o "join" apos) [.Call (.Name "reversed" p) [e] [] pos2] [] pos) (tJoinRev X.K to te) := by
  refine ⟨fun pins s σ H Q I h => ?_⟩
  refine PySem.Call_method1 hbase hs1 hline (thn (ho.run pins s σ H _ I h) fun v s1 ⟨x, H1, I1, r1, q1⟩ => ?_)
  obtain ⟨⟨a, rfl⟩, q1⟩ := q1
  obtain ⟨t, rfl⟩ := _root_.id r1
  refine ⟨"str", _, F.plainAttrs_str, F.slot_str_join, F.type_str_join, typeIs_str _ _ _, (fun _ e => nomatch e), Calls.callWith_builtin rfl (Calls.evalArgs_plain (Calls.spliced_cons ?_))⟩
  refine Call_ (ld_blt I1 hg hm PyProof.Rows.boot_reversed (PyProof.Rows.callWith_type1 (args_cons (thn (he.run pins s1 σ H1 _ I1 q1) fun u s2 ⟨v, H2, I2, r2, q2⟩ => args_nil ?_) hs) hs rfl))
  obtain ⟨a', q, ys, ea, ev, hq, hz, q2⟩ := q2
  cases ea
  subst ev
  obtain rfl : u = Value.ref q := r2
  obtain ⟨its, rv, p', hsz⟩ := I2.list hq
  have k0 : ∀ b o, s2.heap.get? b = some o → (s2.heap.push (revObj q ((its.toArray.size : Int) - 1))).get? b = some o := fun b o e => Heap.get?_push_of_some _ e
  have I3 : Inv X pins σ H2 { s2 with heap := s2.heap.push (revObj q ((its.toArray.size : Int) - 1)) } := I2.kept (t' := s2.toks) k0
  obtain ⟨f0, f1, f2, f3, f4, f5⟩ := I2.fpOk (H' := H2) (b := s2.heap.objs.size) (Nat.le_refl _) (I2.hok.fresh (Nat.le_refl _))
  have hl := p'.isList
  obtain ⟨ol, hol, _⟩ := id hl
  have hne : q ≠ s2.heap.objs.size := Nat.ne_of_lt (Heap.lt_size hol)
  have hn : its.toArray.size ≤ sizeLine := by rw [List.size_toArray, ← rv.length]; exact hsz
  refine call_reversed_list p'.isList (Calls.spliced_nil ?_)
  have hz' : (ys.reverse.map (·.length)).sum + ys.reverse.length * a.length ≤ 16777216 := by
    rw [List.map_reverse, List.sum_reverse, List.length_reverse]
    exact hz
  refine join_rev (s := { s2 with heap := s2.heap.push (revObj q ((its.toArray.size : Int) - 1)) }) (ys := ys.reverse) (I2.ok.hd hc) ⟨_, Heap.get?_push_size _ rfl, rfl, rfl⟩ (hl.push _) hne hn (fun acc hacc => ?_) hz' fun h' t' k hk => ?_
  · have := vals_rev rv hacc
    rw [← List.map_reverse] at this
    exact strs_of_vals this
  · exact ⟨.str _, H2, I3.turned (t' := k) (fun b o hb e => hk b o hb e) f0 f1 f3 f4 f5, ⟨t', rfl⟩, q2⟩
/-- a text times 0 or 1 -/
theorem op_repS0 : OpR X (binaryOp .Mult) (fun x y H Q => ∃ z, x = .str z ∧ ((y = .int 0 ∧ Q (.str Str.empty) H) ∨ (y = .int 1 ∧ 1 ≤ z.length ∧ z.length ≤ 100 ∧ Q (.str z) H))) := by
  intro pins s σ H x y v u Q I rx ry h
  obtain ⟨z, rfl, ⟨rfl, q⟩ | ⟨rfl, h1, h2, q⟩⟩ := h
  · obtain ⟨t, rfl⟩ := rx
    obtain ⟨t', rfl⟩ := ry
    exact PySem.P.mul_str_none (by decide) (by decide) ⟨.str _, H, I.tok _, ⟨_, rfl⟩, q⟩
  · exact BO.op_repS pins s σ H (.str z) (.int ((1 : Nat) : Int)) v u Q I rx ry ⟨z, 1, rfl, rfl, Nat.le_refl _, by decide, h1, h2, q⟩
/-- str(an int | None) -/
theorem call_strN : CallR X (.type "str") (fun xs H Q => (∃ i, xs = [.int i] ∧ i.natAbs.log2 < 1920 ∧ Q (.str (toString i)) H) ∨ (xs = [.non] ∧ Q (.str "None") H)) := by
  intro pins s σ H xs us Q I r h
  rcases h with ⟨i, rfl, hz, q⟩ | ⟨rfl, q⟩
  · obtain ⟨u, rfl, t, rfl⟩ := vals1 r
    exact PySem.P.str_of_int hz ⟨.str _, H, I.tok _, ⟨_, rfl⟩, q⟩
  · obtain ⟨u, rfl, ru⟩ := vals1 r
    cases ru
    exact PySem.P.str_of_none ⟨.str _, H, I.tok _, ⟨_, rfl⟩, q⟩
/-- a dict that was just told, from now on only read -/
def tLk (t : TE) : TE := fun σ H Q => t σ H fun x H1 => ∃ d kvs, x = .ref d ∧ H1 d = some (.dK kvs) ∧ ∀ o, Q (.ref d) (upd H1 d (.frz o (.dK kvs)))
theorem pe_lk {e : Expr} {t : TE} (h : PE X e t) : PE X e (tLk t) := by
  refine ⟨fun pins s σ H Q I hw => ?_⟩
  refine thn (h.run pins s σ H _ I hw) fun v s1 ⟨x, H1, I1, rx, d, kvs, ex, hd, q⟩ => ?_
  subst ex
  obtain ⟨od, I2⟩ := I1.lock hd (by first | trivial | exact True.intro | simp [Mut] | (unfold Mut; simp) | decide)
  exact ⟨.ref d, _, I2, rx, q od⟩
end
end BV
set_option Elab.async false
set_option linter.all false
set_option maxRecDepth 100000
set_option maxHeartbeats 2000000
namespace ZL
open PySem RZ
section
variable {prog : Program} {w : World} {A : Around} {E : Value → Shared → Prop} {s : Shared}
abbrev ZOut (h : Heap) (z TI TO a : Addr) (f : Bool) : Prop := h.get? z = some { cls := .type "zip", data := .fields #[rawInt a, .bool f, .bool false, .ref TI, .ref TO] }
theorem own_out {z TI TO a : Addr} {f : Bool} {oa : Obj} {Q : Bool → Shared → Prop} (hz : ZOut s.heap z TI TO a f) (ha : s.heap.get? a = some oa)
    (hQ : ∀ h₀ : Heap, ZOut h₀ z TI TO a true → Heap.SameBut z s.heap h₀ → Q false { s with heap := h₀ }) : wpAny (model prog w) A (Builtin.SmallTypes.ownedTupleIsFree (.ref z)) Q E s := by
  unfold Builtin.SmallTypes.ownedTupleIsFree
  refine wpAny_bind (wpAny_field hz rfl (x := rawInt a) rfl ?_)
  show wpAny _ _ (loadIfAlive ((a : Int).toNat) >>= _) _ _ _
  rw [Int.toNat_natCast]
  refine wpAny_bind (PySem.W.kdx_alive ha ?_)
  simp only [Option.isNone_some, Bool.false_eq_true, if_false]
  refine wpAny_bind (wpAny_field hz rfl (x := .bool f) rfl ?_)
  cases f with
  | true =>
    rw [if_neg (show ¬ ((Value.bool true != Value.bool true) = true) from Bool.false_ne_true)]
    exact wpAny_pure (hQ _ hz (Heap.SameBut.refl _ _))
  | false =>
    rw [if_pos (show (Value.bool false != Value.bool true) = true from rfl)]
    refine wpAny_bind (wpAny_setField_rec hz (by simp) fun h₃ he₃ hs₃ => ?_)
    exact wpAny_pure (hQ h₃ he₃ hs₃)
theorem zipT_next_out {z TI TO i1 i2 l1 l2 a : Addr} {f : Bool} {oa : Obj} {k1 k2 : Nat} {xs ys : Array Value} {x y : Value} {Q : Value → Shared → Prop} (D : ZipApart z TI TO i1 i2 l1 l2)
    (hz : ZOut s.heap z TI TO a f) (ha : s.heap.get? a = some oa) (hTI : IsPair s.heap TI (.ref i1) (.ref i2))
    (h1 : s.heap.IsTupleIter i1 l1 k1) (h2 : s.heap.IsTupleIter i2 l2 k2) (hl1 : s.heap.IsTuple l1 xs) (hl2 : s.heap.IsTuple l2 ys) (hx : xs[k1]? = some x) (hy : ys[k2]? = some y)
    (hQ : ∀ h', ZOut h' z TI TO a true → h'.IsTupleIter i1 l1 (k1 + 1) → h'.IsTupleIter i2 l2 (k2 + 1) → IsPair h' s.heap.objs.size x y → h'.objs.size = s.heap.objs.size + 1 →
      (∀ c o, c ≠ z → c ≠ i1 → c ≠ i2 → s.heap.get? c = some o → h'.get? c = some o) → Q (.ref s.heap.objs.size) { s with heap := h' }) :
    wpAny (model prog w) A (Builtin.«zip.__next__» ⟨[.ref z], []⟩) (fun fin s' => ∃ v, fin = .done (.ret v) ∧ Q v s') E s := by
  show wpAny _ _ (field (.ref z) 2 >>= _) _ _ _
  refine wpAny_bind (wpAny_field hz rfl (x := .bool false) rfl ?_)
  show wpAny _ _ (field (.ref z) 3 >>= _) _ _ _
  refine wpAny_bind (wpAny_field hz rfl (x := .ref TI) rfl ?_)
  refine wpAny_bind (wpAny_seqItems hTI rfl ?_)
  show wpAny _ _ (Builtin.SmallTypes.ownedTupleIsFree (.ref z) >>= _) _ _ _
  refine wpAny_bind (own_out hz ha fun h₀ hz₀ hs₀ => ?_)
  simp only [Bool.false_eq_true, if_false]
  refine wpAny_bind ?_
  rw [show (#[Value.ref i1, Value.ref i2] : Array Value) = [Value.ref i1, Value.ref i2].toArray from rfl]
  simp only [List.forIn_toArray, List.forIn_cons, List.forIn_nil]
  refine wpAny_bind (wpAny_bind (wpAny_holding ?_))
  show wpAny _ _ (Builtin.SmallTypes.nextOf (.ref i1) >>= _) _ _ _
  refine wpAny_bind (nextOf_tuple_item (h1.extBut hs₀.extBut D.i1z) (hl1.extBut hs₀.extBut D.l1z) hx fun h₂ h1₂ hs₂ => wpAny_pure ?_)
  refine wpAny_pure ?_
  refine wpAny_bind (wpAny_bind (wpAny_holding ?_))
  show wpAny _ _ (Builtin.SmallTypes.nextOf (.ref i2) >>= _) _ _ _
  refine wpAny_bind (nextOf_tuple_item ((h2.extBut hs₀.extBut D.i2z).extBut hs₂.extBut D.i12.symm) ((hl2.extBut hs₀.extBut D.l2z).extBut hs₂.extBut D.l2i1) hy fun h₄ h2₄ hs₄ => wpAny_pure ?_)
  refine wpAny_pure (wpAny_pure ?_)
  refine wpAny_bind (wpAny_newTuple (hsz := by show 2 ≤ sizeLine; decide) ?_)
  have hsz : h₄.objs.size = s.heap.objs.size := by rw [hs₄.1, hs₂.1, hs₀.1]
  have e1 : h₄.get? z = _ := hs₄.extBut _ _ D.i2z.symm (hs₂.extBut _ _ D.i1z.symm hz₀)
  refine wpAny_pure ⟨_, rfl, ?_⟩
  show Q (.ref h₄.objs.size) _
  rw [hsz]
  refine hQ _ (Heap.get?_push_of_some _ e1) ?_ ?_ ?_ (by rw [Heap.size_push, hsz]) fun c o c1 c2 c3 e => Heap.get?_push_of_some _ (hs₄.extBut _ _ c3 (hs₂.extBut _ _ c2 (hs₀.extBut _ _ c1 e)))
  · exact (h1₂.extBut hs₄.extBut D.i12).at fun o e => Heap.get?_push_of_some _ e
  · exact h2₄.at fun o e => Heap.get?_push_of_some _ e
  · rw [← hsz]
    exact Heap.get?_push_size _ rfl
theorem zipT_end_out {z TI TO i1 i2 l1 l2 a : Addr} {f : Bool} {oa : Obj} {k1 k2 : Nat} {xs ys : Array Value} {Q : PySem.Fin → Shared → Prop} (hh : A.handled = none) (D : ZipApart z TI TO i1 i2 l1 l2)
    (hz : ZOut s.heap z TI TO a f) (ha : s.heap.get? a = some oa) (hTI : IsPair s.heap TI (.ref i1) (.ref i2))
    (h1 : s.heap.IsTupleIter i1 l1 k1) (h2 : s.heap.IsTupleIter i2 l2 k2) (hl1 : s.heap.IsTuple l1 xs) (hl2 : s.heap.IsTuple l2 ys) (hx : xs[k1]? = none)
    (hE : ∀ h' e, (∀ c o, c ≠ z → c ≠ i1 → c ≠ i2 → s.heap.get? c = some o → h'.get? c = some o) → (∃ o, h'.get? e = some o ∧ o.cls = .type "StopIteration") → E (.ref e) { s with heap := h' }) :
    wpAny (model prog w) A (Builtin.«zip.__next__» ⟨[.ref z], []⟩) Q E s := by
  show wpAny _ _ (field (.ref z) 2 >>= _) _ _ _
  refine wpAny_bind (wpAny_field hz rfl (x := .bool false) rfl ?_)
  show wpAny _ _ (field (.ref z) 3 >>= _) _ _ _
  refine wpAny_bind (wpAny_field hz rfl (x := .ref TI) rfl ?_)
  refine wpAny_bind (wpAny_seqItems hTI rfl ?_)
  show wpAny _ _ (Builtin.SmallTypes.ownedTupleIsFree (.ref z) >>= _) _ _ _
  refine wpAny_bind (own_out hz ha fun h₀ hz₀ hs₀ => ?_)
  simp only [Bool.false_eq_true, if_false]
  refine wpAny_bind ?_
  rw [show (#[Value.ref i1, Value.ref i2] : Array Value) = [Value.ref i1, Value.ref i2].toArray from rfl]
  simp only [List.forIn_toArray, List.forIn_cons, List.forIn_nil]
  refine wpAny_bind (wpAny_bind (wpAny_holding ?_))
  show wpAny _ _ (Builtin.SmallTypes.nextOf (.ref i1) >>= _) _ _ _
  refine wpAny_bind (nextOf_tuple_end hh (h1.extBut hs₀.extBut D.i1z) (hl1.extBut hs₀.extBut D.l1z) hx fun h₂ e hs₂ he => ?_)
  exact hE h₂ e (fun c o c1 c2 c3 x => hs₂ _ _ c2 (hs₀.extBut _ _ c1 x)) he
theorem pyNext_out {z TI TO i1 i2 l1 l2 a : Addr} {f : Bool} {oa : Obj} {k1 k2 : Nat} {xs ys : Array Value} {x y : Value} {Q : Option Value → Shared → Prop} (D : ZipApart z TI TO i1 i2 l1 l2)
    (hz : ZOut s.heap z TI TO a f) (ha : s.heap.get? a = some oa) (hTI : IsPair s.heap TI (.ref i1) (.ref i2))
    (h1 : s.heap.IsTupleIter i1 l1 k1) (h2 : s.heap.IsTupleIter i2 l2 k2) (hl1 : s.heap.IsTuple l1 xs) (hl2 : s.heap.IsTuple l2 ys) (hx : xs[k1]? = some x) (hy : ys[k2]? = some y)
    (hQ : ∀ h', ZOut h' z TI TO a true → h'.IsTupleIter i1 l1 (k1 + 1) → h'.IsTupleIter i2 l2 (k2 + 1) → IsPair h' s.heap.objs.size x y → h'.objs.size = s.heap.objs.size + 1 →
      (∀ c o, c ≠ z → c ≠ i1 → c ≠ i2 → s.heap.get? c = some o → h'.get? c = some o) → Q (some (.ref s.heap.objs.size)) { s with heap := h' }) :
    wpAny (model prog w) A (pyNext (.ref z)) Q E s := by
  have hT : s.TypeIs (.ref z) "zip" := ⟨_, hz, rfl⟩
  unfold pyNext
  exact wpAny_bind (wpAny_attempt (wpAny_callSpecial?_slot (name := Str.ofString "__next__") hT F.slot_zip_next
    (wpAny_call_entry F.slot_zip_next hT F.entry_zip_next
      (zipT_next_out D hz ha hTI h1 h2 hl1 hl2 hx hy fun h' a1 a3 a4 a5 a6 a7 => wpAny_pure (hQ h' a1 a3 a4 a5 a6 a7)) (F.args_zip_next_1 _))))
theorem pyNext_out_end {z TI TO i1 i2 l1 l2 a : Addr} {f : Bool} {oa : Obj} {k1 k2 : Nat} {xs ys : Array Value} {Q : Option Value → Shared → Prop} (hh : A.handled = none) (D : ZipApart z TI TO i1 i2 l1 l2)
    (hz : ZOut s.heap z TI TO a f) (ha : s.heap.get? a = some oa) (hTI : IsPair s.heap TI (.ref i1) (.ref i2))
    (h1 : s.heap.IsTupleIter i1 l1 k1) (h2 : s.heap.IsTupleIter i2 l2 k2) (hl1 : s.heap.IsTuple l1 xs) (hl2 : s.heap.IsTuple l2 ys) (hx : xs[k1]? = none)
    (hQ : ∀ h', (∀ c o, c ≠ z → c ≠ i1 → c ≠ i2 → s.heap.get? c = some o → h'.get? c = some o) → Q none { s with heap := h' }) : wpAny (model prog w) A (pyNext (.ref z)) Q E s := by
  have hT : s.TypeIs (.ref z) "zip" := ⟨_, hz, rfl⟩
  unfold pyNext
  refine wpAny_bind (wpAny_attempt (wpAny_callSpecial?_slot (name := Str.ofString "__next__") hT F.slot_zip_next
    (wpAny_call_entry F.slot_zip_next hT F.entry_zip_next (zipT_end_out hh D hz ha hTI h1 h2 hl1 hl2 hx fun h' e hk he => ?_) (F.args_zip_next_1 _))))
  obtain ⟨o, ho, hc⟩ := he
  refine wpAny_bind (wpAny_isInstance (T := "StopIteration") (b := true) ⟨o, ho, hc⟩ isSubtype_stop ?_)
  exact wpAny_pure (hQ _ hk)
end
/-! ### list(zip(t, u)): the loop -/
theorem off {a lo b : Addr} (h : a < lo) (h2 : lo ≤ b) : b ≠ a := Nat.ne_of_gt (Nat.lt_of_lt_of_le h h2)
/-- the zip object with what it holds, i pairs drawn, the first of which stands at a (S the list that holds them) -/
structure ZAt (h : Heap) (z TI TO i1 i2 l1 l2 S : Addr) (i : Nat) : Prop where
  zip : (i = 0 ∧ IsZip h z TI TO .none) ∨ ∃ a f oa, ZOut h z TI TO a f ∧ h.get? a = some oa ∧ a ≠ z ∧ a ≠ TO ∧ a ≠ i1 ∧ a ≠ i2 ∧ a ≠ S
  pair : IsPair h TI (.ref i1) (.ref i2)
  own : ∃ x y, IsPair h TO x y
  it1 : h.IsTupleIter i1 l1 i
  it2 : h.IsTupleIter i2 l2 i
theorem ZAt.keep {h h' : Heap} {z TI TO i1 i2 l1 l2 S : Addr} {i : Nat} (x : ZAt h z TI TO i1 i2 l1 l2 S i) (k : ∀ b o, b ≠ S → h.get? b = some o → h'.get? b = some o) (e1 : z ≠ S) (e2 : TI ≠ S) (e3 : TO ≠ S) (e4 : i1 ≠ S) (e5 : i2 ≠ S) : ZAt h' z TI TO i1 i2 l1 l2 S i := by
  obtain ⟨hz, hp, ⟨u, v, ho⟩, h1, h2⟩ := x
  refine ⟨?_, k _ _ e2 hp, ⟨u, v, k _ _ e3 ho⟩, h1.at fun o e => k _ o e4 e, h2.at fun o e => k _ o e5 e⟩
  rcases hz with ⟨e, hz⟩ | ⟨a, f, oa, hz, ha, n1, n2, n3, n4, n5⟩
  · exact .inl ⟨e, k _ _ e1 hz⟩
  · exact .inr ⟨a, f, oa, k _ _ e1 hz, k _ _ n5 ha, n1, n2, n3, n4, n5⟩
section
variable {prog : Program} {w : World} {A : Around} {E : Value → Shared → Prop} {s : Shared} {z TI TO i1 i2 l1 l2 S : Addr} {xs ys : Array Value}
theorem z_item {i : Nat} {x y : Value} {Q : Option Value → Shared → Prop} (D : ZipApart z TI TO i1 i2 l1 l2) (hst : ZAt s.heap z TI TO i1 i2 l1 l2 S i) (hl1 : s.heap.IsTuple l1 xs) (hl2 : s.heap.IsTuple l2 ys) (hx : xs[i]? = some x) (hy : ys[i]? = some y) (hS : S < s.heap.objs.size)
    (hQ : ∀ h', ZAt h' z TI TO i1 i2 l1 l2 S (i + 1) → IsPair h' s.heap.objs.size x y → h'.objs.size = s.heap.objs.size + 1 → (∀ c o, c ≠ z → c ≠ TO → c ≠ i1 → c ≠ i2 → s.heap.get? c = some o → h'.get? c = some o) → Q (some (.ref s.heap.objs.size)) { s with heap := h' }) :
    wpAny (model prog w) A (pyNext (.ref z)) Q E s := by
  obtain ⟨hz, hp, ⟨u, v, ho⟩, h1, h2⟩ := hst
  have lz : z < s.heap.objs.size := by
    rcases hz with ⟨_, hz⟩ | ⟨a, f, oa, hz, _⟩ <;> exact Heap.lt_size hz
  have lo : TO < s.heap.objs.size := Heap.lt_size ho
  have l1' : i1 < s.heap.objs.size := by obtain ⟨_, e, _⟩ := h1; exact Heap.lt_size e
  have l2' : i2 < s.heap.objs.size := by obtain ⟨_, e, _⟩ := h2; exact Heap.lt_size e
  rcases hz with ⟨rfl, hz⟩ | ⟨a, f, oa, hz, ha, n1, n2, n3, n4, n5⟩
  · refine pyNext_zipT_item D hz hp ho h1 h2 hl1 hl2 hx hy fun h' z' to' h1' h2' pr sz k => hQ h' ⟨.inr ⟨s.heap.objs.size, false, _, z', pr, Nat.ne_of_gt lz, Nat.ne_of_gt lo, Nat.ne_of_gt l1', Nat.ne_of_gt l2', Nat.ne_of_gt hS⟩, k _ _ D.TIz D.TITO D.TIi1 D.TIi2 hp, ⟨x, y, to'⟩, h1', h2'⟩ pr sz k
  · refine pyNext_out D hz ha hp h1 h2 hl1 hl2 hx hy fun h' z' h1' h2' pr sz k => hQ h' ⟨.inr ⟨a, true, oa, z', k _ _ n1 n3 n4 ha, n1, n2, n3, n4, n5⟩, k _ _ D.TIz D.TIi1 D.TIi2 hp, ⟨u, v, k _ _ D.TOz D.TOi1 D.TOi2 ho⟩, h1', h2'⟩ pr sz fun c o c1 _ c3 c4 e => k c o c1 c3 c4 e
theorem z_done {i : Nat} {Q : Option Value → Shared → Prop} (hh : A.handled = none) (D : ZipApart z TI TO i1 i2 l1 l2) (hst : ZAt s.heap z TI TO i1 i2 l1 l2 S i) (hl1 : s.heap.IsTuple l1 xs) (hl2 : s.heap.IsTuple l2 ys) (hx : xs[i]? = none)
    (hQ : ∀ h', (∀ c o, c ≠ z → c ≠ TO → c ≠ i1 → c ≠ i2 → s.heap.get? c = some o → h'.get? c = some o) → Q none { s with heap := h' }) : wpAny (model prog w) A (pyNext (.ref z)) Q E s := by
  obtain ⟨hz, hp, ⟨u, v, ho⟩, h1, h2⟩ := hst
  rcases hz with ⟨rfl, hz⟩ | ⟨a, f, oa, hz, ha, n1, n2, n3, n4, n5⟩
  · exact pyNext_zipT_end hh D hz hp ho h1 h2 hl1 hl2 (.inl hx) hQ
  · exact pyNext_out_end hh D hz ha hp h1 h2 hl1 hl2 hx fun h' k => hQ h' fun c o c1 _ c3 c4 e => k c o c1 c3 c4 e
/-- the new pairs -/
structure ZG (xs ys : Array Value) (lo : Addr) (h : Heap) (as : List Addr) : Prop where
  rise : as.Pairwise (· < ·)
  above : ∀ a ∈ as, lo ≤ a
  pairs : ∀ (j : Nat) (a : Addr), as[j]? = some a → ∃ x y, xs[j]? = some x ∧ ys[j]? = some y ∧ IsPair h a x y
theorem ZG.there {lo : Addr} {h : Heap} {as : List Addr} (g : ZG xs ys lo h as) {a : Addr} (ha : a ∈ as) : a < h.objs.size := by
  obtain ⟨j, hj⟩ := List.mem_iff_getElem?.mp ha
  obtain ⟨_, _, _, _, e⟩ := g.pairs j a hj
  exact Heap.lt_size e
theorem z_loop {R : Result → Shared → Prop} (hh : A.handled = none) (D : ZipApart z TI TO i1 i2 l1 l2) (lo : Addr) (bz : z < lo) (bI : TI < lo) (bO : TO < lo) (b1 : i1 < lo) (b2 : i2 < lo) (bS : S < lo) (ez : z ≠ S) (eI : TI ≠ S) (eO : TO ≠ S) (e1 : i1 ≠ S) (e2 : i2 ≠ S) (el1 : l1 ≠ S) (el2 : l2 ≠ S)
    (hxy : xs.size = ys.size) (hn : xs.size ≤ sizeLine) (res : Value) {h₁ : Heap}
    (hR : ∀ h' tk acc c as, (∀ b o, b ≠ S → b ≠ z → b ≠ TO → b ≠ i1 → b ≠ i2 → h₁.get? b = some o → h'.get? b = some o) → h'.get? S = some { cls := .type "list", dict := none, data := .seq acc c, slots := #[] } → as.length = xs.size → ZG xs ys lo h' as →
      acc.toList = as.map Value.ref → R (.ok (.ret res)) { s with heap := h', toks := tk }) :
    ∀ (k i : Nat) (h : Heap) (tk c : Nat) (acc : Array Value) (as : List Addr), xs.size - i = k → i ≤ xs.size → ZAt h z TI TO i1 i2 l1 l2 S i → h.IsTuple l1 xs → h.IsTuple l2 ys → (∀ b o, b ≠ S → b ≠ z → b ≠ TO → b ≠ i1 → b ≠ i2 → h₁.get? b = some o → h.get? b = some o) →
      h.get? S = some { cls := .type "list", dict := none, data := .seq acc c, slots := #[] } → acc.toList = as.map Value.ref → as.length = i → ZG xs ys lo h as → lo ≤ h.objs.size →
      codeAny (model prog w) A (.builtin "list.extend.loop" ⟨[.ref S, .ref z, res], []⟩) R { s with heap := h, toks := tk } := by
  intro k
  induction k with
  | zero =>
    intro i h tk c acc as hk hi hst hl1 hl2 hkeep hS hacc hal hG hIs
    have hin : i = xs.size := by omega
    refine codeAny_builtin PySem.F.entry_extend_loop ?_
    rw [Around.under_plainId PySem.F.plain_extend_loop _]
    show wpAny _ A.in1 (pyNext (.ref z) >>= _) _ _ _
    refine wpAny_bind (z_done (s := { s with heap := h, toks := tk }) (A := A.in1) hh D hst hl1 hl2 (Array.getElem?_eq_none (by omega)) fun h' he => ?_)
    refine wpAny_pure (hR h' tk acc c as (fun b o h1 h2 h3 h4 h5 e => he b o h2 h3 h4 h5 (hkeep b o h1 h2 h3 h4 h5 e)) (he S _ ez.symm eO.symm e1.symm e2.symm hS) (by omega) ⟨hG.rise, hG.above, fun j a hj => ?_⟩ hacc)
    obtain ⟨x, y, f1, f2, f3⟩ := hG.pairs j a hj
    have hb := hG.above a (List.mem_of_getElem? hj)
    exact ⟨x, y, f1, f2, he a _ (off bz hb) (off bO hb) (off b1 hb) (off b2 hb) f3⟩
  | succ k ih =>
    intro i h tk c acc as hk hi hst hl1 hl2 hkeep hS hacc hal hG hIs
    have hlt : i < xs.size := by omega
    have hx : xs[i]? = some xs[i] := Array.getElem?_eq_getElem hlt
    have hlt2 : i < ys.size := by omega
    have hy : ys[i]? = some ys[i] := Array.getElem?_eq_getElem hlt2
    have hsz : acc.size = i := by rw [← Array.length_toList, hacc, List.length_map, hal]
    refine codeAny_builtin PySem.F.entry_extend_loop ?_
    rw [Around.under_plainId PySem.F.plain_extend_loop _]
    show wpAny _ A.in1 (pyNext (.ref z) >>= _) _ _ _
    refine wpAny_bind (z_item (s := { s with heap := h, toks := tk }) D hst hl1 hl2 hx hy (Heap.lt_size hS) fun h' hst' ht hz hkp => ?_)
    dsimp only at ht hz hkp ⊢
    have hS' := hkp S _ ez.symm eO.symm e1.symm e2.symm hS
    have up : ∀ b o, b ≠ S → h'.get? b = some o → (h'.update S (Obj.mapSeq (·.push (Value.ref h.objs.size)))).get? b = some o := fun b o hb e => (Heap.get?_update_other _ _ (Ne.symm hb)).trans e
    have hSl : S < h.objs.size := Heap.lt_size hS
    show wpAny _ A.in1 (updateSeq S (·.push (Value.ref h.objs.size)) >>= _) _ _ _
    refine wpAny_bind ?_
    refine wpAny_updateSeq hS' rfl (wpAny_pure ⟨plainId_quiet PySem.F.plain_extend_loop _, ih (i + 1) _ tk _ (acc.push (Value.ref h.objs.size)) (as ++ [h.objs.size]) (by omega) hlt (hst'.keep up ez eI eO e1 e2)
      (hl1.at fun o e => up _ o el1 (hkp _ o D.l1z D.l1TO D.l1i1 D.l1i2 e)) (hl2.at fun o e => up _ o el2 (hkp _ o D.l2z D.l2TO D.l2i1 D.l2i2 e))
      (fun b o h1 h2 h3 h4 h5 e => up b o h1 (hkp b o h2 h3 h4 h5 (hkeep b o h1 h2 h3 h4 h5 e))) (Heap.get?_update_self _ hS' rfl) (by rw [Array.toList_push, hacc, List.map_append]; rfl) (by rw [List.length_append, hal]; rfl) ⟨?_, ?_, ?_⟩ ?_⟩) (by rw [hsz]; omega) (by show (acc.push (Value.ref h.objs.size)).size ≤ sizeLine + 1; rw [Array.size_push, hsz]; omega)
    · refine List.pairwise_append.mpr ⟨hG.rise, List.pairwise_singleton _ _, fun a ha b hb => ?_⟩
      rw [List.mem_singleton.mp hb]
      exact hG.there ha
    · intro a ha
      rcases List.mem_append.mp ha with ha | ha
      · exact hG.above a ha
      · rw [List.mem_singleton.mp ha]; exact hIs
    · intro j b hj
      rcases Nat.lt_trichotomy j as.length with h1 | h1 | h1
      · rw [List.getElem?_append_left h1] at hj
        obtain ⟨x', y', f1, f2, f3⟩ := hG.pairs j b hj
        have hb := hG.above b (List.mem_of_getElem? hj)
        exact ⟨x', y', f1, f2, up b _ (off bS hb) (hkp b _ (off bz hb) (off bO hb) (off b1 hb) (off b2 hb) f3)⟩
      · subst h1
        have hb : h.objs.size = b := by simpa using hj
        subst hb
        exact ⟨_, _, by rw [hal]; exact hx, by rw [hal]; exact hy, up _ _ (Nat.ne_of_gt hSl) ht⟩
      · have hnone : (as ++ [h.objs.size])[j]? = none := List.getElem?_eq_none (by rw [List.length_append, List.length_singleton]; omega)
        rw [hnone] at hj; cases hj
    · have e : (h'.update S (Obj.mapSeq (·.push (Value.ref h.objs.size)))).get? h.objs.size = _ := up _ _ (Nat.ne_of_gt hSl) ht
      exact Nat.le_trans hIs (Nat.le_of_lt (Heap.lt_size e))
theorem zip_no_len : typeLookup (.type "zip") "__len__" = pure none := by rw [typeLookup_type, builtinLookup_eq_fast]; kernel_rfl
theorem zip_no_hint : typeLookup (.type "zip") "__length_hint__" = pure none := by rw [typeLookup_type, builtinLookup_eq_fast]; kernel_rfl
theorem z_hint {r : Addr} (hT : s.TypeIs (.ref r) "zip") {Q : Bool → Shared → Prop} (h : Q true s) : wpAny (model prog w) A (Builtin.List.listLengthHint (.ref r)) Q E s := by
  unfold Builtin.List.listLengthHint
  refine wpAny_bind (wpAny_specialOf hT zip_no_len ?_)
  refine wpAny_bind (wpAny_specialOf hT zip_no_hint ?_)
  exact wpAny_pure h
theorem z_extend {R : Result → Shared → Prop} (hh : A.handled = none) (D : ZipApart z TI TO i1 i2 l1 l2) (hz : IsZip s.heap z TI TO .none) (hp : IsPair s.heap TI (.ref i1) (.ref i2)) (ho : ∃ x y, IsPair s.heap TO x y) (h1 : s.heap.IsTupleIter i1 l1 0) (h2 : s.heap.IsTupleIter i2 l2 0)
    (hl1 : s.heap.IsTuple l1 xs) (hl2 : s.heap.IsTuple l2 ys) (S : Addr) (ez : z ≠ S) (eI : TI ≠ S) (eO : TO ≠ S) (e1 : i1 ≠ S) (e2 : i2 ≠ S) (el1 : l1 ≠ S) (el2 : l2 ≠ S) (res : Value) (c₀ : Nat) (hS : s.heap.get? S = some { cls := .type "list", data := .seq #[] c₀ }) (hxy : xs.size = ys.size) (hn : xs.size ≤ sizeLine)
    (hR : ∀ h' tk acc c as, (∀ b o, b ≠ S → b ≠ z → b ≠ TO → b ≠ i1 → b ≠ i2 → s.heap.get? b = some o → h'.get? b = some o) → h'.get? S = some { cls := .type "list", dict := none, data := .seq acc c, slots := #[] } → as.length = xs.size → ZG xs ys s.heap.objs.size h' as →
      acc.toList = as.map Value.ref → R (.ok (.ret res)) { s with heap := h', toks := tk }) :
    wpAny (model prog w) A.in1 (Builtin.List.listExtendWith (.ref S) (.ref z) res)
      (fun fin s' => match fin with | .done f => R (.ok f) s' | .again c' => c'.quiet = true ∧ codeAny (model prog w) A c' R s') (fun e s' => R (.error e) s') s := by
  have bz : z < s.heap.objs.size := Heap.lt_size hz
  have bI : TI < s.heap.objs.size := Heap.lt_size hp
  have bO : TO < s.heap.objs.size := by obtain ⟨_, _, e⟩ := ho; exact Heap.lt_size e
  have b1 : i1 < s.heap.objs.size := by obtain ⟨_, e, _⟩ := h1; exact Heap.lt_size e
  have b2 : i2 < s.heap.objs.size := by obtain ⟨_, e, _⟩ := h2; exact Heap.lt_size e
  have bS : S < s.heap.objs.size := Heap.lt_size hS
  have hT : s.TypeIs (.ref z) "zip" := ⟨_, hz, rfl⟩
  have key : ∀ (h : Heap) (c₁ tk : Nat), (∀ b o, b ≠ S → s.heap.get? b = some o → h.get? b = some o) → s.heap.objs.size ≤ h.objs.size →
      h.get? S = some { cls := .type "list", data := .seq #[] c₁ } → codeAny (model prog w) A (.builtin "list.extend.loop" ⟨[.ref S, .ref z, res], []⟩) R { s with heap := h, toks := tk } := by
    intro h c₁ tk hk hsz hS₁
    refine z_loop (s := s) (h₁ := s.heap) (xs := xs) (ys := ys) hh D s.heap.objs.size bz bI bO b1 b2 bS ez eI eO e1 e2 el1 el2 hxy hn res hR xs.size 0 h tk c₁ #[] [] (Nat.sub_zero _) (Nat.zero_le _)
      ⟨.inl ⟨rfl, hk _ _ ez hz⟩, hk _ _ eI hp, ?_, h1.at fun o e => hk _ o e1 e, h2.at fun o e => hk _ o e2 e⟩ (hl1.at fun o e => hk _ o el1 e) (hl2.at fun o e => hk _ o el2 e) (fun b o hb _ _ _ _ e => hk b o hb e) hS₁ rfl rfl ⟨List.Pairwise.nil, (fun _ ha => nomatch ha), (fun j a hj => by simp at hj)⟩ hsz
    obtain ⟨x, y, e⟩ := ho
    exact ⟨x, y, hk _ _ eO e⟩
  unfold Builtin.List.listExtendWith
  refine wpAny_bind (wpAny_typeOf (T := "zip") hT ?_)
  have g1 : Builtin.List.listSameRef (.ref S) (.ref z) = false := by simp [Builtin.List.listSameRef, Ne.symm ez]
  have g2 : (Value.type "zip" == Value.type "list") = false := by decide
  have g3 : (Value.type "zip" == Value.type "tuple") = false := by decide
  simp only [g1, g2, g3, Bool.or_false, Bool.false_eq_true, if_false]
  refine wpAny_bind (wpAny_pyIter_zip hz ?_)
  refine wpAny_bind (wpAny_holding (z_hint hT ?_))
  refine wpAny_ite_split (fun _ => ?_) (fun _ => wpAny_pure ⟨plainId_quiet PySem.F.plain_extend_loop _, key _ c₀ _ (fun b o _ e => e) (Nat.le_refl _) hS⟩)
  refine wpAny_bind (wpAny_rule ?_)
  refine wpAny_bind ?_
  show wpAny _ _ (updateSeq S (·.push .none) >>= fun _ => updateSeq S (·.pop)) _ _ _
  refine wpAny_bind (wpAny_updateSeq hS rfl ?_)
  have hS₂ := Heap.get?_update_self (Obj.mapSeq (·.push Value.none)) hS rfl
  refine wpAny_updateSeq (hz := by seq_fits) hS₂ rfl ?_
  have hS₃ := Heap.get?_update_self (Obj.mapSeq (·.pop)) hS₂ rfl
  refine wpAny_pure ⟨plainId_quiet PySem.F.plain_extend_loop _, key _ _ _ (fun b o hb e => ?_) ?_ hS₃⟩
  · exact (Heap.get?_update_other _ _ (Ne.symm hb)).trans ((Heap.get?_update_other _ _ (Ne.symm hb)).trans e)
  · rw [Heap.size_update, Heap.size_update]
    exact Nat.le_refl _
end
section
variable {prog : Program} {w : World} {A : Around} {E : Value → Shared → Prop} {s : Shared} {l1 l2 : Addr} {xs ys : Array Value}
/-- list(z) of a fresh zip of two tuples -/
theorem z_list {z TI TO i1 i2 : Addr} {Q : Value → Shared → Prop} (hh : A.handled = none) (D : ZipApart z TI TO i1 i2 l1 l2) (hz : IsZip s.heap z TI TO .none) (hp : IsPair s.heap TI (.ref i1) (.ref i2)) (ho : ∃ x y, IsPair s.heap TO x y) (h1 : s.heap.IsTupleIter i1 l1 0) (h2 : s.heap.IsTupleIter i2 l2 0)
    (hl1 : s.heap.IsTuple l1 xs) (hl2 : s.heap.IsTuple l2 ys) (hxy : xs.size = ys.size) (hn : xs.size ≤ sizeLine)
    (hQ : ∀ h' tk acc c as, (∀ b o, b ≠ z → b ≠ TO → b ≠ i1 → b ≠ i2 → s.heap.get? b = some o → h'.get? b = some o) → h'.get? s.heap.objs.size = some { cls := .type "list", dict := none, data := .seq acc c, slots := #[] } → as.length = xs.size → ZG xs ys (s.heap.objs.size + 1) h' as →
      acc.toList = as.map Value.ref → Q (.ref s.heap.objs.size) { s with heap := h', toks := tk }) :
    wpAny (model prog w) A (call (.type "list") [.ref z]) Q E s := by
  refine callType_codes (Q₁ := fun obj s₁ => obj = .ref s.heap.objs.size ∧ s₁ = { s with heap := s.heap.push { cls := .type "list", data := .seq #[] } }) PySem.F.called_list (PySem.F.typeCall_list_1 _) PySem.F.entry_list_init
    (code_list_new _ ⟨rfl, rfl⟩) fun obj s₁ h₁ => ?_
  obtain ⟨rfl, rfl⟩ := h₁
  have hS : (s.heap.push { cls := .type "list", data := .seq #[] }).get? s.heap.objs.size = some { cls := .type "list", data := .seq #[] } := Heap.get?_push_size _ rfl
  refine ⟨⟨_, hS, rfl⟩, PySem.F.args_list_init_2 _ _, ?_⟩
  have bz : z < s.heap.objs.size := Heap.lt_size hz
  have bI : TI < s.heap.objs.size := Heap.lt_size hp
  have bO : TO < s.heap.objs.size := by obtain ⟨_, _, e⟩ := ho; exact Heap.lt_size e
  have b1 : i1 < s.heap.objs.size := by obtain ⟨_, e, _⟩ := h1; exact Heap.lt_size e
  have b2 : i2 < s.heap.objs.size := by obtain ⟨_, e, _⟩ := h2; exact Heap.lt_size e
  have bl1 : l1 < s.heap.objs.size := by obtain ⟨_, e, _⟩ := hl1; exact Heap.lt_size e
  have bl2 : l2 < s.heap.objs.size := by obtain ⟨_, e, _⟩ := hl2; exact Heap.lt_size e
  obtain ⟨hp', gg, dr, tk, os⟩ := s
  show wpAny _ _ (do let old ← Builtin.List.listItems (.ref hp'.objs.size); Builtin.List.listUpdate (.ref hp'.objs.size) (fun _ => #[]); letGo old.toList.reverse; Builtin.List.listExtendWith (.ref hp'.objs.size) (.ref z) .none) _ _ _
  refine wpAny_bind ?_
  unfold Builtin.List.listItems
  refine wpAny_bind (wpAny_seqItems hS rfl (wpAny_pure ?_))
  show wpAny _ _ (updateSeq hp'.objs.size (fun _ => #[]) >>= fun _ => letGo (#[] : Array Value).toList.reverse >>= fun _ => Builtin.List.listExtendWith (.ref hp'.objs.size) (.ref z) .none) _ _ _
  refine wpAny_bind (wpAny_updateSeq hS rfl ?_)
  have hS₂ := Heap.get?_update_self (Obj.mapSeq (fun _ => (#[] : Array Value))) hS rfl
  have oth : ∀ b o, hp'.get? b = some o → ((hp'.push { cls := .type "list", data := .seq #[] }).update hp'.objs.size (Obj.mapSeq (fun _ => (#[] : Array Value)))).get? b = some o :=
    fun b o e => (Heap.get?_update_other _ _ (Nat.ne_of_gt (Heap.lt_size e))).trans (Heap.get?_push_of_some _ e)
  refine wpAny_bind (wpAny_letGo ?_)
  refine z_extend (xs := xs) (ys := ys) (s := ⟨(hp'.push { cls := .type "list", data := .seq #[] }).update hp'.objs.size (Obj.mapSeq (fun _ => (#[] : Array Value))), gg, dr, tk, os⟩) (A := A.in1) hh D (oth _ _ hz) (oth _ _ hp) (let ⟨x, y, e⟩ := ho; ⟨x, y, oth _ _ e⟩) (h1.at fun o e => oth _ o e) (h2.at fun o e => oth _ o e) (hl1.at fun o e => oth _ o e) (hl2.at fun o e => oth _ o e) hp'.objs.size
    (Nat.ne_of_lt bz) (Nat.ne_of_lt bI) (Nat.ne_of_lt bO) (Nat.ne_of_lt b1) (Nat.ne_of_lt b2) (Nat.ne_of_lt bl1) (Nat.ne_of_lt bl2) .none _ hS₂ hxy hn (fun h' tk' acc c as hk hS' hl hG hacc => ?_)
  have esz : ((hp'.push { cls := .type "list", data := .seq #[] }).update hp'.objs.size (Obj.mapSeq (fun _ => (#[] : Array Value)))).objs.size = hp'.objs.size + 1 := by rw [Heap.size_update, Heap.size_push]
  have hG' : ZG xs ys (hp'.objs.size + 1) h' as := by
    rw [← esz]
    exact hG
  exact ⟨rfl, hQ h' tk' acc c as (fun b o c1 c2 c3 c4 e => hk b o (Nat.ne_of_lt (Heap.lt_size e)) c1 c2 c3 c4 (oth b o e)) hS' hl hG' hacc⟩
end
end ZL
namespace ZL
open PySem PySem.Spec PyProof.Rows L2 RZ
/-- new pairs tracked at their addresses -/
def putP : Hp → List Addr → List (V × V) → Hp
  | H, a :: as, p :: ps => putP (upd H a (.tup [p.1, p.2])) as ps
  | H, _, _ => H
theorem putP_off {b : Addr} : ∀ (as : List Addr) (ps : List (V × V)) (H : Hp), b ∉ as → putP H as ps b = H b
  | [], _, _, _ => rfl
  | _ :: _, [], _, _ => rfl
  | a :: as, p :: ps, H, h => by
    show putP (upd H a (.tup [p.1, p.2])) as ps b = H b
    rw [putP_off as ps _ (fun z => h (List.mem_cons_of_mem _ z)), upd_ne (fun z => h (by rw [z]; exact List.mem_cons_self))]
theorem putP_at : ∀ (as : List Addr) (ps : List (V × V)) (H : Hp), as.length = ps.length → as.Nodup → ∀ (j : Nat) (t : Addr) (p : V × V), as[j]? = some t → ps[j]? = some p → putP H as ps t = some (.tup [p.1, p.2])
  | [], _, _, _, _, j, t, p, h, _ => by simp at h
  | _ :: _, [], _, h, _, _, _, _, _, _ => by cases h
  | a :: as, q :: ps, H, hl, hn, 0, t, p, h, h2 => by
    have hn' := List.nodup_cons.mp hn
    have e1 : a = t := Option.some.inj h
    have e2 : q = p := Option.some.inj h2
    subst e1 e2
    show putP (upd H a (.tup [q.1, q.2])) as ps a = some (.tup [q.1, q.2])
    rw [putP_off as ps _ hn'.1, upd_same]
  | a :: as, q :: ps, H, hl, hn, j + 1, t, p, h, h2 => by
    have hn' := List.nodup_cons.mp hn
    exact putP_at as ps (upd H a (.tup [q.1, q.2])) (Nat.succ.inj hl) hn'.2 j t p h h2
theorem vals_refs : ∀ as : List Addr, Vals (as.map V.ref) (as.map Value.ref)
  | [] => .nil
  | _ :: as => .cons rfl (vals_refs as)
/-- what list(zip(t, u)) leaves -/
def ZNew (H : Hp) (xs ys : List V) (H' : Hp) (p : Addr) (ts : List Addr) : Prop :=
  (∀ b o, H b = some o → H' b = some o) ∧ H p = none ∧ (∀ t ∈ ts, H t = none) ∧ p ∉ ts ∧ ts.Nodup ∧ H' p = some (.lst (ts.map V.ref)) ∧ ts.length = xs.length ∧
    ∀ (j : Nat) (t : Addr), ts[j]? = some t → ∃ x y, xs[j]? = some x ∧ ys[j]? = some y ∧ H' t = some (.tup [x, y])
def tLz (K : PySem.W.Frag) (ta : TA) : TE := fun σ H Q => ta σ H fun vs H1 => ∃ a b xs ys, vs = [.ref a, .ref b] ∧ SqT K H1 a xs ∧ SqT K H1 b ys ∧ xs.length = ys.length ∧ ∀ H' p ts, ZNew H1 xs ys H' p ts → Q (.ref p) H'
section
variable {X : Cx} {e e2 : Expr} {ta : TA} {p p2 pos pos2 : Pos}
theorem pe_listZip (hc : X.calm = true) (hg : Gl X "list") (hm : X.mg "list" = none) (hgz : Gl X "zip") (hmz : X.mg "zip" = none) (ha : PA X [e, e2] ta)
    (hs1 : starEach [.Call (.Name "zip" p2) [e, e2] [] pos2] X.env = (false, eval (.Call (.Name "zip" p2) [e, e2] [] pos2) X.env) :: starEach [] X.env := by rfl)
    (hs : starEach [e, e2] X.env = (false, eval e X.env) :: starEach [e2] X.env := by rfl) (hpl : (backTo pos2 (starEach [e2] X.env)).any (·.1) = false := by rfl) :
    PE X (.Call (.Name "list" p) [.Call (.Name "zip" p2) [e, e2] [] pos2] [] pos) (tLz X.K ta) := by
  refine ⟨fun pins s σ H Q I h => ?_⟩
  refine wpAny_Call_Name_kw (ld_blt I hg hm boot_list ?_)
  refine PyProof.Rows.callWith_type1 ?_ hs1 rfl
  rw [hs1]
  show wpAny _ _ (spliced ((false, eval (.Call (.Name "zip" p2) [e, e2] [] pos2) X.env) :: backTo pos (starEach [] X.env))) _ _ s
  refine Calls.spliced_cons ?_
  refine wpAny_Call_Name_kw (ld_blt I hgz hmz PyProof.Rows.boot_zip (PyProof.Rows.callWith_type1 (thn (ha.run pos2 pins s σ H _ I h) fun us s1 ⟨vs, H1, I1, r1, q1⟩ => ?_) hs hpl))
  obtain ⟨a, b, xs, ys, ex, hx, hy, hl, q⟩ := q1
  subst ex
  cases r1 with
  | cons r rr =>
    cases rr with
    | cons r' rr =>
      cases rr
      cases r
      cases r'
      obtain ⟨its, rv, pt, hzl⟩ := I1.tuple hx
      obtain ⟨its2, rv2, pt2, hzl2⟩ := I1.tuple hy
      have la : a < s1.heap.objs.size := by obtain ⟨_, e, _⟩ := pt; exact Heap.lt_size e
      have lb : b < s1.heap.objs.size := by obtain ⟨_, e, _⟩ := pt2; exact Heap.lt_size e
      refine call_zipT pt pt2 fun h5 hz hp ho h1 h2 hsz hk => Calls.spliced_nil ?_
      have D : ZipApart (s1.heap.objs.size + 4) (s1.heap.objs.size + 2) (s1.heap.objs.size + 3) s1.heap.objs.size (s1.heap.objs.size + 1) a b := by
        have la' : a < s1.heap.objs.size + 0 := la
        have lb' : b < s1.heap.objs.size + 0 := lb
        have ne : ∀ (c n m k : Nat), c < n + 0 → c ≠ n + k := fun c n m k h => by omega
        have nn : ∀ (n i j : Nat), i ≠ j → n + i ≠ n + j := fun n i j h => by omega
        exact ⟨nn _ _ _ (by decide), nn _ _ _ (by decide), nn _ 0 _ (by decide), nn _ _ _ (by decide), nn _ _ _ (by decide), nn _ _ 0 (by decide), nn _ _ _ (by decide), nn _ _ 0 (by decide), nn _ _ _ (by decide), nn _ 0 _ (by decide),
          ne _ _ 0 _ la', ne _ _ 0 _ la', ne _ _ 0 0 la', ne _ _ 0 _ la', ne _ _ 0 _ lb', ne _ _ 0 _ lb', ne _ _ 0 0 lb', ne _ _ 0 _ lb'⟩
      have le1 := rv.length
      have le2 := rv2.length
      refine z_list (xs := its.toArray) (ys := its2.toArray) (s := { s1 with heap := h5 }) (I1.ok.hd hc) D hz hp ⟨_, _, ho⟩ h1 h2 (let ⟨o, e, z⟩ := pt; ⟨o, hk _ _ e, z⟩) (let ⟨o, e, z⟩ := pt2; ⟨o, hk _ _ e, z⟩) (by simp; omega) (by simp; omega) fun h' tk acc c as hk' hS hal hG hacc => ?_
      -- the pairs
      have hps : ∃ ps : List (V × V), ps.length = xs.length ∧ ∀ j x y, xs[j]? = some x → ys[j]? = some y → ps[j]? = some (x, y) := ⟨xs.zip ys, by rw [List.length_zip]; omega, fun j x y h1 h2 => List.getElem?_zip_eq_some.mpr ⟨h1, h2⟩⟩
      obtain ⟨ps, hpl', hpx⟩ := hps
      have e5 : h5.objs.size = s1.heap.objs.size + 5 := hsz
      have nd : as.Nodup := List.Pairwise.imp (fun {a b} (h : a < b) => Nat.ne_of_lt h) hG.rise
      have old : ∀ c o, s1.heap.get? c = some o → h'.get? c = some o := fun c o e => by
        have lc : c < s1.heap.objs.size := Heap.lt_size e
        have nn : ∀ (c n k : Nat), c < n → c ≠ n + k := fun c n k h => by omega
        exact hk' c o (nn _ _ _ lc) (nn _ _ _ lc) (nn _ _ 0 lc) (nn _ _ _ lc) (hk c o e)
      have ab : ∀ t ∈ as, s1.heap.objs.size ≤ t := fun t ht => by
        have z := hG.above t ht
        have z' : h5.objs.size + 1 ≤ t := z
        exact Nat.le_trans (by rw [e5]; exact Nat.le_trans (Nat.le_add_right _ 5) (Nat.le_succ _)) z'
      have hpn : h5.objs.size ∉ as := fun z => by
        have z' : h5.objs.size + 1 ≤ h5.objs.size := hG.above _ z
        exact absurd z' (Nat.not_succ_le_self _)
      have sz5 : s1.heap.objs.size ≤ h5.objs.size := by rw [e5]; exact Nat.le_add_right _ 5
      have new : ∀ t ∈ as, H1 t = none := fun t ht => I1.hok.fresh (ab t ht)
      have newS : H1 h5.objs.size = none := I1.hok.fresh sz5
      have hasl : as.length = xs.length := by rw [hal]; simp; omega
      have off : ∀ b, b ∉ as → b ≠ h5.objs.size → putP (upd H1 h5.objs.size (.lst (as.map V.ref))) as ps b = H1 b := fun b h1 h2 => by rw [putP_off as ps _ h1, upd_ne h2]
      have kp : ∀ b u, H1 b = some u → (putP (upd H1 h5.objs.size (.lst (as.map V.ref))) as ps) b = some u := fun b u e => by
        rw [off b (fun z => by rw [new b z] at e; cases e) (fun z => by rw [z, newS] at e; cases e)]
        exact e
      have eS : putP (upd H1 h5.objs.size (.lst (as.map V.ref))) as ps h5.objs.size = some (.lst (as.map V.ref)) := by rw [putP_off as ps _ hpn, upd_same]
      have atj : ∀ (j : Nat) (t : Addr), as[j]? = some t → ∃ x y u v, xs[j]? = some x ∧ ys[j]? = some y ∧ RelV x u ∧ RelV y v ∧ IsPair h' t u v ∧ putP (upd H1 h5.objs.size (.lst (as.map V.ref))) as ps t = some (.tup [x, y]) := fun j t hj => by
        obtain ⟨u, v, g1, g2, g3⟩ := hG.pairs j t hj
        have lj : j < as.length := (List.getElem?_eq_some_iff.mp hj).1
        have lx : j < xs.length := by omega
        have ly : j < ys.length := by omega
        have gx : xs[j]? = some xs[j] := List.getElem?_eq_getElem lx
        have gy : ys[j]? = some ys[j] := List.getElem?_eq_getElem ly
        obtain ⟨u', hu', ru⟩ := rv.get gx
        obtain ⟨v', hv', rv'⟩ := rv2.get gy
        have eu : u' = u := Option.some.inj (hu'.symm.trans (by simpa using g1))
        have ev : v' = v := Option.some.inj (hv'.symm.trans (by simpa using g2))
        subst eu ev
        exact ⟨_, _, _, _, gx, gy, ru, rv', g3, putP_at as ps _ (by omega) nd j t (xs[j], ys[j]) hj (hpx j _ _ gx gy)⟩
      have J : Inv X pins σ (putP (upd H1 h5.objs.size (.lst (as.map V.ref))) as ps) { s1 with heap := h', toks := tk } := by
        refine I1.call' (ch := []) rfl ⟨fun b o q _ _ _ => old b o q, fun b o q _ _ _ => ⟨o.slots, old b o q⟩, fun b o q n _ => ?_, fun b o q _ => ⟨o, old b o q⟩, fun b xs q => kp b _ q, fun b o u q => kp b _ q, fun b ps q => ⟨#[], by rw [kp b _ q]; simp⟩⟩ (fun b u q => ?_) I1.bare fun b z => by simp at z
        · have lb' : b < s1.heap.objs.size := Heap.lt_size q
          rw [off b (fun z => absurd lb' (Nat.not_lt.mpr (ab b z))) (fun z => absurd (Nat.lt_of_lt_of_le lb' sz5) (by rw [z]; exact Nat.lt_irrefl _))]
          exact n
        · by_cases hb : b ∈ as
          · obtain ⟨j, hj⟩ := List.mem_iff_getElem?.mp hb
            obtain ⟨x, y, u1, v1, _, _, r1, r2, pr, ep⟩ := atj j b hj
            rw [ep] at q
            cases q
            exact ⟨by show 2 ≤ sizeLine; decide, [u1, v1], .cons r1 (.cons r2 .nil), ⟨_, pr, rfl, _, rfl⟩⟩
          · by_cases hb2 : b = h5.objs.size
            · rw [hb2] at q ⊢
              rw [eS] at q
              cases q
              refine ⟨by rw [List.length_map]; omega, acc.toList, c, by rw [hacc]; exact vals_refs as, ?_⟩
              rw [Array.toArray_toList]
              exact hS
            · rw [off b hb hb2] at q
              exact (I1.hok b u q).stay (fun d v _ y => old d v y) (fun d y => kp d _ y) fun d xs y => kp d _ y
      refine ⟨.ref h5.objs.size, _, J, rfl, q _ _ as ⟨kp, newS, new, hpn, nd, eS, hasl, fun j t hj => ?_⟩⟩
      obtain ⟨x, y, u1, v1, gx, gy, _, _, _, ep⟩ := atj j t hj
      exact ⟨x, y, gx, gy, ep⟩
end
end ZL
set_option Elab.async false
set_option linter.all false
set_option maxRecDepth 100000
set_option maxHeartbeats 4000000
/-! for i, x in enumerate(t), t a tuple -/
namespace EnT
open PySem
theorem new_one {v : Value} {o : Obj} {H : Heap → Prop} (B : Begins v o H) :
    Meets (Builtin.«enumerate.__new__» ⟨[.type "enumerate", v], []⟩) (fun _ R s => H s.heap ∧
      R (.ok (.ret (.ref (s.heap.push o).objs.size))) { s with heap := (s.heap.push o).push { cls := .type "enumerate", data := .fields #[.none, .bool false, .ref s.heap.objs.size, rawInt 0, .none, .none] } }) :=
  .of_wp fun prog w A R s h => by
    obtain ⟨h0, g0, d0, k0, o0⟩ := s; obtain ⟨hH, hR⟩ := h
    have sube := sub_enumerate
    have it1 : ∀ {A' : Around} {E' : Value → Shared → Prop} {Q' : Value → Shared → Prop}, Q' (.ref h0.objs.size) ⟨h0.push o, g0, d0, k0, o0⟩ → wpAny (model prog w) A' (pyIter v) Q' E' ⟨h0, g0, d0, k0, o0⟩ :=
      fun q => B.iter prog w _ _ ⟨h0, g0, d0, k0, o0⟩ _ hH q
    wp_walk using it1
    refine wpAny_stack_any fun st => wpAny_pure ?_
    split
    · rename_i c _ _ _ _ _
      cases (c == Value.type "enumerate") <;> (wp_walk using it1; exact ⟨_, rfl, hR⟩)
    · wp_walk using it1
      exact ⟨_, rfl, hR⟩
section
variable {prog : Program} {w : World} {A : Around} {E : Value → Shared → Prop} {s : Shared}
theorem call_one {v : Value} {o : Obj} {H : Heap → Prop} {Q : Value → Shared → Prop} (B : Begins v o H) (hH : H s.heap)
    (q : ∀ h', IsEnum h' (s.heap.objs.size + 1) s.heap.objs.size 0 .none → h'.get? s.heap.objs.size = some o → h'.objs.size = s.heap.objs.size + 2 → (∀ b u, s.heap.get? b = some u → h'.get? b = some u) → Q (.ref (s.heap.objs.size + 1)) { s with heap := h' }) :
    wpAny (model prog w) A (call (.type "enumerate") [v]) Q E s := by
  refine callType_new F.called_enumerate (by decide) (F.typeCall_enumerate_1 _) (F.newCall_enumerate_1 _) (fun obj => F.args_object_init_2 obj _) F.entry_enumerate_new (new_one B) ⟨hH, ?_⟩
  have z1 : (s.heap.push o).objs.size = s.heap.objs.size + 1 := Heap.size_push ..
  show _ ∧ _
  rw [z1]
  have e1 : IsEnum ((s.heap.push o).push { cls := .type "enumerate", data := .fields #[.none, .bool false, .ref s.heap.objs.size, rawInt 0, .none, .none] }) (s.heap.objs.size + 1) s.heap.objs.size 0 .none := by
    have z2 := Heap.get?_push_size (s.heap.push o) (o := { cls := .type "enumerate", data := .fields #[.none, .bool false, .ref s.heap.objs.size, rawInt 0, .none, .none] }) rfl
    rw [z1] at z2; exact z2
  exact ⟨⟨_, e1, rfl⟩, q _ e1 (Heap.get?_push_of_some _ (Heap.get?_push_size _ B.free)) (by rw [Heap.size_push, z1]) fun b u x => Heap.get?_push_of_some _ (Heap.get?_push_of_some _ x)⟩
end
end EnT
namespace EnT
open PySem PySem.Spec PyProof.Rows L2
/-- the tuple at a, each item in a new pair with its number -/
def IteT (K : PySem.W.Frag) (a : Addr) (n : Nat) : It :=
  ⟨fun i H => ∃ (xs : List V) (x : V), SqT K H a xs ∧ xs.length = n ∧ xs[i]? = some x, fun i H v H' => ∃ T x, v = .ref T ∧ H T = none ∧ H' = upd H T (.tup [.int (i : Nat), x]) ∧ ∀ xs, SqT K H a xs → xs[i]? = some x, fun i H => ∃ xs : List V, SqT K H a xs ∧ xs.length = n ∧ n ≤ i⟩
theorem turnT {P : Program} {w : World} {K : PySem.W.Frag} {elts : List Expr} {kk : Nat} {tpos : Pos} (a e it : Addr) (n : Nat) (nei : e ≠ it) (nai : a ≠ it) (nae : a ≠ e) :
    Turn P w K (.Tuple elts kk tpos) (IteT K a n) [e, it] e (fun i h => (∃ old, IsEnum h e it ((i : Nat) : Int) old) ∧ h.IsTupleIter it a i ∧ i ≤ n) where
  mem := by simp
  obj := fun i h st b hb => by
    obtain ⟨⟨old, he⟩, ⟨o, ho, _, hd⟩, _⟩ := st
    rcases (show b = e ∨ b = it by simpa using hb) with z | z
    · subst z
      exact ⟨_, he, fun v q => nomatch q⟩
    · subst z
      exact ⟨o, ho, fun v q => by rw [hd] at q; cases q⟩
  keep := fun i h h' st k => ⟨st.1.imp fun old he => k e (by simp) _ he, st.2.1.at fun o q => k it (by simp) o q, st.2.2⟩
  item := by
    intro X hP hw hK hc i pins s σ H E I hf st hg
    subst hP hw hK
    obtain ⟨⟨old, he⟩, hit, hin⟩ := st
    obtain ⟨xs, x, hq, hxn, hx⟩ := hg
    have hlx : i < xs.length := (List.getElem?_eq_some_iff.mp hx).1
    obtain ⟨its, rv, pt, _⟩ := I.tuple hq
    obtain ⟨u, hu, ru⟩ := rv.get hx
    have le : e < s.heap.objs.size := Heap.lt_size he
    have li : it < s.heap.objs.size := by obtain ⟨_, q, _⟩ := hit; exact Heap.lt_size q
    have hlt : i < its.toArray.size := by
      have := (List.getElem?_eq_some_iff.mp hu).1
      simpa using this
    refine wpAny_pyNext_enum_itemC (Draws.tuple (A := X.A.in1) (I.ok.hd hc) it a nai its.toArray) he (i := i) ⟨hit, pt⟩ hlt nei (by
      intro z
      rcases (show e = it ∨ e = a by simpa using z) with z | z
      · exact nei z
      · exact nae z.symm) fun x' h' tk hx' ho hst' hT hsz hk => ?_
    have ex : x' = u := by
      have z : its[i]? = some x' := by simpa using hx'
      exact Option.some.inj (z.symm.trans hu)
    subst ex
    refine ⟨_, rfl, wpAny_letOwnedTupleGo_enum (s := { s with heap := h', toks := tk + 1 }) ho fun h2 he' sb => ?_⟩
    have hT2 : h2.get? s.heap.objs.size = some { cls := .type "tuple", data := .seq #[.int i tk, x'] } := (sb.2 _ (Nat.ne_of_gt le)).trans hT
    have nw : ObjOk X.prog X.w (upd H s.heap.objs.size (.tup [.int (i : Nat), x])) h2 s.heap.objs.size (.tup [.int (i : Nat), x]) :=
      ⟨by show 2 ≤ sizeLine; decide, [.int i tk, x'], .cons ⟨_, rfl⟩ (.cons ru .nil), ⟨_, hT2, rfl, _, rfl⟩⟩
    have I1 : Inv X pins σ (upd H s.heap.objs.size (.tup [.int (i : Nat), x])) { s with heap := h2, toks := tk + 1 } :=
      I.turnedNew (ch := [e, it]) (fun b ob hb q => (sb.2 b (fun z => hb (by simp [z]))).trans (hk b ob (fun z => hb (by simp [z])) (fun z => hb (by simp [z])) q)) hf (Nat.le_refl _) nw
    refine ⟨.ref s.heap.objs.size, _, I1, rfl, ⟨_, x, rfl, I.hok.fresh (Nat.le_refl _), rfl, fun ys hy => by rw [I.tuple_inj hy hq]; exact hx⟩, ⟨⟨x', ?_⟩, hst'.1.at fun o q => (sb.2 it nei.symm).trans q, by omega⟩, fun b hb => ?_⟩
    · rw [show ((i + 1 : Nat) : Int) = (i : Int) + 1 by omega]
      exact he'
    · have lb : b < s.heap.objs.size := by
        rcases (show b = e ∨ b = it by simpa using hb) with z | z <;> (subst z; assumption)
      rw [upd_ne (Nat.ne_of_lt lb)]
      exact (hf b hb).1
  done := by
    intro X hP hw hK hc i pins s σ H E I hf st hg
    subst hP hw hK
    obtain ⟨⟨old, he⟩, hit, hin⟩ := st
    obtain ⟨xs, hq, hxn, hx⟩ := hg
    obtain ⟨its, rv, pt, _⟩ := I.tuple hq
    obtain ⟨f0, f1, f2, f3, f4, f5⟩ := hf it (by simp)
    have hl := rv.length
    have ei : its.toArray.size = i := by simp; omega
    subst ei
    exact wpAny_pyNext_enum_endD (Draws.tuple (A := X.A.in1) (I.ok.hd hc) it a nai its.toArray) he ⟨hit, pt⟩ fun h' eb => ⟨rfl, I.turned (t' := s.toks) (fun b o hb q => eb b o hb q) f0 f1 f3 f4 f5⟩
  self := fun A i s Q E st h => by
    obtain ⟨⟨_, he⟩, _⟩ := st
    exact wpAny_pyIter_enum he h
def iEnumT (K : PySem.W.Frag) (ta : TA) : TI := fun σ H R => ta σ H fun vs H1 => ∃ a xs, vs = [.ref a] ∧ SqT K H1 a xs ∧ R (IteT K a xs.length) H1
theorem pi_enumT {X : Cx} {e : Expr} {ta : TA} {p pos tpos : Pos} {elts : List Expr} {kk : Nat} (hg : Gl X "enumerate") (hm : X.mg "enumerate" = none) (ha : PA X [e] ta) (hs : starEach [e] X.env = [(false, eval e X.env)] := by rfl) :
    PI X (.Tuple elts kk tpos) (.Call (.Name "enumerate" p) [e] [] pos) (iEnumT X.K ta) := by
  refine ⟨fun pins s0 σ H R I h => Call_ (ld_blt I hg hm boot_enumerate (PyProof.Rows.callWith_type1 (thn (ha.run pos pins s0 σ H _ I h) fun us s1 ⟨vs, H1, I1, r1, q1⟩ => ?_) hs rfl))⟩
  obtain ⟨a, xs, ex, hq, q⟩ := q1
  subst ex
  cases r1 with
  | cons r rr =>
    cases rr
    cases r
    obtain ⟨its, rv, pt, _⟩ := I1.tuple hq
    have la : a < s1.heap.objs.size := by obtain ⟨_, z, _⟩ := pt; exact Heap.lt_size z
    refine call_one (begins_tuple a its.toArray) pt fun h' he hit hsz hk => wpAny_pyIter_enum he ?_
    have I2 : Inv X pins σ H1 { s1 with heap := h' } := I1.kept (t' := s1.toks) hk
    refine ⟨s1.heap.objs.size + 1, [s1.heap.objs.size + 1, s1.heap.objs.size], _, _, H1, rfl, I2, turnT a (s1.heap.objs.size + 1) s1.heap.objs.size xs.length (Nat.succ_ne_self _) (Nat.ne_of_lt la) (Nat.ne_of_lt (Nat.lt_succ_of_lt la)), ⟨⟨.none, he⟩, ⟨_, hit, rfl, rfl⟩, Nat.zero_le _⟩, fun b hb => ?_, q⟩
    have hle : s1.heap.objs.size ≤ b := by
      rcases (show b = s1.heap.objs.size + 1 ∨ b = s1.heap.objs.size by simpa using hb) with z | z <;> (subst z; first | exact Nat.le_succ _ | exact Nat.le_refl _)
    exact I1.fpOk hle (I1.hok.fresh hle)
/-- a for over it, by an invariant -/
theorem for_enumT {K : PySem.W.Frag} {a : Addr} {xs : List V} {g : TG} {tb : TS} {D : Ends} {σ : L2.St} {H : Hp} (Pv : Nat → L2.St → Hp → Prop) (h0 : Pv 0 σ H) (hq : ∀ i σ H, Pv i σ H → SqT K H a xs)
    (hs : ∀ (i : Nat) (x : V) (T : Addr) (σ : L2.St) (H : Hp), xs[i]? = some x → Pv i σ H → H T = none → g (.ref T) σ (upd H T (.tup [.int (i : Nat), x])) fun σ2 H2 => tb { D with nx := Pv (i + 1), ct := Pv (i + 1), bk := D.nx } σ2 H2) (hd : ∀ σ H, Pv xs.length σ H → D.nx σ H) :
    ∃ W : Nat → Nat → L2.St → Hp → Prop, (∃ m, W 0 m σ H) ∧ ∀ i m σ H, W i m σ H →
      ((IteT K a xs.length).stop i H ∧ D.nx σ H) ∨ ((IteT K a xs.length).go i H ∧ ∃ N : L2.St → Hp → Prop, (∀ σ' H', N σ' H' → ∃ m', m' < m ∧ W (i + 1) m' σ' H') ∧ ∀ v H', (IteT K a xs.length).yld i H v H' → g v σ H' fun σ2 H2 => tb { D with nx := N, ct := N, bk := D.nx } σ2 H2) := by
  refine ⟨fun i m σ H => m = xs.length - i ∧ i ≤ xs.length ∧ Pv i σ H, ⟨xs.length, rfl, Nat.zero_le _, h0⟩, ?_⟩
  rintro i m σ H ⟨rfl, hi, pv⟩
  have qx := hq i σ H pv
  by_cases hlt : i < xs.length
  · refine .inr ⟨⟨xs, xs[i], qx, rfl, List.getElem?_eq_getElem hlt⟩, Pv (i + 1), fun σ' H' p' => ⟨xs.length - (i + 1), by omega, rfl, hlt, p'⟩, fun v H' y => ?_⟩
    obtain ⟨T, x, rfl, nT, rfl, fx⟩ := y
    exact hs i x T σ H (fx xs qx) pv nT
  · have e : i = xs.length := by omega
    subst e
    exact .inl ⟨⟨xs, qx, rfl, Nat.le_refl _⟩, hd σ H pv⟩
end EnT
set_option linter.all false
namespace KX
open PySem PySem.Spec L2
theorem pg_tupK {X : Cx} {pos : Pos} (K : PySem.W.Frag) {es : List Expr} {k : Nat} {t : TGs} {n : Nat} (hc : X.calm = true) (h : PGs X es t)
    (hn : (assignEach es X.env).length = n := by rfl) (hst : (assignEach es X.env).findIdx? (·.1) = none := by rfl) (hK : X.K = K := by rfl) : PG X (.Tuple es k pos) (gTup K n t) := by
  subst hK
  exact pg_tup hc h hn hst
def rTup (K : PySem.W.Frag) : List V → Hp → VK → Prop := fun xs H Q => ∃ p ys, xs = [V.ref p] ∧ ((SqL K H p ys ∧ ∀ (l : Addr), H l = none → Q (V.ref l) (upd H l (HO.tup ys))) ∨ SqT K H p ys ∧ Q (V.ref p) H)
theorem call_tuple_K {X : Cx} (K : PySem.W.Frag) (hK : X.K = K := by rfl) : CallR X (Value.type "tuple") (rTup K) := by
  subst hK
  exact call_tuple_of
theorem ix_listK {X : Cx} (K : PySem.W.Frag) (hK : X.K = K := by rfl) : IxR X (rIxL K) := by
  subst hK
  exact ix_list
theorem ix_tupK {X : Cx} (K : PySem.W.Frag) (hK : X.K = K := by rfl) : IxR X (rIxT K) := by
  subst hK
  exact ix_tup
theorem in_seqK {X : Cx} (K : PySem.W.Frag) (hK : X.K = K := by rfl) : OpR X (compareOp CmpOp.In) (rIn K false) := by
  subst hK
  exact op_in_seq
theorem mt_indexK {X : Cx} (K : PySem.W.Frag) (hK : X.K = K := by rfl) : MtR X "list.index" (rIndex K) := by
  subst hK
  exact mt_index
theorem pi_tupK {X : Cx} (K : PySem.W.Frag) {tg l : Expr} {tl : TE} (h : PE X l tl) (hK : X.K = K := by rfl) : PI X tg l (iTup K tl) := by
  subst hK
  exact pi_tup h
theorem pi_listK {X : Cx} (K : PySem.W.Frag) {tg l : Expr} {tl : TE} (h : PE X l tl) (hK : X.K = K := by rfl) : PI X tg l (iList K tl) := by
  subst hK
  exact pi_list h
theorem hu {A : Around} {k : Nat} (hr : Room k A) : A.units + 1 < cLine := by have := hr.units; omega
theorem pe_bmK {X : Cx} (K : PySem.W.Frag) {o e : Expr} {es : List Expr} {to : TE} {t : TA} {name : Str} {apos cpos : Pos} {T id : String} {r : V → List V → Hp → VK → Prop} (h1 : PlainAttrs T) (h2 : Slot T name id) (h3 : typeOf (Value.builtin id) = pure (Value.type "method_descriptor")) (h4 : MtR X id r) (h5 : PE X o to) (h6 : PA X (e :: es) t)
    (a1 : attributeBase o name X.env (eval o X.env) = eval o X.env := by rfl)
    (a2 : ((((backTo cpos (starEach (e :: es) X.env)).all fun x => !x.fst) && (backToKw cpos (keywordEach [] X.env)).all fun x => x.fst.isSome) && decide (((e :: es).length + ([] : List Keyword).length + if ([] : List Keyword).isEmpty = true then 0 else 1) < 30)) = true := by rfl)
    (a3 : (apos.endLine == cpos.line) = true := by rfl) (a4 : starEach (e :: es) X.env = (false, eval e X.env) :: starEach es X.env := by rfl) (a5 : ((backTo cpos (starEach es X.env)).any fun x => x.fst) = false := by rfl) (hK : X.K = K := by rfl) :
    PE X ((o.Attribute name apos).Call (e :: es) [] cpos) (tBM K T r to t) := by
  subst hK
  exact pe_bm h1 h2 h3 h4 h5 h6 a1 a2 a3 a4 a5
theorem notin_seqK {X : Cx} (K : PySem.W.Frag) (hK : X.K = K := by rfl) : OpR X (compareOp CmpOp.NotIn) (rIn K true) := by
  subst hK
  exact op_notIn_seq
theorem call_list_K {X : Cx} (K : PySem.W.Frag) (hK : X.K = K := by rfl) : CallR X (Value.type "list") (fun xs H Q => ∃ p ys, xs = [V.ref p] ∧ (SqL K H p ys ∨ SqT K H p ys) ∧ ∀ (l : Addr), H l = none → Q (V.ref l) (upd H l (HO.lst ys))) := by
  subst hK
  exact call_list_of
def rLenK (K : PySem.W.Frag) : List V → Hp → VK → Prop := fun xs H Q => ∃ p ys, xs = [V.ref p] ∧ (SqL K H p ys ∨ SqT K H p ys) ∧ Q (V.int (ys.length : Nat)) H
theorem len_seqK {X : Cx} (K : PySem.W.Frag) (hK : X.K = K := by rfl) : CallR X (Value.builtin "len") (rLenK K) := by
  subst hK
  exact call_len_seq
end KX
set_option Elab.async false
set_option linter.all false
set_option maxRecDepth 100000
set_option maxHeartbeats 4000000
/-! t * 0, t * 2, t a tuple, perhaps without items -/
namespace BR
open PySem PySem.Spec PyProof.Rows L2
theorem tuple_none0 (l : Addr) (n : Nat) (dd : Option Addr) (sl : Array (Option Value)) (u : Tok) :
    Meets (Builtin.«tuple.__mul__» ⟨[.ref l, .int 0 u], []⟩) (fun _ R s => s.heap.get? l = some { cls := .type "tuple", dict := dd, data := .seq #[] n, slots := sl } ∧ R (.ok (.ret (Value.ref l))) s) :=
  .of_wp fun prog w A R s h => by
    obtain ⟨hp, g, d, tk, os⟩ := s
    obtain ⟨hl, h⟩ := h
    have f1 := AutoSeq1.idx_int
    wp_walk using wpAny_loadPart' hl
    exact ⟨_, rfl, h⟩
theorem tuple_none2 (l : Addr) (n : Nat) (dd : Option Addr) (sl : Array (Option Value)) (u : Tok) :
    Meets (Builtin.«tuple.__mul__» ⟨[.ref l, .int 2 u], []⟩) (fun _ R s => s.heap.get? l = some { cls := .type "tuple", dict := dd, data := .seq #[] n, slots := sl } ∧ R (.ok (.ret (Value.ref l))) s) :=
  .of_wp fun prog w A R s h => by
    obtain ⟨hp, g, d, tk, os⟩ := s
    obtain ⟨hl, h⟩ := h
    have f1 := AutoSeq1.idx_int
    wp_walk using wpAny_loadPart' hl
    exact ⟨_, rfl, h⟩
def rRepA (K : PySem.W.Frag) : R2 := fun x y H Q => ∃ l k xs, x = .ref l ∧ y = .int k ∧ SqT K H l xs ∧ xs.length ≤ 1000 ∧ (k = 0 ∨ k = 2) ∧ (xs = [] → Q (.ref l) H) ∧ (xs ≠ [] → ∀ p, H p = none → Q (.ref p) (upd H p (.tup (List.replicate k.toNat xs).flatten)))
section
variable {X : Cx}
theorem op_repA : OpR X (binaryOp .Mult) (rRepA X.K) := by
  intro pins s σ H x y v u Q I rx ry h
  obtain ⟨l, k, xs, ex, ey, hT, hlen, hk, q0, q1⟩ := h
  by_cases hx : xs = []
  · subst hx ex ey
    cases rx
    obtain ⟨t, rfl⟩ := ry
    obtain ⟨its, r, ⟨⟨cls, dd, data, sl⟩, ho, hc, n, hd⟩, hs⟩ := I.tuple hT
    simp only at hc hd
    subst hc hd
    cases r
    rcases hk with rfl | rfl
    · refine wpAny_binaryOp_repeat_ref (T := "tuple") (U := "int") (by decide) ⟨_, ho, rfl⟩ (fun s' => typeIs_int s' 0 t) noFill_tuple_mul F.fills_int_mul F.slot_int_rmul repeat_tuple F.slot_int_index.lookup
        (call_meets F.slot_int_rmul (typeIs_int s 0 t) F.entry_int_rmul (F.args_int_rmul_2 _ _) (int_rmul_tuple 0 t l _ n dd sl)
          ⟨ho, rfl, ⟨_, ho, rfl⟩, call_meets F.slot_tuple_mul ⟨_, ho, rfl⟩ F.entry_tuple_mul (F.args_tuple_mul_2 _ _) (tuple_none0 l n dd sl t) ⟨ho, ?_⟩⟩)
      exact ⟨.ref l, H, I, rfl, q0 rfl⟩
    · refine wpAny_binaryOp_repeat_ref (T := "tuple") (U := "int") (by decide) ⟨_, ho, rfl⟩ (fun s' => typeIs_int s' 2 t) noFill_tuple_mul F.fills_int_mul F.slot_int_rmul repeat_tuple F.slot_int_index.lookup
        (call_meets F.slot_int_rmul (typeIs_int s 2 t) F.entry_int_rmul (F.args_int_rmul_2 _ _) (int_rmul_tuple 2 t l _ n dd sl)
          ⟨ho, rfl, ⟨_, ho, rfl⟩, call_meets F.slot_tuple_mul ⟨_, ho, rfl⟩ F.entry_tuple_mul (F.args_tuple_mul_2 _ _) (tuple_none2 l n dd sl t) ⟨ho, ?_⟩⟩)
      exact ⟨.ref l, H, I, rfl, q0 rfl⟩
  · rcases hk with rfl | rfl
    · exact BO.op_rep01 pins s σ H x y v u Q I rx ry ⟨l, 0, xs, ex, ey, hT, hx, .inr ⟨rfl, fun p n => q1 hx p n⟩⟩
    · exact op_repT pins s σ H x y v u Q I rx ry ⟨l, 2, xs, ex, ey, hT, hx, by decide, by decide, hlen, fun p n => q1 hx p n⟩
end
end BR
set_option linter.all false
set_option maxRecDepth 100000
namespace BN
open PySem PySem.Calls PySem.NumText PyProof.Rows PySem.W PySem.W.KIN
/-- the text of a number above 640 signs: the limit is asked -/
theorem wp_textL {M : Model} {A : Around} {E : Value → Shared → Prop} {s : Shared} {Q : Value → Shared → Prop} {v : Value} {text : List Nat} {n : Int}
    (hd : Looks M s.heap (nsGet cStatics "sys.int_max_str_digits") none)
    (hs : ¬ (text.takeWhile (· != 0)).length ≤ 640) (hr : (int_private% "readNumeral") 4300 10 (text.takeWhile (· != 0)) = (int_private% "Numeral.value") n)
    (ha : ((text.takeWhile (· != 0)).length == text.length) = true) (h : Q (.int n s.toks) { s with toks := s.toks + 1 }) :
    wpAny M A ((int_private% "intFromText") v text 10) Q E s := by
  obtain ⟨hp, g, d, tk, os⟩ := s
  dsimp only at hd
  repeat (any_goals (first
    | assumption
    | (with_reducible refine wpAny_ite_false (decide_eq_false hs) ?_)
    | (with_reducible refine wpAny_ite_true (decide_eq_true ha) ?_)
    | (with_reducible refine Looks.at hd ?_)
    | wp_step))
  all_goals (try rw [hr])
  all_goals (try dsimp only)
  repeat (any_goals (first
    | assumption
    | (with_reducible refine wpAny_ite_false (decide_eq_false hs) ?_)
    | (with_reducible refine wpAny_ite_true (decide_eq_true ha) ?_)
    | (with_reducible refine Looks.at hd ?_)
    | wp_step))
set_option maxHeartbeats 4000000 in
theorem gives_seen {x : PySem.Str} {u : Tok} {n : Int} (hs : (numSeenOf x).length ≤ 640) (hn : PySem.intText? x = some n) : Gives (Builtin.«int.__new__» ⟨[.type "int", .str x u], []⟩) (.int n) :=
  .of_wp fun M A E s Q h => by
    obtain ⟨hp, g, d, tk, os⟩ := s
    have f1 := F.conv_sub_int
    have f2 := F.madeHere_int
    have f3 := str_int
    have f4 := str_idx
    have f5 := str_trunc
    have f6 : typeOf (.str x u) = pure (.type "str") := rfl
    have hr : (int_private% "readNumeral") 0 10 (numSeenOf x) = (int_private% "Numeral.value") n ∧ ((numSeenOf x).length == (numTextOf x).length) = true := by
      rcases read0 x hs with ⟨m, h1, h2, h3⟩ | ⟨h1, _⟩
      · rw [hn] at h1
        injection h1 with h1
        subst h1
        exact ⟨h3, h2⟩
      · rw [hn] at h1
        cases h1
    have hk := Hid.mk (And.intro hs hr)
    clear hs hr hn
    repeat (any_goals (first
      | assumption
      | ((with_reducible show wpAny _ _ ((int_private% "intFromText") _ _ _) _ _ _); refine wp_text hk.out.1 hk.out.2.1 hk.out.2.2 ?_)
      | wp_step))
    all_goals first | exact ⟨_, rfl, h⟩ | skip
set_option maxHeartbeats 4000000 in
theorem meets_long {x : PySem.Str} {u : Tok} {n : Int} (hs : ¬ (numSeenOf x).length ≤ 640) (hz : x.length ≤ sizeLine) (hn : PySem.intText? x = some n) :
    Meets (Builtin.«int.__new__» ⟨[.type "int", .str x u], []⟩) (fun A R s => (∀ M : Model, Looks M s.heap (nsGet cStatics "sys.int_max_str_digits") none) ∧ R (.ok (.ret (.int n s.toks))) { s with toks := s.toks + 1 }) := by
  intro prog w A R s h
  obtain ⟨hd, h⟩ := h
  obtain ⟨hp, g, d, tk, os⟩ := s
  have f1 := F.conv_sub_int
  have f2 := F.madeHere_int
  have f3 := str_int
  have f4 := str_idx
  have f5 := str_trunc
  have f6 : typeOf (.str x u) = pure (.type "str") := rfl
  have hr : (int_private% "readNumeral") 4300 10 (numSeenOf x) = (int_private% "Numeral.value") n ∧ ((numSeenOf x).length == (numTextOf x).length) = true := by
    rcases read4300 x hz with ⟨m, h1, h2, h3⟩ | ⟨h1, _⟩
    · rw [hn] at h1
      injection h1 with h1
      subst h1
      exact ⟨h3, h2⟩
    · rw [hn] at h1
      cases h1
  have hd' := hd (model prog w)
  have hk := Hid.mk (And.intro hs (And.intro hr hd'))
  clear hs hr hn hd hd' hz
  repeat (any_goals (first
    | assumption
    | ((with_reducible show wpAny _ _ ((int_private% "intFromText") _ _ _) _ _ _); refine wp_textL hk.out.2.2 hk.out.1 hk.out.2.1.1 hk.out.2.1.2 ?_)
    | wp_step))
/-- int(text) of up to 4300 figures -/
theorem call_int_wide {X : L2.Cx} (hd : nsIn X.K cStatics "sys.int_max_str_digits" = some none) : L2.CallR X (.type "int") (fun xs H Q => ∃ a n, xs = [.str a] ∧ PySem.intText? a = some n ∧ a.length ≤ sizeLine ∧ Q (.int n) H) := by
  intro pins s σ H xs us Q I rs h
  obtain ⟨a, n, rfl, hn, hl, h⟩ := h
  cases rs with
  | cons r1 rs =>
    cases rs
    obtain ⟨t, rfl⟩ := r1
    by_cases hs : (numSeenOf a).length ≤ 640
    · exact call_int_1 (gives_seen hs hn).meets (show (Made.int n).post _ s from ⟨rfl, ⟨.int n, H, I.tok _, ⟨_, rfl⟩, h⟩⟩)
    · exact call_int_1 (meets_long hs hl hn) ⟨fun M => looks_nsIn I.kIn hd, ⟨rfl, ⟨.int n, H, I.tok _, ⟨_, rfl⟩, h⟩⟩⟩
end BN
set_option Elab.async false
set_option linter.all false
set_option maxRecDepth 100000
set_option maxHeartbeats 4000000
namespace BO
open PySem PySem.Spec PyProof.Rows L2
section
variable {X : Cx}
/-- a sign, up to 9,000 times -/
def rRepL : R2 := fun x y H Q => ∃ (c n : Nat), x = .str ⟨#[c]⟩ ∧ y = .int (n : Int) ∧ 1 ≤ n ∧ n ≤ 9000 ∧ Q (.str ⟨(List.replicate n c).toArray⟩) H
theorem op_repL : OpR X (binaryOp .Mult) rRepL := by
  intro pins s σ H x y v u Q I rx ry h
  obtain ⟨c, n, rfl, rfl, h1, h2, q⟩ := h
  obtain ⟨t, rfl⟩ := rx
  obtain ⟨t', rfl⟩ := ry
  have hn : ¬ ((n : Int) < 1) := by omega
  have hz1 : (⟨#[c]⟩ : Str).length = 1 := rfl
  have hz : ((⟨#[c]⟩ : Str).length == 0) = false := rfl
  have e0 : repS ⟨#[c]⟩ n = (⟨(List.replicate n c).toArray⟩ : Str) := by
    rw [repS_eq h1]
    congr 1
    show ((List.replicate n [c]).flatten).toArray = _
    congr 1
    clear h1 h2 hn q
    induction n with
    | zero => rfl
    | succ n ih => rw [List.replicate_succ, List.replicate_succ, List.flatten_cons, ih]; rfl
  rw [← e0] at q
  refine P.mul_str (by rw [decide_eq_false (by omega), decide_eq_false (by omega)]; rfl) (fun _ c => ?_) (fun _ c => ?_) ?_
  · have : (100 : Int) ≤ (2 ^ 63 - 1) / (n : Int) := Int.le_ediv_of_mul_le (by omega) (by omega)
    omega
  · rw [Int.toNat_natCast, hz1]
    exact short (by omega)
  · rw [if_neg hn]
    unfold repS at q
    by_cases e : n = 1
    · subst e
      rw [if_pos rfl] at q
      rw [if_pos (by rfl)]
      exact ⟨.str _, H, I, ⟨t, rfl⟩, q⟩
    · rw [if_neg e] at q
      rw [if_neg (by rw [hz, Bool.or_false]; exact fun w => e (by have := beq_iff_eq.mp w; omega))]
      refine ⟨?_, .str _, H, I.tok _, ⟨_, rfl⟩, ?_⟩
      · rw [Int.toNat_natCast, fold_rep]
        show (List.toArray _).size ≤ sizeLine
        rw [List.size_toArray, List.length_append, List.length_flatten, List.map_replicate, List.sum_replicate_nat, sizeLine_eq]
        show (#[] : Array Nat).toList.length + n * 1 ≤ _
        show 0 + n * 1 ≤ _
        omega
      · rw [Int.toNat_natCast]
        exact q
end
end BO
set_option Elab.async false
set_option linter.all false
set_option maxRecDepth 100000
set_option maxHeartbeats 2000000
namespace B02
open PySem PySem.Spec PyProof.Rows L2
def topS (i : Nat) : Stmt := PySem.Challenge.pw_boughkept_k02_fractions_written.main.body.getD i (.Pass ⟨0, 0, 0, 0⟩)
abbrev st_cdiv : Stmt := topS 21
theorem sc_cdiv : FnScope ["one", "other"] ["one", "other"] (defScope st_cdiv) := ⟨rfl, rfl, rfl, by decide +kernel, rfl, by decide +kernel, by decide +kernel⟩
abbrev st_showfr : Stmt := topS 22
theorem sc_showfr : FnScope ["one", "upper", "lower"] ["one"] (defScope st_showfr) := ⟨rfl, rfl, rfl, by decide +kernel, rfl, by decide +kernel, by decide +kernel⟩
abbrev st_showwh : Stmt := topS 23
theorem sc_showwh : FnScope ["number", "left", "pieces", "piece", "sign"] ["number"] (defScope st_showwh) := ⟨rfl, rfl, rfl, by decide +kernel, rfl, by decide +kernel, by decide +kernel⟩
abbrev st_readfr : Stmt := topS 24
theorem sc_readfr : FnScope ["text", "upper_text", "line", "lower_text", "upper", "lower"] ["text"] (defScope st_readfr) := ⟨rfl, rfl, rfl, by decide +kernel, rfl, by decide +kernel, by decide +kernel⟩
abbrev st_readsg : Stmt := topS 25
theorem sc_readsg : FnScope ["text", "number"] ["text"] (defScope st_readsg) := ⟨rfl, rfl, rfl, by decide +kernel, rfl, by decide +kernel, by decide +kernel⟩
abbrev st_readfg : Stmt := topS 26
theorem sc_readfg : FnScope ["text", "sign"] ["text"] (defScope st_readfg) := ⟨rfl, rfl, rfl, by decide +kernel, rfl, by decide +kernel, by decide +kernel⟩
abbrev st_box : Stmt := topS 28
theorem sc_box : FnScope ["_law_script", "_law_k", "_law_cell", "_law_seed"] ["_law_script", "_law_k"] (defScope st_box) := ⟨rfl, rfl, rfl, by decide +kernel, rfl, by decide +kernel, by decide +kernel⟩
abbrev st_take : Stmt := topS 29
theorem sc_take : FnScope ["_law_box_here", "_law_many", "_law_digit", "_law_one"] ["_law_box_here", "_law_many"] (defScope st_take) := ⟨rfl, rfl, rfl, by decide +kernel, rfl, by decide +kernel, by decide +kernel⟩
abbrev st_alike : Stmt := topS 30
theorem sc_alike : FnScope ["_law_found", "_law_due", "_law_left", "_law_one", "_law_other"] ["_law_found", "_law_due"] (defScope st_alike) := ⟨rfl, rfl, rfl, by decide +kernel, rfl, by decide +kernel, by decide +kernel⟩
abbrev st_shared : Stmt := topS 31
theorem sc_shared : FnScope ["_law_one", "_law_other"] ["_law_one", "_law_other"] (defScope st_shared) := ⟨rfl, rfl, rfl, by decide +kernel, rfl, by decide +kernel, by decide +kernel⟩
abbrev st_lowest : Stmt := topS 32
theorem sc_lowest : FnScope ["_law_upper", "_law_lower", "_law_part"] ["_law_upper", "_law_lower"] (defScope st_lowest) := ⟨rfl, rfl, rfl, by decide +kernel, rfl, by decide +kernel, by decide +kernel⟩
abbrev st_signs : Stmt := topS 33
theorem sc_signs : FnScope ["_law_found"] [] (defScope st_signs) := ⟨rfl, rfl, rfl, by decide +kernel, rfl, by decide +kernel, by decide +kernel⟩
abbrev st_figures : Stmt := topS 34
theorem sc_figures : FnScope ["_law_text", "_law_sign"] ["_law_text"] (defScope st_figures) := ⟨rfl, rfl, rfl, by decide +kernel, rfl, by decide +kernel, by decide +kernel⟩
abbrev st_lin : Stmt := topS 35
theorem sc_lin : FnScope ["_law_text", "_law_sign", "_law_upper", "_law_stroke", "_law_lower", "_law_above", "_law_below"] ["_law_text"] (defScope st_lin) := ⟨rfl, rfl, rfl, by decide +kernel, rfl, by decide +kernel, by decide +kernel⟩
abbrev st_spoilt : Stmt := topS 36
theorem sc_spoilt : FnScope ["_law_box_here", "_law_text", "_law_way", "_law_at", "_law_signs_here", "_law_sign", "_law_some"] ["_law_box_here", "_law_text"] (defScope st_spoilt) := ⟨rfl, rfl, rfl, by decide +kernel, rfl, by decide +kernel, by decide +kernel⟩
abbrev st_heard : Stmt := topS 37
theorem sc_heard : FnScope ["_law_text", "_law_found", "e", "_law_others"] ["_law_text"] (defScope st_heard) := ⟨rfl, rfl, rfl, by decide +kernel, rfl, by decide +kernel, by decide +kernel⟩
abbrev st_right : Stmt := topS 38
theorem sc_right : FnScope ["_law_text", "_law_due"] ["_law_text"] (defScope st_right) := ⟨rfl, rfl, rfl, by decide +kernel, rfl, by decide +kernel, by decide +kernel⟩
abbrev st_law : Stmt := topS 39
theorem sc_law : FnScope ["_law_script", "_law_k", "_law_box_here", "_law_wide", "_law_upper", "_law_lower", "_law_one", "_law_good", "_law_turn", "_law_text", "_law_more", "_law_great"] ["_law_script"] (defScope st_law) := ⟨rfl, rfl, rfl, by decide +kernel, rfl, by decide +kernel, by decide +kernel⟩
abbrev st_nx : Stmt := inClass (topS 2) 0
abbrev fs_nx : Stmt := (defBody st_nx).getD 0 (.Pass ⟨0, 0, 0, 0⟩)
abbrev fs_nx1 : Stmt := (defBody st_nx).getD 1 (.Pass ⟨0, 0, 0, 0⟩)

structure Tx (P : Program) (K : PySem.W.Frag) (mg : Str → Option Value) : Type where
  f_cdiv : Addr
  fd_cdiv : FuncData
  F_cdiv : Fun K "common_divisor" "common_divisor" st_cdiv f_cdiv fd_cdiv
  g_cdiv : mg "common_divisor" = some (.ref f_cdiv)
  b_cdiv : Binds K fd_cdiv ["one", "other"] []
  f_showfr : Addr
  fd_showfr : FuncData
  F_showfr : Fun K "show_fraction" "show_fraction" st_showfr f_showfr fd_showfr
  g_showfr : mg "show_fraction" = some (.ref f_showfr)
  b_showfr : Binds K fd_showfr ["one"] []
  f_showwh : Addr
  fd_showwh : FuncData
  F_showwh : Fun K "show_whole" "show_whole" st_showwh f_showwh fd_showwh
  g_showwh : mg "show_whole" = some (.ref f_showwh)
  b_showwh : Binds K fd_showwh ["number"] []
  f_readfr : Addr
  fd_readfr : FuncData
  F_readfr : Fun K "read_fraction" "read_fraction" st_readfr f_readfr fd_readfr
  g_readfr : mg "read_fraction" = some (.ref f_readfr)
  b_readfr : Binds K fd_readfr ["text"] []
  f_readsg : Addr
  fd_readsg : FuncData
  F_readsg : Fun K "read_signed" "read_signed" st_readsg f_readsg fd_readsg
  g_readsg : mg "read_signed" = some (.ref f_readsg)
  b_readsg : Binds K fd_readsg ["text"] []
  f_readfg : Addr
  fd_readfg : FuncData
  F_readfg : Fun K "read_figures" "read_figures" st_readfg f_readfg fd_readfg
  g_readfg : mg "read_figures" = some (.ref f_readfg)
  b_readfg : Binds K fd_readfg ["text"] []
  f_box : Addr
  fd_box : FuncData
  F_box : Fun K "_law_box" "_law_box" st_box f_box fd_box
  g_box : mg "_law_box" = some (.ref f_box)
  b_box : Binds K fd_box ["_law_script", "_law_k"] []
  f_take : Addr
  fd_take : FuncData
  F_take : Fun K "_law_take" "_law_take" st_take f_take fd_take
  g_take : mg "_law_take" = some (.ref f_take)
  b_take : Binds K fd_take ["_law_box_here", "_law_many"] []
  f_alike : Addr
  fd_alike : FuncData
  F_alike : Fun K "_law_alike" "_law_alike" st_alike f_alike fd_alike
  g_alike : mg "_law_alike" = some (.ref f_alike)
  b_alike : Binds K fd_alike ["_law_found", "_law_due"] []
  f_shared : Addr
  fd_shared : FuncData
  F_shared : Fun K "_law_shared" "_law_shared" st_shared f_shared fd_shared
  g_shared : mg "_law_shared" = some (.ref f_shared)
  b_shared : Binds K fd_shared ["_law_one", "_law_other"] []
  f_lowest : Addr
  fd_lowest : FuncData
  F_lowest : Fun K "_law_lowest" "_law_lowest" st_lowest f_lowest fd_lowest
  g_lowest : mg "_law_lowest" = some (.ref f_lowest)
  b_lowest : Binds K fd_lowest ["_law_upper", "_law_lower"] []
  f_signs : Addr
  fd_signs : FuncData
  F_signs : Fun K "_law_signs" "_law_signs" st_signs f_signs fd_signs
  g_signs : mg "_law_signs" = some (.ref f_signs)
  b_signs : Binds K fd_signs [] []
  f_figures : Addr
  fd_figures : FuncData
  F_figures : Fun K "_law_figures" "_law_figures" st_figures f_figures fd_figures
  g_figures : mg "_law_figures" = some (.ref f_figures)
  b_figures : Binds K fd_figures ["_law_text"] []
  f_lin : Addr
  fd_lin : FuncData
  F_lin : Fun K "_law_in" "_law_in" st_lin f_lin fd_lin
  g_lin : mg "_law_in" = some (.ref f_lin)
  b_lin : Binds K fd_lin ["_law_text"] []
  f_spoilt : Addr
  fd_spoilt : FuncData
  F_spoilt : Fun K "_law_spoilt" "_law_spoilt" st_spoilt f_spoilt fd_spoilt
  g_spoilt : mg "_law_spoilt" = some (.ref f_spoilt)
  b_spoilt : Binds K fd_spoilt ["_law_box_here", "_law_text"] []
  f_heard : Addr
  fd_heard : FuncData
  F_heard : Fun K "_law_heard" "_law_heard" st_heard f_heard fd_heard
  g_heard : mg "_law_heard" = some (.ref f_heard)
  b_heard : Binds K fd_heard ["_law_text"] []
  f_right : Addr
  fd_right : FuncData
  F_right : Fun K "_law_right" "_law_right" st_right f_right fd_right
  g_right : mg "_law_right" = some (.ref f_right)
  b_right : Binds K fd_right ["_law_text"] []
  m_len : mg "len" = none
  m_int : mg "int" = none
  m_bool : mg "bool" = none
  m_list : mg "list" = none
  m_tuple : mg "tuple" = none
  m_zip : mg "zip" = none
  m_isinstance : mg "isinstance" = none
  m_max : mg "max" = none
  m_min : mg "min" = none
  m_range : mg "range" = none
  m_all : mg "all" = none
  m_abs : mg "abs" = none
  m_divmod : mg "divmod" = none
  m_reversed : mg "reversed" = none
  m_ValueError : mg "ValueError" = none
  m_super : mg "super" = none
  m_str : mg "str" = none
  t_FIGURES : Tok
  c_FIGURES : mg "FIGURES" = some (.str (Str.ofString "0123456789") t_FIGURES)
  t_MOST_FIGURES : Tok
  c_MOST_FIGURES : mg "MOST_FIGURES" = some (.int 30 t_MOST_FIGURES)
  t_PIECE_FIGURES : Tok
  c_PIECE_FIGURES : mg "PIECE_FIGURES" = some (.int 60 t_PIECE_FIGURES)
  t_PIECE : Tok
  c_PIECE : mg "PIECE" = some (.int 1000000000000000000000000000000000000000000000000000000000000 t_PIECE)
  CB : Addr
  g_BoughError : mg "BoughError" = some (.ref CB)
  C_NoFit : Addr
  g_NoFit : mg "NoFit" = some (.ref C_NoFit)
  C_NoPrinter : Addr
  g_NoPrinter : mg "NoPrinter" = some (.ref C_NoPrinter)
  C_NoReader : Addr
  g_NoReader : mg "NoReader" = some (.ref C_NoReader)
  C_NoRow : Addr
  g_NoRow : mg "NoRow" = some (.ref C_NoRow)
  C_NoTree : Addr
  g_NoTree : mg "NoTree" = some (.ref C_NoTree)
  C_NoTurner : Addr
  g_NoTurner : mg "NoTurner" = some (.ref C_NoTurner)
  C_NoWood : Addr
  g_NoWood : mg "NoWood" = some (.ref C_NoWood)
  C_NoWord : Addr
  g_NoWord : mg "NoWord" = some (.ref C_NoWord)
  C_TooLong : Addr
  g_TooLong : mg "TooLong" = some (.ref C_TooLong)
  C_TooWide : Addr
  g_TooWide : mg "TooWide" = some (.ref C_TooWide)
  C_NoBox : Addr
  g_NoBox : mg "NoBox" = some (.ref C_NoBox)
  C_NotKept : Addr
  g_NotKept : mg "NotKept" = some (.ref C_NotKept)
  C_Nought : Addr
  g_Nought : mg "Nought" = some (.ref C_Nought)
  CT : Addr
  fIT : Addr
  ccT : Addr
  cdaT : Addr
  excT : PySem.BX.ETxt P K mg CT fIT ccT cdaT "ValueError" "ValueError.__new__" "ValueError.__init__" [.type "ValueError", .type "Exception", .type "BaseException", .type "object"] "NoText" "NoText.__init__" (defArgs st_nx) fs_nx [fs_nx1] (defScope st_nx)
  fldT : PySem.BX.FTxt K CT ["row"]
  exIT : ExcC K CT
  xfcT : XfC K CT
  exmT : PySem.W.exmOne K (.ref CT) (.ref CB) = some true
  kCT : PySem.W.kitOne K (.ref CT) (.ref CT) = some true
  kVT : PySem.W.kitOne K (.ref CT) (.type "ValueError") = some true
  is1T : PySem.BX.IsF "NoText.__init__" (defScope st_nx) fIT cdaT ccT fs_nx1 "row" "row"
  noRow : PySem.W.findIn K (.ref CT) "row" = some none
  kT_NoFit : PySem.W.kitOne K (.ref CT) (.ref C_NoFit) = some false
  kT_NoPrinter : PySem.W.kitOne K (.ref CT) (.ref C_NoPrinter) = some false
  kT_NoReader : PySem.W.kitOne K (.ref CT) (.ref C_NoReader) = some false
  kT_NoRow : PySem.W.kitOne K (.ref CT) (.ref C_NoRow) = some false
  kT_NoTree : PySem.W.kitOne K (.ref CT) (.ref C_NoTree) = some false
  kT_NoTurner : PySem.W.kitOne K (.ref CT) (.ref C_NoTurner) = some false
  kT_NoWood : PySem.W.kitOne K (.ref CT) (.ref C_NoWood) = some false
  kT_NoWord : PySem.W.kitOne K (.ref CT) (.ref C_NoWord) = some false
  kT_TooLong : PySem.W.kitOne K (.ref CT) (.ref C_TooLong) = some false
  kT_TooWide : PySem.W.kitOne K (.ref CT) (.ref C_TooWide) = some false
  kT_NoBox : PySem.W.kitOne K (.ref CT) (.ref C_NoBox) = some false
  kT_NotKept : PySem.W.kitOne K (.ref CT) (.ref C_NotKept) = some false
  kT_Nought : PySem.W.kitOne K (.ref CT) (.ref C_Nought) = some false
  kBT : PySem.W.kitOne K (.ref CT) (.ref CB) = some true
  exmS : PySem.W.exmOne K (.ref CT) (.ref CT) = some true
  dig : PySem.W.nsIn K cStatics "sys.int_max_str_digits" = some none
/-! ### heaps -/
theorem same_new {H : Hp} {p : Addr} {o : HO} (h : H p = none) : Same H (upd H p o) := fun b x e => by
  rw [upd_ne (ne_of_none e h)]
  exact e
/-- three ints at a: the law's draw -/
def Drw (H : Hp) (a : Addr) : Prop := ∃ x y z : Int, H a = some (.lst [.int x, .int y, .int z])
theorem Drw.ne {H : Hp} {a p : Addr} (d : Drw H a) (n : H p = none) : a ≠ p := by
  obtain ⟨x, y, z, e⟩ := d
  exact ne_of_none e n
theorem Drw.mono {H H' : Hp} {a : Addr} (d : Drw H a) (s : Same H H') : Drw H' a := by
  obtain ⟨x, y, z, e⟩ := d
  exact ⟨x, y, z, s _ _ e⟩
/-- all but the draw at a is as it was, and a draw stands there -/
def Gr (a : Addr) (H H' : Hp) : Prop := (∀ b o, b ≠ a → H b = some o → H' b = some o) ∧ Drw H' a
theorem Gr.trans {a : Addr} {H H1 H2 : Hp} (x : Gr a H H1) (y : Gr a H1 H2) : Gr a H H2 := ⟨fun b o n e => y.1 b o n (x.1 b o n e), y.2⟩
theorem Gr.of {a : Addr} {H H' : Hp} (s : Same H H') (d : Drw H a) : Gr a H H' := ⟨fun b o _ e => s b o e, by
  obtain ⟨x, y, z, e⟩ := d
  exact ⟨x, y, z, s _ _ e⟩⟩
theorem Gr.set {a : Addr} {H : Hp} {x y z : Int} : Gr a H (upd H a (.lst [.int x, .int y, .int z])) := ⟨fun b o n e => by
  rw [upd_ne n]
  exact e, ⟨x, y, z, upd_same⟩⟩
theorem Gr.same {a : Addr} {H0 H H' : Hp} (n : H0 a = none) (s : Same H0 H) (g : Gr a H H') : Same H0 H' := fun b o e => g.1 b o (ne_of_none e n) (s b o e)
/-! ### mathematics -/
theorem nz {j : Int} (h : (j == 0) = false) : j ≠ 0 := by simpa using h
theorem fmod_pos {i j : Int} (h : 0 < j) : 0 ≤ i.fmod j ∧ i.fmod j < j := by
  rw [Int.fmod_eq_emod_of_nonneg i (Int.le_of_lt h)]
  exact ⟨Int.emod_nonneg i (by omega), Int.emod_lt_of_pos i h⟩
/-- a comprehension that changes nothing that stood before, its list told -/
theorem lc_pure {J : It} {n : Nat} {G : Hp → Prop} {Y : Nat → Hp → V → Hp → Prop} (wk : Walk J n G Y) {g : TG} {tt : TT} {te : TE} {vs : List Nat} {σ : L2.St} {H1 : Hp} {D : Addr} {Qd : Hp → Prop} (nD : H1 D = none) (ys : List V) (hn : ys.length = n) (h1000 : n ≤ 100000)
    (hG : ∀ H, Same H1 H → G H)
    (hs : ∀ i x y H H', ys[i]? = some y → Same H1 H → Y i H x H' → g x (wipe σ vs) H' fun σ2 H2 => wipe σ2 vs = wipe σ vs ∧ tt σ2 H2 fun b H3 => b = true ∧ te σ2 H3 fun y' H4 => y' = y ∧ Same H H4)
    (mg : ∀ x σ H Q Q', (∀ σ2 H2, Q σ2 H2 → Q' σ2 H2) → g x σ H Q → g x σ H Q') (mt : ∀ σ H Q Q', (∀ b H2, Q b H2 → Q' b H2) → tt σ H Q → tt σ H Q') (me : ∀ σ H Q Q', (∀ v H2, Q v H2 → Q' v H2) → te σ H Q → te σ H Q')
    (hd : ∀ H, Same H1 H → H D = some (.lst ys) → Qd H) :
    ∃ W : Nat → Nat → Hp → Prop, (∃ m, W 0 m (upd H1 D (.lst []))) ∧ ∀ i m H, W i m H →
      (J.stop i H ∧ Qd H) ∨ (J.go i H ∧ ∃ Nx : Hp → Prop, (∀ H', Nx H' → ∃ m', m' < m ∧ W (i + 1) m' H') ∧ ∀ x H', J.yld i H x H' → g x (wipe σ vs) H' fun σ2 H2 => wipe σ2 vs = wipe σ vs ∧ tt σ2 H2 fun b H3 =>
        if b = true then te σ2 H3 fun y H4 => ∃ acc, H4 D = some (.lst acc) ∧ acc.length < sizeLine ∧ Nx (upd H4 D (.lst (acc ++ [y]))) else Nx H3) := by
  refine lc_it wk (fun i H => Same H1 H ∧ H D = some (.lst (ys.take i))) ⟨same_new nD, upd_same⟩ (fun i H hi p => hG H p.1) (fun i x H H' hi p y => ?_) (fun H p => hd H p.1 (by rw [p.2, ← hn, List.take_length]))
  have hi' : i < ys.length := by omega
  have gy : ys[i]? = some ys[i] := List.getElem?_eq_getElem hi'
  refine mg _ _ _ _ _ (fun σ2 H2 q => ⟨q.1, mt _ _ _ _ (fun b H3 q => ?_) q.2⟩) (hs i x ys[i] H H' gy p.1 y)
  obtain ⟨rfl, q⟩ := q
  refine iteT (me _ _ _ _ (fun v H4 q => ?_) q)
  obtain ⟨rfl, s4⟩ := q
  refine ⟨_, s4 _ _ p.2, Nat.lt_of_le_of_lt (show _ ≤ 100000 by rw [List.length_take]; omega) (by decide), ?_, ?_⟩
  · exact fun b o e => by
      rw [upd_ne (ne_of_none e nD)]
      exact s4 _ _ (p.1 _ _ e)
  · rw [upd_same, List.take_add_one, gy]
    rfl
section
variable {P : Program} {w : World} {K : PySem.W.Frag} {mg : Str → Option Value} {base : Heap}
/-! ### the draw -/
def spTake : Sp := fun vs H Q _ => ∃ (a : Addr) (many : Int), vs = [.ref a, .int many] ∧ Drw H a ∧ 0 < many ∧ many.natAbs < 2 ^ 8000 ∧ ∀ (d : Int) (H' : Hp), 0 ≤ d → d < many → Gr a H H' → Q (.int d) H'
theorem ok_take (T : Tx P K mg) : FnOk P w K mg base CX0 1 T.f_take T.fd_take ["_law_box_here", "_law_many"] spTake := by
  refine T.F_take.ok sc_take (fun vs H Q E h => ?_) (fun cdv A outer s H vs Q E hr h => ?_)
  · obtain ⟨a, b, rfl, _⟩ := h
    rfl
  · obtain ⟨a, many, rfl, ⟨x, y, z, ea⟩, hm, hb, q⟩ := h
    refine ⟨_, (pss_cons (ps_if (pt_cmpR op_gt (pe_ix ix_list (pv 0) pe_int (fun _ _ => rfl)) pe_int (nomark _)) (pss_cons (ps_set (i := 2) sc_take.nd rfl (.inl rfl) (pe_op op_modN (pe_ix ix_list (pv 0) pe_int (fun _ _ => rfl)) (pv 1))) (pss_cons (ps_asg (pe_op op_fdivW (pe_ix ix_list (pv 0) pe_int (fun _ _ => rfl)) (pv 1)) (pg_sub (pv 0) pe_int set_list)) (pss_one (ps_ret (pv 2))))) pss_nil) (pss_cons (ps_asg (pe_op op_add (pe_ix ix_list (pv 0) pe_int (fun _ _ => rfl)) pe_int) (pg_sub (pv 0) pe_int set_list)) (pss_cons (ps_set (i := 3) sc_take.nd rfl (.inl rfl) (pe_op op_modN (pe_op op_mul (pe_op op_add (pe_ix ix_list (pv 0) pe_int (fun _ _ => rfl)) (pe_op op_mul pe_int (pe_ix ix_list (pv 0) pe_int (fun _ _ => rfl)))) pe_int) pe_int)) (pss_cons (ps_asg (pe_op op_add (pe_op op_modN (pe_op op_add (pe_op op_mul (pv 3) pe_int) pe_int) pe_int) pe_int) (pg_sub (pv 0) pe_int set_list)) (pss_one (ps_ret (pe_op op_modN (pe_op op_fdivW (pe_op op_add (pe_op op_mul (pv 3) pe_int) (pe_ix ix_list (pv 0) pe_int (fun _ _ => rfl))) pe_int) (pv 1)))))))), ?_⟩
    have at0 : ∀ {u v t : V}, atI [u, v, t] 0 = some u := fun {u v t} => rfl
    have at1 : ∀ {u v t : V}, atI [u, v, t] 1 = some v := fun {u v t} => rfl
    have at2 : ∀ {u v t : V}, atI [u, v, t] 2 = some t := fun {u v t} => rfl
    refine ⟨.ref a, rfl, a, _, 0, .int x, rfl, rfl, SqL.of ea, at0, _, _, rfl, rfl, _, rfl, ite2 (fun c => ?_) (fun c => ?_)⟩
    · refine ⟨.ref a, rfl, a, _, 0, .int x, rfl, rfl, SqL.of ea, at0, .int many, rfl, _, _, rfl, rfl, by omega, ?_⟩
      refine ⟨.ref a, rfl, a, _, 0, .int x, rfl, rfl, SqL.of ea, at0, .int many, rfl, _, _, rfl, rfl, wide_div hm hb (by decide) (by decide), .ref a, rfl, a, _, 0, 0, rfl, rfl, ea, rfl, ?_⟩
      have f := fmod_pos (i := x) hm
      exact ⟨_, rfl, q _ _ f.1 f.2 Gr.set⟩
    · refine ⟨.ref a, rfl, a, _, 2, .int z, rfl, rfl, SqL.of ea, at2, _, _, rfl, rfl, .ref a, rfl, a, _, 2, 2, rfl, rfl, ea, rfl, ?_⟩
      have e1 : upd H a (.lst ([V.int x, .int y, .int z].set 2 (.int (z + 1)))) a = some (.lst [.int x, .int y, .int (z + 1)]) := upd_same
      refine ⟨.ref a, rfl, a, _, 1, .int y, rfl, rfl, SqL.of e1, at1, .ref a, rfl, a, _, 2, .int (z + 1), rfl, rfl, SqL.of e1, at2, _, _, rfl, rfl, .inl ⟨by decide, by decide⟩, _, _, rfl, rfl, _, _, rfl, rfl, .inr ⟨by decide, by decide⟩, _, _, rfl, rfl, nz rfl, ?_⟩
      refine ⟨_, rfl, _, _, rfl, rfl, .inr ⟨by decide, by decide⟩, _, _, rfl, rfl, _, _, rfl, rfl, nz rfl, _, _, rfl, rfl, .ref a, rfl, a, _, 1, 1, rfl, rfl, e1, rfl, ?_⟩
      refine ⟨_, rfl, _, _, rfl, rfl, .inr ⟨by decide, by decide⟩, .ref a, rfl, a, _, 1, _, rfl, rfl, SqL.of upd_same, at1, _, _, rfl, rfl, _, _, rfl, rfl, ⟨by decide, by decide⟩, .int many, rfl, _, _, rfl, rfl, by omega, ?_⟩
      have f := fun i => fmod_pos (i := i) hm
      refine q _ _ (f _).1 (f _).2 (Gr.trans Gr.set Gr.set)
/-! ### a fresh draw -/
def spBox (K : PySem.W.Frag) : Sp := fun vs H Q _ => ∃ (a : Addr) (ns : List Int) (k : Int), vs = [.ref a, .int k] ∧ SqL K H a (ns.map V.int) ∧ 0 ≤ k ∧ k ≤ 1000 ∧ ∀ (p : Addr) (H' : Hp), H p = none → Same H H' → Drw H' p → Q (.ref p) H'
theorem at_int {ns : List Int} {k : Int} (h0 : 0 ≤ k) (h1 : k < ns.length) : ∃ v, atI (ns.map V.int) k = some (.int v) := by
  have l : k.toNat < ns.length := by omega
  refine ⟨ns[k.toNat], at_of (j := k.toNat) (by omega) ?_⟩
  rw [List.getElem?_map, List.getElem?_eq_getElem l]
  rfl
theorem s0 : 0 ≤ sizeLine := by decide
theorem s1 : 1 ≤ sizeLine := by decide
theorem s2 : 2 ≤ sizeLine := by decide
theorem s3 : 3 ≤ sizeLine := by decide
theorem s4 : 4 ≤ sizeLine := by decide
theorem ix01 {c : Int} {b : Bool} : ∃ v, atI [V.int 0, V.int c] (if b = true then 1 else 0) = some (.int v) := by
  cases b
  · exact ⟨0, rfl⟩
  · exact ⟨c, rfl⟩
theorem new2 {H : Hp} {p p2 : Addr} {o : HO} (h : H p = none) (h2 : upd H p o p2 = none) : H p2 = none := Same.free (same_new h) h2
theorem ok_box (T : Tx P K mg) : FnOk P w K mg base CX0 1 T.f_box T.fd_box ["_law_script", "_law_k"] (spBox K) := by
  refine T.F_box.ok sc_box (fun vs H Q E h => ?_) (fun cdv A outer s H vs Q E hr h => ?_)
  · obtain ⟨a, b, k, rfl, _⟩ := h
    rfl
  · obtain ⟨a, ns, k, rfl, hS, h0, h1, q⟩ := h
    refine ⟨_, (pss_cons (ps_set (i := 2) sc_box.nd rfl (.inl rfl) (pe_op op_add (pe_op op_mul pe_int (pv 1)) pe_int)) (pss_cons (ps_if (pt_cmpR op_lt (pv 1) (pe_callB call_len_seq (by rfl) T.m_len PySem.boot_len (pa_cons (pv 0) pa_nil)) (nomark _)) (pss_one (ps_set (i := 2) sc_box.nd rfl (.inl rfl) (pe_ix ix_list (pv 0) (pv 1) (fun _ _ => rfl)))) (pss_one (ps_if (pt_cmpR op_gt (pe_callB call_len_seq (by rfl) T.m_len PySem.boot_len (pa_cons (pv 0) pa_nil)) pe_int (nomark _)) (pss_one (ps_set (i := 2) sc_box.nd rfl (.inl rfl) (pe_op op_add (pv 2) (pe_op op_mul (pe_op op_modN (pe_ix ix_list (pv 0) (pe_op op_modN (pv 1) (pe_callB call_len_seq (by rfl) T.m_len PySem.boot_len (pa_cons (pv 0) pa_nil))) (fun _ _ => rfl)) pe_int) pe_int)))) pss_nil))) (pss_cons (ps_set (i := 3) sc_box.nd rfl (.inl rfl) (pe_op op_add (pe_op op_modN (pe_op op_add (pe_op op_mul (pe_op op_modN (pv 2) pe_int) pe_int) (pe_op op_mul pe_int (pv 1))) pe_int) pe_int)) (pss_one (ps_ret (pe_lst (pa_cons (pe_ix ix_list (pe_lst (pa_cons pe_int (pa_cons (pv 2) pa_nil))) (pe_callTy call_int1 (by rfl) T.m_int (by decide +kernel) (pa_cons (pe_cmpR op_ge (pv 2) (pe_op op_pow pe_int pe_int) (nomark _)) pa_nil)) (fun _ _ => rfl)) (pa_cons (pv 3) (pa_cons pe_int pa_nil))))))))), ?_⟩
    refine ⟨_, rfl, _, _, rfl, rfl, .inl ⟨by decide, by decide⟩, _, _, rfl, rfl, ?_⟩
    refine ⟨_, rfl, .ref a, rfl, a, _, rfl, .inl hS, _, _, rfl, rfl, _, rfl, ite2 (fun c => ?_) (fun c => ?_)⟩
    rotate_left
    · refine ⟨.ref a, rfl, a, _, rfl, .inl hS, _, _, rfl, rfl, _, rfl, ite2 (fun c2 => ?_) (fun c2 => ?_)⟩
      · have l0 : (0 : Int) < ((ns.map V.int).length : Int) := of_decide_eq_true c2
        have f := fmod_pos (i := k) l0
        obtain ⟨v, hv⟩ := at_int (ns := ns) (k := k.fmod ((ns.map V.int).length : Int)) f.1 (by rw [List.length_map] at f ⊢; exact f.2)
        refine ⟨_, rfl, .ref a, rfl, _, rfl, .ref a, rfl, a, _, rfl, .inl hS, _, _, rfl, rfl, by omega, a, _, _, _, rfl, rfl, hS, hv, _, _, rfl, rfl, nz rfl, _, _, rfl, rfl, .inr ⟨by decide, by decide⟩, _, _, rfl, rfl, ?_⟩
        refine ⟨_, rfl, _, _, rfl, rfl, nz rfl, _, _, rfl, rfl, .inr ⟨by decide, by decide⟩, _, rfl, _, _, rfl, rfl, .inl ⟨by decide, by decide⟩, _, _, rfl, rfl, _, _, rfl, rfl, nz rfl, _, _, rfl, rfl, ?_⟩
        refine ⟨_, rfl, s2, fun p hp => ⟨_, rfl, _, _, rfl, rfl, ⟨by decide, by decide, by decide⟩, _, _, rfl, rfl, .inr ⟨_, rfl, ?_⟩⟩⟩
        obtain ⟨v, hv⟩ := ix01 (c := _) (b := _)
        refine ⟨p, _, _, _, rfl, rfl, SqL.of upd_same, hv, _, rfl, s3, fun p2 hp2 => ?_⟩
        exact q p2 _ (new2 hp hp2) ((same_new hp).trans (same_new hp2)) ⟨_, _, _, upd_same⟩
      · refine ⟨_, rfl, _, _, rfl, rfl, nz rfl, _, _, rfl, rfl, .inr ⟨by decide, by decide⟩, _, rfl, _, _, rfl, rfl, .inl ⟨by decide, by decide⟩, _, _, rfl, rfl, _, _, rfl, rfl, nz rfl, _, _, rfl, rfl, ?_⟩
        refine ⟨_, rfl, s2, fun p hp => ⟨_, rfl, _, _, rfl, rfl, ⟨by decide, by decide, by decide⟩, _, _, rfl, rfl, .inr ⟨_, rfl, ?_⟩⟩⟩
        obtain ⟨v, hv⟩ := ix01 (c := _) (b := _)
        refine ⟨p, _, _, _, rfl, rfl, SqL.of upd_same, hv, _, rfl, s3, fun p2 hp2 => ?_⟩
        exact q p2 _ (new2 hp hp2) ((same_new hp).trans (same_new hp2)) ⟨_, _, _, upd_same⟩
    · have l0 : k < ((ns.map V.int).length : Int) := of_decide_eq_true c
      obtain ⟨v, hv⟩ := at_int (ns := ns) h0 (by rw [List.length_map] at l0; exact l0)
      refine ⟨.ref a, rfl, _, rfl, a, _, _, _, rfl, rfl, hS, hv, ?_⟩
      refine ⟨_, rfl, _, _, rfl, rfl, nz rfl, _, _, rfl, rfl, .inr ⟨by decide, by decide⟩, _, rfl, _, _, rfl, rfl, .inl ⟨by decide, by decide⟩, _, _, rfl, rfl, _, _, rfl, rfl, nz rfl, _, _, rfl, rfl, ?_⟩
      refine ⟨_, rfl, s2, fun p hp => ⟨_, rfl, _, _, rfl, rfl, ⟨by decide, by decide, by decide⟩, _, _, rfl, rfl, .inr ⟨_, rfl, ?_⟩⟩⟩
      obtain ⟨v, hv⟩ := ix01 (c := _) (b := _)
      refine ⟨p, _, _, _, rfl, rfl, SqL.of upd_same, hv, _, rfl, s3, fun p2 hp2 => ?_⟩
      exact q p2 _ (new2 hp hp2) ((same_new hp).trans (same_new hp2)) ⟨_, _, _, upd_same⟩
end

/-! ### texts as lists of signs -/
def S (cs : List Nat) : Str := ⟨cs.toArray⟩
theorem S_list (cs : List Nat) : (S cs).cps.toList = cs := by simp [S]
theorem S_len (cs : List Nat) : (S cs).length = cs.length := by simp [S, Str.length]
theorem S_eta (z : Str) : S z.cps.toList = z := by
  cases z
  simp [S]
theorem S_inj {a b : List Nat} : S a = S b ↔ a = b := ⟨fun h => by
  have := congrArg (fun z : Str => z.cps.toList) h
  rw [S_list, S_list] at this
  exact this, fun h => by rw [h]⟩
theorem S_add (a b : List Nat) : S a ++ S b = S (a ++ b) := by
  show Str.append (S a) (S b) = S (a ++ b)
  simp [S, Str.append]
theorem S_to (a : List Nat) (k : Nat) : cutS (S a) none (some (k : Int)) = S (a.take k) := by
  unfold cutS
  rw [S_list, S_len, HT.sIx_none, HT.sIx_nat, List.drop_zero, Nat.sub_zero]
  show S (a.take (min k a.length)) = S (a.take k)
  rw [S_inj, List.take_eq_take_iff]
  omega
theorem S_from (a : List Nat) (k : Nat) : cutS (S a) (some (k : Int)) none = S (a.drop k) := by
  unfold cutS
  rw [S_list, S_len, HT.sIx_none, HT.sIx_nat]
  show S ((a.drop (min k a.length)).take (a.length - min k a.length)) = S (a.drop k)
  rw [S_inj, List.take_of_length_le (by rw [List.length_drop]; exact Nat.le_refl _)]
  by_cases h : k ≤ a.length
  · rw [Nat.min_eq_left h]
  · rw [Nat.min_eq_right (by omega), List.drop_eq_nil_of_le (Nat.le_refl _), List.drop_eq_nil_of_le (by omega)]
theorem S_cut (a : List Nat) (k m : Nat) : cutS (S a) (some (k : Int)) (some (m : Int)) = S ((a.take m).drop k) := by
  unfold cutS
  rw [S_list, S_len, HT.sIx_nat, HT.sIx_nat]
  show S ((a.drop (min k a.length)).take (min m a.length - min k a.length)) = _
  rw [S_inj]
  refine List.ext_getElem? fun i => ?_
  rw [List.getElem?_take, List.getElem?_drop, List.getElem?_drop, List.getElem?_take]
  by_cases h : a.length ≤ k
  · rw [if_neg (by omega)]
    by_cases h2 : k + i < m
    · rw [if_pos h2, List.getElem?_eq_none (by omega)]
    · rw [if_neg h2]
  · rw [Nat.min_eq_left (by omega : k ≤ a.length)]
    by_cases h2 : k + i < m
    · by_cases h3 : k + i < a.length
      · rw [if_pos (by omega), if_pos h2]
      · rw [if_neg (by omega), if_pos h2, List.getElem?_eq_none (by omega)]
    · rw [if_neg (by omega), if_neg h2]
theorem ok_S {cs : List Nat} : PyData.strOk (S cs) = true ↔ ∀ c ∈ cs, c < 0x110000 := by
  unfold PyData.strOk S
  simp
/-! ### figures -/
def dig (c : Nat) : Bool := decide (48 ≤ c) && decide (c ≤ 57)
theorem dig_all {cs : List Nat} (h : cs.all dig = true) : NumText.AllDigits cs := fun c hc => by
  have := List.all_eq_true.mp h c hc
  unfold dig at this
  simp only [Bool.and_eq_true, decide_eq_true_eq] at this
  exact this
/-- what a text of figures tells -/
def fig (cs : List Nat) : Option Nat := if (1 ≤ cs.length ∧ cs.length ≤ 30) ∧ cs.all dig = true ∧ ¬ (1 < cs.length ∧ cs.head? = some 48) then some (NumText.digitsVal cs) else none
theorem val_snoc {cs : List Nat} {c : Nat} : NumText.digitsVal (cs ++ [c]) = NumText.digitsVal cs * 10 + (c - 48) := by
  unfold NumText.digitsVal
  rw [List.foldl_append]
  rfl
theorem val_pos {cs : List Nat} (h : NumText.AllDigits cs) (h1 : cs ≠ []) (h0 : cs.head? ≠ some 48) : 0 < NumText.digitsVal cs := by
  have key : ∀ (cs : List Nat) (a : Nat), 0 < a → 0 < cs.foldl (fun acc c => acc * 10 + (c - 48)) a := fun cs => by
    induction cs with
    | nil => intro a h; exact h
    | cons c cs ih =>
      intro a h
      exact ih _ (show 0 < a * 10 + (c - 48) by omega)
  cases cs with
  | nil => exact absurd rfl h1
  | cons c cs =>
    have hc := h.head
    have : c ≠ 48 := fun z => h0 (by rw [z]; rfl)
    exact key cs _ (show 0 < 0 * 10 + (c - 48) by omega)
/-- a text of figures is the text of its number -/
theorem num_back : ∀ (n : Nat) {cs : List Nat}, cs.length = n → NumText.AllDigits cs → cs ≠ [] → ¬ (1 < cs.length ∧ cs.head? = some 48) → TL.numL (NumText.digitsVal cs) = cs
  | 0, cs, hn, _, h1, _ => absurd (List.length_eq_zero_iff.mp hn) h1
  | n + 1, cs, hn, h, h1, h0 => by
    obtain ⟨b, c, rfl⟩ : ∃ b c, cs = b ++ [c] := ⟨cs.dropLast, cs.getLast h1, (List.dropLast_concat_getLast h1).symm⟩
    have hc := h c (List.mem_append_right _ List.mem_cons_self)
    have hb : NumText.AllDigits b := fun d hd => h d (List.mem_append_left _ hd)
    rw [val_snoc]
    by_cases hbn : b = []
    · subst hbn
      have : NumText.digitsVal ([] : List Nat) * 10 + (c - 48) = c - 48 := by
        show 0 * 10 + _ = _
        omega
      rw [this, TL.numL_lt (by omega)]
      show [48 + (c - 48)] = [c]
      congr 1
      omega
    · have hl : 0 < b.length := by
        cases b with
        | nil => exact absurd rfl hbn
        | cons _ _ => exact Nat.succ_pos _
      have hh : b.head? ≠ some 48 := fun z => h0 ⟨by rw [List.length_append]; show 1 < b.length + 1; omega, by
        cases b with
        | nil => exact absurd rfl hbn
        | cons _ _ => exact z⟩
      have hv := val_pos hb hbn hh
      have ih := num_back n (cs := b) (by rw [List.length_append] at hn; have : [c].length = 1 := rfl; omega) hb hbn (fun z => hh z.2)
      rw [TL.numL_step (by omega)]
      have e1 : (NumText.digitsVal b * 10 + (c - 48)) / 10 = NumText.digitsVal b := by omega
      have e2 : (NumText.digitsVal b * 10 + (c - 48)) % 10 = c - 48 := by omega
      rw [e1, e2, ih]
      congr 2
      omega
theorem fig_some {cs : List Nat} {n : Nat} (h : fig cs = some n) : cs.length ≤ 30 ∧ cs ≠ [] ∧ cs.all dig = true ∧ n = NumText.digitsVal cs ∧ TL.numL n = cs := by
  unfold fig at h
  split at h
  · rename_i c
    obtain ⟨⟨c1, c2⟩, c3, c4⟩ := c
    have hne : cs ≠ [] := fun z => by
      rw [z] at c1
      exact absurd c1 (by decide)
    have e := Option.some.inj h
    exact ⟨c2, hne, c3, e.symm, by rw [← e]; exact num_back cs.length rfl (dig_all c3) hne c4⟩
  · cases h
theorem fig_int {cs : List Nat} {n : Nat} (h : fig cs = some n) : PySem.intText? (S cs) = some (n : Int) := by
  obtain ⟨h1, h2, h3, rfl, _⟩ := fig_some h
  have := SX.int_S (a := cs) h3 h2 (by omega)
  exact this
theorem fig_no {cs : List Nat} (h : ¬ ((1 ≤ cs.length ∧ cs.length ≤ 30) ∧ cs.all dig = true ∧ ¬ (1 < cs.length ∧ cs.head? = some 48))) : fig cs = none := if_neg h
theorem fig_yes {cs : List Nat} (h : (1 ≤ cs.length ∧ cs.length ≤ 30) ∧ cs.all dig = true ∧ ¬ (1 < cs.length ∧ cs.head? = some 48)) : fig cs = some (NumText.digitsVal cs) := if_pos h
def sgL (n : Int) : List Nat := (if n < 0 then [45] else []) ++ TL.numL n.natAbs
abbrev Frc := Int × Int
def frL (f : Frc) : List Nat := sgL f.1 ++ (if f.2 = 1 then [] else 47 :: TL.numL f.2.natAbs)
/-! ### a text's parts about a stroke -/
def pU (cs : List Nat) : List Nat := cs.takeWhile (· != 47)
def pL (cs : List Nat) : List Nat := (cs.dropWhile (· != 47)).tail
def hasS (cs : List Nat) : Bool := decide (47 ∈ cs)
theorem cut_at : ∀ {cs : List Nat}, 47 ∈ cs → cs = pU cs ++ 47 :: pL cs ∧ 47 ∉ pU cs
  | [], h => nomatch h
  | c :: r, h => by
    by_cases e : c = 47
    · subst e
      exact ⟨rfl, fun h => nomatch h⟩
    · have h' : 47 ∈ r := by
        rcases List.mem_cons.mp h with z | z
        · exact absurd z.symm e
        · exact z
      obtain ⟨h1, h2⟩ := cut_at h'
      have hb : (c != 47) = true := by simpa using e
      have e1 : pU (c :: r) = c :: pU r := by
        unfold pU
        rw [List.takeWhile_cons, hb]
        rfl
      have e2 : pL (c :: r) = pL r := by
        unfold pL
        rw [List.dropWhile_cons, hb]
        rfl
      rw [e1, e2]
      refine ⟨congrArg (c :: ·) h1, fun hm => ?_⟩
      rcases List.mem_cons.mp hm with z | z
      · exact e z.symm
      · exact h2 z
theorem not_at : ∀ {cs : List Nat}, 47 ∉ cs → pU cs = cs
  | [], _ => rfl
  | c :: r, h => by
    have hc : c ≠ 47 := fun z => h (by rw [z]; exact List.mem_cons_self)
    have hb : (c != 47) = true := by simpa using hc
    have ih := not_at (cs := r) fun z => h (List.mem_cons_of_mem _ z)
    unfold pU at ih ⊢
    rw [List.takeWhile_cons, hb]
    show c :: r.takeWhile (· != 47) = c :: r
    rw [ih]
def slS : Str := Str.ofString "/"
theorem slS_S : slS = S [47] := by decide +kernel
theorem part_S {cs : List Nat} : Txt.partition (S cs) slS = if hasS cs = true then (S (pU cs), slS, S (pL cs)) else (S cs, Str.ofString "", Str.ofString "") := by
  unfold hasS
  by_cases h : 47 ∈ cs
  · rw [decide_eq_true h, if_pos rfl]
    obtain ⟨h1, h2⟩ := cut_at h
    have e := SX.partition_some (a := pU cs ++ ([47] ++ pL cs)) (b := [47]) (p := pU cs) (q := pL cs) (by simp) (SX.par_head (c := 47) (sep := []) (pL cs) h2)
    have e1 : pU cs ++ ([47] ++ pL cs) = cs := h1.symm
    rw [e1] at e
    have hs : ∀ x : List Nat, SX.S x = S x := fun x => rfl
    rw [hs, hs, hs, hs, ← slS_S] at e
    exact e
  · rw [decide_eq_false h, if_neg (by decide)]
    have e := SX.partition_none (a := cs) (b := [47]) (by simp) (SX.par_head_none (c := 47) (sep := []) h)
    have hs : ∀ x : List Nat, SX.S x = S x := fun x => rfl
    rw [hs, hs, hs, ← slS_S] at e
    exact e
/-! ### what a text tells -/
def rdS (cs : List Nat) : Option Int := if cs.head? = some 45 then (match fig cs.tail with | some 0 => none | some (n + 1) => some (-((n + 1 : Nat) : Int)) | none => none) else (match fig cs with | some n => some (n : Int) | none => none)
def rdF (cs : List Nat) : Option Frc := match rdS (pU cs) with
  | none => none
  | some u => if hasS cs = false then some (u, 1) else match fig (pL cs) with
    | none => none
    | some l => if l < 2 ∨ Int.gcd u l ≠ 1 then none else some (u, (l : Int))
theorem rdS_back {cs : List Nat} {u : Int} (h : rdS cs = some u) : sgL u = cs := by
  unfold rdS at h
  split at h
  · rename_i hc
    cases cs with
    | nil => cases hc
    | cons c r =>
      have : c = 45 := Option.some.inj hc
      subst this
      have h' : (match fig r with | some 0 => none | some (n + 1) => some (-((n + 1 : Nat) : Int)) | none => none) = some u := h
      cases e : fig r with
      | none =>
        rw [e] at h'
        cases h'
      | some n =>
        rw [e] at h'
        cases n with
        | zero => cases h'
        | succ n =>
          cases Option.some.inj h'
          obtain ⟨_, _, _, _, hb⟩ := fig_some e
          unfold sgL
          rw [if_pos (by omega)]
          have : (-((n + 1 : Nat) : Int)).natAbs = n + 1 := by omega
          rw [this, hb]
          rfl
  · cases e : fig cs with
    | none =>
      rw [e] at h
      cases h
    | some n =>
      rw [e] at h
      cases Option.some.inj h
      obtain ⟨_, _, _, _, hb⟩ := fig_some e
      unfold sgL
      rw [if_neg (by omega)]
      exact hb
theorem rdF_back {cs : List Nat} {f : Frc} (h : rdF cs = some f) : frL f = cs := by
  unfold rdF at h
  cases e : rdS (pU cs) with
  | none =>
    rw [e] at h
    cases h
  | some u =>
    rw [e] at h
    dsimp only at h
    have hu := rdS_back e
    unfold hasS at h
    by_cases hs : 47 ∈ cs
    · rw [decide_eq_true hs, if_neg (by decide)] at h
      cases e2 : fig (pL cs) with
      | none =>
        rw [e2] at h
        cases h
      | some l =>
        rw [e2] at h
        dsimp only at h
        split at h
        · cases h
        · rename_i hc
          cases Option.some.inj h
          obtain ⟨_, _, _, _, hb⟩ := fig_some e2
          unfold frL
          dsimp only
          rw [if_neg (by omega), hu, Int.natAbs_natCast, hb]
          exact (cut_at hs).1.symm
    · rw [decide_eq_false hs, if_pos rfl] at h
      cases Option.some.inj h
      unfold frL
      dsimp only
      rw [if_pos rfl, List.append_nil, hu, not_at hs]

/-! ### fractions, readers as they stand in the heap, what is amiss first -/
theorem gcd_emod (i j : Int) : Int.gcd (i % j) j = Int.gcd i j := by
  have c : j * (i / j) + i % j = i := Int.mul_ediv_add_emod i j
  have h1 : ∀ g : Int, g ∣ i % j → g ∣ j → g ∣ i := fun g a b => by
    rw [← c]
    exact Int.dvd_add (Int.dvd_trans b (Int.dvd_mul_right j _)) a
  have h2 : ∀ g : Int, g ∣ i → g ∣ j → g ∣ i % j := fun g a b => by
    rw [Int.emod_def]
    exact Int.dvd_sub a (Int.dvd_trans b (Int.dvd_mul_right j _))
  apply Nat.dvd_antisymm
  · exact Int.dvd_gcd (h1 _ (Int.gcd_dvd_left _ _) (Int.gcd_dvd_right _ _)) (Int.gcd_dvd_right _ _)
  · exact Int.dvd_gcd (h2 _ (Int.gcd_dvd_left _ _) (Int.gcd_dvd_right _ _)) (Int.gcd_dvd_right _ _)
theorem gcd_step {c d : Int} (h : 0 < d) : Int.gcd d (c.fmod d) = Int.gcd c d := by
  rw [Int.fmod_eq_emod_of_nonneg c (Int.le_of_lt h), Int.gcd_comm d, gcd_emod]
section
variable {P : Program} {w : World} {K : PySem.W.Frag} {mg : Str → Option Value} {base : Heap}
def spCdiv : Sp := fun vs H Q _ => ∃ a b : Int, vs = [.int a, .int b] ∧ 0 ≤ a ∧ 0 ≤ b ∧ Q (.int (Int.gcd a b : Int)) H
theorem ok_cdiv (T : Tx P K mg) : FnOk P w K mg base CX0 1 T.f_cdiv T.fd_cdiv ["one", "other"] spCdiv := by
  refine T.F_cdiv.ok sc_cdiv (fun vs H Q E h => ?_) (fun cdv A outer s H vs Q E hr h => ?_)
  · obtain ⟨a, b, rfl, _⟩ := h
    rfl
  · obtain ⟨a, b, rfl, ha, hb, q⟩ := h
    refine ⟨_, (pss_cons (ps_while PassesOwn.never (pt_cmpR op_ne (pv 1) pe_int (nomark _)) (pss_one (ps_par (i := 0) (j := 1) (by rfl) sc_cdiv.nd rfl rfl (by decide) rfl rfl (pa_cons (pv 1) (pa_cons (pe_op op_modN (pv 0) (pv 1)) pa_nil)) (by rfl)))) (pss_one (ps_ret (pv 0)))), ?_⟩
    refine ⟨fun m σ H' => H' = H ∧ ∃ c d : Int, σ = [some (.int c), some (.int d)] ∧ 0 ≤ c ∧ 0 ≤ d ∧ d.toNat = m ∧ Int.gcd c d = Int.gcd a b, ⟨_, rfl, a, b, rfl, ha, hb, rfl, rfl⟩, fun m σ H' hW => ?_⟩
    obtain ⟨rfl, c, d, rfl, hc, hd, rfl, hg⟩ := hW
    refine ⟨_, rfl, rfl, _, rfl, ?_⟩
    by_cases hz : d = 0
    · subst hz
      refine iteF ?_
      refine ⟨_, rfl, ?_⟩
      rw [← hg, Int.gcd_zero_right] at q
      rw [show c = (c.natAbs : Int) by omega]
      exact q
    · have hp : 0 < d := by omega
      have f := fmod_pos (i := c) hp
      have e : (!decide (V.int d = V.int 0)) = true := by simp [hz]
      rw [e]
      refine iteT ⟨fun σ' H'' => H'' = H' ∧ σ' = [some (.int d), some (.int (c.fmod d))], fun σ' H'' ⟨e1, e2⟩ => ⟨_, ?_, e1, d, c.fmod d, e2, hd, f.1, rfl, (gcd_step hp).trans hg⟩, ?_⟩
      · omega
      · exact ⟨_, rfl, _, rfl, _, rfl, _, _, rfl, rfl, hz, _, _, rfl, rfl, rfl⟩
end
/-! ### numbers -/
/-- u over l, lowest (l above nought) -/
def lw (u l : Int) : Int × Int := (u / (Int.gcd u l : Int), l / (Int.gcd u l : Int))
/-- u over l, lowest (l not nought) -/
def nrm (u l : Int) : Int × Int := lw (if l < 0 then -u else u) (if l < 0 then -l else l)
/-- a new tuple of two ints is handed on -/
def NewT (Q : VK) (H : Hp) (r : Int × Int) : Prop := ∀ (p : Addr) (H' : Hp), H p = none → Same H H' → H' p = some (.tup [.int r.1, .int r.2]) → Q (.ref p) H'
theorem gcd_pos {u l : Int} (h : 0 < l) : (0 : Int) < (Int.gcd u l : Int) := by
  have z : Int.gcd u l ≠ 0 := fun e => by
    have := Int.gcd_eq_zero_iff.mp e
    omega
  omega
theorem gcd_le {u l : Int} (h : 0 < l) : (Int.gcd u l : Int) ≤ l := Int.le_of_dvd h (Int.gcd_dvd_right _ _)
theorem gcd_small {u l : Int} {n : Nat} (h : 0 < l) (b : l.natAbs < n) : ((Int.gcd u l : Int)).natAbs < n := by
  have := gcd_le (u := u) h
  have := gcd_pos (u := u) h
  omega
section
variable {P : Program} {w : World} {K : PySem.W.Frag} {mg : Str → Option Value} {base : Heap}
/-! ### _law_shared, _law_lowest -/
def spShared : Sp := fun vs H Q _ => ∃ a b : Int, vs = [.int a, .int b] ∧ 0 ≤ b ∧ Q (.int (Int.gcd a b)) H
theorem ok_shared (T : Tx P K mg) : FnOk P w K mg base CX0 1 T.f_shared T.fd_shared ["_law_one", "_law_other"] spShared := by
  refine T.F_shared.ok sc_shared (fun vs H Q E h => ?_) (fun cdv A outer s H vs Q E hr h => ?_)
  · obtain ⟨a, b, rfl, _⟩ := h
    rfl
  · obtain ⟨a, b, rfl, hb, q⟩ := h
    refine ⟨_, (pss_cons (ps_while PassesOwn.never (pt_cmpR op_ne (pv 1) pe_int (nomark _)) (pss_one (ps_par (i := 0) (j := 1) (by rfl) sc_shared.nd rfl rfl (by decide) rfl rfl (pa_cons (pv 1) (pa_cons (pe_op op_modN (pv 0) (pv 1)) pa_nil)) (by rfl)))) (pss_one (ps_ret (pe_callB call_abs (by rfl) T.m_abs (by decide +kernel) (pa_cons (pv 0) pa_nil))))), ?_⟩
    refine ⟨fun m σ H' => H' = H ∧ ∃ c d : Int, σ = [some (.int c), some (.int d)] ∧ 0 ≤ d ∧ d.toNat = m ∧ Int.gcd c d = Int.gcd a b, ⟨_, rfl, a, b, rfl, hb, rfl, rfl⟩, fun m σ H' hW => ?_⟩
    obtain ⟨rfl, c, d, rfl, hd, rfl, hg⟩ := hW
    refine ⟨_, rfl, rfl, _, rfl, ?_⟩
    by_cases hz : d = 0
    · subst hz
      refine iteF ?_
      refine ⟨_, rfl, _, rfl, ?_⟩
      rw [← hg, Int.gcd_zero_right] at q
      rw [show (if c < 0 then -c else c) = (c.natAbs : Int) by split <;> omega]
      exact q
    · have hp : 0 < d := by omega
      have f := fmod_pos (i := c) hp
      have e : (!decide (V.int d = V.int 0)) = true := by simp [hz]
      rw [e]
      refine iteT ⟨fun σ' H'' => H'' = H' ∧ σ' = [some (.int d), some (.int (c.fmod d))], fun σ' H'' ⟨e1, e2⟩ => ⟨_, ?_, e1, d, c.fmod d, e2, f.1, rfl, (gcd_step hp).trans hg⟩, ?_⟩
      · omega
      · exact ⟨_, rfl, _, rfl, _, rfl, _, _, rfl, rfl, hz, _, _, rfl, rfl, rfl⟩
def spLowest : Sp := fun vs H Q _ => ∃ u l : Int, vs = [.int u, .int l] ∧ 0 < l ∧ l.natAbs < 2 ^ 400 ∧ NewT Q H (lw u l)
theorem ok_lowest (T : Tx P K mg) : FnOk P w K mg base CX0 2 T.f_lowest T.fd_lowest ["_law_upper", "_law_lower"] spLowest := by
  refine T.F_lowest.ok sc_lowest (fun vs H Q E h => ?_) (fun cdv A outer s H vs Q E hr h => ?_)
  · obtain ⟨a, b, rfl, _⟩ := h
    rfl
  · obtain ⟨u, l, rfl, hl, hb, q⟩ := h
    refine ⟨_, (pss_cons (ps_set (i := 2) sc_lowest.nd rfl (.inl rfl) (pe_callB (call_max2 rfl) (by rfl) T.m_max (by decide +kernel) (pa_cons pe_int (pa_cons (pe_call (ok_shared T) (hr.mono (by decide) : Room 1 _) (by rfl) T.g_shared T.F_shared.kp T.b_shared .nil pass0 (pa_cons (pv 0) (pa_cons (pv 1) pa_nil))) pa_nil)))) (pss_one (ps_ret (pe_tup (pa_cons (pe_op op_fdivW (pv 0) (pv 2)) (pa_cons (pe_op op_fdivW (pv 1) (pv 2)) pa_nil)))))), ?_⟩
    have gp := gcd_pos (u := u) hl
    have gs := gcd_small (u := u) hl hb
    have em : (if (Int.gcd u l : Int) > 1 then (Int.gcd u l : Int) else 1) = (Int.gcd u l : Int) := by split <;> omega
    refine ⟨_, rfl, _, rfl, u, l, rfl, by omega, _, _, rfl, ?_⟩
    refine ⟨_, rfl, _, rfl, _, _, rfl, rfl, ?_, _, rfl, _, rfl, _, _, rfl, rfl, ?_, s2, fun p hp => ?_⟩
    · rw [em]
      exact wide_div gp gs (by decide) (by decide)
    · rw [em]
      exact wide_div gp gs (by decide) (by decide)
    · rw [em]
      exact q p _ hp (same_new hp) upd_same
end

/-! ### equal data: flat things, tuples -/
def flt1 : V → Bool
  | .non => true | .bl _ => true | .int _ => true | .str _ => true | _ => false
mutual
inductive Td (H : Hp) : V → V → Nat → Prop
  | flat {x : V} : flt1 x = true → Td H x x 1
  | tup {p q : Addr} {xs ys : List V} {n : Nat} : H p = some (.tup xs) → H q = some (.tup ys) → TdL H xs ys n → Td H (.ref p) (.ref q) (n + 1)
inductive TdL (H : Hp) : List V → List V → Nat → Prop
  | nil : TdL H [] [] 0
  | cons {x y : V} {xs ys : List V} {n m : Nat} : Td H x y n → TdL H xs ys m → TdL H (x :: xs) (y :: ys) (n + m)
end
mutual
theorem Td.mono {H H' : Hp} (s : Same H H') : ∀ {x y : V} {n : Nat}, Td H x y n → Td H' x y n
  | _, _, _, .flat h => .flat h
  | _, _, _, .tup h1 h2 l => .tup (s _ _ h1) (s _ _ h2) (TdL.mono s l)
theorem TdL.mono {H H' : Hp} (s : Same H H') : ∀ {x y : List V} {n : Nat}, TdL H x y n → TdL H' x y n
  | _, _, _, .nil => .nil
  | _, _, _, .cons h l => .cons (Td.mono s h) (TdL.mono s l)
end
theorem TdL.len {H : Hp} : ∀ {xs ys : List V} {n : Nat}, TdL H xs ys n → xs.length = ys.length
  | _, _, _, .nil => rfl
  | _, _, _, .cons _ l => by rw [List.length_cons, List.length_cons, TdL.len l]
/-- a pile of pairs of equal data, told by their whole size -/
inductive Pile (H0 H : Hp) : List Addr → Nat → Prop
  | nil : Pile H0 H [] 0
  | snoc {ts : List Addr} {t : Addr} {x y : V} {n m : Nat} : Pile H0 H ts m → H t = some (.tup [x, y]) → Td H0 x y n → Pile H0 H (ts ++ [t]) (m + n)
theorem Pile.mono {H0 H H' : Hp} {ts : List Addr} {m : Nat} (p : Pile H0 H ts m) (s : ∀ t xs, H t = some (.tup xs) → H' t = some (.tup xs)) : Pile H0 H' ts m := by
  induction p with
  | nil => exact .nil
  | snoc _ h d ih => exact .snoc ih (s _ _ h) d
theorem Pile.more {H0 H : Hp} : ∀ {us : List Addr} {xs ys : List V} {n m : Nat} {ts : List Addr}, Pile H0 H ts m → TdL H0 xs ys n → us.length = xs.length →
    (∀ (j : Nat) (t : Addr), us[j]? = some t → ∃ x y, xs[j]? = some x ∧ ys[j]? = some y ∧ H t = some (.tup [x, y])) → Pile H0 H (ts ++ us) (m + n)
  | [], _, _, _, _, ts, p, .nil, _, _ => by
    rw [List.append_nil]
    exact p
  | [], _, _, _, _, _, _, .cons _ _, h, _ => by cases h
  | u :: us, _, _, _, _, _, _, .nil, h, _ => by cases h
  | u :: us, _, _, _, m, ts, p, .cons (n := n1) (m := m1) d l, h, f => by
    obtain ⟨x', y', e1, e2, e3⟩ := f 0 u rfl
    have e1' := Option.some.inj e1
    have e2' := Option.some.inj e2
    subst e1' e2'
    have p1 := Pile.snoc p e3 d
    have r := Pile.more p1 l (Nat.succ.inj h) (fun j t hj => f (j + 1) t hj)
    rw [List.append_assoc] at r
    rw [show m + (n1 + m1) = m + n1 + m1 by omega]
    exact r
theorem Td.pos {H : Hp} {x y : V} {n : Nat} (d : Td H x y n) : 1 ≤ n := by
  cases d with
  | flat h => exact Nat.le_refl _
  | tup _ _ _ => exact Nat.succ_le_succ (Nat.zero_le _)
theorem Pile.len {H0 H : Hp} {ts : List Addr} {m : Nat} (p : Pile H0 H ts m) : ts.length ≤ m := by
  induction p with
  | nil => exact Nat.le_refl _
  | snoc _ _ d ih =>
    have := d.pos
    rw [List.length_append, List.length_singleton]
    omega
theorem TdL.size {H : Hp} : ∀ {xs ys : List V} {n : Nat}, TdL H xs ys n → xs.length ≤ n
  | _, _, _, .nil => Nat.le_refl _
  | _, _, _, .cons d l => by
    have h1 := d.pos
    have h2 := TdL.size l
    rw [List.length_cons]
    omega
theorem flat_ty {K : PySem.W.Frag} {H : Hp} {x : V} (h : flt1 x = true) : ∃ (T : String) (bb bi : Bool), TyX K H x (.type T) ∧ kitB T "tuple" = some false ∧ kitB T "list" = some false ∧ kitB T "bool" = some bb ∧ kitB T "int" = some bi ∧ scal x x = true := by
  cases x with
  | non => exact ⟨"NoneType", false, false, .base .non, by decide +kernel, by decide +kernel, by decide +kernel, by decide +kernel, rfl⟩
  | bl b => exact ⟨"bool", true, true, .base (.bl b), by decide +kernel, by decide +kernel, by decide +kernel, by decide +kernel, rfl⟩
  | int i => exact ⟨"int", false, true, .base (.int i), by decide +kernel, by decide +kernel, by decide +kernel, by decide +kernel, rfl⟩
  | str z => exact ⟨"str", false, false, .base (.str z), by decide +kernel, by decide +kernel, by decide +kernel, by decide +kernel, rfl⟩
  | byt b => cases h
  | flt b => cases h
  | ref a => cases h
  | ty n => cases h
section
variable {P : Program} {w : World} {K : PySem.W.Frag} {mg : Str → Option Value} {base : Heap}
def spAlike : Sp := fun vs H Q _ => ∃ (x y : V) (n : Nat), vs = [x, y] ∧ Td H x y n ∧ n ≤ 100000 ∧ ∀ H', Same H H' → Q (.bl true) H'
theorem ok_alike (T : Tx P K mg) : FnOk P w K mg base CX0 1 T.f_alike T.fd_alike ["_law_found", "_law_due"] spAlike := by
  refine T.F_alike.ok sc_alike (fun vs H Q E h => ?_) (fun cdv A outer s H vs Q E hr h => ?_)
  · obtain ⟨a, b, n, rfl, _⟩ := h
    rfl
  · obtain ⟨x, y, n, rfl, d, hn, q⟩ := h
    refine ⟨_, (pss_cons (ps_set (i := 2) sc_alike.nd rfl (.inl rfl) (pe_lst (pa_cons (pe_tup (pa_cons (pv 0) (pa_cons (pv 1) pa_nil))) pa_nil))) (pss_cons (ps_while PassesOwn.never (pt_cmpR op_gt (pe_callB call_len_seq (by rfl) T.m_len PySem.boot_len (pa_cons (pv 2) pa_nil)) pe_int (nomark _)) (pss_cons (ps_asg (pe_bm0 PySem.F.plainAttrs_list PySem.F.slot_list_pop PySem.F.type_list_pop mt_pop (pv 2)) (pg_tup rfl (pgs_cons (pg_name (i := 3) sc_alike.nd rfl (.inl rfl)) (pgs_cons (pg_name (i := 4) sc_alike.nd rfl (.inl rfl)) pgs_nil)))) (pss_one (ps_if (pt_val (pe_callB call_isiT (by rfl) T.m_isinstance (by decide +kernel) (pa_cons (pv 4) (pa_cons (pe_tup (pa_cons (pe_bltn (v := .ty "tuple") (by rfl) T.m_tuple (by decide +kernel) rfl) (pa_cons (pe_bltn (v := .ty "list") (by rfl) T.m_list (by decide +kernel) rfl) pa_nil))) pa_nil)))) (pss_cons (ps_if (PW.pt (pw_or (pt_cmpR op_ne (pe_callB call_isi (by rfl) T.m_isinstance (by decide +kernel) (pa_cons (pv 3) (pa_cons (pe_bltn (v := .ty "tuple") (by rfl) T.m_tuple (by decide +kernel) rfl) pa_nil))) (pe_callB call_isi (by rfl) T.m_isinstance (by decide +kernel) (pa_cons (pv 4) (pa_cons (pe_bltn (v := .ty "tuple") (by rfl) T.m_tuple (by decide +kernel) rfl) pa_nil))) (nomark _)) (pw_or1 (pt_cmpR op_ne (pe_callB call_isi (by rfl) T.m_isinstance (by decide +kernel) (pa_cons (pv 3) (pa_cons (pe_bltn (v := .ty "list") (by rfl) T.m_list (by decide +kernel) rfl) pa_nil))) (pe_callB call_isi (by rfl) T.m_isinstance (by decide +kernel) (pa_cons (pv 4) (pa_cons (pe_bltn (v := .ty "list") (by rfl) T.m_list (by decide +kernel) rfl) pa_nil))) (nomark _))))) (pss_one (ps_ret pe_bl)) pss_nil) (pss_cons (ps_if (pt_cmpR op_ne (pe_callB call_len_seq (by rfl) T.m_len PySem.boot_len (pa_cons (pv 3) pa_nil)) (pe_callB call_len_seq (by rfl) T.m_len PySem.boot_len (pa_cons (pv 4) pa_nil)) (nomark _)) (pss_one (ps_ret pe_bl)) pss_nil) (pss_one (ps_expr (pe_bm PySem.F.plainAttrs_list PySem.F.slot_list_extend PySem.F.type_list_extend mt_extend (pv 2) (pa_cons (ZL.pe_listZip rfl (by rfl) T.m_list (by rfl) T.m_zip (pa_cons (pv 3) (pa_cons (pv 4) pa_nil))) pa_nil)))))) (pss_one (ps_if (PW.pt (pw_or (pt_val (pe_callB call_isiT (by rfl) T.m_isinstance (by decide +kernel) (pa_cons (pv 3) (pa_cons (pe_tup (pa_cons (pe_bltn (v := .ty "tuple") (by rfl) T.m_tuple (by decide +kernel) rfl) (pa_cons (pe_bltn (v := .ty "list") (by rfl) T.m_list (by decide +kernel) rfl) pa_nil))) pa_nil)))) (pw_or1 (pt_cmpR op_ne (pe_callB call_isi (by rfl) T.m_isinstance (by decide +kernel) (pa_cons (pv 3) (pa_cons (pe_bltn (v := .ty "bool") (by rfl) T.m_bool (by decide +kernel) rfl) pa_nil))) (pe_callB call_isi (by rfl) T.m_isinstance (by decide +kernel) (pa_cons (pv 4) (pa_cons (pe_bltn (v := .ty "bool") (by rfl) T.m_bool (by decide +kernel) rfl) pa_nil))) (nomark _))))) (pss_one (ps_ret pe_bl)) (pss_one (ps_if (PW.pt (pw_or (pt_cmpR op_ne (pe_callB call_isi (by rfl) T.m_isinstance (by decide +kernel) (pa_cons (pv 3) (pa_cons (pe_bltn (v := .ty "int") (by rfl) T.m_int (by decide +kernel) rfl) pa_nil))) (pe_callB call_isi (by rfl) T.m_isinstance (by decide +kernel) (pa_cons (pv 4) (pa_cons (pe_bltn (v := .ty "int") (by rfl) T.m_int (by decide +kernel) rfl) pa_nil))) (nomark _)) (pw_or1 (pt_cmpR op_ne (pv 3) (pv 4) (nomark _))))) (pss_one (ps_ret pe_bl)) pss_nil)))))))) (pss_one (ps_ret pe_bl)))), ?_⟩
    -- left = [(found, due)]
    refine ⟨_, rfl, _, rfl, s2, fun t ht => ⟨s1, fun L hL => ?_⟩⟩
    have s1' : Same H (upd H t (.tup [x, y])) := same_new ht
    have s2' : Same (upd H t (.tup [x, y])) (upd (upd H t (.tup [x, y])) L (.lst [.ref t])) := same_new hL
    have hLH : H L = none := s1'.free hL
    refine ⟨fun m σ H' => ∃ (y3 y4 : Option V) (ts : List Addr), σ = [some x, some y, some (.ref L), y3, y4] ∧ H' L = some (.lst (ts.map V.ref)) ∧ Pile H H' ts m ∧ Same H H' ∧ m ≤ n, ⟨0 + n, none, none, [t], rfl, upd_same, ?_, s1'.trans s2', by omega⟩, fun m σ H' hW => ?_⟩
    · have z := Pile.snoc (H0 := H) (H := upd (upd H t (.tup [x, y])) L (.lst [.ref t])) .nil (s2' _ _ upd_same) d
      exact z
    obtain ⟨y3, y4, ts, rfl, eL, pl, sm, hmn⟩ := hW
    refine ⟨.ref L, rfl, L, _, rfl, .inl (SqL.of eL), _, _, rfl, rfl, _, rfl, ?_⟩
    cases pl with
    | nil =>
      refine iteF ?_
      exact q _ sm
    | snoc pl et dt =>
      rename_i ts t x1 y1 n1 m1
      have hlen : decide ((0 : Int) < (((ts ++ [t]).map V.ref).length : Int)) = true := by
        rw [List.map_append, List.length_append]
        exact decide_eq_true (by simp)
      have hlast : ((ts ++ [t]).map V.ref)[((ts ++ [t]).map V.ref).length - 1]? = some (.ref t) := by
        rw [List.map_append, List.length_append, List.length_map]
        show (ts.map V.ref ++ [V.ref t])[ts.length + 1 - 1]? = some (.ref t)
        rw [Nat.add_sub_cancel, List.getElem?_append_right (by rw [List.length_map]; exact Nat.le_refl _), List.length_map, Nat.sub_self]
        rfl
      have hdrop : ((ts ++ [t]).map V.ref).dropLast = ts.map V.ref := by
        rw [List.map_append]
        exact List.dropLast_concat
      have ntL : t ≠ L := ne_of et eL (by intro z; cases z)
      rw [hlen]
      refine iteT ⟨fun σ' H2 => ∃ (z3 z4 : Option V) (us : List Addr) (k : Nat), σ' = [some x, some y, some (.ref L), z3, z4] ∧ H2 L = some (.lst (us.map V.ref)) ∧ Pile H H2 us k ∧ Same H H2 ∧ k < m1 + n1, fun σ' H2 ⟨z3, z4, us, k, e1, e2, e3, e4, e5⟩ => ⟨k, e5, z3, z4, us, e1, e2, e3, e4, by omega⟩, ?_⟩
      -- one, other = left.pop()
      have sP : Same H (upd H' L (.lst (ts.map V.ref))) := fun b o e => by
        rw [upd_ne (ne_of_none e hLH)]
        exact sm b o e
      have plP : Pile H (upd H' L (.lst (ts.map V.ref))) ts m1 := pl.mono fun u xs e => by
        rw [upd_ne (ne_of e eL (by intro z; cases z))]
        exact e
      refine ⟨.ref L, rfl, .inl ⟨rfl, _, SqL.of eL⟩, L, _, _, rfl, rfl, eL, hlast, ?_⟩
      rw [hdrop]
      have etP : upd H' L (.lst (ts.map V.ref)) t = some (.tup [x1, y1]) := by
        rw [upd_ne ntL]
        exact et
      generalize hHP : upd H' L (.lst (ts.map V.ref)) = HP at sP plP etP
      have eLP : HP L = some (.lst (ts.map V.ref)) := by
        rw [← hHP]
        exact upd_same
      refine ⟨t, [x1, y1], rfl, .inl (.inl etP), rfl, x1, [y1], rfl, y1, [], rfl, rfl, ?_⟩
      clear hHP
      cases dt with
      | flat hf =>
        -- a flat thing and itself
        refine ⟨_, rfl, s2, fun u hu => ?_⟩
        have sU : Same HP (upd HP u (.tup [.ty "tuple", .ty "list"])) := same_new hu
        obtain ⟨T1, bb, bi, ty1, kt, kl, kb, ki, sc⟩ := flat_ty (K := K) (H := upd HP u (.tup [.ty "tuple", .ty "list"])) hf
        refine ⟨_, u, _, .type T1, _, false, rfl, upd_same, .cons (.ty "tuple") (.cons (.ty "list") .nil), ty1, kitAny_cons (b := false) (kit_ty kt) (fun _ => kitAny_cons (b := false) (kit_ty kl) (fun _ => kitAny_nil) (fun h => by cases h)) (fun h => by cases h), _, rfl, iteF ?_⟩
        refine ⟨_, rfl, s2, fun u2 hu2 => ?_⟩
        have sU2 : Same (upd HP u (.tup [.ty "tuple", .ty "list"])) (upd (upd HP u (.tup [.ty "tuple", .ty "list"])) u2 (.tup [.ty "tuple", .ty "list"])) := same_new hu2
        obtain ⟨T2, bb2, bi2, ty2, kt2, kl2, kb2, ki2, _⟩ := flat_ty (K := K) (H := upd (upd HP u (.tup [.ty "tuple", .ty "list"])) u2 (.tup [.ty "tuple", .ty "list"])) hf
        refine ⟨_, u2, _, .type T2, _, false, rfl, upd_same, .cons (.ty "tuple") (.cons (.ty "list") .nil), ty2, kitAny_cons (b := false) (kit_ty kt2) (fun _ => kitAny_cons (b := false) (kit_ty kl2) (fun _ => kitAny_nil) (fun h => by cases h)) (fun h => by cases h), _, rfl, iteF ?_⟩
        refine ⟨_, rfl, _, _, .type T2, _, bb2, rfl, .ty "bool", ty2, kit_ty kb2, _, rfl, _, _, .type T2, _, bb2, rfl, .ty "bool", ty2, kit_ty kb2, rfl, _, rfl, iteNS rfl ?_⟩
        refine ⟨_, rfl, _, _, .type T2, _, bi2, rfl, .ty "int", ty2, kit_ty ki2, _, rfl, _, _, .type T2, _, bi2, rfl, .ty "int", ty2, kit_ty ki2, rfl, _, rfl, iteNS rfl ?_⟩
        refine ⟨_, rfl, _, rfl, sc, _, rfl, iteNS rfl ?_⟩
        exact ⟨_, _, ts, m1, rfl, sU2 _ _ (sU _ _ eLP), plP.mono fun v ws e => sU2 _ _ (sU _ _ e), fun b o e => sU2 _ _ (sU _ _ (sP _ _ e)), by omega⟩
      | tup ep eq l =>
        rename_i p q' xs ys n2
        refine ⟨_, rfl, s2, fun u hu => ?_⟩
        have sU : Same HP (upd HP u (.tup [.ty "tuple", .ty "list"])) := same_new hu
        have gp := sU _ _ (sP _ _ ep)
        have gq := sU _ _ (sP _ _ eq)
        have gL := sU _ _ eLP
        refine ⟨_, u, _, .type "tuple", _, true, rfl, upd_same, .cons (.ty "tuple") (.cons (.ty "list") .nil), .base (.tup gq), kitAny_cons (b := true) (kit_ty (by decide +kernel)) (fun h => by cases h) (fun _ => rfl), _, rfl, iteT ?_⟩
        -- both tuples, neither a list
        refine ⟨_, rfl, _, _, .type "tuple", _, true, rfl, .ty "tuple", .base (.tup gp), kit_ty (by decide +kernel), _, rfl, _, _, .type "tuple", _, true, rfl, .ty "tuple", .base (.tup gq), kit_ty (by decide +kernel), rfl, _, rfl, iteF ?_⟩
        refine ⟨_, rfl, _, _, .type "tuple", _, false, rfl, .ty "list", .base (.tup gp), kit_ty (by decide +kernel), _, rfl, _, _, .type "tuple", _, false, rfl, .ty "list", .base (.tup gq), kit_ty (by decide +kernel), rfl, _, rfl, iteF ?_⟩
        refine ⟨_, rfl, p, xs, rfl, .inr (SqT.of gp), _, rfl, q', ys, rfl, .inr (SqT.of gq), rfl, _, rfl, iteNS (by rw [l.len]) ?_⟩
        refine ⟨_, rfl, .inl ⟨rfl, _, SqL.of gL⟩, _, rfl, _, rfl, p, q', xs, ys, rfl, SqT.of gp, SqT.of gq, l.len, fun H2 c us zn => ?_⟩
        obtain ⟨zk, zc, zu, zn1, znd, zl, zlen, zp⟩ := zn
        have g2 := zk _ _ gL
        refine ⟨L, c, _, _, rfl, rfl, g2, zl, ?_, ?_⟩
        · have a1 := plP.len
          have a2 := l.size
          rw [List.length_map, List.length_map]
          exact Nat.le_trans (show ts.length + us.length ≤ 100000 by omega) (by decide)
        · have ncL : c ≠ L := fun z => by
            rw [z, gL] at zc
            cases zc
          have up : ∀ b o, b ≠ L → H2 b = some o → (upd H2 L (.lst (ts.map V.ref ++ us.map V.ref))) b = some o := fun b o nb e => by
            rw [upd_ne nb]
            exact e
          refine ⟨_, _, ts ++ us, m1 + n2, rfl, ?_, ?_, ?_, by omega⟩
          · rw [upd_same, List.map_append]
          · refine Pile.more (plP.mono fun v ws e => up v _ (ne_of e eLP (by intro z; cases z)) (zk _ _ (sU _ _ e))) l zlen fun j v hj => ?_
            obtain ⟨x2, y2, f1, f2, f3⟩ := zp j v hj
            exact ⟨x2, y2, f1, f2, up v _ (fun z => by
              have := zu v (List.mem_of_getElem? hj)
              rw [z, gL] at this
              cases this) f3⟩
          · exact fun b o e => up b o (ne_of_none e hLH) (zk _ _ (sU _ _ (sP _ _ e)))
end

/-! ### read_figures, read_signed, read_fraction -/
def RefT (C : Addr) (E : XK) (H : Hp) : Prop := ∀ (d : Addr) (H' : Hp), Same H H' → H' d = some (.xd [("row", .int 0)]) → E (.ref C) (some d) H'
theorem RefT.here {C : Addr} {E : XK} {H H1 : Hp} (h : RefT C E H) (s : Same H H1) : ∀ dx, H1 dx = none → E (.ref C) (some dx) (upd H1 dx (.xd [("row", .int 0)])) := fun dx n => h dx _ (s.trans (same_new n)) upd_same
/-- a text that can be asked -/
def TxA (cs : List Nat) : Prop := cs.length ≤ 6000 ∧ ∀ c ∈ cs, c < 0x110000
theorem figs_in {c : Nat} : decide (c ∈ (Str.ofString "0123456789").cps.toList) = dig c := by
  have e : (Str.ofString "0123456789").cps.toList = [48, 49, 50, 51, 52, 53, 54, 55, 56, 57] := by decide +kernel
  rw [e]
  unfold dig
  by_cases h : 48 ≤ c ∧ c ≤ 57
  · rw [decide_eq_true h.1, decide_eq_true h.2]
    refine decide_eq_true ?_
    simp only [List.mem_cons, List.not_mem_nil, or_false]
    omega
  · have : ¬ (c ∈ [48, 49, 50, 51, 52, 53, 54, 55, 56, 57]) := by
      simp only [List.mem_cons, List.not_mem_nil, or_false]
      omega
    rw [decide_eq_false this]
    by_cases h1 : 48 ≤ c
    · rw [decide_eq_true h1, decide_eq_false (show ¬ c ≤ 57 by omega)]
      rfl
    · rw [decide_eq_false h1]
      rfl
section
variable {P : Program} {w : World} {K : PySem.W.Frag} {mg : Str → Option Value} {base : Heap}
def spFg (C : Addr) : Sp := fun vs H Q E => ∃ cs : List Nat, vs = [.str (S cs)] ∧ TxA cs ∧ (fig cs = none → RefT C E H) ∧ ∀ n, fig cs = some n → ∀ H', Same H H' → Q (.int (n : Nat)) H'
theorem ok_readfg (T : Tx P K mg) : FnOk P w K mg base (L2.CX P w) 1 T.f_readfg T.fd_readfg ["text"] (spFg T.CT) := by
  refine T.F_readfg.okX sc_readfg (fun vs H Q E h => ?_) (fun cdv A outer s H vs Q E hr h => ?_)
  · obtain ⟨cs, rfl, _⟩ := h
    rfl
  · obtain ⟨cs, rfl, tx, he, q⟩ := h
    refine ⟨_, (pss_cons (ps_if (pt_not (pt_chain op_le op_le pe_int (pe_callB call_len_str (by rfl) T.m_len PySem.boot_len (pa_cons (pv 0) pa_nil)) (pe_glob (v := .int 30) (by rfl) T.c_MOST_FIGURES ⟨_, rfl⟩))) (pss_one (ps_raise rfl (takes_of rfl rfl rfl rfl) (pmk_e1 T.excT T.fldT T.is1T hr (by rfl) (fun _ _ _ _ _ _ _ _ => .of_eq rfl) (by decide) (by decide +kernel) rfl rfl (pa_cons pe_int pa_nil)))) pss_nil) (pss_cons (ps_if (pt_not (pt_val (pe_callB (cr_all rfl) (by rfl) T.m_all (by decide +kernel) (pa_cons (pe_lc (own := [("sign", 1)]) (by rfl) sc_readfg.nd (pi_str (pv 0)) (blkOk_by (own := [("sign", 1)]) (N := ["text", "sign"]) (sc := defScope st_readfg) (by decide +kernel)) (fun _ _ _ _ _ => (pg_name (i := 1) sc_readfg.nd rfl (.inl rfl))) (fun _ _ _ _ _ => pts_nil) (fun _ _ _ _ _ => (pe_cmpR op_in_sign (pv 1) (pe_glob (v := .str (Str.ofString "0123456789")) (by rfl) T.c_FIGURES ⟨_, rfl⟩) (by rfl)))) pa_nil)))) (pss_one (ps_raise rfl (takes_of rfl rfl rfl rfl) (pmk_e1 T.excT T.fldT T.is1T hr (by rfl) (fun _ _ _ _ _ _ _ _ => .of_eq rfl) (by decide) (by decide +kernel) rfl rfl (pa_cons pe_int pa_nil)))) pss_nil) (pss_cons (ps_if (PW.pt (pw_and (pt_cmpR op_gt (pe_callB call_len_str (by rfl) T.m_len PySem.boot_len (pa_cons (pv 0) pa_nil)) pe_int (nomark _)) (pw_and1 (pt_cmpR op_eq (pe_ix ix_str (pv 0) pe_int (fun _ _ => rfl)) pe_str (nomark _))))) (pss_one (ps_raise rfl (takes_of rfl rfl rfl rfl) (pmk_e1 T.excT T.fldT T.is1T hr (by rfl) (fun _ _ _ _ _ _ _ _ => .of_eq rfl) (by decide) (by decide +kernel) rfl rfl (pa_cons pe_int pa_nil)))) pss_nil) (pss_one (ps_ret (pe_callTy call_int_str (by rfl) T.m_int (by decide +kernel) (pa_cons (pv 0) pa_nil))))))), ?_⟩
    have hz' : (S cs).length ≤ sizeLine := by
      rw [S_len]
      exact Nat.le_trans tx.1 (by decide)
    have hln := S_len cs
    refine ⟨_, rfl, _, rfl, hz', _, _, rfl, rfl, _, rfl, ?_⟩
    by_cases h1 : (1 : Int) ≤ ((S cs).length : Int)
    · rw [decide_eq_true h1]
      refine iteT ⟨_, _, rfl, rfl, _, rfl, ?_⟩
      by_cases h2 : ((S cs).length : Int) ≤ 30
      · rw [decide_eq_true h2]
        refine iteF ?_
        refine ⟨_, rfl, S cs, rfl, fun D nD => ?_⟩
        refine lc_pure walk_str nD ((S cs).cps.toList.map fun c => V.bl (dig c)) (by simp) (by show (S cs).length ≤ 100000; omega) (fun _ _ => trivial) (fun i x y H2 H3 hy s2 hY => ?_) (fun x σ H Q Q' f h => f _ _ h) (fun σ H Q Q' f h => f _ _ h) (fun σ H Q Q' f h => ?_) (fun H2 s2 e2 => ?_)
        · obtain ⟨rfl, c, hc, rfl⟩ := hY
          refine ⟨rfl, rfl, _, rfl, c, _, rfl, rfl, ?_, Same.refl _⟩
          rw [List.getElem?_map] at hy
          have hc' : (S cs).cps.toList[i]? = some c := by simpa using hc
          rw [hc'] at hy
          rw [figs_in]
          exact Option.some.inj hy
        · obtain ⟨v, e, c, z', e1, e2, q⟩ := h
          exact ⟨v, e, c, z', e1, e2, f _ _ q⟩
        refine ⟨D, (S cs).cps.toList.map dig, rfl, SqL.of (by rw [e2, List.map_map]; rfl), ?_⟩
        rw [List.all_map, S_list]
        show ∃ b, V.bl (cs.all dig) = _ ∧ _
        refine ⟨_, rfl, ?_⟩
        by_cases h3 : cs.all dig = true
        · rw [h3]
          refine iteF ?_
          have l1 : 1 ≤ cs.length := by omega
          have l30 : cs.length ≤ 30 := by omega
          have fin : ¬ (1 < cs.length ∧ cs.head? = some 48) → (∃ v, [some (V.str (S cs)), (none : Option V)][0]? = some (some v) ∧ ∃ a n, [v] = [V.str a] ∧ PySem.intText? a = some n ∧ a.length ≤ 640 ∧ Q (.int n) H2) := fun h => by
            have hf := fig_yes ⟨⟨l1, l30⟩, h3, h⟩
            exact ⟨_, rfl, _, _, rfl, fig_int hf, by omega, q _ hf _ s2⟩
          refine ⟨_, rfl, _, rfl, hz', _, _, rfl, rfl, _, rfl, ?_⟩
          by_cases h4 : 1 < cs.length
          · rw [decide_eq_true (show ((1 : Int) < ((S cs).length : Int)) by omega)]
            refine iteT ?_
            have hc : (S cs).cps.toList[0]? = some cs[0] := by
              rw [S_list]
              exact List.getElem?_eq_getElem (by omega)
            refine ⟨_, rfl, S cs, 0, _, rfl, rfl, hz', atI_nat hc, rfl, _, rfl, ?_⟩
            have hcond : decide (V.str ⟨#[cs[0]]⟩ = V.str (Str.ofString "0")) = decide (cs[0] = 48) := by
              rw [show (Str.ofString "0" : Str) = S [48] by decide +kernel]
              by_cases e : cs[0] = 48
              · rw [decide_eq_true e, e]
                exact decide_eq_true rfl
              · rw [decide_eq_false e]
                exact decide_eq_false fun z => e (by
                  have := S_inj.mp (show S [cs[0]] = S [48] from V.str.inj z)
                  exact List.head_eq_of_cons_eq this)
            rw [hcond]
            have hh : cs.head? = some cs[0] := by rw [List.head?_eq_getElem?, List.getElem?_eq_getElem (by omega)]
            by_cases h5 : cs[0] = 48
            · rw [decide_eq_true h5]
              refine iteT ?_
              exact ⟨_, rfl, (he (fig_no fun z => z.2.2 ⟨h4, by rw [hh, h5]⟩)).here s2⟩
            · rw [decide_eq_false h5]
              refine iteF ?_
              exact fin fun z => h5 (by rw [hh] at z; exact Option.some.inj z.2)
          · rw [decide_eq_false (show ¬ ((1 : Int) < ((S cs).length : Int)) by omega)]
            refine iteF (iteF ?_)
            exact fin fun z => h4 z.1
        · have h3' : cs.all dig = false := by
            cases e : cs.all dig with
            | true => exact absurd e h3
            | false => rfl
          rw [h3']
          refine iteT ?_
          exact ⟨_, rfl, (he (fig_no fun z => h3 z.2.1)).here s2⟩
      · rw [decide_eq_false h2]
        refine iteT ?_
        exact ⟨_, rfl, (he (fig_no fun z => h2 (by omega))).here (Same.refl _)⟩
    · rw [decide_eq_false h1]
      exact iteF ⟨_, rfl, iteT ⟨_, rfl, (he (fig_no fun z => h1 (by omega))).here (Same.refl _)⟩⟩
/-! ### read_signed -/
theorem eqi (x y : Int) : decide (V.int x = V.int y) = decide (x = y) := by simp
theorem TxA.tail {cs : List Nat} (h : TxA cs) : TxA cs.tail := ⟨by rw [List.length_tail]; have := h.1; omega, fun c hc => h.2 c (List.mem_of_mem_tail hc)⟩
theorem sw_minus {cs : List Nat} : Txt.startswith (S cs) (Str.ofString "-") = decide (cs.head? = some 45) := by
  rw [show (Str.ofString "-" : Str) = S [45] by decide +kernel]
  unfold Txt.startswith
  rw [StrLaws.subAt_eq, S_len, S_len, S_list, S_list, List.drop_zero]
  cases cs with
  | nil => rfl
  | cons c r =>
    show (decide _ && ((c :: r.take 0) == [45])) = _
    by_cases h : c = 45
    · subst h
      rw [decide_eq_true (show (45 :: r).head? = some 45 from rfl), List.take_zero]
      simp
    · rw [decide_eq_false (show ¬ (c :: r).head? = some 45 from fun z => h (Option.some.inj z)), List.take_zero]
      simp [h]
def spSg (C : Addr) : Sp := fun vs H Q E => ∃ cs : List Nat, vs = [.str (S cs)] ∧ TxA cs ∧ (rdS cs = none → RefT C E H) ∧ ∀ n, rdS cs = some n → ∀ H', Same H H' → Q (.int n) H'
theorem RefT.mono {C : Addr} {E : XK} {H H1 : Hp} (h : RefT C E H) (s : Same H H1) : RefT C E H1 := fun d H' s' e => h d H' (s.trans s') e
theorem ok_readsg (T : Tx P K mg) : FnOk P w K mg base (L2.CX P w) 2 T.f_readsg T.fd_readsg ["text"] (spSg T.CT) := by
  refine T.F_readsg.okX sc_readsg (fun vs H Q E h => ?_) (fun cdv A outer s H vs Q E hr h => ?_)
  · obtain ⟨cs, rfl, _⟩ := h
    rfl
  · obtain ⟨cs, rfl, tx, he, q⟩ := h
    refine ⟨_, (pss_cons (ps_if (pt_not (pt_val (pe_m1 PySem.F.slot_str_startswith PySem.F.type_str_startswith mt_startswith (pv 0) pe_str))) (pss_one (ps_ret (pe_call (E := E) (ok_readfg T) (hr.mono (by decide) : Room 1 _) (by rfl) T.g_readfg T.F_readfg.kp T.b_readfg .nil (passes_call (takes_of rfl rfl rfl rfl) (fun _ _ _ _ h => h)) (pa_cons (pv 0) pa_nil)))) pss_nil) (pss_cons (ps_set (i := 1) sc_readsg.nd rfl (.inl rfl) (pe_call (E := E) (ok_readfg T) (hr.mono (by decide) : Room 1 _) (by rfl) T.g_readfg T.F_readfg.kp T.b_readfg .nil (passes_call (takes_of rfl rfl rfl rfl) (fun _ _ _ _ h => h)) (pa_cons (pe_slice sl_str (pv 0) (po_some pe_int) po_none) pa_nil))) (pss_cons (ps_if (pt_cmpR op_eq (pv 1) pe_int (nomark _)) (pss_one (ps_raise rfl (takes_of rfl rfl rfl rfl) (pmk_e1 T.excT T.fldT T.is1T hr (by rfl) (fun _ _ _ _ _ _ _ _ => .of_eq rfl) (by decide) (by decide +kernel) rfl rfl (pa_cons pe_int pa_nil)))) pss_nil) (pss_one (ps_ret (pe_un un_neg (pv 1))))))), ?_⟩
    refine ⟨_, rfl, ⟨_, rfl⟩, _, _, rfl, rfl, ?_⟩
    rw [sw_minus]
    refine ⟨_, rfl, ?_⟩
    by_cases h1 : cs.head? = some 45
    · rw [decide_eq_true h1]
      refine iteF ?_
      have hr1 : rdS cs = (match fig cs.tail with | some 0 => none | some (n + 1) => some (-((n + 1 : Nat) : Int)) | none => none) := if_pos h1
      have hz' : (S cs).length ≤ sizeLine := by
        rw [S_len]
        exact Nat.le_trans tx.1 (by decide)
      have hct : cutS (S cs) (some 1) none = S cs.tail := by
        have := S_from cs 1
        rw [List.drop_one] at this
        exact this
      refine ⟨_, rfl, _, rfl, S cs, rfl, hz', ?_⟩
      rw [hct]
      refine ⟨cs.tail, rfl, tx.tail, fun hf => ?_, fun n hf H' s' => ?_⟩
      · rw [hf] at hr1
        exact he hr1
      · refine ⟨_, rfl, rfl, _, rfl, ?_⟩
        cases n with
        | zero =>
          refine iteT ?_
          rw [hf] at hr1
          exact ⟨_, rfl, (he hr1).here s'⟩
        | succ n =>
          rw [eqi, decide_eq_false (show ¬ (((n + 1 : Nat) : Int) = 0) by omega)]
          refine iteF ?_
          rw [hf] at hr1
          exact ⟨_, rfl, _, rfl, q _ hr1 _ s'⟩
    · rw [decide_eq_false h1]
      refine iteT ?_
      have hr1 : rdS cs = (match fig cs with | some n => some (n : Int) | none => none) := if_neg h1
      refine ⟨_, rfl, cs, rfl, tx, fun hf => ?_, fun n hf H' s' => ?_⟩
      · rw [hf] at hr1
        exact he hr1
      · rw [hf] at hr1
        exact q _ hr1 _ s'
end

/-! ### read_fraction -/
theorem pU_tx {cs : List Nat} (h : TxA cs) : TxA (pU cs) := by
  unfold pU
  exact ⟨Nat.le_trans (List.takeWhile_sublist _).length_le h.1, fun c hc => h.2 c ((List.takeWhile_sublist _).subset hc)⟩
theorem pL_tx {cs : List Nat} (h : TxA cs) : TxA (pL cs) := by
  unfold pL
  refine ⟨?_, fun c hc => h.2 c ((List.dropWhile_sublist _).subset (List.mem_of_mem_tail hc))⟩
  rw [List.length_tail]
  have : (cs.dropWhile (· != 47)).length ≤ cs.length := (List.dropWhile_sublist _).length_le
  have := h.1
  omega
theorem abs_gcd {u l : Int} : Int.gcd (if u < 0 then -u else u) l = Int.gcd u l := by
  split
  · rw [Int.neg_gcd]
  · rfl
section
variable {P : Program} {w : World} {K : PySem.W.Frag} {mg : Str → Option Value} {base : Heap}
def spRf (C : Addr) : Sp := fun vs H Q E => ∃ cs : List Nat, vs = [.str (S cs)] ∧ TxA cs ∧ (rdF cs = none → RefT C E H) ∧ ∀ f, rdF cs = some f → ∀ (p : Addr) (H' : Hp), Same H H' → H' p = some (.tup [.int f.1, .int f.2]) → Q (.ref p) H'
theorem ok_readfr (T : Tx P K mg) : FnOk P w K mg base (L2.CX P w) 3 T.f_readfr T.fd_readfr ["text"] (spRf T.CT) := by
  refine T.F_readfr.okX sc_readfr (fun vs H Q E h => ?_) (fun cdv A outer s H vs Q E hr h => ?_)
  · obtain ⟨cs, rfl, _⟩ := h
    rfl
  · obtain ⟨cs, rfl, tx, he, q⟩ := h
    refine ⟨_, (pss_cons (ps_asg (pe_partition (pv 0) pe_str) (pg_tup rfl (pgs_cons (pg_name (i := 1) sc_readfr.nd rfl (.inl rfl)) (pgs_cons (pg_name (i := 2) sc_readfr.nd rfl (.inl rfl)) (pgs_cons (pg_name (i := 3) sc_readfr.nd rfl (.inl rfl)) pgs_nil))))) (pss_cons (ps_set (i := 4) sc_readfr.nd rfl (.inl rfl) (pe_call (E := E) (ok_readsg T) (hr.mono (by decide) : Room 2 _) (by rfl) T.g_readsg T.F_readsg.kp T.b_readsg .nil (passes_call (takes_of rfl rfl rfl rfl) (fun _ _ _ _ h => h)) (pa_cons (pv 1) pa_nil))) (pss_cons (ps_if (pt_cmpR op_eq (pv 2) pe_str (nomark _)) (pss_one (ps_ret (pe_tup (pa_cons (pv 4) (pa_cons pe_int pa_nil))))) pss_nil) (pss_cons (ps_set (i := 5) sc_readfr.nd rfl (.inl rfl) (pe_call (E := E) (ok_readfg T) (hr.mono (by decide) : Room 1 _) (by rfl) T.g_readfg T.F_readfg.kp T.b_readfg .nil (passes_call (takes_of rfl rfl rfl rfl) (fun _ _ _ _ h => h)) (pa_cons (pv 3) pa_nil))) (pss_cons (ps_if (PW.pt (pw_or (pt_cmpR op_lt (pv 5) pe_int (nomark _)) (pw_or1 (pt_cmpR op_ne (pe_call (ok_cdiv T) (hr.mono (by decide) : Room 1 _) (by rfl) T.g_cdiv T.F_cdiv.kp T.b_cdiv .nil pass0 (pa_cons (pe_callB call_abs (by rfl) T.m_abs (by decide +kernel) (pa_cons (pv 4) pa_nil)) (pa_cons (pv 5) pa_nil))) pe_int (nomark _))))) (pss_one (ps_raise rfl (takes_of rfl rfl rfl rfl) (pmk_e1 T.excT T.fldT T.is1T hr (by rfl) (fun _ _ _ _ _ _ _ _ => .of_eq rfl) (by decide) (by decide +kernel) rfl rfl (pa_cons pe_int pa_nil)))) pss_nil) (pss_one (ps_ret (pe_tup (pa_cons (pv 4) (pa_cons (pv 5) pa_nil)))))))))), ?_⟩
    have hz' : (S cs).length ≤ sizeLine := by
      rw [S_len]
      exact Nat.le_trans tx.1 (by decide)
    refine ⟨_, rfl, ⟨_, rfl⟩, _, slS, rfl, rfl, rfl, hz', fun p np => ?_⟩
    have zp := same_new (o := .tup [.str (Txt.partition (S cs) slS).1, .str (Txt.partition (S cs) slS).2.1, .str (Txt.partition (S cs) slS).2.2]) np
    refine ⟨p, _, rfl, .inl (.inl upd_same), rfl, _, _, rfl, _, _, rfl, _, _, rfl, rfl, ?_⟩
    have ep := part_S (cs := cs)
    have hU : (Txt.partition (S cs) slS).1 = S (pU cs) := by
      rw [ep]
      by_cases h : hasS cs = true
      · rw [if_pos h]
      · rw [if_neg h]
        unfold hasS at h
        rw [not_at (by simpa using h)]
    have hrd : rdF cs = match rdS (pU cs) with
      | none => none
      | some u => if hasS cs = false then some (u, 1) else match fig (pL cs) with
        | none => none
        | some l => if l < 2 ∨ Int.gcd u l ≠ 1 then none else some (u, (l : Int)) := rfl
    rw [hU] at zp ⊢
    refine ⟨_, rfl, pU cs, rfl, pU_tx tx, fun hn => ?_, fun u hu H1 z1 => ?_⟩
    · rw [hn] at hrd
      exact (he hrd).mono zp
    rw [hu] at hrd
    dsimp only at hrd
    refine ⟨_, rfl, rfl, _, rfl, ?_⟩
    by_cases h : hasS cs = true
    · rw [ep, if_pos h]
      have ne : decide (V.str slS = V.str (Str.ofString "")) = false := by decide +kernel
      dsimp only
      rw [ne]
      refine iteF ?_
      rw [if_neg (by rw [h]; decide)] at hrd
      refine ⟨_, rfl, pL cs, rfl, pL_tx tx, fun hn => ?_, fun l hl H2 z2 => ?_⟩
      · rw [hn] at hrd
        exact (he hrd).mono (zp.trans z1)
      rw [hl] at hrd
      dsimp only at hrd
      have zz := (zp.trans z1).trans z2
      refine ⟨_, rfl, _, _, rfl, rfl, _, rfl, ?_⟩
      by_cases h2 : l < 2
      · rw [decide_eq_true (show ((l : Int) < 2) by omega)]
        refine iteT (iteT ?_)
        rw [if_pos (.inl h2)] at hrd
        exact ⟨_, rfl, (he hrd).here zz⟩
      · rw [decide_eq_false (show ¬ ((l : Int) < 2) by omega)]
        refine iteF ?_
        refine ⟨_, rfl, _, rfl, _, rfl, _, _, rfl, by split <;> omega, by omega, ?_⟩
        rw [abs_gcd]
        refine ⟨rfl, _, rfl, ?_⟩
        rw [show (decide (V.int ((Int.gcd u (l : Int) : Nat) : Int) = V.int 1)) = decide (Int.gcd u (l : Int) = 1) by rw [eqi]; exact decide_eq_decide.mpr (by omega)]
        by_cases h3 : Int.gcd u (l : Int) = 1
        · rw [decide_eq_true h3]
          refine iteF ?_
          rw [if_neg (fun z => z.elim h2 fun y => y h3)] at hrd
          refine ⟨_, rfl, _, rfl, s2, fun p1 n1 => ?_⟩
          exact q _ hrd p1 _ (zz.trans (same_new n1)) upd_same
        · rw [decide_eq_false h3]
          refine iteT ?_
          rw [if_pos (.inr h3)] at hrd
          exact ⟨_, rfl, (he hrd).here zz⟩
    · rw [ep, if_neg h]
      refine iteT ?_
      rw [if_pos (by simpa using h)] at hrd
      refine ⟨_, rfl, s2, fun p1 n1 => ?_⟩
      exact q _ hrd p1 _ ((zp.trans z1).trans (same_new n1)) upd_same
end

/-! ### _law_figures, _law_in -/
def oN : Option Nat → V
  | none => .non
  | some n => .int (n : Nat)
section
variable {P : Program} {w : World} {K : PySem.W.Frag} {mg : Str → Option Value} {base : Heap}
def spFi : Sp := fun vs H Q _ => ∃ cs : List Nat, vs = [.str (S cs)] ∧ TxA cs ∧ ∀ H', Same H H' → Q (oN (fig cs)) H'
theorem ok_figures (T : Tx P K mg) : FnOk P w K mg base CX0 1 T.f_figures T.fd_figures ["_law_text"] spFi := by
  refine T.F_figures.ok sc_figures (fun vs H Q E h => ?_) (fun cdv A outer s H vs Q E hr h => ?_)
  · obtain ⟨cs, rfl, _⟩ := h
    rfl
  · obtain ⟨cs, rfl, tx, q⟩ := h
    refine ⟨_, (pss_cons (ps_if (PW.pt (pw_or (pt_not (pt_chain op_lt op_lt pe_int (pe_callB call_len_str (by rfl) T.m_len PySem.boot_len (pa_cons (pv 0) pa_nil)) pe_int)) (pw_or1 (pt_not (pt_val (pe_callB (cr_all rfl) (by rfl) T.m_all (by decide +kernel) (pa_cons (pe_lc (own := [("_law_sign", 1)]) (by rfl) sc_figures.nd (pi_str (pv 0)) (blkOk_by (own := [("_law_sign", 1)]) (N := ["_law_text", "_law_sign"]) (sc := defScope st_figures) (by decide +kernel)) (fun _ _ _ _ _ => (pg_name (i := 1) sc_figures.nd rfl (.inl rfl))) (fun _ _ _ _ _ => pts_nil) (fun _ _ _ _ _ => (pe_cmpR op_in_sign (pv 1) pe_str (by rfl)))) pa_nil))))))) (pss_one (ps_ret pe_non)) pss_nil) (pss_cons (ps_if (PW.pt (pw_and (pt_cmpR op_eq (pe_ix ix_str (pv 0) pe_int (fun _ _ => rfl)) pe_str (nomark _)) (pw_and1 (pt_cmpR op_gt (pe_callB call_len_str (by rfl) T.m_len PySem.boot_len (pa_cons (pv 0) pa_nil)) pe_int (nomark _))))) (pss_one (ps_ret pe_non)) pss_nil) (pss_one (ps_ret (pe_callTy call_int_str (by rfl) T.m_int (by decide +kernel) (pa_cons (pv 0) pa_nil)))))), ?_⟩
    have hz' : (S cs).length ≤ sizeLine := by
      rw [S_len]
      exact Nat.le_trans tx.1 (by decide)
    have hln := S_len cs
    have no : fig cs = none → ∀ H', Same H H' → Q .non H' := fun e H' s' => by
      have := q H' s'
      rw [e] at this
      exact this
    refine ⟨_, rfl, _, rfl, hz', _, _, rfl, rfl, _, rfl, ?_⟩
    by_cases h1 : (0 : Int) < ((S cs).length : Int)
    · rw [decide_eq_true h1]
      refine iteT ⟨_, _, rfl, rfl, _, rfl, ?_⟩
      by_cases h2 : ((S cs).length : Int) < 31
      · rw [decide_eq_true h2]
        refine iteF ?_
        refine ⟨_, rfl, S cs, rfl, fun D nD => ?_⟩
        refine lc_pure walk_str nD ((S cs).cps.toList.map fun c => V.bl (dig c)) (by simp) (by show (S cs).length ≤ 100000; omega) (fun _ _ => trivial) (fun i x y H2 H3 hy s2 hY => ?_) (fun x σ H Q Q' f h => f _ _ h) (fun σ H Q Q' f h => f _ _ h) (fun σ H Q Q' f h => ?_) (fun H2 s2 e2 => ?_)
        · obtain ⟨rfl, c, hc, rfl⟩ := hY
          refine ⟨rfl, rfl, _, rfl, c, _, rfl, rfl, ?_, Same.refl _⟩
          rw [List.getElem?_map] at hy
          have hc' : (S cs).cps.toList[i]? = some c := by simpa using hc
          rw [hc'] at hy
          rw [figs_in]
          exact Option.some.inj hy
        · obtain ⟨v, e, c, z', e1, e2, q⟩ := h
          exact ⟨v, e, c, z', e1, e2, f _ _ q⟩
        refine ⟨D, (S cs).cps.toList.map dig, rfl, SqL.of (by rw [e2, List.map_map]; rfl), ?_⟩
        rw [List.all_map, S_list]
        show ∃ b, V.bl (cs.all dig) = _ ∧ _
        refine ⟨_, rfl, ?_⟩
        by_cases h3 : cs.all dig = true
        · rw [h3]
          refine iteF ?_
          have l1 : 1 ≤ cs.length := by omega
          have l30 : cs.length ≤ 30 := by omega
          have fin : ¬ (1 < cs.length ∧ cs.head? = some 48) → (∃ v, [some (V.str (S cs)), (none : Option V)][0]? = some (some v) ∧ ∃ a n, [v] = [V.str a] ∧ PySem.intText? a = some n ∧ a.length ≤ 640 ∧ Q (.int n) H2) := fun h => by
            have hf := fig_yes ⟨⟨l1, l30⟩, h3, h⟩
            have := q H2 s2
            rw [hf] at this
            exact ⟨_, rfl, _, _, rfl, fig_int hf, by omega, this⟩
          have hc : (S cs).cps.toList[0]? = some cs[0] := by
            rw [S_list]
            exact List.getElem?_eq_getElem (by omega)
          refine ⟨_, rfl, S cs, 0, _, rfl, rfl, hz', atI_nat hc, rfl, _, rfl, ?_⟩
          have hcond : decide (V.str ⟨#[cs[0]]⟩ = V.str (Str.ofString "0")) = decide (cs[0] = 48) := by
            rw [show (Str.ofString "0" : Str) = S [48] by decide +kernel]
            by_cases e : cs[0] = 48
            · rw [decide_eq_true e, e]
              exact decide_eq_true rfl
            · rw [decide_eq_false e]
              exact decide_eq_false fun z => e (by
                have := S_inj.mp (show S [cs[0]] = S [48] from V.str.inj z)
                exact List.head_eq_of_cons_eq this)
          rw [hcond]
          have hh : cs.head? = some cs[0] := by rw [List.head?_eq_getElem?, List.getElem?_eq_getElem (by omega)]
          by_cases h5 : cs[0] = 48
          · rw [decide_eq_true h5]
            refine iteT ?_
            refine ⟨_, rfl, _, rfl, hz', _, _, rfl, rfl, _, rfl, ?_⟩
            by_cases h4 : 1 < cs.length
            · rw [decide_eq_true (show ((1 : Int) < ((S cs).length : Int)) by omega)]
              refine iteT ?_
              exact no (fig_no fun z => z.2.2 ⟨h4, by rw [hh, h5]⟩) _ s2
            · rw [decide_eq_false (show ¬ ((1 : Int) < ((S cs).length : Int)) by omega)]
              refine iteF ?_
              exact fin fun z => h4 z.1
          · rw [decide_eq_false h5]
            refine iteF (iteF ?_)
            exact fin fun z => h5 (by rw [hh] at z; exact Option.some.inj z.2)
        · have h3' : cs.all dig = false := by
            cases e : cs.all dig with
            | true => exact absurd e h3
            | false => rfl
          rw [h3']
          refine iteT ?_
          exact no (fig_no fun z => h3 z.2.1) _ s2
      · rw [decide_eq_false h2]
        refine iteT (iteT ?_)
        exact no (fig_no fun z => h2 (by omega)) _ (Same.refl _)
    · rw [decide_eq_false h1]
      refine iteF ⟨_, rfl, iteT (iteT ?_)⟩
      exact no (fig_no fun z => h1 (by omega)) _ (Same.refl _)
end

/-! ### _law_in -/
def inF (ng : Bool) (bs : List Nat) : Option Frc := match fig (pU bs) with
  | none => none
  | some a => match (if hasS bs = true then fig (pL bs) else some 1) with
    | none => none
    | some b => if b = 0 ∨ (ng = true ∧ a = 0) then none else if hasS bs = true ∧ (b = 1 ∨ 1 < Int.gcd (a : Int) (b : Int)) then none else some ((if ng = true then -(a : Int) else (a : Int)), (b : Int))
theorem in_low {u : Int} {a l : Nat} {ng : Bool} {v : Int} (hu : u.natAbs = a) (hn : ng = true → a ≠ 0) (hv : v = u) : (if l = 0 ∨ (ng = true ∧ a = 0) then none else if (true = true ∧ (l = 1 ∨ 1 < Int.gcd (a : Int) (l : Int))) then none else some (v, (l : Int)) : Option Frc) = if l < 2 ∨ Int.gcd u l ≠ 1 then none else some (u, (l : Int)) := by
  have hg : Int.gcd u l = Int.gcd (a : Int) (l : Int) := by
    unfold Int.gcd
    rw [hu]
    rfl
  rw [hg]
  subst hv
  by_cases h0 : l = 0
  · rw [if_pos (.inl h0), if_pos (.inl (by omega))]
  · rw [if_neg (fun z => z.elim h0 fun y => hn y.1 y.2)]
    by_cases h1 : l = 1
    · rw [if_pos ⟨rfl, .inl h1⟩, if_pos (.inl (by omega))]
    · have gp : 0 < Int.gcd (a : Int) (l : Int) := Int.gcd_pos_of_ne_zero_right _ (by omega)
      by_cases h2 : 1 < Int.gcd (a : Int) (l : Int)
      · rw [if_pos ⟨rfl, .inr h2⟩, if_pos (.inr (by omega))]
      · rw [if_neg (fun z => z.2.elim h1 h2), if_neg (fun z => z.elim (by omega) fun y => y (by omega))]
theorem in_rd {cs bs : List Nat} {ng : Bool} (hS : hasS cs = hasS bs) (hL : pL cs = pL bs) (h : rdS (pU cs) = match fig (pU bs) with | none => none | some a => if ng = true ∧ a = 0 then none else some (if ng = true then -(a : Int) else (a : Int))) : inF ng bs = rdF cs := by
  unfold inF rdF
  rw [hS, hL, h]
  cases fig (pU bs) with
  | none => rfl
  | some a =>
    dsimp only
    by_cases h0 : ng = true ∧ a = 0
    · rw [if_pos h0]
      cases hs : hasS bs with
      | false =>
        rw [if_neg (by decide)]
        dsimp only
        rw [if_pos (.inr h0)]
      | true =>
        rw [if_pos rfl]
        cases fig (pL bs) with
        | none => rfl
        | some l =>
          dsimp only
          rw [if_pos (.inr h0)]
    · rw [if_neg h0]
      dsimp only
      cases hs : hasS bs with
      | false =>
        rw [if_neg (show ¬ (false = true) by decide), if_pos (show (false = false) from rfl)]
        dsimp only
        rw [if_neg (fun z => z.elim (by decide) h0), if_neg (fun z => by cases z.1)]
        rfl
      | true =>
        rw [if_pos (show (true = true) from rfl), if_neg (show ¬ (true = false) by decide)]
        cases fig (pL bs) with
        | none => rfl
        | some l =>
          dsimp only
          refine in_low (ng := ng) (a := a) ?_ (fun z y => h0 ⟨z, y⟩) rfl
          split <;> omega
theorem in_neg {r : List Nat} : inF true r = rdF (45 :: r) := by
  have e1 : pU (45 :: r) = 45 :: pU r := rfl
  have e2 : pL (45 :: r) = pL r := rfl
  have e3 : hasS (45 :: r) = hasS r := by
    unfold hasS
    exact decide_eq_decide.mpr (by simp)
  refine in_rd e3 e2 ?_
  rw [e1]
  unfold rdS
  rw [if_pos (show (45 :: pU r).head? = some 45 from rfl)]
  show (match fig (pU r) with | some 0 => none | some (n + 1) => some (-((n + 1 : Nat) : Int)) | none => none) = _
  cases fig (pU r) with
  | none => rfl
  | some a =>
    cases a with
    | zero => rfl
    | succ n =>
      dsimp only
      rw [if_neg (fun z => by cases z.2), if_pos rfl]
theorem in_pos {cs : List Nat} (h : cs.head? ≠ some 45) : inF false cs = rdF cs := by
  refine in_rd rfl rfl ?_
  have hp : (pU cs).head? ≠ some 45 := by
    cases cs with
    | nil => exact h
    | cons c r =>
      unfold pU
      rw [List.takeWhile_cons]
      split
      · exact h
      · exact fun z => by cases z
  unfold rdS
  rw [if_neg hp]
  cases fig (pU cs) with
  | none => rfl
  | some a =>
    dsimp only
    rw [if_neg (fun z => by cases z.1)]
    rfl
theorem take1 {cs : List Nat} : decide (V.str (S (cs.take 1)) = V.str (Str.ofString "-")) = decide (cs.head? = some 45) := by
  rw [show (Str.ofString "-" : Str) = S [45] by decide +kernel]
  cases cs with
  | nil => decide
  | cons c r =>
    show decide (V.str (S [c]) = V.str (S [45])) = _
    by_cases e : c = 45
    · subst e
      rw [decide_eq_true rfl, decide_eq_true (show (45 :: r).head? = some 45 from rfl)]
    · rw [decide_eq_false (show ¬ (c :: r).head? = some 45 from fun z => e (Option.some.inj z))]
      exact decide_eq_false fun z => e (List.head_eq_of_cons_eq (S_inj.mp (V.str.inj z)))
section
variable {P : Program} {w : World} {K : PySem.W.Frag} {mg : Str → Option Value} {base : Heap}
def spIn : Sp := fun vs H Q _ => ∃ cs : List Nat, vs = [.str (S cs)] ∧ TxA cs ∧ (rdF cs = none → ∀ H', Same H H' → Q .non H') ∧ ∀ f, rdF cs = some f → ∀ (p : Addr) (H' : Hp), Same H H' → H' p = some (.tup [.int f.1, .int f.2]) → Q (.ref p) H'
theorem ok_lin (T : Tx P K mg) : FnOk P w K mg base CX0 2 T.f_lin T.fd_lin ["_law_text"] spIn := by
  refine T.F_lin.ok sc_lin (fun vs H Q E h => ?_) (fun cdv A outer s H vs Q E hr h => ?_)
  · obtain ⟨cs, rfl, _⟩ := h
    rfl
  · obtain ⟨cs, rfl, tx, qn, q⟩ := h
    refine ⟨_, (pss_cons (ps_set (i := 1) sc_lin.nd rfl (.inl rfl) (pe_op op_sub pe_int (pe_op op_mul pe_int (pe_callTy call_int1 (by rfl) T.m_int (by decide +kernel) (pa_cons (pe_cmpR op_eq (pe_slice sl_str (pv 0) po_none (po_some pe_int)) pe_str (nomark _)) pa_nil))))) (pss_cons (ps_asg (pe_partition (pe_slice sl_str (pv 0) (po_some (pe_callTy call_int1 (by rfl) T.m_int (by decide +kernel) (pa_cons (pe_cmpR op_lt (pv 1) pe_int (nomark _)) pa_nil))) po_none) pe_str) (pg_tup rfl (pgs_cons (pg_name (i := 2) sc_lin.nd rfl (.inl rfl)) (pgs_cons (pg_name (i := 3) sc_lin.nd rfl (.inl rfl)) (pgs_cons (pg_name (i := 4) sc_lin.nd rfl (.inl rfl)) pgs_nil))))) (pss_cons (ps_par (i := 5) (j := 6) (by rfl) sc_lin.nd rfl rfl (by decide) rfl rfl (pa_cons (pe_call (ok_figures T) (hr.mono (by decide) : Room 1 _) (by rfl) T.g_figures T.F_figures.kp T.b_figures .nil pass0 (pa_cons (pv 2) pa_nil)) (pa_cons pe_int pa_nil)) (by rfl)) (pss_cons (ps_if (pt_cmpR op_eq (pv 3) pe_str (nomark _)) (pss_one (ps_set (i := 6) sc_lin.nd rfl (.inl rfl) (pe_call (ok_figures T) (hr.mono (by decide) : Room 1 _) (by rfl) T.g_figures T.F_figures.kp T.b_figures .nil pass0 (pa_cons (pv 4) pa_nil)))) pss_nil) (pss_cons (ps_if (PW.pt (pw_or (pt_cmpR op_isN (pv 5) pe_non (nomark _)) (pw_or (pt_cmpR op_isN (pv 6) pe_non (nomark _)) (pw_or (pt_cmpR op_eq (pv 6) pe_int (nomark _)) (pw_or1 (PW.pt (pw_and (pt_cmpR op_lt (pv 1) pe_int (nomark _)) (pw_and1 (pt_cmpR op_eq (pv 5) pe_int (nomark _)))))))))) (pss_one (ps_ret pe_non)) pss_nil) (pss_cons (ps_if (PW.pt (pw_and (pt_cmpR op_eq (pv 3) pe_str (nomark _)) (pw_and1 (PW.pt (pw_or (pt_cmpR op_eq (pv 6) pe_int (nomark _)) (pw_or1 (pt_cmpR op_gt (pe_call (ok_shared T) (hr.mono (by decide) : Room 1 _) (by rfl) T.g_shared T.F_shared.kp T.b_shared .nil pass0 (pa_cons (pv 5) (pa_cons (pv 6) pa_nil))) pe_int (nomark _)))))))) (pss_one (ps_ret pe_non)) pss_nil) (pss_one (ps_ret (pe_tup (pa_cons (pe_op op_mul (pv 1) (pv 5)) (pa_cons (pv 6) pa_nil))))))))))), ?_⟩
    have hz' : (S cs).length ≤ sizeLine := by
      rw [S_len]
      exact Nat.le_trans tx.1 (by decide)
    refine ⟨_, rfl, _, rfl, S cs, rfl, hz', ?_⟩
    rw [show cutS (S cs) none (some 1) = S (cs.take 1) from S_to cs 1]
    refine ⟨rfl, .inr ⟨_, rfl, ?_⟩⟩
    rw [take1]
    obtain ⟨ng, bs, hng, hbs, htx, hin⟩ : ∃ (ng : Bool) (bs : List Nat), decide (cs.head? = some 45) = ng ∧ bs = cs.drop (if ng = true then 1 else 0) ∧ TxA bs ∧ inF ng bs = rdF cs := by
      by_cases h : cs.head? = some 45
      · refine ⟨true, cs.tail, decide_eq_true h, (List.drop_one).symm, tx.tail, ?_⟩
        cases cs with
        | nil => cases h
        | cons c r =>
          cases Option.some.inj h
          exact in_neg
      · exact ⟨false, cs, decide_eq_false h, rfl, tx, in_pos h⟩
    rw [hng]
    rw [← hin] at qn q
    refine ⟨_, _, rfl, rfl, .inl ⟨by decide, by decide⟩, _, _, rfl, rfl, ?_⟩
    obtain ⟨sg, hsg, hsg1⟩ : ∃ sg : Int, 1 - 2 * (if ng = true then (1 : Int) else 0) = sg ∧ ((ng = true ∧ sg = -1) ∨ (ng = false ∧ sg = 1)) := by
      refine ⟨_, rfl, ?_⟩
      cases ng
      · exact .inr ⟨rfl, rfl⟩
      · exact .inl ⟨rfl, rfl⟩
    rw [show (fun (i j : Int) => V.int (i - j)) 1 (2 * (if ng = true then (1 : Int) else 0)) = V.int sg from congrArg V.int hsg]
    refine ⟨_, rfl, _, rfl, _, _, rfl, rfl, .inr ⟨_, rfl, ?_⟩⟩
    have hlt : decide (sg < 0) = ng := by
      rcases hsg1 with ⟨e, e2⟩ | ⟨e, e2⟩
      · rw [e, e2]
        rfl
      · rw [e, e2]
        rfl
    rw [hlt]
    have hcut : cutS (S cs) (some (if ng = true then (1 : Int) else 0)) none = S bs := by
      rw [hbs]
      cases ng
      · exact S_from cs 0
      · exact S_from cs 1
    have hzb : (S bs).length ≤ sizeLine := by
      rw [S_len]
      exact Nat.le_trans htx.1 (by decide)
    refine ⟨_, rfl, S cs, rfl, hz', ?_⟩
    rw [hcut]
    refine ⟨⟨_, rfl⟩, _, slS, rfl, rfl, rfl, hzb, fun p np => ?_⟩
    have zp := same_new (o := .tup [.str (Txt.partition (S bs) slS).1, .str (Txt.partition (S bs) slS).2.1, .str (Txt.partition (S bs) slS).2.2]) np
    refine ⟨p, _, rfl, .inl (.inl upd_same), rfl, _, _, rfl, _, _, rfl, _, _, rfl, rfl, ?_⟩
    have ep := part_S (cs := bs)
    have hU : (Txt.partition (S bs) slS).1 = S (pU bs) := by
      rw [ep]
      by_cases h : hasS bs = true
      · rw [if_pos h]
      · rw [if_neg h]
        unfold hasS at h
        rw [not_at (by simpa using h)]
    rw [hU] at zp ⊢
    refine ⟨_, rfl, pU bs, rfl, pU_tx htx, fun H1 z1 => ?_⟩
    have z01 := zp.trans z1
    have hstr : ∀ b : Bool, hasS bs = b → decide (V.str (Txt.partition (S bs) slS).2.1 = V.str (Str.ofString "/")) = b := fun b hb => by
      rw [ep, hb]
      cases b
      · show decide (V.str (Str.ofString "") = V.str (Str.ofString "/")) = false
        decide +kernel
      · show decide (V.str slS = V.str (Str.ofString "/")) = true
        decide +kernel
    unfold inF at qn q
    refine ⟨_, _, rfl, ?_⟩
    refine ⟨_, rfl, rfl, _, rfl, ?_⟩
    -- behind the stroke
    cases hs : hasS bs with
    | false =>
      rw [hstr false hs]
      refine iteF ?_
      rw [hs, if_neg (show ¬ (false = true) by decide)] at qn q
      cases hf : fig (pU bs) with
      | none =>
        rw [hf] at qn
        exact ⟨_, rfl, rfl, true, (by show V.bl (decide (V.non = V.non)) = _; simp), iteT (iteT (qn rfl _ z01))⟩
      | some a =>
        rw [hf] at qn q
        dsimp only at qn q
        refine ⟨_, rfl, rfl, false, (by show V.bl (decide (V.int (a : Nat) = V.non)) = _; simp), iteF ?_⟩
        refine ⟨_, rfl, rfl, false, (by show V.bl (decide (V.int 1 = V.non)) = _; simp), iteF ?_⟩
        refine ⟨_, rfl, rfl, false, (by show V.bl (decide (V.int 1 = V.int 0)) = _; simp), iteF ?_⟩
        refine ⟨_, rfl, _, _, rfl, rfl, _, rfl, ?_⟩
        rw [hlt]
        have hcm : CMul sg (a : Nat) := by
          rcases hsg1 with ⟨_, e⟩ | ⟨_, e⟩
          · rw [e]
            exact .inl ⟨by decide, by decide⟩
          · rw [e]
            exact .inl ⟨by decide, by decide⟩
        have hval : sg * (a : Int) = if ng = true then -(a : Int) else (a : Int) := by
          rcases hsg1 with ⟨e1, e⟩ | ⟨e1, e⟩
          · rw [e, e1, if_pos rfl, Int.neg_one_mul]
          · rw [e, e1, if_neg (show ¬ (false = true) by decide), Int.one_mul]
        by_cases hc : (1 : Nat) = 0 ∨ (ng = true ∧ a = 0)
        · obtain ⟨e1, e2⟩ := hc.resolve_left (by decide)
          rw [if_pos hc] at qn
          rw [e1]
          refine iteT ⟨_, rfl, rfl, _, rfl, ?_⟩
          subst e2
          exact iteT (qn rfl _ z01)
        · have fin : ∀ p1, H1 p1 = none → Q (.ref p1) (upd H1 p1 (.tup [.int (sg * (a : Int)), .int 1])) := fun p1 n1 => by
            rw [if_neg hc, if_neg (fun z => by cases z.1)] at q
            refine q _ rfl p1 _ (z01.trans (same_new n1)) ?_
            rw [upd_same, hval]
            rfl
          cases hn : ng with
          | true =>
            refine iteT ⟨_, rfl, rfl, _, rfl, ?_⟩
            have ha : ¬ a = 0 := fun z => hc (.inr ⟨hn, z⟩)
            rw [show decide (oN (some a) = V.int 0) = false from by show decide (V.int (a : Nat) = V.int 0) = false; rw [eqi]; exact decide_eq_false (by omega)]
            refine iteF ⟨_, rfl, rfl, _, rfl, ?_⟩
            rw [hstr false hs]
            exact iteF (iteF ⟨_, rfl, _, rfl, _, _, rfl, rfl, hcm, _, rfl, s2, fin⟩)
          | false =>
            refine iteF (iteF ⟨_, rfl, rfl, _, rfl, ?_⟩)
            rw [hstr false hs]
            exact iteF (iteF ⟨_, rfl, _, rfl, _, _, rfl, rfl, hcm, _, rfl, s2, fin⟩)
    | true =>
      rw [hstr true hs]
      refine iteT ?_
      rw [hs, if_pos (show true = true from rfl)] at qn q
      have hL : (Txt.partition (S bs) slS).2.2 = S (pL bs) := by
        rw [ep, if_pos hs]
      rw [hL]
      refine ⟨_, rfl, pL bs, rfl, pL_tx htx, fun H2 z2 => ?_⟩
      have z02 := z01.trans z2
      cases hf : fig (pU bs) with
      | none =>
        rw [hf] at qn
        exact ⟨_, rfl, rfl, true, (by show V.bl (decide (V.non = V.non)) = _; simp), iteT (iteT (qn rfl _ z02))⟩
      | some a =>
        rw [hf] at qn q
        dsimp only at qn q
        refine ⟨_, rfl, rfl, false, (by show V.bl (decide (V.int (a : Nat) = V.non)) = _; simp), iteF ?_⟩
        cases hg : fig (pL bs) with
        | none =>
          rw [hg] at qn
          exact ⟨_, rfl, rfl, true, (by show V.bl (decide (V.non = V.non)) = _; simp), iteT (iteT (qn rfl _ z02))⟩
        | some b =>
        rw [hg] at qn q
        dsimp only at qn q
        refine ⟨_, rfl, rfl, false, (by show V.bl (decide (V.int (b : Nat) = V.non)) = _; simp), iteF ?_⟩
        have hcm : CMul sg (a : Nat) := by
          rcases hsg1 with ⟨_, e⟩ | ⟨_, e⟩
          · rw [e]
            exact .inl ⟨by decide, by decide⟩
          · rw [e]
            exact .inl ⟨by decide, by decide⟩
        have hval : sg * (a : Int) = if ng = true then -(a : Int) else (a : Int) := by
          rcases hsg1 with ⟨e1, e⟩ | ⟨e1, e⟩
          · rw [e, e1, if_pos rfl, Int.neg_one_mul]
          · rw [e, e1, if_neg (show ¬ (false = true) by decide), Int.one_mul]
        refine ⟨_, rfl, rfl, _, rfl, ?_⟩
        rw [show decide (oN (some b) = V.int 0) = decide (b = 0) from by show decide (V.int (b : Nat) = V.int 0) = _; rw [eqi]; exact decide_eq_decide.mpr (by omega)]
        by_cases hb0 : b = 0
        · rw [decide_eq_true hb0]
          rw [if_pos (.inl hb0)] at qn
          exact iteT (iteT (qn rfl _ z02))
        rw [decide_eq_false hb0]
        refine iteF ?_
        refine ⟨_, rfl, _, _, rfl, rfl, _, rfl, ?_⟩
        rw [hlt]
        by_cases hc : b = 0 ∨ (ng = true ∧ a = 0)
        · obtain ⟨e1, e2⟩ := hc.resolve_left hb0
          rw [if_pos hc] at qn
          rw [e1]
          refine iteT ⟨_, rfl, rfl, _, rfl, ?_⟩
          subst e2
          exact iteT (qn rfl _ z02)
        rw [if_neg hc] at qn q
        have hgp : 0 ≤ (b : Int) := by omega
        have b1 : decide (oN (some b) = V.int 1) = decide (b = 1) := by
          show decide (V.int (b : Nat) = V.int 1) = _
          rw [eqi]
          exact decide_eq_decide.mpr (by omega)
        have goal : ∀ c : Bool, c = decide (b = 1 ∨ 1 < Int.gcd (a : Int) (b : Int)) → (c = true → ∀ H', Same H H' → Q .non H') ∧ (c = false → ∀ p1 Hz, Same H Hz → Hz p1 = none → Q (.ref p1) (upd Hz p1 (.tup [.int (sg * (a : Int)), .int (b : Int)]))) := fun c hcc => by
          refine ⟨fun e => ?_, fun e p1 Hz sz n1 => ?_⟩
          · rw [e] at hcc
            rw [if_pos ⟨rfl, of_decide_eq_true hcc.symm⟩] at qn
            exact qn rfl
          · rw [e] at hcc
            rw [if_neg (fun z => of_decide_eq_false hcc.symm z.2)] at q
            refine q _ rfl p1 _ (sz.trans (same_new n1)) ?_
            rw [upd_same, hval]
        cases hn : ng with
        | true =>
          refine iteT ⟨_, rfl, rfl, _, rfl, ?_⟩
          have ha : ¬ a = 0 := fun z => hc (.inr ⟨hn, z⟩)
          rw [show decide (oN (some a) = V.int 0) = false from by show decide (V.int (a : Nat) = V.int 0) = false; rw [eqi]; exact decide_eq_false (by omega)]
          refine iteF ⟨_, rfl, rfl, _, rfl, ?_⟩
          rw [hstr true hs]
          refine iteT ⟨_, rfl, rfl, _, rfl, ?_⟩
          rw [b1]
          by_cases h1 : b = 1
          · rw [decide_eq_true h1]
            exact iteT (iteT ((goal true (decide_eq_true (.inl h1)).symm).1 rfl _ z02))
          · rw [decide_eq_false h1]
            refine iteF ⟨_, rfl, _, rfl, (a : Nat), (b : Nat), rfl, hgp, _, _, rfl, rfl, _, rfl, ?_⟩
            by_cases h2 : 1 < Int.gcd (a : Int) (b : Int)
            · rw [decide_eq_true (show ((1 : Int) < (Int.gcd (a : Int) (b : Int) : Nat)) by omega)]
              exact iteT ((goal true (decide_eq_true (.inr h2)).symm).1 rfl _ z02)
            · rw [decide_eq_false (show ¬ ((1 : Int) < (Int.gcd (a : Int) (b : Int) : Nat)) by omega)]
              exact iteF ⟨_, rfl, _, rfl, _, _, rfl, rfl, hcm, _, rfl, s2, fun p1 n1 => (goal false (decide_eq_false (fun z => z.elim h1 h2)).symm).2 rfl p1 _ z02 n1⟩
        | false =>
          refine iteF (iteF ⟨_, rfl, rfl, _, rfl, ?_⟩)
          rw [hstr true hs]
          refine iteT ⟨_, rfl, rfl, _, rfl, ?_⟩
          rw [b1]
          by_cases h1 : b = 1
          · rw [decide_eq_true h1]
            exact iteT (iteT ((goal true (decide_eq_true (.inl h1)).symm).1 rfl _ z02))
          · rw [decide_eq_false h1]
            refine iteF ⟨_, rfl, _, rfl, (a : Nat), (b : Nat), rfl, hgp, _, _, rfl, rfl, _, rfl, ?_⟩
            by_cases h2 : 1 < Int.gcd (a : Int) (b : Int)
            · rw [decide_eq_true (show ((1 : Int) < (Int.gcd (a : Int) (b : Int) : Nat)) by omega)]
              exact iteT ((goal true (decide_eq_true (.inr h2)).symm).1 rfl _ z02)
            · rw [decide_eq_false (show ¬ ((1 : Int) < (Int.gcd (a : Int) (b : Int) : Nat)) by omega)]
              exact iteF ⟨_, rfl, _, rfl, _, _, rfl, rfl, hcm, _, rfl, s2, fun p1 n1 => (goal false (decide_eq_false (fun z => z.elim h1 h2)).symm).2 rfl p1 _ z02 n1⟩
end

/-! ### figures in pieces -/
def padL : Nat → Nat → List Nat
  | 0, _ => []
  | k + 1, r => padL k (r / 10) ++ [48 + r % 10]
theorem padL_zero : ∀ k : Nat, padL k 0 = List.replicate k 48
  | 0 => rfl
  | k + 1 => by
    show padL k (0 / 10) ++ [48 + 0 % 10] = _
    rw [Nat.zero_div, padL_zero k, List.replicate_succ']
theorem num_pad : ∀ (k : Nat) {q r : Nat}, 0 < q → r < 10 ^ k → TL.numL (q * 10 ^ k + r) = TL.numL q ++ padL k r
  | 0, q, r, _, hr => by
    have : r = 0 := by
      rw [Nat.pow_zero] at hr
      omega
    subst this
    rw [Nat.pow_zero, Nat.mul_one, Nat.add_zero]
    exact (List.append_nil _).symm
  | k + 1, q, r, hq, hr => by
    have hp : 0 < 10 ^ k := Nat.pow_pos (by decide)
    have e1 : q * 10 ^ (k + 1) + r = (q * 10 ^ k) * 10 + r := by rw [Nat.pow_succ, Nat.mul_assoc]
    have hqp : 0 < q * 10 ^ k := Nat.mul_pos hq hp
    rw [e1, TL.numL_step (by omega)]
    have e2 : ((q * 10 ^ k) * 10 + r) / 10 = q * 10 ^ k + r / 10 := by omega
    have e3 : ((q * 10 ^ k) * 10 + r) % 10 = r % 10 := by omega
    rw [e2, e3, num_pad k hq (by rw [Nat.pow_succ] at hr; omega), List.append_assoc]
    rfl
theorem pad_num : ∀ (k : Nat) {r : Nat}, 0 < k → r < 10 ^ k → padL k r = List.replicate (k - (TL.numL r).length) 48 ++ TL.numL r
  | 0, _, h, _ => absurd h (Nat.lt_irrefl 0)
  | k + 1, r, _, hr => by
    show padL k (r / 10) ++ [48 + r % 10] = _
    by_cases h : r < 10
    · have e0 : r / 10 = 0 := by omega
      have e1 : r % 10 = r := by omega
      rw [TL.numL_lt h, e0, e1, padL_zero]
      rfl
    · have hk : 0 < k := by
        cases k with
        | zero =>
          rw [Nat.zero_add, Nat.pow_one] at hr
          omega
        | succ _ => exact Nat.succ_pos _
      rw [TL.numL_step (by omega), pad_num k hk (by rw [Nat.pow_succ] at hr; omega), List.length_append, List.append_assoc]
      show _ = List.replicate (k + 1 - ((TL.numL (r / 10)).length + 1)) 48 ++ _
      rw [Nat.add_sub_add_right]
theorem numL_len {n k : Nat} (hk : 0 < k) (h : n < 10 ^ k) : (TL.numL n).length ≤ k := TL.numL_len hk h
theorem S_inj' {x : Str} {b : List Nat} : x = S b ↔ x.cps.toList = b := ⟨fun h => by rw [h, S_list], fun h => by rw [← S_eta x, h]⟩
theorem zfill_pad {r : Nat} (hr : r < 10 ^ 60) : Txt.zfill (S (TL.numL r)) 60 = S (padL 60 r) := by
  have hl := numL_len (by decide) hr
  rw [pad_num 60 (by decide) hr]
  unfold Txt.zfill
  rw [S_len]
  by_cases h : (60 : Int) ≤ ((TL.numL r).length : Int)
  · rw [if_pos h, show 60 - (TL.numL r).length = 0 by omega]
    rfl
  · rw [if_neg h]
    have hne := TL.numL_ne r
    obtain ⟨c, t, hct⟩ : ∃ c t, TL.numL r = c :: t := by
      cases e : TL.numL r with
      | nil => exact absurd e hne
      | cons c t => exact ⟨c, t, rfl⟩
    have hc := TL.numL_digits r c (by rw [hct]; exact List.mem_cons_self)
    have h0 : (S (TL.numL r)).cps[0]? = some c := by
      rw [← Array.getElem?_toList, S_list, hct]
      rfl
    unfold zfilled
    rw [h0]
    split
    · rename_i e
      cases Option.some.inj e
      omega
    · rename_i e
      cases Option.some.inj e
      omega
    · refine S_inj'.mpr ?_
      show (Array.replicate ((60 : Int).toNat - (TL.numL r).length) 48 ++ (S (TL.numL r)).cps ++ Array.replicate 0 48).toList = _
      rw [Array.toList_append, Array.toList_append, S_list, Array.toList_replicate, Array.toList_replicate]
      show _ ++ [] = _
      rw [List.append_nil]
      rfl
/-! ### show_whole, show_fraction -/
abbrev PC : Nat := 10 ^ 60
theorem divP {i : Int} : CDivP i 1000000000000000000000000000000000000000000000000000000000000 := by
  refine ⟨by decide, ?_⟩
  unfold Builtin.divisionGoesByPylong
  dsimp only
  rw [show decide ((if ((1000000000000000000000000000000000000000000000000000000000000 : Int) == 0) = true then 0 else (1000000000000000000000000000000000000000000000000000000000000 : Int).natAbs.log2 / 30 + 1) > 300) = false by decide +kernel]
  rfl
def flatR (ps : List (List Nat)) : List Nat := ps.reverse.flatten
theorem flatR_snoc {ps : List (List Nat)} {p : List Nat} : flatR (ps ++ [p]) = p ++ flatR ps := by
  unfold flatR
  rw [List.reverse_append]
  rfl
theorem jn_flat : ∀ ys : List (List Nat), Str.join (Str.ofString "") (ys.map S) = S ys.flatten
  | [] => by
    show Str.empty = S []
    rfl
  | [x] => by
    show S x = S (x ++ [])
    rw [List.append_nil]
  | x :: y :: r => by
    show S x ++ Str.ofString "" ++ Str.join (Str.ofString "") ((y :: r).map S) = S (x ++ (y :: r).flatten)
    rw [jn_flat (y :: r), show (Str.ofString "" : Str) = S [] from rfl, S_add, S_add, List.append_nil]
theorem jn_eq (a : Str) (ys : List Str) : Txt.join a ys = Str.join a ys := StrLaws.glued_eq_join a ys
theorem sum_S (ys : List (List Nat)) : ((ys.map S).map (·.length)).sum = ys.flatten.length := by
  rw [List.length_flatten, List.map_map]
  have e : ys.map ((fun x : Str => x.length) ∘ S) = ys.map List.length := List.map_congr_left fun y _ => S_len y
  rw [e]
theorem num_S' (n : Nat) : Str.ofString (toString ((n : Nat) : Int)) = S (TL.numL n) := SX.num_S n
section
variable {P : Program} {w : World} {K : PySem.W.Frag} {mg : Str → Option Value} {base : Heap}
def spShw : Sp := fun vs H Q _ => ∃ n : Int, vs = [.int n] ∧ n.natAbs < 10 ^ 4200 ∧ ∀ H', Same H H' → Q (.str (S (sgL n))) H'
theorem ok_showwh (T : Tx P K mg) : FnOk P w K mg base CX0 1 T.f_showwh T.fd_showwh ["number"] spShw := by
  refine T.F_showwh.ok sc_showwh (fun vs H Q E h => ?_) (fun cdv A outer s H vs Q E hr h => ?_)
  · obtain ⟨n, rfl, _⟩ := h
    rfl
  · obtain ⟨n, rfl, hn, q⟩ := h
    refine ⟨_, (pss_cons (ps_set (i := 1) sc_showwh.nd rfl (.inl rfl) (pe_callB call_abs (by rfl) T.m_abs (by decide +kernel) (pa_cons (pv 0) pa_nil))) (pss_cons (ps_set (i := 2) sc_showwh.nd rfl (.inl rfl) (pe_lst pa_nil)) (pss_cons (ps_while PassesOwn.never (pt_cmpR op_ge (pv 1) (pe_glob (v := .int 1000000000000000000000000000000000000000000000000000000000000) (by rfl) T.c_PIECE ⟨_, rfl⟩) (nomark _)) (pss_cons (ps_asg (pe_callB call_divmodW (by rfl) T.m_divmod (by decide +kernel) (pa_cons (pv 1) (pa_cons (pe_glob (v := .int 1000000000000000000000000000000000000000000000000000000000000) (by rfl) T.c_PIECE ⟨_, rfl⟩) pa_nil))) (pg_tup rfl (pgs_cons (pg_name (i := 1) sc_showwh.nd rfl (.inl rfl)) (pgs_cons (pg_name (i := 3) sc_showwh.nd rfl (.inl rfl)) pgs_nil)))) (pss_one (ps_expr (pe_bm PySem.F.plainAttrs_list PySem.F.slot_list_append PySem.F.type_list_append mt_append (pv 2) (pa_cons (pe_bm PySem.F.plainAttrs_str PySem.F.slot_str_zfill PySem.F.type_str_zfill mt_zfill (pe_callTy call_str_int (by rfl) T.m_str (by decide +kernel) (pa_cons (pv 3) pa_nil)) (pa_cons (pe_glob (v := .int 60) (by rfl) T.c_PIECE_FIGURES ⟨_, rfl⟩) pa_nil)) pa_nil)))))) (pss_cons (ps_expr (pe_bm PySem.F.plainAttrs_list PySem.F.slot_list_append PySem.F.type_list_append mt_append (pv 2) (pa_cons (pe_callTy call_str_int (by rfl) T.m_str (by decide +kernel) (pa_cons (pv 1) pa_nil)) pa_nil))) (pss_cons (ps_set (i := 4) sc_showwh.nd rfl (.inl rfl) (pe_ifExp (pt_cmpR op_lt (pv 0) pe_int (nomark _)) pe_str pe_str)) (pss_one (ps_ret (pe_op op_add_str (pv 4) (BV.pe_joinRev rfl pe_str (by rfl) T.m_reversed (pv 2)))))))))), ?_⟩
    refine ⟨_, rfl, _, rfl, ?_⟩
    obtain ⟨b, hb, hb1⟩ : ∃ b : Int, (if n < 0 then -n else n) = b ∧ b = (n.natAbs : Int) := by
      refine ⟨_, rfl, ?_⟩
      split <;> omega
    rw [hb]
    subst hb1
    refine ⟨s0, fun L nL => ?_⟩
    have sL := same_new (o := .lst []) nL
    obtain ⟨W, hWd⟩ : ∃ W : Nat → L2.St → Hp → Prop, W = fun m σ H' => ∃ (y3 : Option V) (l : Nat) (ps : List (List Nat)), m = l ∧ σ = [some (.int n), some (.int (l : Int)), some (.ref L), y3, none] ∧ Same H H' ∧ H' L = some (.lst ((ps.map S).map V.str)) ∧ TL.numL n.natAbs = TL.numL l ++ flatR ps ∧ l ≤ n.natAbs ∧ 60 * ps.length + (TL.numL l).length ≤ 5000 ∧ (∀ p ∈ ps, p.length = 60) := ⟨_, rfl⟩
    refine ⟨W, ⟨n.natAbs, ?_⟩, fun m σ H' hW => ?_⟩
    · rw [hWd]
      refine ⟨none, n.natAbs, [], rfl, rfl, sL, upd_same, (List.append_nil _).symm, Nat.le_refl _, ?_, fun _ h => nomatch h⟩
      have := numL_len (n := n.natAbs) (k := 4200) (by decide) hn
      show 60 * 0 + _ ≤ _
      omega
    rw [hWd] at hW
    obtain ⟨y3, l, ps, rfl, rfl, sx, eL, hnum, hle, hlen, hp60⟩ := hW
    refine ⟨_, rfl, _, _, rfl, rfl, _, rfl, ?_⟩
    have hpl : ps.length ≤ 100 := by omega
    by_cases hge : (1000000000000000000000000000000000000000000000000000000000000 : Int) ≤ (m : Int)
    · rw [decide_eq_true hge]
      refine iteT ⟨fun σ' H'' => ∃ m', m' < m ∧ W m' σ' H'', fun σ' H'' h => h, ?_⟩
      refine ⟨_, rfl, _, _, rfl, divP, fun dp ndp => ?_⟩
      have ed : ((m : Int) / 1000000000000000000000000000000000000000000000000000000000000) = ((m / PC : Nat) : Int) := by
        show _ = (((m : Nat) / (10 ^ 60 : Nat) : Nat) : Int)
        rw [Int.natCast_ediv]
        rfl
      have em : ((m : Int) % 1000000000000000000000000000000000000000000000000000000000000) = ((m % PC : Nat) : Int) := by
        show _ = (((m : Nat) % (10 ^ 60 : Nat) : Nat) : Int)
        rw [Int.natCast_emod]
        rfl
      rw [ed, em]
      have sd := same_new (o := .tup [.int ((m / PC : Nat) : Int), .int ((m % PC : Nat) : Int)]) ndp
      refine ⟨dp, _, rfl, .inl (.inl upd_same), rfl, _, _, rfl, _, _, rfl, rfl, ?_⟩
      generalize upd H' dp (.tup [.int ((m / PC : Nat) : Int), .int ((m % PC : Nat) : Int)]) = H1 at sd
      have eL1 := sd _ _ eL
      have hmod : m % PC < 10 ^ 60 := Nat.mod_lt _ (by decide)
      have hq : 0 < m / PC := by
        have h1 : PC ≤ m := by
          show (10 ^ 60 : Nat) ≤ m
          omega
        exact Nat.div_pos h1 (by decide)
      have hsplit : TL.numL m = TL.numL (m / PC) ++ padL 60 (m % PC) := by
        have := num_pad 60 hq hmod
        have e : m / PC * 10 ^ 60 + m % PC = m := Nat.div_add_mod' m PC
        rw [e] at this
        exact this
      have hpadl : (padL 60 (m % PC)).length = 60 := by
        have hl := numL_len (by decide) hmod
        rw [pad_num 60 (by decide) hmod, List.length_append, List.length_replicate]
        omega
      refine ⟨.ref L, rfl, .inl ⟨rfl, _, SqL.of eL1⟩, _, rfl, _, rfl, ?_, rfl, _, _, rfl, rfl, by decide +kernel, L, _, _, rfl, rfl, eL1, ?_, ?_⟩
      · have : ((m % PC : Nat) : Int).natAbs = m % PC := Int.natAbs_natCast _
        rw [this]
        by_cases h0 : m % PC = 0
        · rw [h0]
          decide
        · exact (Nat.log2_lt h0).mpr (Nat.lt_trans hmod (by decide +kernel))
      · rw [List.length_map, List.length_map]
        exact Nat.lt_of_le_of_lt hpl (by decide)
      rw [num_S', zfill_pad hmod]
      refine ⟨m / PC, Nat.div_lt_self (by omega) (by decide), ?_⟩
      rw [hWd]
      refine ⟨_, m / PC, ps ++ [padL 60 (m % PC)], rfl, rfl, ?_, ?_, ?_, Nat.le_trans (Nat.div_le_self _ _) hle, ?_, fun p hp => ?_⟩
      · exact fun c o e => by
          rw [upd_ne (ne_of_none e nL)]
          exact sd _ _ (sx _ _ e)
      · rw [upd_same, List.map_append, List.map_append]
        rfl
      · rw [hnum, hsplit, flatR_snoc, List.append_assoc]
      · rw [hsplit, List.length_append, hpadl] at hlen
        rw [List.length_append]
        show 60 * (ps.length + 1) + _ ≤ _
        omega
      · rcases List.mem_append.mp hp with h | h
        · exact hp60 p h
        · rw [List.mem_singleton.mp h]
          exact hpadl
    · rw [decide_eq_false hge]
      refine iteF ?_
      have hlt : m < 10 ^ 60 := by omega
      refine ⟨.ref L, rfl, .inl ⟨rfl, _, SqL.of eL⟩, _, rfl, _, rfl, ?_, ?_⟩
      · rw [Int.natAbs_natCast]
        by_cases h0 : m = 0
        · rw [h0]
          decide
        · exact (Nat.log2_lt h0).mpr (Nat.lt_trans hlt (by decide +kernel))
      refine ⟨L, _, _, rfl, rfl, eL, ?_, ?_⟩
      · rw [List.length_map, List.length_map]
        exact Nat.lt_of_le_of_lt hpl (by decide)
      rw [num_S']
      have eL2 : upd H' L (.lst ((ps.map S).map V.str ++ [V.str (S (TL.numL m))])) L = some (.lst (((ps ++ [TL.numL m]).map S).map V.str)) := by
        rw [upd_same, List.map_append, List.map_append]
        rfl
      have sm2 : Same H (upd H' L (.lst ((ps.map S).map V.str ++ [V.str (S (TL.numL m))]))) := fun c o e => by
        rw [upd_ne (ne_of_none e nL)]
        exact sx _ _ e
      generalize upd H' L (.lst ((ps.map S).map V.str ++ [V.str (S (TL.numL m))])) = H2 at eL2 sm2
      have hjoin : Txt.join (Str.ofString "") ((ps ++ [TL.numL m]).map S).reverse = S (TL.numL n.natAbs) := by
        rw [jn_eq, ← List.map_reverse, jn_flat, hnum]
        have := flatR_snoc (ps := ps) (p := TL.numL m)
        unfold flatR at this
        rw [this]
        rfl
      have hlt4 := numL_len (n := n.natAbs) (k := 4200) (by decide) hn
      have e0 : (Str.ofString "" : Str).length = 0 := by decide +kernel
      have e1 : (Str.ofString "-" : Str).length = 1 := by decide +kernel
      have bnd : (((ps ++ [TL.numL m]).map S).map (·.length)).sum + ((ps ++ [TL.numL m]).map S).length * (Str.ofString "").length ≤ 16777216 := by
        rw [e0, Nat.mul_zero, Nat.add_zero, sum_S]
        have : (ps ++ [TL.numL m]).flatten.length = (flatR ps).length + (TL.numL m).length := by
          unfold flatR
          rw [List.flatten_append, List.length_append, List.length_flatten (L := ps.reverse), List.length_flatten, List.map_reverse, List.sum_reverse]
          congr 1
          exact congrArg List.length (List.append_nil _)
        have h2 := congrArg List.length hnum
        rw [List.length_append] at h2
        omega
      have jl : (S (TL.numL n.natAbs)).length ≤ 4200 := by
        rw [S_len]
        exact hlt4
      refine ⟨_, rfl, _, _, rfl, rfl, _, rfl, ?_⟩
      by_cases h0 : n < 0
      · rw [decide_eq_true h0]
        refine iteT ?_
        refine ⟨_, rfl, ⟨_, rfl⟩, _, rfl, _, L, _, rfl, rfl, SqL.of eL2, bnd, _, _, rfl, rfl, ?_, ?_⟩
        · rw [hjoin]
          exact Nat.le_trans (show (Str.ofString "-").length + (S (TL.numL n.natAbs)).length ≤ 5000 by omega) (by decide)
        · rw [hjoin, show (Str.ofString "-" : Str) = S [45] by decide +kernel, S_add]
          have := q H2 sm2
          unfold sgL at this
          rw [if_pos h0] at this
          exact this
      · rw [decide_eq_false h0]
        refine iteF ?_
        refine ⟨_, rfl, ⟨_, rfl⟩, _, rfl, _, L, _, rfl, rfl, SqL.of eL2, bnd, _, _, rfl, rfl, ?_, ?_⟩
        · rw [hjoin]
          exact Nat.le_trans (show (Str.ofString "").length + (S (TL.numL n.natAbs)).length ≤ 5000 by omega) (by decide)
        · rw [hjoin, show (Str.ofString "" : Str) = S [] from rfl, S_add]
          have := q H2 sm2
          unfold sgL at this
          rw [if_neg h0] at this
          exact this
/-! ### show_fraction -/
def spFrS : Sp := fun vs H Q _ => ∃ (p : Addr) (f : Frc), vs = [.ref p] ∧ H p = some (.tup [.int f.1, .int f.2]) ∧ f.1.natAbs < 10 ^ 4200 ∧ 1 ≤ f.2 ∧ f.2.natAbs < 10 ^ 4200 ∧ ∀ H', Same H H' → Q (.str (S (frL f))) H'
theorem ok_showfr (T : Tx P K mg) : FnOk P w K mg base CX0 2 T.f_showfr T.fd_showfr ["one"] spFrS := by
  refine T.F_showfr.ok sc_showfr (fun vs H Q E h => ?_) (fun cdv A outer s H vs Q E hr h => ?_)
  · obtain ⟨p, f, rfl, _⟩ := h
    rfl
  · obtain ⟨p, f, rfl, ep, h1, hl, h2, q⟩ := h
    refine ⟨_, (pss_cons (ps_asg (pv 0) (pg_tup rfl (pgs_cons (pg_name (i := 1) sc_showfr.nd rfl (.inl rfl)) (pgs_cons (pg_name (i := 2) sc_showfr.nd rfl (.inl rfl)) pgs_nil)))) (pss_cons (ps_if (pt_cmpR op_eq (pv 2) pe_int (nomark _)) (pss_one (ps_ret (pe_call (ok_showwh T) (hr.mono (by decide) : Room 1 _) (by rfl) T.g_showwh T.F_showwh.kp T.b_showwh .nil pass0 (pa_cons (pv 1) pa_nil)))) pss_nil) (pss_one (ps_ret (pe_op op_add_str (pe_op op_add_str (pe_call (ok_showwh T) (hr.mono (by decide) : Room 1 _) (by rfl) T.g_showwh T.F_showwh.kp T.b_showwh .nil pass0 (pa_cons (pv 1) pa_nil)) pe_str) (pe_call (ok_showwh T) (hr.mono (by decide) : Room 1 _) (by rfl) T.g_showwh T.F_showwh.kp T.b_showwh .nil pass0 (pa_cons (pv 2) pa_nil))))))), ?_⟩
    refine ⟨_, rfl, p, _, rfl, .inl (.inl ep), rfl, _, _, rfl, _, _, rfl, rfl, ?_⟩
    refine ⟨_, rfl, rfl, _, rfl, ?_⟩
    rw [eqi]
    by_cases h : f.2 = 1
    · rw [decide_eq_true h]
      refine iteT ?_
      refine ⟨_, rfl, f.1, rfl, h1, fun H1 s1' => ?_⟩
      have := q H1 s1'
      unfold frL at this
      rw [if_pos h, List.append_nil] at this
      exact this
    · rw [decide_eq_false h]
      refine iteF ?_
      have l1 := numL_len (n := f.1.natAbs) (k := 4200) (by decide) h1
      have l2 := numL_len (n := f.2.natAbs) (k := 4200) (by decide) h2
      have sg1 : (sgL f.1).length ≤ 4201 := by
        unfold sgL
        rw [List.length_append]
        split
        · show 1 + _ ≤ _
          omega
        · show 0 + _ ≤ _
          omega
      have hs2 : sgL f.2 = TL.numL f.2.natAbs := by
        unfold sgL
        rw [if_neg (by omega)]
        rfl
      have e1 : (Str.ofString "/" : Str).length = 1 := by decide +kernel
      refine ⟨_, rfl, f.1, rfl, h1, fun H1 s1' => ?_⟩
      refine ⟨_, _, rfl, rfl, ?_, ?_⟩
      · rw [S_len]
        exact Nat.le_trans (show (sgL f.1).length + (Str.ofString "/").length ≤ 5000 by omega) (by decide)
      rw [show (Str.ofString "/" : Str) = S [47] by decide +kernel, S_add]
      refine ⟨_, rfl, f.2, rfl, h2, fun H2 s2' => ?_⟩
      rw [hs2]
      refine ⟨_, _, rfl, rfl, ?_, ?_⟩
      · rw [S_len, S_len, List.length_append]
        exact Nat.le_trans (show (sgL f.1).length + 1 + (TL.numL f.2.natAbs).length ≤ 10000 by omega) (by decide)
      rw [S_add]
      have := q H2 (s1'.trans s2')
      unfold frL at this
      rw [if_neg h] at this
      rw [List.append_assoc]
      exact this
end

/-! ### _law_signs, _law_spoilt -/
/-- a text of at most so many signs -/
def TxB (b : Nat) (cs : List Nat) : Prop := cs.length ≤ b ∧ ∀ c ∈ cs, c < 0x110000
theorem TxB.take {b : Nat} {cs : List Nat} (h : TxB b cs) (k : Nat) : TxB b (cs.take k) := ⟨by rw [List.length_take]; have := h.1; omega, fun c hc => h.2 c (List.mem_of_mem_take hc)⟩
theorem ch_app {a b : List Nat} (h1 : ∀ c ∈ a, c < 0x110000) (h2 : ∀ c ∈ b, c < 0x110000) : ∀ c ∈ a ++ b, c < 0x110000 := fun c hc => by
  rcases List.mem_append.mp hc with h | h
  · exact h1 c h
  · exact h2 c h
theorem at_ofN {xs : List Nat} {z : Int} {j : Nat} {v : Nat} (e : z = (j : Int)) (h : xs[j]? = some v) : atI xs z = some v := by
  rw [e]
  exact atI_nat h
abbrev cst1 : List Str := [Str.ofString "", Str.ofString "-", Str.ofString "/", Str.ofString "0/1", Str.ofString "1/0", Str.ofString "-0", Str.ofString "+1", Str.ofString "01", Str.ofString "1/01", Str.ofString "2/4", Str.ofString "1/1", Str.ofString " 1", Str.ofString "1 ", Str.ofString "1/-2", Str.ofString "--1", Str.ofString "1//2"]
abbrev cst2 : List Str := [Str.ofString "1.0", Str.ofString "1_0", Str.ofString "0x1", Str.ofString "1/2/3", ⟨(List.replicate 31 57).toArray⟩, Str.ofString "1/" ++ ⟨(List.replicate 31 55).toArray⟩]
abbrev rp (n : Nat) : Str := ⟨(List.replicate n 56).toArray⟩
def okZ (z : Str) : Bool := decide (z.length ≤ 5201) && PyData.strOk z
theorem ok12 : (cst1 ++ cst2).all okZ = true := by decide +kernel
theorem okR {n : Nat} (h : n ≤ 5201) : okZ ⟨(List.replicate n 56).toArray⟩ = true := by
  unfold okZ
  rw [decide_eq_true (show (⟨(List.replicate n 56).toArray⟩ : Str).length ≤ 5201 by
    show (List.replicate n 56).toArray.size ≤ 5201
    rw [List.size_toArray, List.length_replicate]
    exact h)]
  exact ok_S (cs := List.replicate n 56).mpr fun c hc => by
    rw [(List.mem_replicate.mp hc).2]
    decide
theorem okZ_tx {z : Str} {b : Nat} (h : okZ z = true) : TxB (max b 5201) z.cps.toList := by
  unfold okZ at h
  rw [Bool.and_eq_true, decide_eq_true_eq] at h
  refine ⟨?_, ok_S.mp (by rw [S_eta]; exact h.2)⟩
  rw [show z.cps.toList.length = z.length from by simp [Str.length]]
  omega
theorem s16 : 16 ≤ sizeLine := by decide
theorem s7 : 7 ≤ sizeLine := by decide
section
variable {P : Program} {w : World} {K : PySem.W.Frag} {mg : Str → Option Value} {base : Heap}
def spSigns : Sp := fun vs H Q _ => vs = [] ∧ ∀ z : Str, z.length = 95 → PyData.strOk z = true → Q (.str z) H
theorem ok_signs (T : Tx P K mg) : FnOk P w K mg base CX0 1 T.f_signs T.fd_signs [] spSigns := by
  refine T.F_signs.ok sc_signs (fun vs H Q E h => ?_) (fun cdv A outer s H vs Q E hr h => ?_)
  · obtain ⟨rfl, _⟩ := h
    rfl
  · obtain ⟨rfl, q⟩ := h
    refine ⟨_, (pss_cons (ps_set (i := 0) sc_signs.nd rfl (.inl rfl) (pe_op op_add_str (pe_op op_add_str pe_str pe_str) pe_str)) (pss_one (ps_ret (pe_op op_add_str (pe_op op_add_str (pe_op op_add_str (pe_op op_add_str (pe_op op_add_str (pv 0) pe_str) pe_str) pe_str) pe_str) pe_str)))), ?_⟩
    refine ⟨_, _, rfl, rfl, by decide +kernel, _, _, rfl, rfl, by decide +kernel, ?_⟩
    refine ⟨_, rfl, _, _, rfl, rfl, by decide +kernel, _, _, rfl, rfl, by decide +kernel, _, _, rfl, rfl, by decide +kernel, _, _, rfl, rfl, by decide +kernel, _, _, rfl, rfl, by decide +kernel, ?_⟩
    exact q _ (by decide +kernel) (by decide +kernel)
def spSp : Sp := fun vs H Q _ => ∃ (a : Addr) (cs : List Nat) (b : Nat), vs = [.ref a, .str (S cs)] ∧ Drw H a ∧ TxB b cs ∧ b ≤ 5900 ∧ ∀ (cs' : List Nat) (H' : Hp), Gr a H H' → TxB (max (b + 1) 5201) cs' → Q (.str (S cs')) H'
theorem ok_spoilt (T : Tx P K mg) : FnOk P w K mg base CX0 2 T.f_spoilt T.fd_spoilt ["_law_box_here", "_law_text"] spSp := by
  refine T.F_spoilt.ok sc_spoilt (fun vs H Q E h => ?_) (fun cdv A outer s H vs Q E hr h => ?_)
  · obtain ⟨a, cs, b, rfl, _⟩ := h
    rfl
  · obtain ⟨a, cs, b, rfl, dr, tx, hb, q⟩ := h
    refine ⟨_, (pss_cons (ps_par (i := 2) (j := 3) (by rfl) sc_spoilt.nd rfl rfl (by decide) rfl rfl (pa_cons (pe_call (ok_take T) (hr.mono (by decide) : Room 1 _) (by rfl) T.g_take T.F_take.kp T.b_take .nil pass0 (pa_cons (pv 0) (pa_cons pe_int pa_nil))) (pa_cons (pe_call (ok_take T) (hr.mono (by decide) : Room 1 _) (by rfl) T.g_take T.F_take.kp T.b_take .nil pass0 (pa_cons (pv 0) (pa_cons (pe_op op_add (pe_callB call_len_str (by rfl) T.m_len PySem.boot_len (pa_cons (pv 1) pa_nil)) pe_int) pa_nil))) pa_nil)) (by rfl)) (pss_cons (ps_set (i := 4) sc_spoilt.nd rfl (.inl rfl) (pe_call0 (ok_signs T) (hr.mono (by decide) : Room 1 _) (by rfl) T.g_signs T.F_signs.kp T.b_signs .nil pass0)) (pss_cons (ps_set (i := 5) sc_spoilt.nd rfl (.inl rfl) (pe_ix ix_str (pv 4) (pe_call (ok_take T) (hr.mono (by decide) : Room 1 _) (by rfl) T.g_take T.F_take.kp T.b_take .nil pass0 (pa_cons (pv 0) (pa_cons (pe_callB call_len_str (by rfl) T.m_len PySem.boot_len (pa_cons (pv 4) pa_nil)) pa_nil))) (fun _ _ => rfl))) (pss_cons (ps_if (pt_cmpR op_eq (pv 2) pe_int (nomark _)) (pss_cons (ps_set (i := 6) sc_spoilt.nd rfl (.inl rfl) (pe_lst (pa_cons pe_str (pa_cons pe_str (pa_cons pe_str (pa_cons pe_str (pa_cons pe_str (pa_cons pe_str (pa_cons pe_str (pa_cons pe_str (pa_cons pe_str (pa_cons pe_str (pa_cons pe_str (pa_cons pe_str (pa_cons pe_str (pa_cons pe_str (pa_cons pe_str (pa_cons pe_str pa_nil)))))))))))))))))) (pss_cons (ps_set (i := 6) sc_spoilt.nd rfl (.inl rfl) (pe_op op_cat (pv 6) (pe_lst (pa_cons pe_str (pa_cons pe_str (pa_cons pe_str (pa_cons pe_str (pa_cons (pe_op BO.op_repL pe_str pe_int) (pa_cons (pe_op op_add_str pe_str (pe_op BO.op_repL pe_str pe_int)) (pa_cons (pe_op BO.op_repL pe_str (pe_op op_add pe_int (pe_call (ok_take T) (hr.mono (by decide) : Room 1 _) (by rfl) T.g_take T.F_take.kp T.b_take .nil pass0 (pa_cons (pv 0) (pa_cons pe_int pa_nil))))) pa_nil)))))))))) (pss_one (ps_ret (pe_ix ix_list (pv 6) (pe_call (ok_take T) (hr.mono (by decide) : Room 1 _) (by rfl) T.g_take T.F_take.kp T.b_take .nil pass0 (pa_cons (pv 0) (pa_cons (pe_callB call_len_seq (by rfl) T.m_len PySem.boot_len (pa_cons (pv 6) pa_nil)) pa_nil))) (fun _ _ => rfl)))))) pss_nil) (pss_cons (ps_if (pt_cmpR op_eq (pv 2) pe_int (nomark _)) (pss_one (ps_ret (pe_op op_add_str (pe_op op_add_str (pe_slice sl_str (pv 1) po_none (po_some (pv 3))) (pe_slice sl_str (pv 1) (po_some (pv 3)) (po_some (pe_op op_add (pv 3) pe_int)))) (pe_slice sl_str (pv 1) (po_some (pv 3)) po_none)))) pss_nil) (pss_cons (ps_if (pt_cmpR op_eq (pv 2) pe_int (nomark _)) (pss_one (ps_ret (pe_op op_add_str (pe_slice sl_str (pv 1) po_none (po_some (pv 3))) (pe_slice sl_str (pv 1) (po_some (pe_op op_add (pv 3) pe_int)) po_none)))) pss_nil) (pss_cons (ps_if (pt_cmpR op_eq (pv 2) pe_int (nomark _)) (pss_one (ps_ret (pe_op op_add_str (pe_op op_add_str (pe_slice sl_str (pv 1) po_none (po_some (pv 3))) (pv 5)) (pe_slice sl_str (pv 1) (po_some (pe_op op_add (pv 3) pe_int)) po_none)))) pss_nil) (pss_cons (ps_if (pt_cmpR op_eq (pv 2) pe_int (nomark _)) (pss_one (ps_ret (pe_op op_add_str (pe_op op_add_str (pe_slice sl_str (pv 1) po_none (po_some (pv 3))) (pe_ix ix_str pe_str (pe_call (ok_take T) (hr.mono (by decide) : Room 1 _) (by rfl) T.g_take T.F_take.kp T.b_take .nil pass0 (pa_cons (pv 0) (pa_cons pe_int pa_nil))) (fun _ _ => rfl))) (pe_slice sl_str (pv 1) (po_some (pv 3)) po_none)))) pss_nil) (pss_one (ps_ret (pe_op op_add_str (pe_op op_add_str (pe_slice sl_str (pv 1) po_none (po_some (pv 3))) (pv 5)) (pe_slice sl_str (pv 1) (po_some (pv 3)) po_none)))))))))))), ?_⟩
    have hz' : (S cs).length ≤ sizeLine := by
      rw [S_len]
      exact Nat.le_trans (Nat.le_trans tx.1 hb) (by decide)
    have hln := S_len cs
    have hcl := tx.1
    refine ⟨_, rfl, a, 6, rfl, dr, by decide, by decide +kernel, fun wy H1 w0 w1 g1 => ?_⟩
    refine ⟨_, rfl, _, rfl, _, rfl, hz', _, _, rfl, rfl, a, _, rfl, g1.2, by omega, Nat.lt_of_le_of_lt (show _ ≤ 10000 by omega) (by decide +kernel), fun at' H2 a0 a1 g2 => ⟨_, _, rfl, ?_⟩⟩
    obtain ⟨k, rfl⟩ : ∃ k : Nat, at' = (k : Int) := ⟨at'.toNat, by omega⟩
    have hk : k ≤ cs.length := by omega
    have hk1 : ((k : Int) + 1) = ((k + 1 : Nat) : Int) := by omega
    refine ⟨rfl, fun sg hsl hso => ?_⟩
    have G2 := g1.trans g2
    have hsz : sg.length ≤ sizeLine := by
      rw [hsl]
      decide
    refine ⟨_, rfl, _, rfl, _, rfl, _, rfl, hsz, a, _, rfl, g2.2, by omega, Nat.lt_of_le_of_lt (show _ ≤ 10000 by omega) (by decide +kernel), fun d H3 d0 d1 g3 => ?_⟩
    have G3 := G2.trans g3
    have hdl : d.toNat < sg.cps.toList.length := by
      rw [show sg.cps.toList.length = sg.length from by simp [Str.length]]
      omega
    obtain ⟨c, hc, hcc⟩ : ∃ c, sg.cps.toList[d.toNat]? = some c ∧ c < 0x110000 := by
      refine ⟨_, List.getElem?_eq_getElem hdl, ?_⟩
      have := ok_S.mp (show PyData.strOk (S sg.cps.toList) = true by rw [S_eta]; exact hso)
      exact this _ (List.getElem_mem hdl)
    refine ⟨sg, d, c, rfl, rfl, hsz, at_ofN (j := d.toNat) (by omega) hc, ?_⟩
    refine ⟨_, rfl, rfl, _, rfl, ?_⟩
    rw [eqi]
    by_cases w_0 : wy = 0
    · rw [decide_eq_true w_0]
      refine iteT ?_
      refine ⟨s16, fun L1 nL1 => ?_⟩
      have z1 := same_new (o := .lst (cst1.map V.str)) nL1
      have e1 : upd H3 L1 (.lst (cst1.map V.str)) L1 = some (.lst (cst1.map V.str)) := upd_same
      show tSeq _ _ _ _ (upd H3 L1 (.lst (cst1.map V.str)))
      have nL1a : L1 ≠ a := (G3.2.ne nL1).symm
      have G4 : Gr a H (upd H3 L1 (.lst (cst1.map V.str))) := G3.trans (Gr.of z1 G3.2)
      generalize upd H3 L1 (.lst (cst1.map V.str)) = H4 at z1 e1 G4
      refine ⟨_, rfl, 57, 31, rfl, rfl, by decide, by decide, 55, 31, rfl, rfl, by decide, by decide, _, _, rfl, rfl, by decide +kernel, ?_⟩
      refine ⟨_, rfl, a, 900, rfl, G4.2, by decide, by decide +kernel, fun d9 H5 d90 d91 g5 => ⟨_, _, rfl, rfl, 56, (4301 + d9).toNat, rfl, ?_, by omega, by omega, s7, fun L2 nL2 => ?_⟩⟩
      · show V.int (4301 + d9) = _
        rw [Int.toNat_of_nonneg (by omega)]
      have hwl : ((cst2 ++ [rp (4301 + d9).toNat]).map V.str).length = 7 := rfl
      have hwa : ∀ v ∈ cst1.map V.str ++ (cst2 ++ [rp (4301 + d9).toNat]).map V.str, ∃ z : Str, v = .str z ∧ okZ z = true := fun v hv => by
        rw [← List.map_append] at hv
        obtain ⟨z, hz, rfl⟩ := List.mem_map.mp hv
        refine ⟨z, rfl, ?_⟩
        rw [← List.append_assoc] at hz
        rcases List.mem_append.mp hz with h | h
        · exact List.all_eq_true.mp ok12 z h
        · rw [List.mem_singleton.mp h]
          exact okR (by omega)
      obtain ⟨ws, hws⟩ : ∃ ws, (cst2 ++ [rp (4301 + d9).toNat]).map V.str = ws := ⟨_, rfl⟩
      rw [hws] at hwl hwa
      rw [show [V.str (Str.ofString "1.0"), V.str (Str.ofString "1_0"), V.str (Str.ofString "0x1"), V.str (Str.ofString "1/2/3"), V.str ⟨(List.replicate 31 57).toArray⟩, V.str (Str.ofString "1/" ++ ⟨(List.replicate 31 55).toArray⟩), V.str ⟨(List.replicate (4301 + d9).toNat 56).toArray⟩] = ws from hws]
      have z2 := same_new (o := .lst ws) nL2
      have e2 : upd H5 L2 (.lst ws) L2 = some (.lst ws) := upd_same
      have e15 := g5.1 _ _ nL1a e1
      have G5 : Gr a H (upd H5 L2 (.lst ws)) := (G4.trans g5).trans (Gr.of z2 g5.2)
      generalize upd H5 L2 (.lst ws) = H6 at z2 e2 G5
      have hc1 : (cst1.map V.str).length = 16 := rfl
      generalize cst1.map V.str = us at e15 hwa hc1
      refine ⟨L1, L2, us, ws, rfl, rfl, z2 _ _ e15, e2, Nat.le_trans (show us.length + ws.length ≤ 100 by omega) (by decide), fun L3 nL3 => ?_⟩
      have z3 := same_new (o := .lst (us ++ ws)) nL3
      have e3 : upd H6 L3 (.lst (us ++ ws)) L3 = some (.lst (us ++ ws)) := upd_same
      have nL3a : L3 ≠ a := (G5.2.ne nL3).symm
      have G6 : Gr a H (upd H6 L3 (.lst (us ++ ws))) := G5.trans (Gr.of z3 G5.2)
      generalize upd H6 L3 (.lst (us ++ ws)) = H7 at z3 e3 G6
      have hlen : (us ++ ws).length = 23 := by rw [List.length_append, hc1, hwl]
      have hall := hwa
      generalize us ++ ws = vs at e3 hall hlen
      refine ⟨_, rfl, _, rfl, _, rfl, L3, vs, rfl, .inl (SqL.of e3), a, _, rfl, G6.2, by omega, Nat.lt_of_le_of_lt (show _ ≤ 10000 by omega) (by decide +kernel), fun d6 H8 d60 d61 g8 => ?_⟩
      have hd6 : d6.toNat < vs.length := by omega
      obtain ⟨z, hz, hok⟩ := hall _ (List.getElem_mem hd6)
      refine ⟨L3, vs, d6, .str z, rfl, rfl, SqL.of (g8.1 _ _ nL3a e3), at_of (j := d6.toNat) (by omega) (by rw [List.getElem?_eq_getElem hd6, hz]), ?_⟩
      have := q z.cps.toList H8 (G6.trans g8) (okZ_tx hok)
      rw [S_eta] at this
      exact this
    rw [decide_eq_false w_0]
    refine iteF ?_
    have fin : ∀ (cs' : List Nat) (Hx : Hp), Gr a H Hx → cs'.length ≤ cs.length + 1 → (∀ c ∈ cs', c < 0x110000) → Q (.str (S cs')) Hx := fun cs' Hx g hl hc => q cs' Hx g ⟨by omega, hc⟩
    have cT := (tx.take k).2
    have cD : ∀ (j : Nat), ∀ c ∈ cs.drop j, c < 0x110000 := fun j c hc => tx.2 c (List.mem_of_mem_drop hc)
    have lT : (cs.take k).length = k := by
      rw [List.length_take]
      omega
    have sS : ∀ n : Nat, n ≤ 10000 → n ≤ sizeLine := fun n h => Nat.le_trans h (by decide)
    refine ⟨_, rfl, rfl, _, rfl, ?_⟩
    rw [eqi]
    by_cases w_1 : wy = 1
    · rw [decide_eq_true w_1]
      refine iteT ?_
      refine ⟨_, rfl, _, rfl, _, rfl, S cs, rfl, hz', ?_⟩
      rw [S_to]
      refine ⟨_, rfl, _, rfl, _, rfl, _, rfl, _, _, rfl, rfl, _, rfl, S cs, rfl, hz', ?_⟩
      rw [hk1, S_cut]
      have l2 : ((cs.take (k + 1)).drop k).length ≤ 1 := by
        rw [List.length_drop, List.length_take]
        omega
      refine ⟨_, _, rfl, rfl, by rw [S_len, S_len]; exact sS _ (by omega), ?_⟩
      rw [S_add]
      refine ⟨_, rfl, _, rfl, _, rfl, S cs, rfl, hz', ?_⟩
      rw [S_from]
      have l3 : (cs.drop k).length = cs.length - k := List.length_drop
      refine ⟨_, _, rfl, rfl, by rw [S_len, S_len, List.length_append]; exact sS _ (by omega), ?_⟩
      rw [S_add]
      exact fin _ _ G3 (by rw [List.length_append, List.length_append]; omega) (ch_app (ch_app cT fun c hc => tx.2 c (List.mem_of_mem_take (List.mem_of_mem_drop hc))) (cD k))
    rw [decide_eq_false w_1]
    refine iteF ⟨_, rfl, rfl, _, rfl, ?_⟩
    rw [eqi]
    have l3 : (cs.drop k).length = cs.length - k := List.length_drop
    have l4 : (cs.drop (k + 1)).length = cs.length - (k + 1) := List.length_drop
    by_cases w_2 : wy = 2
    · rw [decide_eq_true w_2]
      refine iteT ?_
      refine ⟨_, rfl, _, rfl, _, rfl, S cs, rfl, hz', ?_⟩
      rw [S_to]
      refine ⟨_, rfl, _, rfl, _, _, rfl, rfl, _, rfl, S cs, rfl, hz', ?_⟩
      rw [hk1, S_from]
      refine ⟨_, _, rfl, rfl, by rw [S_len, S_len]; exact sS _ (by omega), ?_⟩
      rw [S_add]
      exact fin _ _ G3 (by rw [List.length_append]; omega) (ch_app cT (cD (k + 1)))
    rw [decide_eq_false w_2]
    refine iteF ⟨_, rfl, rfl, _, rfl, ?_⟩
    rw [eqi]
    have hS1 : (⟨#[c]⟩ : Str) = S [c] := rfl
    have cC : ∀ x ∈ [c], x < 0x110000 := fun x hx => by
      rw [List.mem_singleton.mp hx]
      exact hcc
    have l1 : [c].length = 1 := rfl
    by_cases w_3 : wy = 3
    · rw [decide_eq_true w_3]
      refine iteT ?_
      refine ⟨_, rfl, _, rfl, _, rfl, S cs, rfl, hz', ?_⟩
      rw [S_to]
      refine ⟨_, rfl, _, _, rfl, rfl, by rw [hS1, S_len, S_len]; exact sS _ (by omega), ?_⟩
      rw [hS1, S_add]
      refine ⟨_, rfl, _, rfl, _, _, rfl, rfl, _, rfl, S cs, rfl, hz', ?_⟩
      rw [hk1, S_from]
      refine ⟨_, _, rfl, rfl, by rw [S_len, S_len, List.length_append]; exact sS _ (by omega), ?_⟩
      rw [S_add]
      exact fin _ _ G3 (by rw [List.length_append, List.length_append]; omega) (ch_app (ch_app cT cC) (cD (k + 1)))
    rw [decide_eq_false w_3]
    refine iteF ⟨_, rfl, rfl, _, rfl, ?_⟩
    rw [eqi]
    by_cases w_4 : wy = 4
    · rw [decide_eq_true w_4]
      refine iteT ?_
      refine ⟨_, rfl, _, rfl, _, rfl, S cs, rfl, hz', ?_⟩
      rw [S_to]
      refine ⟨_, rfl, a, 4, rfl, G3.2, by decide, by decide +kernel, fun d4 H4 d40 d41 g4 => ?_⟩
      obtain ⟨x, hx, hx1⟩ : ∃ x, (Str.ofString "0/-1").cps.toList[d4.toNat]? = some x ∧ x < 0x110000 := by
        have e : (Str.ofString "0/-1").cps.toList = [48, 47, 45, 49] := by decide +kernel
        rw [e]
        have hd : d4.toNat < 4 := by omega
        refine ⟨_, List.getElem?_eq_getElem (l := [48, 47, 45, 49]) hd, ?_⟩
        have k4 : ∀ y ∈ [48, 47, 45, 49], y < 0x110000 := by decide
        exact k4 _ (List.getElem_mem hd)
      refine ⟨_, d4, x, rfl, rfl, by decide +kernel, at_ofN (j := d4.toNat) (by omega) hx, ?_⟩
      have hS2 : (⟨#[x]⟩ : Str) = S [x] := rfl
      have l5 : [x].length = 1 := rfl
      refine ⟨_, _, rfl, rfl, by rw [hS2, S_len, S_len]; exact sS _ (by omega), ?_⟩
      rw [hS2, S_add]
      refine ⟨_, rfl, _, rfl, _, rfl, S cs, rfl, hz', ?_⟩
      rw [S_from]
      refine ⟨_, _, rfl, rfl, by rw [S_len, S_len, List.length_append]; exact sS _ (by omega), ?_⟩
      rw [S_add]
      exact fin _ _ (G3.trans g4) (by rw [List.length_append, List.length_append]; omega) (ch_app (ch_app cT fun y hy => by rw [List.mem_singleton.mp hy]; exact hx1) (cD k))
    rw [decide_eq_false w_4]
    refine iteF ?_
    refine ⟨_, rfl, _, rfl, _, rfl, S cs, rfl, hz', ?_⟩
    rw [S_to]
    refine ⟨_, rfl, _, _, rfl, rfl, by rw [hS1, S_len, S_len]; exact sS _ (by omega), ?_⟩
    rw [hS1, S_add]
    refine ⟨_, rfl, _, rfl, _, rfl, S cs, rfl, hz', ?_⟩
    rw [S_from]
    refine ⟨_, _, rfl, rfl, by rw [S_len, S_len, List.length_append]; exact sS _ (by omega), ?_⟩
    rw [S_add]
    exact fin _ _ G3 (by rw [List.length_append, List.length_append]; omega) (ch_app (ch_app cT cC) (cD k))
end

/-! ### _law_heard -/
theorem call_isiK {X : Cx} (K : PySem.W.Frag) (hK : X.K = K := by rfl) : CallR X (.builtin "isinstance") (rIsi K) := by
  subst hK
  exact call_isi
section
variable {P : Program} {w : World} {K : PySem.W.Frag} {mg : Str → Option Value} {base : Heap}
theorem s10 : 10 ≤ sizeLine := by decide
def spHe : Sp := fun vs H Q _ => ∃ cs : List Nat, vs = [.str (S cs)] ∧ TxA cs ∧ (rdF cs = none → ∀ (u : Addr) (H' : Hp), Same H H' → H' u = some (.tup [.str (Str.ofString "refused"), .int 0, .bl true, .bl false]) → Q (.ref u) H') ∧ ∀ f, rdF cs = some f → ∀ (u p : Addr) (H' : Hp), Same H H' → H' p = some (.tup [.int f.1, .int f.2]) → H' u = some (.tup [.str (Str.ofString "told"), .ref p]) → Q (.ref u) H'
theorem ok_heard (T : Tx P K mg) : FnOk P w K mg base CX0 4 T.f_heard T.fd_heard ["_law_text"] spHe := by
  refine T.F_heard.ok sc_heard (fun vs H Q E h => ?_) (fun cdv A outer s H vs Q E hr h => ?_)
  · obtain ⟨cs, rfl, _⟩ := h
    rfl
  · obtain ⟨cs, rfl, tx, qn, q⟩ := h
    refine ⟨_, (pss_cons (ps_set (i := 1) sc_heard.nd rfl (.inl rfl) pe_non) (pss_cons (ps_try_as (i := 2) (Wout := fun _ _ _ _ => False) rfl rfl sc_heard.nd rfl rfl ⟨rfl, by decide, .inl T.excT.gC⟩ takes0 (fun W pn xe tk _ => (pss_one (ps_set (i := 1) sc_heard.nd rfl (.inl rfl) (pe_tup (pa_cons pe_str (pa_cons (pe_callS (ok_readfr T) (hr.mono (by decide) : Room 3 _) (by rfl) T.g_readfr T.F_readfr.kp T.b_readfr (fun σ => passAt tk σ) (by exact (pa_cons (pv 0) pa_nil))) pa_nil)))))) (fun a oe cls d pn hz hf => (pss_cons (ps_set (i := 3) sc_heard.nd rfl (.inl rfl) (pe_callB (BI.call_FT T.exIT hz hf) (by rfl) T.m_isinstance (by decide +kernel) (pa_cons (pv 2) (pa_cons (pe_tup (pa_cons (pe_glob (v := .ref T.C_NoFit) (by rfl) T.g_NoFit rfl) (pa_cons (pe_glob (v := .ref T.C_NoPrinter) (by rfl) T.g_NoPrinter rfl) (pa_cons (pe_glob (v := .ref T.C_NoReader) (by rfl) T.g_NoReader rfl) (pa_cons (pe_glob (v := .ref T.C_NoRow) (by rfl) T.g_NoRow rfl) (pa_cons (pe_glob (v := .ref T.C_NoTree) (by rfl) T.g_NoTree rfl) (pa_cons (pe_glob (v := .ref T.C_NoTurner) (by rfl) T.g_NoTurner rfl) (pa_cons (pe_glob (v := .ref T.C_NoWood) (by rfl) T.g_NoWood rfl) (pa_cons (pe_glob (v := .ref T.C_NoWord) (by rfl) T.g_NoWord rfl) (pa_cons (pe_glob (v := .ref T.C_TooLong) (by rfl) T.g_TooLong rfl) (pa_cons (pe_glob (v := .ref T.C_TooWide) (by rfl) T.g_TooWide rfl) pa_nil))))))))))) pa_nil)))) (pss_cons (ps_set (i := 3) sc_heard.nd rfl (.inl rfl) (pe_or (pv 3) (pe_or (pe_callB (BI.call_FT T.exIT hz hf) (by rfl) T.m_isinstance (by decide +kernel) (pa_cons (pv 2) (pa_cons (pe_tup (pa_cons (pe_glob (v := .ref T.C_NoBox) (by rfl) T.g_NoBox rfl) (pa_cons (pe_glob (v := .ref T.C_NotKept) (by rfl) T.g_NotKept rfl) (pa_cons (pe_glob (v := .ref T.C_Nought) (by rfl) T.g_Nought rfl) pa_nil)))) pa_nil))) (pe_one (pe_callB (call_isiK K) (by rfl) T.m_isinstance (by decide +kernel) (pa_cons (pe_xf T.xfcT T.noRow hz hf (pv 2)) (pa_cons (pe_bltn (v := .ty "bool") (by rfl) T.m_bool (by decide +kernel) rfl) pa_nil))))))) (pss_one (ps_set (i := 1) sc_heard.nd rfl (.inl rfl) (pe_tup (pa_cons pe_str (pa_cons (pe_xf T.xfcT T.noRow hz hf (pv 2)) (pa_cons (pe_and (pe_callB (BI.call_F T.exIT hz hf) (by rfl) T.m_isinstance (by decide +kernel) (pa_cons (pv 2) (pa_cons (pe_glob (v := .ref T.CB) (by rfl) T.g_BoughError rfl) pa_nil))) (pe_one (pe_callB (BI.call_F T.exIT hz hf) (by rfl) T.m_isinstance (by decide +kernel) (pa_cons (pv 2) (pa_cons (pe_bltn (v := .ty "ValueError") (by rfl) T.m_ValueError (by decide +kernel) rfl) pa_nil))))) (pa_cons (pv 3) pa_nil))))))))))) (pss_one (ps_ret (pv 1))))), ?_⟩
    refine ⟨_, rfl, cs, rfl, tx, fun hn d H1 z1 ed => ?_, fun f hf p H1 z1 ep => ?_⟩
    · refine ⟨true, T.exmS, fun _ x _ => ?_, fun z => Bool.noConfusion z⟩
      refine ⟨_, rfl, s10, fun tc ntc => ?_⟩
      have zc := same_new (o := .tup [.ref T.C_NoFit, .ref T.C_NoPrinter, .ref T.C_NoReader, .ref T.C_NoRow, .ref T.C_NoTree, .ref T.C_NoTurner, .ref T.C_NoWood, .ref T.C_NoWord, .ref T.C_TooLong, .ref T.C_TooWide]) ntc
      have ed2 := zc _ _ ed
      refine ⟨tc, _, _, false, d, _, rfl, rfl, ed2, rfl, upd_same, .cons (fun u h => h) (.cons (fun u h => h) (.cons (fun u h => h) (.cons (fun u h => h) (.cons (fun u h => h) (.cons (fun u h => h) (.cons (fun u h => h) (.cons (fun u h => h) (.cons (fun u h => h) (.cons (fun u h => h) .nil))))))))), ?_, ?_⟩
      · exact kitAny_cons T.kT_NoFit (fun _ => kitAny_cons T.kT_NoPrinter (fun _ => kitAny_cons T.kT_NoReader (fun _ => kitAny_cons T.kT_NoRow (fun _ => kitAny_cons T.kT_NoTree (fun _ => kitAny_cons T.kT_NoTurner (fun _ => kitAny_cons T.kT_NoWood (fun _ => kitAny_cons T.kT_NoWord (fun _ => kitAny_cons T.kT_TooLong (fun _ => kitAny_cons T.kT_TooWide (fun _ => kitAny_nil) nofun) nofun) nofun) nofun) nofun) nofun) nofun) nofun) nofun) nofun
      refine ⟨_, rfl, false, rfl, iteF ?_⟩
      refine ⟨_, rfl, B02.s3, fun te nte => ?_⟩
      have ze := same_new (o := .tup [.ref T.C_NoBox, .ref T.C_NotKept, .ref T.C_Nought]) nte
      have ed3 := ze _ _ ed2
      refine ⟨te, _, _, false, d, _, rfl, rfl, ed3, rfl, upd_same, .cons (fun u h => h) (.cons (fun u h => h) (.cons (fun u h => h) .nil)), ?_, ?_⟩
      · exact kitAny_cons T.kT_NoBox (fun _ => kitAny_cons T.kT_NotKept (fun _ => kitAny_cons T.kT_Nought (fun _ => kitAny_nil) nofun) nofun) nofun
      refine ⟨false, rfl, iteF ?_⟩
      refine ⟨_, rfl, rfl, rfl, d, _, .int 0, rfl, ed3, rfl, ?_⟩
      refine ⟨_, _, .type "int", _, false, rfl, .ty "bool", .base (.int 0), kit_ty (by decide +kernel), ?_⟩
      refine ⟨_, rfl, rfl, rfl, d, _, .int 0, rfl, ed3, rfl, ?_⟩
      refine ⟨_, rfl, _, _, true, d, _, rfl, rfl, ed3, rfl, (fun u h => h), T.kBT, true, rfl, iteT ?_⟩
      refine ⟨_, rfl, _, _, true, d, _, rfl, rfl, ed3, rfl, (fun u h => h), T.kVT, ?_⟩
      refine ⟨_, rfl, s4, fun u nu => ?_⟩
      exact ⟨_, rfl, qn hn u _ (((z1.trans zc).trans ze).trans (same_new nu)) upd_same⟩
    · refine ⟨B02.s2, fun u nu => ?_⟩
      have zu := same_new (o := .tup [.str (Str.ofString "told"), .ref p]) nu
      exact ⟨_, rfl, q f hf u p _ (z1.trans zu) (zu _ _ ep) upd_same⟩
end

/-! ### _law_right -/
theorem padL_len : ∀ (k r : Nat), (padL k r).length = k
  | 0, _ => rfl
  | k + 1, r => by
    show (padL k (r / 10) ++ [48 + r % 10]).length = k + 1
    rw [List.length_append, padL_len k]
    rfl
theorem num_lt {n k : Nat} (h : (TL.numL n).length ≤ k) : n < 10 ^ k := by
  refine Nat.lt_of_not_le fun hle => ?_
  have hp : 0 < 10 ^ k := Nat.pow_pos (by decide)
  have hq : 0 < n / 10 ^ k := Nat.div_pos hle hp
  have := num_pad k hq (Nat.mod_lt n hp)
  rw [Nat.div_add_mod'] at this
  rw [this, List.length_append, padL_len] at h
  have hne := TL.numL_ne (n / 10 ^ k)
  have : (TL.numL (n / 10 ^ k)).length ≠ 0 := fun z => hne (List.length_eq_zero_iff.mp z)
  omega
theorem fig_lt {cs : List Nat} {n : Nat} (h : fig cs = some n) : n < 10 ^ 4200 := by
  obtain ⟨h1, _, _, _, h5⟩ := fig_some h
  exact Nat.lt_of_lt_of_le (num_lt (k := 30) (by rw [h5]; exact h1)) (Nat.pow_le_pow_right (by decide) (by decide))
theorem rdS_lt {cs : List Nat} {u : Int} (h : rdS cs = some u) : u.natAbs < 10 ^ 4200 := by
  unfold rdS at h
  split at h
  · cases e : fig cs.tail with
    | none =>
      rw [e] at h
      cases h
    | some n =>
      have := fig_lt e
      rw [e] at h
      cases n with
      | zero => cases h
      | succ n =>
        cases Option.some.inj h
        omega
  · cases e : fig cs with
    | none =>
      rw [e] at h
      cases h
    | some n =>
      have := fig_lt e
      rw [e] at h
      cases Option.some.inj h
      omega
theorem rdF_lt {cs : List Nat} {f : Frc} (h : rdF cs = some f) : f.1.natAbs < 10 ^ 4200 ∧ 1 ≤ f.2 ∧ f.2.natAbs < 10 ^ 4200 := by
  unfold rdF at h
  cases e : rdS (pU cs) with
  | none =>
    rw [e] at h
    cases h
  | some u =>
    have hu := rdS_lt e
    rw [e] at h
    dsimp only at h
    split at h
    · cases Option.some.inj h
      exact ⟨hu, Int.le_refl 1, Nat.lt_of_lt_of_le (show 1 < 10 ^ 1 by decide) (Nat.pow_le_pow_right (by decide) (by decide))⟩
    · cases e2 : fig (pL cs) with
      | none =>
        rw [e2] at h
        cases h
      | some l =>
        have hl := fig_lt e2
        rw [e2] at h
        dsimp only at h
        split at h
        · cases h
        · rename_i hc
          cases Option.some.inj h
          refine ⟨hu, ?_, ?_⟩
          · dsimp only
            omega
          · dsimp only
            rw [Int.natAbs_natCast]
            exact hl
section
variable {P : Program} {w : World} {K : PySem.W.Frag} {mg : Str → Option Value} {base : Heap}
def spRi : Sp := fun vs H Q _ => ∃ cs : List Nat, vs = [.str (S cs)] ∧ TxA cs ∧ ∀ H', Same H H' → Q (.bl true) H'
theorem ok_right (T : Tx P K mg) : FnOk P w K mg base CX0 5 T.f_right T.fd_right ["_law_text"] spRi := by
  refine T.F_right.ok sc_right (fun vs H Q E h => ?_) (fun cdv A outer s H vs Q E hr h => ?_)
  · obtain ⟨cs, rfl, _⟩ := h
    rfl
  · obtain ⟨cs, rfl, tx, q⟩ := h
    refine ⟨_, (pss_cons (ps_set (i := 1) sc_right.nd rfl (.inl rfl) (pe_call (ok_lin T) (hr.mono (by decide) : Room 2 _) (by rfl) T.g_lin T.F_lin.kp T.b_lin .nil pass0 (pa_cons (pv 0) pa_nil))) (pss_cons (ps_if (pt_cmpR op_isN (pv 1) pe_non (nomark _)) (pss_one (ps_ret (pe_call (ok_alike T) (hr.mono (by decide) : Room 1 _) (by rfl) T.g_alike T.F_alike.kp T.b_alike .nil pass0 (pa_cons (pe_call (ok_heard T) (hr.mono (by decide) : Room 4 _) (by rfl) T.g_heard T.F_heard.kp T.b_heard .nil pass0 (pa_cons (pv 0) pa_nil)) (pa_cons (pe_tup (pa_cons pe_str (pa_cons pe_int (pa_cons pe_bl (pa_cons pe_bl pa_nil))))) pa_nil))))) pss_nil) (pss_one (ps_ret (pe_and (pe_call (ok_alike T) (hr.mono (by decide) : Room 1 _) (by rfl) T.g_alike T.F_alike.kp T.b_alike .nil pass0 (pa_cons (pe_call (ok_heard T) (hr.mono (by decide) : Room 4 _) (by rfl) T.g_heard T.F_heard.kp T.b_heard .nil pass0 (pa_cons (pv 0) pa_nil)) (pa_cons (pe_tup (pa_cons pe_str (pa_cons (pv 1) pa_nil))) pa_nil))) (pe_one (pe_cmpR op_eq (pe_call (ok_showfr T) (hr.mono (by decide) : Room 2 _) (by rfl) T.g_showfr T.F_showfr.kp T.b_showfr .nil pass0 (pa_cons (pv 1) pa_nil)) (pv 0) (nomark _)))))))), ?_⟩
    refine ⟨_, rfl, cs, rfl, tx, fun hn H1 z1 => ?_, fun f hf p H1 z1 ep => ?_⟩
    · refine ⟨_, rfl, rfl, true, (by show V.bl (decide (V.non = V.non)) = _; simp), iteT ?_⟩
      refine ⟨_, rfl, cs, rfl, tx, fun _ u H2 z2 eu => ?_, fun f hf => ?_⟩
      · refine ⟨s4, fun v nv => ?_⟩
        have zv := same_new (o := .tup [.str (Str.ofString "refused"), .int 0, .bl true, .bl false]) nv
        refine ⟨.ref u, .ref v, _, rfl, .tup (zv _ _ eu) upd_same (.cons (.flat rfl) (.cons (.flat rfl) (.cons (.flat rfl) (.cons (.flat rfl) .nil)))), by decide, fun H3 z3 => ?_⟩
        exact q _ (((z1.trans z2).trans zv).trans z3)
      · rw [hn] at hf
        cases hf
    · refine ⟨_, rfl, rfl, false, (by show V.bl (decide (V.ref p = V.non)) = _; simp), iteF ?_⟩
      refine ⟨_, rfl, cs, rfl, tx, fun hn => ?_, fun f' hf' u p' H2 z2 ep' eu => ?_⟩
      · rw [hn] at hf
        cases hf
      rw [hf] at hf'
      cases Option.some.inj hf'
      refine ⟨_, rfl, s2, fun v nv => ?_⟩
      have zv := same_new (o := .tup [.str (Str.ofString "told"), .ref p]) nv
      refine ⟨.ref u, .ref v, _, rfl, .tup (zv _ _ eu) upd_same (.cons (.flat rfl) (.cons (.tup (zv _ _ ep') (zv _ _ (z2 _ _ ep)) (.cons (.flat rfl) (.cons (.flat rfl) .nil))) .nil)), by decide, fun H3 z3 => ?_⟩
      have zz := (z2.trans zv).trans z3
      obtain ⟨b1, b2, b3⟩ := rdF_lt hf
      refine ⟨true, rfl, iteT ⟨_, rfl, p, f, rfl, zz _ _ ep, b1, b2, b3, fun H4 z4 => ?_⟩⟩
      refine ⟨_, rfl, rfl, ?_⟩
      rw [rdF_back hf, show decide (V.str (S cs) = V.str (S cs)) = true from decide_eq_true rfl]
      exact q _ ((z1.trans zz).trans z4)
end

/-! ### a number below nought as a text -/
theorem of_app (a b : String) : Str.ofString (a ++ b) = Str.ofString a ++ Str.ofString b := by
  have e : (Str.ofString (a ++ b)).cps.toList = (Str.ofString a).cps.toList ++ (Str.ofString b).cps.toList := by
    rw [Str.ofString_eq_toList, Str.ofString_eq_toList, Str.ofString_eq_toList]
    simp
  rw [S_inj'.mpr e, ← S_add, S_eta, S_eta]
theorem strI (n : Int) : Str.ofString (toString n) = S (sgL n) := by
  cases n with
  | ofNat m =>
    have := num_S' m
    unfold sgL
    rw [if_neg (by show ¬ (m : Int) < 0; omega)]
    exact this
  | negSucc m =>
    have e : toString (Int.negSucc m) = "-" ++ toString ((m + 1 : Nat) : Int) := rfl
    rw [e, of_app, num_S', show (Str.ofString "-" : Str) = S [45] by decide +kernel, S_add]
    unfold sgL
    rw [if_pos (Int.negSucc_lt_zero m)]
    rfl

/-! ### the law -/
def spLaw (K : PySem.W.Frag) : Sp := fun vs H Q _ => ∃ (a : Addr) (ns : List Int), vs = [.ref a] ∧ SqL K H a (ns.map V.int) ∧ ns.length ≤ 63 ∧ ∀ H', Q (.bl true) H'
theorem small_log {n : Int} {k : Nat} (h : n.natAbs < 10 ^ 30) : n.natAbs.log2 < 1920 := by
  by_cases h0 : n.natAbs = 0
  · rw [h0]
    decide
  · exact (Nat.log2_lt h0).mpr (Nat.lt_trans h (by decide +kernel))
theorem numL_ch {n : Nat} : ∀ c ∈ TL.numL n, c < 0x110000 := fun c hc => by
  have := TL.numL_digits n c hc
  omega
theorem frL_ch {f : Frc} : ∀ c ∈ frL f, c < 0x110000 := by
  unfold frL sgL
  refine ch_app (ch_app ?_ numL_ch) ?_
  · split
    · decide
    · exact fun c h => nomatch h
  · split
    · exact fun c h => nomatch h
    · exact fun c hc => by
        rcases List.mem_cons.mp hc with rfl | h
        · decide
        · exact numL_ch c h
theorem TxB.tx {b : Nat} {cs : List Nat} (h : TxB b cs) (hb : b ≤ 6000) : TxA cs := ⟨Nat.le_trans h.1 hb, h.2⟩
theorem TxB.le {b c : Nat} {cs : List Nat} (h : TxB b cs) (hb : b ≤ c) : TxB c cs := ⟨Nat.le_trans h.1 hb, h.2⟩
section
variable {P : Program} {w : World} {K : PySem.W.Frag} {mg : Str → Option Value} {base : Heap}
theorem ok_law (T : Tx P K mg) {f : Addr} {fd : FuncData} (F : Fun K "law" "law" st_law f fd) : FnOk P w K mg base CX0 6 f fd ["_law_script"] (spLaw K) := by
  refine F.ok sc_law (fun vs H Q E h => ?_) (fun cdv A outer s H vs Q E hr h => ?_)
  · obtain ⟨a, ns, rfl, _⟩ := h
    rfl
  · obtain ⟨a, ns, rfl, hS, hlen63, q⟩ := h
    refine ⟨_, (pss_cons (ps_for PassesOwn.never rfl (pi_range1 (by rfl) T.m_range (pa_cons (pe_callB (call_max2 rfl) (by rfl) T.m_max (by decide +kernel) (pa_cons pe_int (pa_cons (pe_callB (call_min2 rfl) (by rfl) T.m_min (by decide +kernel) (pa_cons pe_int (pa_cons (pe_callB call_len_seq (by rfl) T.m_len PySem.boot_len (pa_cons (pv 0) pa_nil)) pa_nil))) pa_nil))) pa_nil)) (pg_name (i := 1) sc_law.nd rfl (.inl rfl)) (pss_cons (ps_set (i := 2) sc_law.nd rfl (.inl rfl) (pe_call (ok_box T) (hr.mono (by decide) : Room 1 _) (by rfl) T.g_box T.F_box.kp T.b_box .nil pass0 (pa_cons (pv 0) (pa_cons (pv 1) pa_nil)))) (pss_cons (ps_set (i := 3) sc_law.nd rfl (.inl rfl) (pe_ix ix_list (pe_lst (pa_cons pe_int (pa_cons pe_int (pa_cons (pe_op op_pow pe_int pe_int) pa_nil)))) (pe_call (ok_take T) (hr.mono (by decide) : Room 1 _) (by rfl) T.g_take T.F_take.kp T.b_take .nil pass0 (pa_cons (pv 2) (pa_cons pe_int pa_nil))) (fun _ _ => rfl))) (pss_cons (ps_par (i := 4) (j := 5) (by rfl) sc_law.nd rfl rfl (by decide) rfl rfl (pa_cons (pe_call (ok_take T) (hr.mono (by decide) : Room 1 _) (by rfl) T.g_take T.F_take.kp T.b_take .nil pass0 (pa_cons (pv 2) (pa_cons (pv 3) pa_nil))) (pa_cons (pe_op op_add pe_int (pe_call (ok_take T) (hr.mono (by decide) : Room 1 _) (by rfl) T.g_take T.F_take.kp T.b_take .nil pass0 (pa_cons (pv 2) (pa_cons (pe_ix ix_list (pe_lst (pa_cons pe_int (pa_cons (pe_op op_sub (pv 3) pe_int) pa_nil))) (pe_call (ok_take T) (hr.mono (by decide) : Room 1 _) (by rfl) T.g_take T.F_take.kp T.b_take .nil pass0 (pa_cons (pv 2) (pa_cons pe_int pa_nil))) (fun _ _ => rfl)) pa_nil)))) pa_nil)) (by rfl)) (pss_cons (ps_set (i := 6) sc_law.nd rfl (.inl rfl) (pe_call (ok_lowest T) (hr.mono (by decide) : Room 2 _) (by rfl) T.g_lowest T.F_lowest.kp T.b_lowest .nil pass0 (pa_cons (pe_op op_mul (pv 4) (pe_op op_sub pe_int (pe_op op_mul pe_int (pe_call (ok_take T) (hr.mono (by decide) : Room 1 _) (by rfl) T.g_take T.F_take.kp T.b_take .nil pass0 (pa_cons (pv 2) (pa_cons pe_int pa_nil)))))) (pa_cons (pv 5) pa_nil)))) (pss_cons (ps_set (i := 7) sc_law.nd rfl (.inl rfl) (pe_op op_add_str (pe_callTy call_str_int (by rfl) T.m_str (by decide +kernel) (pa_cons (pe_ix ix_tup (pv 6) pe_int (fun _ _ => rfl)) pa_nil)) (pe_op BV.op_repS0 (pe_op op_add_str pe_str (pe_callTy call_str_int (by rfl) T.m_str (by decide +kernel) (pa_cons (pe_ix ix_tup (pv 6) pe_int (fun _ _ => rfl)) pa_nil))) (pe_callTy call_int1 (by rfl) T.m_int (by decide +kernel) (pa_cons (pe_cmpR op_gt (pe_ix ix_tup (pv 6) pe_int (fun _ _ => rfl)) pe_int (nomark _)) pa_nil))))) (pss_cons (ps_if (pt_cmpR op_ne (pe_call (ok_showfr T) (hr.mono (by decide) : Room 2 _) (by rfl) T.g_showfr T.F_showfr.kp T.b_showfr .nil pass0 (pa_cons (pv 6) pa_nil)) (pv 7) (nomark _)) (pss_one (ps_ret pe_bl)) pss_nil) (pss_one (ps_for PassesOwn.never rfl (pi_range1 (by rfl) T.m_range (pa_cons pe_int pa_nil)) (pg_name (i := 8) sc_law.nd rfl (.inl rfl)) (pss_cons (ps_set (i := 9) sc_law.nd rfl (.inl rfl) (pv 7)) (pss_cons (ps_for PassesOwn.never rfl (pi_range1 (by rfl) T.m_range (pa_cons (pe_op op_add pe_int (pe_call (ok_take T) (hr.mono (by decide) : Room 1 _) (by rfl) T.g_take T.F_take.kp T.b_take .nil pass0 (pa_cons (pv 2) (pa_cons pe_int pa_nil)))) pa_nil)) (pg_name (i := 10) sc_law.nd rfl (.inl rfl)) (pss_one (ps_set (i := 9) sc_law.nd rfl (.inl rfl) (pe_call (ok_spoilt T) (hr.mono (by decide) : Room 2 _) (by rfl) T.g_spoilt T.F_spoilt.kp T.b_spoilt .nil pass0 (pa_cons (pv 2) (pa_cons (pv 9) pa_nil)))))) (pss_one (ps_if (PW.pt (pw_or (pt_not (pt_val (pe_call (ok_right T) (hr.mono (by decide) : Room 5 _) (by rfl) T.g_right T.F_right.kp T.b_right .nil pass0 (pa_cons (pv 7) pa_nil)))) (pw_or1 (pt_not (pt_val (pe_call (ok_right T) (hr.mono (by decide) : Room 5 _) (by rfl) T.g_right T.F_right.kp T.b_right .nil pass0 (pa_cons (pv 9) pa_nil))))))) (pss_one (ps_ret pe_bl)) pss_nil))))))))))))) (pss_cons (ps_set (i := 11) sc_law.nd rfl (.inl rfl) (pe_op op_add_str (pe_op op_add_str pe_str (pe_op BO.op_repL pe_str (pe_op op_add pe_int (pe_call (ok_take T) (hr.mono (by decide) : Room 1 _) (by rfl) T.g_take T.F_take.kp T.b_take .nil pass0 (pa_cons (pe_call (ok_box T) (hr.mono (by decide) : Room 1 _) (by rfl) T.g_box T.F_box.kp T.b_box .nil pass0 (pa_cons (pv 0) (pa_cons pe_int pa_nil))) (pa_cons pe_int pa_nil)))))) pe_str)) (pss_cons (ps_if (PW.pt (pw_or (pt_cmpR op_ne (pe_call (ok_showfr T) (hr.mono (by decide) : Room 2 _) (by rfl) T.g_showfr T.F_showfr.kp T.b_showfr .nil pass0 (pa_cons (pe_tup (pa_cons (pe_callTy (BN.call_int_wide T.dig) (by rfl) T.m_int (by decide +kernel) (pa_cons (pv 11) pa_nil)) (pa_cons pe_int pa_nil))) pa_nil)) (pe_op op_add_str (pv 11) pe_str) (nomark _)) (pw_or1 (pt_cmpR op_ne (pe_call (ok_showfr T) (hr.mono (by decide) : Room 2 _) (by rfl) T.g_showfr T.F_showfr.kp T.b_showfr .nil pass0 (pa_cons (pe_tup (pa_cons (pe_op op_sub pe_int (pe_callTy (BN.call_int_wide T.dig) (by rfl) T.m_int (by decide +kernel) (pa_cons (pv 11) pa_nil))) (pa_cons pe_int pa_nil))) pa_nil)) (pe_op op_add_str pe_str (pv 11)) (nomark _))))) (pss_one (ps_ret pe_bl)) pss_nil) (pss_one (ps_ret (pe_and (pe_call (ok_right T) (hr.mono (by decide) : Room 5 _) (by rfl) T.g_right T.F_right.kp T.b_right .nil pass0 (pa_cons pe_str pa_nil)) (pe_one (pe_call (ok_right T) (hr.mono (by decide) : Room 5 _) (by rfl) T.g_right T.F_right.kp T.b_right .nil pass0 (pa_cons pe_str pa_nil))))))))), ?_⟩
    refine ⟨.ref a, rfl, a, _, rfl, .inl hS, _, _, rfl, _, _, rfl, ?_⟩
    rw [List.length_map]
    obtain ⟨n, hn, hn3, hn8⟩ : ∃ n : Nat, (if (if (ns.length : Int) < 5 then (ns.length : Int) else 5) > 2 then (if (ns.length : Int) < 5 then (ns.length : Int) else 5) else 2) = (n : Int) ∧ 2 ≤ n ∧ n ≤ 5 := by
      refine ⟨max 2 (min 5 ns.length), ?_, by omega, by omega⟩
      split <;> split at * <;> omega
    rw [hn]
    refine ⟨_, rfl, by omega, by omega, for_range (lo := 0) (n := (n : Int).toNat) (fun i σ H' => ∃ (y1 y2 y3 y4 y5 y6 y7 y8 y9 y10 : Option V), σ = [some (.ref a), y1, y2, y3, y4, y5, y6, y7, y8, y9, y10, none] ∧ Same H H')
      ⟨none, none, none, none, none, none, none, none, none, none, rfl, fun _ _ e => e⟩ (fun i σ H' hi hP => ?_) (fun σ H' hP => ?_)⟩
    · obtain ⟨y1, y2, y3, y4, y5, y6, y7, y8, y9, y10, rfl, sm⟩ := hP
      refine ⟨.ref a, rfl, _, rfl, a, ns, _, rfl, sm.seq hS, by omega, by omega, fun b H1 nb s1' db => ?_⟩
      have nbH : H b = none := Same.free sm nb
      have sH1 := sm.trans s1'
      -- how wide
      refine ⟨_, _, rfl, rfl, ⟨by decide, by decide, by decide⟩, s3, fun L nL => ?_⟩
      have zL := same_new (o := .lst [.int 10, .int 1000, .int (10 ^ (30 : Int).toNat)]) nL
      have nLb : L ≠ b := (db.ne nL).symm
      refine ⟨_, rfl, b, 3, rfl, db.mono zL, by decide, by decide +kernel, fun d3 H2 d30 d31 g2 => ?_⟩
      obtain ⟨wv, hwv, hw1, hw2⟩ : ∃ wv : Int, atI [V.int 10, .int 1000, .int (10 ^ (30 : Int).toNat)] d3 = some (.int wv) ∧ 10 ≤ wv ∧ wv ≤ 10 ^ 30 := by
        have h3 : d3 = 0 ∨ d3 = 1 ∨ d3 = 2 := by omega
        rcases h3 with rfl | rfl | rfl
        · exact ⟨10, rfl, by decide, by decide⟩
        · exact ⟨1000, rfl, by decide, by decide⟩
        · exact ⟨10 ^ 30, rfl, by decide, by decide⟩
      refine ⟨L, _, d3, .int wv, rfl, rfl, SqL.of (g2.1 _ _ nLb upd_same), hwv, ?_⟩
      have G2 : Gr b H1 H2 := (Gr.of zL db).trans g2
      have wbig : wv.natAbs < 2 ^ 8000 := Nat.lt_of_le_of_lt (show wv.natAbs ≤ 10 ^ 30 by omega) (by decide +kernel)
      refine ⟨_, rfl, _, rfl, b, wv, rfl, G2.2, by omega, wbig, fun up H3 u0 u1 g3 => ?_⟩
      refine ⟨_, rfl, _, rfl, _, _, rfl, rfl, s2, fun L2 nL2 => ?_⟩
      have zL2 := same_new (o := .lst [.int 1, .int (wv - 1)]) nL2
      have nL2b : L2 ≠ b := (g3.2.ne nL2).symm
      refine ⟨_, rfl, b, 2, rfl, g3.2.mono zL2, by decide, by decide +kernel, fun d2 H4 d20 d21 g4 => ?_⟩
      obtain ⟨mv, hmv, hm1, hm2⟩ : ∃ mv : Int, atI [V.int 1, .int (wv - 1)] d2 = some (.int mv) ∧ 1 ≤ mv ∧ mv ≤ 10 ^ 30 - 1 := by
        have h3 : d2 = 0 ∨ d2 = 1 := by omega
        rcases h3 with rfl | rfl
        · exact ⟨1, rfl, by decide, by decide⟩
        · exact ⟨wv - 1, rfl, by omega, by omega⟩
      refine ⟨L2, _, d2, .int mv, rfl, rfl, SqL.of (g4.1 _ _ nL2b upd_same), hmv, ?_⟩
      refine ⟨b, mv, rfl, g4.2, by omega, Nat.lt_of_le_of_lt (show mv.natAbs ≤ 10 ^ 30 by omega) (by decide +kernel), fun lo H5 l0 l1 g5 => ⟨_, _, rfl, rfl, _, _, rfl, ?_⟩⟩
      have G5 : Gr b H1 H5 := (((G2.trans g3).trans (Gr.of zL2 g3.2)).trans g4).trans g5
      refine ⟨_, rfl, _, rfl, b, 2, rfl, G5.2, by decide, by decide +kernel, fun t2 H6 t0 t1 g6 => ?_⟩
      refine ⟨_, _, rfl, rfl, .inl ⟨by decide, by decide⟩, _, _, rfl, rfl, _, _, rfl, rfl, .inr ⟨by omega, by omega⟩, _, rfl, ?_⟩
      obtain ⟨u, hu, hub⟩ : ∃ u : Int, up * (1 - 2 * t2) = u ∧ u.natAbs < 10 ^ 30 := by
        refine ⟨_, rfl, ?_⟩
        have h3 : t2 = 0 ∨ t2 = 1 := by omega
        rcases h3 with rfl | rfl
        · rw [show (1 - 2 * 0 : Int) = 1 by decide, Int.mul_one]
          omega
        · rw [show (1 - 2 * 1 : Int) = -1 by decide, Int.mul_neg_one]
          omega
      rw [show (fun (i j : Int) => V.int (i * j)) up (1 - 2 * t2) = V.int u from congrArg V.int hu]
      refine ⟨u, 1 + lo, rfl, by omega, Nat.lt_of_le_of_lt (show (1 + lo).natAbs ≤ 10 ^ 30 by omega) (by decide +kernel), fun p H7 np z7 ep => ?_⟩
      have G7 : Gr b H1 H7 := (G5.trans g6).trans (Gr.of z7 g6.2)
      have hl0 : 0 < 1 + lo := by omega
      obtain ⟨f1, f2, hf, fb1, fb2, fb3⟩ : ∃ f1 f2 : Int, lw u (1 + lo) = (f1, f2) ∧ f1.natAbs < 10 ^ 30 ∧ 1 ≤ f2 ∧ f2.natAbs < 10 ^ 30 := by
        have gp : 0 < Int.gcd u (1 + lo) := Int.gcd_pos_of_ne_zero_right u (by omega)
        have gle : (Int.gcd u (1 + lo) : Int) ≤ 1 + lo := Int.le_of_dvd hl0 (Int.gcd_dvd_right u _)
        refine ⟨_, _, rfl, Nat.lt_of_le_of_lt (Int.natAbs_ediv_le_natAbs _ _) hub, Int.le_ediv_of_mul_le (by omega) (by omega), Nat.lt_of_le_of_lt (Int.natAbs_ediv_le_natAbs _ _) (by omega)⟩
      rw [hf] at ep
      dsimp only at ep
      -- the text
      have l1' := numL_len (n := f1.natAbs) (k := 30) (by decide) fb1
      have l2' := numL_len (n := f2.natAbs) (k := 30) (by decide) fb3
      have ls1 : (sgL f1).length ≤ 31 := by
        unfold sgL
        rw [List.length_append]
        split
        · show 1 + _ ≤ _
          omega
        · show 0 + _ ≤ _
          omega
      have hs2 : sgL f2 = TL.numL f2.natAbs := by
        unfold sgL
        rw [if_neg (by omega)]
        rfl
      have es : (Str.ofString "/" : Str) = S [47] := by decide +kernel
      refine ⟨_, rfl, p, _, 0, .int f1, rfl, rfl, SqT.of ep, rfl, _, rfl, small_log (k := 0) fb1, ?_⟩
      refine ⟨_, rfl, p, _, 1, .int f2, rfl, rfl, SqT.of ep, rfl, _, rfl, small_log (k := 0) fb3, ?_⟩
      rw [strI, strI, hs2]
      refine ⟨_, _, rfl, rfl, by rw [es, S_len, S_len]; exact Nat.le_trans (show [47].length + (TL.numL f2.natAbs).length ≤ 100 by show 1 + _ ≤ _; omega) (by decide), ?_⟩
      rw [es, S_add]
      refine ⟨_, rfl, p, _, 1, .int f2, rfl, rfl, SqT.of ep, rfl, ?_⟩
      refine ⟨_, _, rfl, rfl, .inr ⟨_, rfl, _, rfl, ?_⟩⟩
      have hfr : frL (f1, f2) = sgL f1 ++ (if f2 = 1 then [] else 47 :: TL.numL f2.natAbs) := rfl
      have hfl : (frL (f1, f2)).length ≤ 100 := by
        rw [hfr, List.length_append]
        split
        · show _ + 0 ≤ _
          omega
        · show _ + ((TL.numL f2.natAbs).length + 1) ≤ _
          omega
      have big : (10 : Nat) ^ 30 ≤ 10 ^ 4200 := Nat.pow_le_pow_right (by decide) (by decide)
      by_cases h1 : f2 = 1
      case' pos =>
        rw [if_pos h1, List.append_nil] at hfr
        refine .inl ⟨by simp [h1], _, _, rfl, rfl, by rw [S_len]; exact Nat.le_trans (show (sgL f1).length + Str.empty.length ≤ 100 by show _ + 0 ≤ _; omega) (by decide), ?_⟩
        rw [show S (sgL f1) ++ Str.empty = S (frL (f1, f2)) by rw [hfr, show Str.empty = S [] from rfl, S_add, List.append_nil]]
      case' neg =>
        rw [if_neg h1] at hfr
        have hl47 : (S ([47] ++ TL.numL f2.natAbs)).length = (TL.numL f2.natAbs).length + 1 := by rw [S_len]; rfl
        refine .inr ⟨by rw [decide_eq_true (show (1 : Int) < f2 by omega)]; rfl, by rw [hl47]; omega, by rw [hl47]; omega, _, _, rfl, rfl, by rw [hl47, S_len]; exact Nat.le_trans (show (sgL f1).length + ((TL.numL f2.natAbs).length + 1) ≤ 100 by omega) (by decide), ?_⟩
        rw [S_add, show sgL f1 ++ ([47] ++ TL.numL f2.natAbs) = frL (f1, f2) from hfr.symm]
      all_goals
        refine ⟨_, rfl, p, (f1, f2), rfl, ep, Nat.lt_of_lt_of_le fb1 big, fb2, Nat.lt_of_lt_of_le fb3 big, fun H8 z8 => ?_⟩
        refine ⟨_, rfl, rfl, _, rfl, ?_⟩
        rw [show decide (V.str (S (frL (f1, f2))) = V.str (S (frL (f1, f2)))) = true from decide_eq_true rfl]
        refine iteF ?_
        have G8 : Gr b H1 H8 := G7.trans (Gr.of z8 G7.2)
        have txg : TxB 100 (frL (f1, f2)) := ⟨hfl, frL_ch⟩
        generalize frL (f1, f2) = gd at txg
        refine ⟨_, rfl, by decide, by decide, for_range (lo := 0) (n := 6) (fun j σ Hx => ∃ (y8 y9 y10 : Option V), σ = [some (.ref a), some (.int (0 + (i : Int))), some (.ref b), some (.int wv), some (.int up), some (.int (1 + lo)), some (.ref p), some (.str (S gd)), y8, y9, y10, none] ∧ Gr b H1 Hx) ⟨_, _, _, rfl, G8⟩ (fun j σ Hx hj P => ?_) (fun σ Hx P => ?_)⟩
        · obtain ⟨z8', z9', z10', rfl, gx⟩ := P
          refine ⟨_, rfl, ?_⟩
          refine ⟨_, rfl, b, 2, rfl, gx.2, by decide, by decide +kernel, fun t3 Hy t30 t31 gy => ?_⟩
          refine ⟨_, _, rfl, rfl, _, rfl, by omega, by omega, for_range (lo := 0) (n := (1 + t3).toNat) (fun m σ Hz => ∃ (y10 : Option V) (cs' : List Nat), σ = [some (.ref a), some (.int (0 + (i : Int))), some (.ref b), some (.int wv), some (.int up), some (.int (1 + lo)), some (.ref p), some (.str (S gd)), some (.int (0 + (j : Int))), some (.str (S cs')), y10, none] ∧ Gr b H1 Hz ∧ TxB (5201 + m) cs') ⟨_, gd, rfl, gx.trans gy, txg.le (by omega)⟩ (fun m σ Hz hm P => ?_) (fun σ Hz P => ?_)⟩
          · obtain ⟨v10, cs', rfl, gz, tx'⟩ := P
            refine ⟨_, rfl, _, rfl, b, cs', 5201 + m, rfl, gz.2, tx', by omega, fun cs2 Hw gw tx2 => ?_⟩
            exact ⟨_, cs2, rfl, gz.trans gw, tx2.le (by omega)⟩
          · obtain ⟨v10, cs', rfl, gz, tx'⟩ := P
            refine ⟨_, rfl, gd, rfl, txg.tx (by decide), fun Ha za => ⟨true, rfl, iteF ?_⟩⟩
            refine ⟨_, rfl, cs', rfl, tx'.tx (by omega), fun Hc zc => ⟨true, rfl, iteF ?_⟩⟩
            exact ⟨_, _, _, rfl, gz.trans ((Gr.of za gz.2).trans (Gr.of zc (gz.2.mono za)))⟩
        · obtain ⟨z8', z9', z10', rfl, gx⟩ := P
          exact ⟨_, _, _, _, _, _, _, _, _, _, rfl, fun c o e => gx.1 _ _ (ne_of_none e nbH) (sH1 _ _ e)⟩
    · obtain ⟨y1, y2, y3, y4, y5, y6, y7, y8, y9, y10, rfl, sm⟩ := hP
      -- a great number
      refine ⟨_, rfl, a, ns, 0, rfl, sm.seq hS, by decide, by decide, fun b H1 nb s1' db => ?_⟩
      refine ⟨b, 3970, rfl, db, by decide, by decide +kernel, fun d H2 d0 d1 g2 => ?_⟩
      obtain ⟨m, rfl⟩ : ∃ m : Nat, d = (m : Int) := ⟨d.toNat, by omega⟩
      refine ⟨_, _, rfl, rfl, 48, 29 + m, rfl, rfl, by omega, by omega, ?_⟩
      have hr1 : (⟨(List.replicate (29 + m) 48).toArray⟩ : Str) = S (List.replicate (29 + m) 48) := rfl
      have e1 : (Str.ofString "1" : Str) = S [49] := by decide +kernel
      have e7 : (Str.ofString "7" : Str) = S [55] := by decide +kernel
      have lr : (List.replicate (29 + m) 48).length = 29 + m := List.length_replicate
      refine ⟨_, _, rfl, rfl, by rw [hr1, e1, S_len, S_len, lr]; exact Nat.le_trans (show 1 + (29 + m) ≤ 10000 by omega) (by decide), ?_⟩
      rw [hr1, e1, S_add]
      refine ⟨_, _, rfl, rfl, by rw [e7, S_len, S_len, List.length_append, lr]; exact Nat.le_trans (show 1 + (29 + m) + 1 ≤ 10000 by omega) (by decide), ?_⟩
      rw [e7, S_add]
      obtain ⟨gt, hgt⟩ : ∃ gt, [49] ++ List.replicate (29 + m) 48 ++ [55] = gt := ⟨_, rfl⟩
      have lg : gt.length = 31 + m := by
        rw [← hgt, List.length_append, List.length_append, lr]
        show 1 + (29 + m) + 1 = _
        omega
      have dg : gt.all dig = true := by
        have er : (List.replicate (29 + m) 48).all dig = true := List.all_eq_true.mpr fun c hc => by
          rw [(List.mem_replicate.mp hc).2]
          rfl
        rw [← hgt, List.all_append, List.all_append, er]
        rfl
      have hh : gt.head? = some 49 := by
        rw [← hgt]
        rfl
      rw [hgt]
      have gne : gt ≠ [] := fun z => by
        rw [z] at lg
        have : ([] : List Nat).length = 0 := rfl
        omega
      have hback : TL.numL (NumText.digitsVal gt) = gt := num_back gt.length rfl (dig_all dg) gne (fun z => by rw [hh] at z; cases z.2)
      have hint : PySem.intText? (S gt) = some ((NumText.digitsVal gt : Nat) : Int) := SX.int_S (a := gt) dg gne (by omega)
      obtain ⟨N, hN⟩ : ∃ N, NumText.digitsVal gt = N := ⟨_, rfl⟩
      rw [hN] at hback hint
      have hNlt : N < 10 ^ 4200 := num_lt (by rw [hback, lg]; omega)
      have hN0 : 0 < N := by
        rw [← hN]
        exact val_pos (dig_all dg) gne (by rw [hh]; decide)
      have hz' : (S gt).length ≤ sizeLine := by
        rw [S_len, lg]
        exact Nat.le_trans (show 31 + m ≤ 10000 by omega) (by decide)
      have sg1 : sgL ((N : Nat) : Int) = gt := by
        unfold sgL
        rw [if_neg (by omega), Int.natAbs_natCast, hback]
        rfl
      have sg2 : sgL (0 - ((N : Nat) : Int)) = 45 :: gt := by
        unfold sgL
        rw [if_pos (by omega), show (0 - ((N : Nat) : Int)).natAbs = N by omega, hback]
        rfl
      have n3 : TL.numL 3 = [51] := TL.numL_lt (by decide)
      have three : (3 : Nat) < 10 ^ 4200 := Nat.lt_of_lt_of_le (show 3 < 10 ^ 1 by decide) (Nat.pow_le_pow_right (by decide) (by decide))
      have one' : (1 : Nat) < 10 ^ 4200 := Nat.lt_of_lt_of_le (show 1 < 10 ^ 1 by decide) (Nat.pow_le_pow_right (by decide) (by decide))
      have e3 : (Str.ofString "/3" : Str) = S [47, 51] := by decide +kernel
      have em : (Str.ofString "-" : Str) = S [45] := by decide +kernel
      refine ⟨_, rfl, _, _, rfl, hint, hz', s2, fun p1 n1 => ?_⟩
      refine ⟨p1, ((N : Nat), 3), rfl, upd_same, by dsimp only; rw [Int.natAbs_natCast]; exact hNlt, show (1 : Int) ≤ 3 by decide, three, fun H3 z3 => ?_⟩
      refine ⟨_, rfl, _, _, rfl, rfl, by rw [e3, S_len, S_len, lg]; exact Nat.le_trans (show 31 + m + 2 ≤ 10000 by omega) (by decide), ?_⟩
      have f1 : frL (((N : Nat) : Int), 3) = gt ++ [47, 51] := by
        unfold frL
        dsimp only
        rw [if_neg (by decide), sg1]
        show gt ++ 47 :: TL.numL 3 = _
        rw [n3]
      rw [e3, S_add, f1]
      refine ⟨rfl, _, rfl, ?_⟩
      rw [show decide (V.str (S (gt ++ [47, 51])) = V.str (S (gt ++ [47, 51]))) = true from decide_eq_true rfl]
      refine iteF ?_
      refine ⟨_, rfl, _, _, rfl, hint, hz', _, _, rfl, rfl, s2, fun p2 n2 => ?_⟩
      refine ⟨p2, (0 - ((N : Nat) : Int), 1), rfl, upd_same, by dsimp only; rw [show (0 - ((N : Nat) : Int)).natAbs = N by omega]; exact hNlt, show (1 : Int) ≤ 1 by decide, one', fun H4 z4 => ?_⟩
      refine ⟨_, rfl, _, _, rfl, rfl, by rw [em, S_len, S_len, lg]; exact Nat.le_trans (show 1 + (31 + m) ≤ 10000 by omega) (by decide), ?_⟩
      have f2 : frL (0 - ((N : Nat) : Int), 1) = [45] ++ gt := by
        unfold frL
        dsimp only
        rw [if_pos rfl, sg2, List.append_nil]
        rfl
      rw [em, S_add, f2]
      refine ⟨rfl, _, rfl, ?_⟩
      rw [show decide (V.str (S ([45] ++ gt)) = V.str (S ([45] ++ gt))) = true from decide_eq_true rfl]
      refine iteF ?_
      -- nought, and no sign
      have e0 : (Str.ofString "0" : Str) = S [48] := by decide +kernel
      have ee : (Str.ofString "" : Str) = S [] := rfl
      refine ⟨[48], by rw [e0]; rfl, ⟨by decide, by decide⟩, fun H5 z5 => ⟨true, rfl, iteT ?_⟩⟩
      exact ⟨[], by rw [ee]; rfl, ⟨by decide, by decide⟩, fun H6 z6 => q _⟩
end

theorem all_mk {l : PySem.W.OpenLaw} {w : World} {K : PySem.W.Frag} {h : Heap} {mg : Str → Option Value} {fa : Addr} (X : K.In h) (G : h.Ns mainGlobals mg) (hfa : mg "law" = some (.ref fa))
    {f_cdiv : Addr} {od_cdiv an_cdiv : Option Addr} {sl_cdiv : Array (Option Value)} {oc_cdiv kV_cdiv dc_cdiv pm_cdiv cd_cdiv ct_cdiv : Value}
    (a_cdiv : PySem.W.nsIn K mainGlobals "common_divisor" = some (some (.ref f_cdiv))) (l_cdiv : K.lookup f_cdiv = some ⟨oc_cdiv, od_cdiv, .func (PySem.W.fnOf "common_divisor" "common_divisor" (defArgs st_cdiv) (defBody st_cdiv) (defScope st_cdiv) .none kV_cdiv dc_cdiv pm_cdiv an_cdiv cd_cdiv ct_cdiv), sl_cdiv⟩) (c_cdiv : PySem.W.codeIn K cd_cdiv "common_divisor" = true) (k_cdiv : PySem.W.keepIn K (.ref f_cdiv) = true)
    {f_showfr : Addr} {od_showfr an_showfr : Option Addr} {sl_showfr : Array (Option Value)} {oc_showfr kV_showfr dc_showfr pm_showfr cd_showfr ct_showfr : Value}
    (a_showfr : PySem.W.nsIn K mainGlobals "show_fraction" = some (some (.ref f_showfr))) (l_showfr : K.lookup f_showfr = some ⟨oc_showfr, od_showfr, .func (PySem.W.fnOf "show_fraction" "show_fraction" (defArgs st_showfr) (defBody st_showfr) (defScope st_showfr) .none kV_showfr dc_showfr pm_showfr an_showfr cd_showfr ct_showfr), sl_showfr⟩) (c_showfr : PySem.W.codeIn K cd_showfr "show_fraction" = true) (k_showfr : PySem.W.keepIn K (.ref f_showfr) = true)
    {f_showwh : Addr} {od_showwh an_showwh : Option Addr} {sl_showwh : Array (Option Value)} {oc_showwh kV_showwh dc_showwh pm_showwh cd_showwh ct_showwh : Value}
    (a_showwh : PySem.W.nsIn K mainGlobals "show_whole" = some (some (.ref f_showwh))) (l_showwh : K.lookup f_showwh = some ⟨oc_showwh, od_showwh, .func (PySem.W.fnOf "show_whole" "show_whole" (defArgs st_showwh) (defBody st_showwh) (defScope st_showwh) .none kV_showwh dc_showwh pm_showwh an_showwh cd_showwh ct_showwh), sl_showwh⟩) (c_showwh : PySem.W.codeIn K cd_showwh "show_whole" = true) (k_showwh : PySem.W.keepIn K (.ref f_showwh) = true)
    {f_readfr : Addr} {od_readfr an_readfr : Option Addr} {sl_readfr : Array (Option Value)} {oc_readfr kV_readfr dc_readfr pm_readfr cd_readfr ct_readfr : Value}
    (a_readfr : PySem.W.nsIn K mainGlobals "read_fraction" = some (some (.ref f_readfr))) (l_readfr : K.lookup f_readfr = some ⟨oc_readfr, od_readfr, .func (PySem.W.fnOf "read_fraction" "read_fraction" (defArgs st_readfr) (defBody st_readfr) (defScope st_readfr) .none kV_readfr dc_readfr pm_readfr an_readfr cd_readfr ct_readfr), sl_readfr⟩) (c_readfr : PySem.W.codeIn K cd_readfr "read_fraction" = true) (k_readfr : PySem.W.keepIn K (.ref f_readfr) = true)
    {f_readsg : Addr} {od_readsg an_readsg : Option Addr} {sl_readsg : Array (Option Value)} {oc_readsg kV_readsg dc_readsg pm_readsg cd_readsg ct_readsg : Value}
    (a_readsg : PySem.W.nsIn K mainGlobals "read_signed" = some (some (.ref f_readsg))) (l_readsg : K.lookup f_readsg = some ⟨oc_readsg, od_readsg, .func (PySem.W.fnOf "read_signed" "read_signed" (defArgs st_readsg) (defBody st_readsg) (defScope st_readsg) .none kV_readsg dc_readsg pm_readsg an_readsg cd_readsg ct_readsg), sl_readsg⟩) (c_readsg : PySem.W.codeIn K cd_readsg "read_signed" = true) (k_readsg : PySem.W.keepIn K (.ref f_readsg) = true)
    {f_readfg : Addr} {od_readfg an_readfg : Option Addr} {sl_readfg : Array (Option Value)} {oc_readfg kV_readfg dc_readfg pm_readfg cd_readfg ct_readfg : Value}
    (a_readfg : PySem.W.nsIn K mainGlobals "read_figures" = some (some (.ref f_readfg))) (l_readfg : K.lookup f_readfg = some ⟨oc_readfg, od_readfg, .func (PySem.W.fnOf "read_figures" "read_figures" (defArgs st_readfg) (defBody st_readfg) (defScope st_readfg) .none kV_readfg dc_readfg pm_readfg an_readfg cd_readfg ct_readfg), sl_readfg⟩) (c_readfg : PySem.W.codeIn K cd_readfg "read_figures" = true) (k_readfg : PySem.W.keepIn K (.ref f_readfg) = true)
    {f_box : Addr} {od_box an_box : Option Addr} {sl_box : Array (Option Value)} {oc_box kV_box dc_box pm_box cd_box ct_box : Value}
    (a_box : PySem.W.nsIn K mainGlobals "_law_box" = some (some (.ref f_box))) (l_box : K.lookup f_box = some ⟨oc_box, od_box, .func (PySem.W.fnOf "_law_box" "_law_box" (defArgs st_box) (defBody st_box) (defScope st_box) .none kV_box dc_box pm_box an_box cd_box ct_box), sl_box⟩) (c_box : PySem.W.codeIn K cd_box "_law_box" = true) (k_box : PySem.W.keepIn K (.ref f_box) = true)
    {f_take : Addr} {od_take an_take : Option Addr} {sl_take : Array (Option Value)} {oc_take kV_take dc_take pm_take cd_take ct_take : Value}
    (a_take : PySem.W.nsIn K mainGlobals "_law_take" = some (some (.ref f_take))) (l_take : K.lookup f_take = some ⟨oc_take, od_take, .func (PySem.W.fnOf "_law_take" "_law_take" (defArgs st_take) (defBody st_take) (defScope st_take) .none kV_take dc_take pm_take an_take cd_take ct_take), sl_take⟩) (c_take : PySem.W.codeIn K cd_take "_law_take" = true) (k_take : PySem.W.keepIn K (.ref f_take) = true)
    {f_alike : Addr} {od_alike an_alike : Option Addr} {sl_alike : Array (Option Value)} {oc_alike kV_alike dc_alike pm_alike cd_alike ct_alike : Value}
    (a_alike : PySem.W.nsIn K mainGlobals "_law_alike" = some (some (.ref f_alike))) (l_alike : K.lookup f_alike = some ⟨oc_alike, od_alike, .func (PySem.W.fnOf "_law_alike" "_law_alike" (defArgs st_alike) (defBody st_alike) (defScope st_alike) .none kV_alike dc_alike pm_alike an_alike cd_alike ct_alike), sl_alike⟩) (c_alike : PySem.W.codeIn K cd_alike "_law_alike" = true) (k_alike : PySem.W.keepIn K (.ref f_alike) = true)
    {f_shared : Addr} {od_shared an_shared : Option Addr} {sl_shared : Array (Option Value)} {oc_shared kV_shared dc_shared pm_shared cd_shared ct_shared : Value}
    (a_shared : PySem.W.nsIn K mainGlobals "_law_shared" = some (some (.ref f_shared))) (l_shared : K.lookup f_shared = some ⟨oc_shared, od_shared, .func (PySem.W.fnOf "_law_shared" "_law_shared" (defArgs st_shared) (defBody st_shared) (defScope st_shared) .none kV_shared dc_shared pm_shared an_shared cd_shared ct_shared), sl_shared⟩) (c_shared : PySem.W.codeIn K cd_shared "_law_shared" = true) (k_shared : PySem.W.keepIn K (.ref f_shared) = true)
    {f_lowest : Addr} {od_lowest an_lowest : Option Addr} {sl_lowest : Array (Option Value)} {oc_lowest kV_lowest dc_lowest pm_lowest cd_lowest ct_lowest : Value}
    (a_lowest : PySem.W.nsIn K mainGlobals "_law_lowest" = some (some (.ref f_lowest))) (l_lowest : K.lookup f_lowest = some ⟨oc_lowest, od_lowest, .func (PySem.W.fnOf "_law_lowest" "_law_lowest" (defArgs st_lowest) (defBody st_lowest) (defScope st_lowest) .none kV_lowest dc_lowest pm_lowest an_lowest cd_lowest ct_lowest), sl_lowest⟩) (c_lowest : PySem.W.codeIn K cd_lowest "_law_lowest" = true) (k_lowest : PySem.W.keepIn K (.ref f_lowest) = true)
    {f_signs : Addr} {od_signs an_signs : Option Addr} {sl_signs : Array (Option Value)} {oc_signs kV_signs dc_signs pm_signs cd_signs ct_signs : Value}
    (a_signs : PySem.W.nsIn K mainGlobals "_law_signs" = some (some (.ref f_signs))) (l_signs : K.lookup f_signs = some ⟨oc_signs, od_signs, .func (PySem.W.fnOf "_law_signs" "_law_signs" (defArgs st_signs) (defBody st_signs) (defScope st_signs) .none kV_signs dc_signs pm_signs an_signs cd_signs ct_signs), sl_signs⟩) (c_signs : PySem.W.codeIn K cd_signs "_law_signs" = true) (k_signs : PySem.W.keepIn K (.ref f_signs) = true)
    {f_figures : Addr} {od_figures an_figures : Option Addr} {sl_figures : Array (Option Value)} {oc_figures kV_figures dc_figures pm_figures cd_figures ct_figures : Value}
    (a_figures : PySem.W.nsIn K mainGlobals "_law_figures" = some (some (.ref f_figures))) (l_figures : K.lookup f_figures = some ⟨oc_figures, od_figures, .func (PySem.W.fnOf "_law_figures" "_law_figures" (defArgs st_figures) (defBody st_figures) (defScope st_figures) .none kV_figures dc_figures pm_figures an_figures cd_figures ct_figures), sl_figures⟩) (c_figures : PySem.W.codeIn K cd_figures "_law_figures" = true) (k_figures : PySem.W.keepIn K (.ref f_figures) = true)
    {f_lin : Addr} {od_lin an_lin : Option Addr} {sl_lin : Array (Option Value)} {oc_lin kV_lin dc_lin pm_lin cd_lin ct_lin : Value}
    (a_lin : PySem.W.nsIn K mainGlobals "_law_in" = some (some (.ref f_lin))) (l_lin : K.lookup f_lin = some ⟨oc_lin, od_lin, .func (PySem.W.fnOf "_law_in" "_law_in" (defArgs st_lin) (defBody st_lin) (defScope st_lin) .none kV_lin dc_lin pm_lin an_lin cd_lin ct_lin), sl_lin⟩) (c_lin : PySem.W.codeIn K cd_lin "_law_in" = true) (k_lin : PySem.W.keepIn K (.ref f_lin) = true)
    {f_spoilt : Addr} {od_spoilt an_spoilt : Option Addr} {sl_spoilt : Array (Option Value)} {oc_spoilt kV_spoilt dc_spoilt pm_spoilt cd_spoilt ct_spoilt : Value}
    (a_spoilt : PySem.W.nsIn K mainGlobals "_law_spoilt" = some (some (.ref f_spoilt))) (l_spoilt : K.lookup f_spoilt = some ⟨oc_spoilt, od_spoilt, .func (PySem.W.fnOf "_law_spoilt" "_law_spoilt" (defArgs st_spoilt) (defBody st_spoilt) (defScope st_spoilt) .none kV_spoilt dc_spoilt pm_spoilt an_spoilt cd_spoilt ct_spoilt), sl_spoilt⟩) (c_spoilt : PySem.W.codeIn K cd_spoilt "_law_spoilt" = true) (k_spoilt : PySem.W.keepIn K (.ref f_spoilt) = true)
    {f_heard : Addr} {od_heard an_heard : Option Addr} {sl_heard : Array (Option Value)} {oc_heard kV_heard dc_heard pm_heard cd_heard ct_heard : Value}
    (a_heard : PySem.W.nsIn K mainGlobals "_law_heard" = some (some (.ref f_heard))) (l_heard : K.lookup f_heard = some ⟨oc_heard, od_heard, .func (PySem.W.fnOf "_law_heard" "_law_heard" (defArgs st_heard) (defBody st_heard) (defScope st_heard) .none kV_heard dc_heard pm_heard an_heard cd_heard ct_heard), sl_heard⟩) (c_heard : PySem.W.codeIn K cd_heard "_law_heard" = true) (k_heard : PySem.W.keepIn K (.ref f_heard) = true)
    {f_right : Addr} {od_right an_right : Option Addr} {sl_right : Array (Option Value)} {oc_right kV_right dc_right pm_right cd_right ct_right : Value}
    (a_right : PySem.W.nsIn K mainGlobals "_law_right" = some (some (.ref f_right))) (l_right : K.lookup f_right = some ⟨oc_right, od_right, .func (PySem.W.fnOf "_law_right" "_law_right" (defArgs st_right) (defBody st_right) (defScope st_right) .none kV_right dc_right pm_right an_right cd_right ct_right), sl_right⟩) (c_right : PySem.W.codeIn K cd_right "_law_right" = true) (k_right : PySem.W.keepIn K (.ref f_right) = true)
    {f_law : Addr} {od_law an_law : Option Addr} {sl_law : Array (Option Value)} {oc_law kV_law dc_law pm_law cd_law ct_law : Value}
    (a_law : PySem.W.nsIn K mainGlobals "law" = some (some (.ref f_law))) (l_law : K.lookup f_law = some ⟨oc_law, od_law, .func (PySem.W.fnOf "law" "law" (defArgs st_law) (defBody st_law) (defScope st_law) .none kV_law dc_law pm_law an_law cd_law ct_law), sl_law⟩) (c_law : PySem.W.codeIn K cd_law "law" = true) (k_law : PySem.W.keepIn K (.ref f_law) = true)
    (z_len : PySem.W.nsIn K mainGlobals "len" = some none)
    (z_int : PySem.W.nsIn K mainGlobals "int" = some none)
    (z_bool : PySem.W.nsIn K mainGlobals "bool" = some none)
    (z_list : PySem.W.nsIn K mainGlobals "list" = some none)
    (z_tuple : PySem.W.nsIn K mainGlobals "tuple" = some none)
    (z_zip : PySem.W.nsIn K mainGlobals "zip" = some none)
    (z_isinstance : PySem.W.nsIn K mainGlobals "isinstance" = some none)
    (z_max : PySem.W.nsIn K mainGlobals "max" = some none)
    (z_min : PySem.W.nsIn K mainGlobals "min" = some none)
    (z_range : PySem.W.nsIn K mainGlobals "range" = some none)
    (z_all : PySem.W.nsIn K mainGlobals "all" = some none)
    (z_abs : PySem.W.nsIn K mainGlobals "abs" = some none)
    (z_divmod : PySem.W.nsIn K mainGlobals "divmod" = some none)
    (z_reversed : PySem.W.nsIn K mainGlobals "reversed" = some none)
    (z_ValueError : PySem.W.nsIn K mainGlobals "ValueError" = some none)
    (z_super : PySem.W.nsIn K mainGlobals "super" = some none)
    (z_str : PySem.W.nsIn K mainGlobals "str" = some none)
    {t_FIGURES t_MOST_FIGURES t_PIECE_FIGURES t_PIECE : Tok}
    (a_FIGURES : PySem.W.nsIn K mainGlobals "FIGURES" = some (some (.str (Str.ofString "0123456789") t_FIGURES)))
    (a_MOST_FIGURES : PySem.W.nsIn K mainGlobals "MOST_FIGURES" = some (some (.int 30 t_MOST_FIGURES)))
    (a_PIECE_FIGURES : PySem.W.nsIn K mainGlobals "PIECE_FIGURES" = some (some (.int 60 t_PIECE_FIGURES)))
    (a_PIECE : PySem.W.nsIn K mainGlobals "PIECE" = some (some (.int 1000000000000000000000000000000000000000000000000000000000000 t_PIECE)))
    {CB : Addr} {C_NoFit C_NoPrinter C_NoReader C_NoRow C_NoTree C_NoTurner C_NoWood C_NoWord C_TooLong C_TooWide C_NoBox C_NotKept C_Nought : Addr}
    (aB : PySem.W.nsIn K mainGlobals "BoughError" = some (some (.ref CB))) (exB : PySem.W.subIn K (.ref CB) (.type "BaseException") = some true) (hdB : PySem.W.hasDictIn K CB = true) (tyB : PySem.W.typeIn K (.ref CB) = some (.type "type")) (opq : PySem.W.nsIn K cStatics "thirdparty.any" = some none) (topN : (l.prog.main.scope.names.lookup ("super" : Str)).isSome = false)
    (snC : PySem.W.specialIn K (.builtin "object.__class__") "__get__" = some (some (.builtin "getset_descriptor.__get__"))) (tkC : PySem.W.takesIn K (.builtin "object.__class__") = some true)
    (g_NoFit : PySem.W.nsIn K mainGlobals "NoFit" = some (some (.ref C_NoFit)))
    (g_NoPrinter : PySem.W.nsIn K mainGlobals "NoPrinter" = some (some (.ref C_NoPrinter)))
    (g_NoReader : PySem.W.nsIn K mainGlobals "NoReader" = some (some (.ref C_NoReader)))
    (g_NoRow : PySem.W.nsIn K mainGlobals "NoRow" = some (some (.ref C_NoRow)))
    (g_NoTree : PySem.W.nsIn K mainGlobals "NoTree" = some (some (.ref C_NoTree)))
    (g_NoTurner : PySem.W.nsIn K mainGlobals "NoTurner" = some (some (.ref C_NoTurner)))
    (g_NoWood : PySem.W.nsIn K mainGlobals "NoWood" = some (some (.ref C_NoWood)))
    (g_NoWord : PySem.W.nsIn K mainGlobals "NoWord" = some (some (.ref C_NoWord)))
    (g_TooLong : PySem.W.nsIn K mainGlobals "TooLong" = some (some (.ref C_TooLong)))
    (g_TooWide : PySem.W.nsIn K mainGlobals "TooWide" = some (some (.ref C_TooWide)))
    (g_NoBox : PySem.W.nsIn K mainGlobals "NoBox" = some (some (.ref C_NoBox)))
    (g_NotKept : PySem.W.nsIn K mainGlobals "NotKept" = some (some (.ref C_NotKept)))
    (g_Nought : PySem.W.nsIn K mainGlobals "Nought" = some (some (.ref C_Nought)))
    {CT fIT ccT cdaT : Addr} {nmXT qXT : Str} {NT : Addr} {bsT : List Value} {snT : List Str} {subT : List Value} {abT : Bool} {colT : Option Bool} {ddT : Option Addr} {m0T m1T m2T m3T m5T : Option Value}
    (aCT : PySem.W.nsIn K mainGlobals "NoText" = some (some (.ref CT)))
    (xLT : K.lookup CT = some (excClassObj nmXT qXT CT NT bsT [.ref CB, .type "ValueError", .type "Exception", .type "BaseException", .type "object"] true snT subT abT colT ddT m0T m1T m2T m3T m5T "ValueError.__new__"))
    (iCT : PySem.W.findIn K (.ref CT) "__init__" = some (some (.ref fIT))) (tIT : PySem.W.typeIn K (.ref fIT) = some (.type "function"))
    {ocIT kVIT dcIT pmIT ctIT : Value} {odIT anIT : Option Addr} {slIT : Array (Option Value)} (lIT : K.lookup fIT = some ⟨ocIT, odIT, .func (PySem.W.ksFn "__init__" "NoText.__init__" (defArgs st_nx) (defBody st_nx) (defScope st_nx) .none kVIT dcIT pmIT anIT (.ref cdaT) ctIT ccT), slIT⟩) (cIT : PySem.W.codeIn K (.ref cdaT) "NoText.__init__" = true)
    {cclXT : Value} {cddXT : Option Addr} {vsXT : Array Value} {ccsXT : Array (Option Value)} (lcdT : K.lookup cdaT = some ⟨cclXT, cddXT, .fields vsXT, ccsXT⟩) {fileXT : Str} {tfXT : Tok} (vs2T : vsXT[2]? = some (.str fileXT tfXT)) (fileET : ((l.prog.main.file : Str) == fileXT) = true)
    {clXT : Value} {cldXT : Option Addr} {cslXT : Array (Option Value)} (lccT : K.lookup ccT = some ⟨clXT, cldXT, .cell (some (.ref CT)), cslXT⟩)
    (supCT : PySem.W.ks_superIn K CT CT "__init__" = some (some (.builtin "ValueError.__init__")))
    (subBT : PySem.W.subIn K (.ref CT) (.type "ValueError") = some true) (subCT : PySem.W.mroIn K CT (.ref CT) = some true) (kCT : PySem.W.keepIn K (.ref CT) = true) (exCT : PySem.W.subIn K (.ref CT) (.type "BaseException") = some true) (tyCT : PySem.W.typeIn K (.ref CT) = some (.type "type"))
    (gaCT : PySem.W.findIn K (.ref CT) "__getattribute__" = some (some (.builtin "BaseException.__getattribute__"))) (ggCT : PySem.W.findIn K (.ref CT) "__getattr__" = some none) (hdCT : PySem.W.hasDictIn K CT = true) (clCT : PySem.W.findIn K (.ref CT) "__class__" = some (some (.builtin "object.__class__"))) (mrCT : PySem.W.mroIn K CT (.type "object") = some true)
    (saCT : PySem.W.findIn K (.ref CT) "__setattr__" = some (some (.builtin "object.__setattr__"))) (n_row : PySem.W.findIn K (.ref CT) "row" = some none)
    (sCBT : PySem.W.subIn K (.ref CT) (.ref CB) = some true) (kCCT : PySem.W.kitOne K (.ref CT) (.ref CT) = some true) (kVET : PySem.W.kitOne K (.ref CT) (.type "ValueError") = some true)
    (kT_NoFit : PySem.W.kitOne K (.ref CT) (.ref C_NoFit) = some false)
    (kT_NoPrinter : PySem.W.kitOne K (.ref CT) (.ref C_NoPrinter) = some false)
    (kT_NoReader : PySem.W.kitOne K (.ref CT) (.ref C_NoReader) = some false)
    (kT_NoRow : PySem.W.kitOne K (.ref CT) (.ref C_NoRow) = some false)
    (kT_NoTree : PySem.W.kitOne K (.ref CT) (.ref C_NoTree) = some false)
    (kT_NoTurner : PySem.W.kitOne K (.ref CT) (.ref C_NoTurner) = some false)
    (kT_NoWood : PySem.W.kitOne K (.ref CT) (.ref C_NoWood) = some false)
    (kT_NoWord : PySem.W.kitOne K (.ref CT) (.ref C_NoWord) = some false)
    (kT_TooLong : PySem.W.kitOne K (.ref CT) (.ref C_TooLong) = some false)
    (kT_TooWide : PySem.W.kitOne K (.ref CT) (.ref C_TooWide) = some false)
    (kT_NoBox : PySem.W.kitOne K (.ref CT) (.ref C_NoBox) = some false)
    (kT_NotKept : PySem.W.kitOne K (.ref CT) (.ref C_NotKept) = some false)
    (kT_Nought : PySem.W.kitOne K (.ref CT) (.ref C_Nought) = some false)
    (sCCT : PySem.W.subIn K (.ref CT) (.ref CT) = some true) (kBT : PySem.W.kitOne K (.ref CT) (.ref CB) = some true) (dig : PySem.W.nsIn K cStatics "sys.int_max_str_digits" = some none)
    : ∃ fd : FuncData, (∀ (s : Shared) (v : Value), BindsTo s fd ⟨[v], []⟩ [("_law_script", v)]) ∧ ∀ base : Heap, K.In base → base.Ns mainGlobals mg → FnOk l.prog w K mg base CX0 6 fa fd ["_law_script"] (spLaw K) := by
  have e := hfa.symm.trans (PySem.W.mg_of X G a_law)
  cases e
  have F_cdiv := fun_mk (st := st_cdiv) l_cdiv c_cdiv k_cdiv
  have b_cdiv := F_cdiv.binds (ps := ["one", "other"]) fun _ _ _ _ _ _ us hl => match us, hl with | [_, _], _ => rfl
  have F_showfr := fun_mk (st := st_showfr) l_showfr c_showfr k_showfr
  have b_showfr := F_showfr.binds (ps := ["one"]) fun _ _ _ _ _ _ us hl => match us, hl with | [_], _ => rfl
  have F_showwh := fun_mk (st := st_showwh) l_showwh c_showwh k_showwh
  have b_showwh := F_showwh.binds (ps := ["number"]) fun _ _ _ _ _ _ us hl => match us, hl with | [_], _ => rfl
  have F_readfr := fun_mk (st := st_readfr) l_readfr c_readfr k_readfr
  have b_readfr := F_readfr.binds (ps := ["text"]) fun _ _ _ _ _ _ us hl => match us, hl with | [_], _ => rfl
  have F_readsg := fun_mk (st := st_readsg) l_readsg c_readsg k_readsg
  have b_readsg := F_readsg.binds (ps := ["text"]) fun _ _ _ _ _ _ us hl => match us, hl with | [_], _ => rfl
  have F_readfg := fun_mk (st := st_readfg) l_readfg c_readfg k_readfg
  have b_readfg := F_readfg.binds (ps := ["text"]) fun _ _ _ _ _ _ us hl => match us, hl with | [_], _ => rfl
  have F_box := fun_mk (st := st_box) l_box c_box k_box
  have b_box := F_box.binds (ps := ["_law_script", "_law_k"]) fun _ _ _ _ _ _ us hl => match us, hl with | [_, _], _ => rfl
  have F_take := fun_mk (st := st_take) l_take c_take k_take
  have b_take := F_take.binds (ps := ["_law_box_here", "_law_many"]) fun _ _ _ _ _ _ us hl => match us, hl with | [_, _], _ => rfl
  have F_alike := fun_mk (st := st_alike) l_alike c_alike k_alike
  have b_alike := F_alike.binds (ps := ["_law_found", "_law_due"]) fun _ _ _ _ _ _ us hl => match us, hl with | [_, _], _ => rfl
  have F_shared := fun_mk (st := st_shared) l_shared c_shared k_shared
  have b_shared := F_shared.binds (ps := ["_law_one", "_law_other"]) fun _ _ _ _ _ _ us hl => match us, hl with | [_, _], _ => rfl
  have F_lowest := fun_mk (st := st_lowest) l_lowest c_lowest k_lowest
  have b_lowest := F_lowest.binds (ps := ["_law_upper", "_law_lower"]) fun _ _ _ _ _ _ us hl => match us, hl with | [_, _], _ => rfl
  have F_signs := fun_mk (st := st_signs) l_signs c_signs k_signs
  have b_signs := F_signs.binds (ps := []) fun _ _ _ _ _ _ us hl => match us, hl with | [], _ => rfl
  have F_figures := fun_mk (st := st_figures) l_figures c_figures k_figures
  have b_figures := F_figures.binds (ps := ["_law_text"]) fun _ _ _ _ _ _ us hl => match us, hl with | [_], _ => rfl
  have F_lin := fun_mk (st := st_lin) l_lin c_lin k_lin
  have b_lin := F_lin.binds (ps := ["_law_text"]) fun _ _ _ _ _ _ us hl => match us, hl with | [_], _ => rfl
  have F_spoilt := fun_mk (st := st_spoilt) l_spoilt c_spoilt k_spoilt
  have b_spoilt := F_spoilt.binds (ps := ["_law_box_here", "_law_text"]) fun _ _ _ _ _ _ us hl => match us, hl with | [_, _], _ => rfl
  have F_heard := fun_mk (st := st_heard) l_heard c_heard k_heard
  have b_heard := F_heard.binds (ps := ["_law_text"]) fun _ _ _ _ _ _ us hl => match us, hl with | [_], _ => rfl
  have F_right := fun_mk (st := st_right) l_right c_right k_right
  have b_right := F_right.binds (ps := ["_law_text"]) fun _ _ _ _ _ _ us hl => match us, hl with | [_], _ => rfl
  have F_law := fun_mk (st := st_law) l_law c_law k_law
  have excT : PySem.BX.ETxt l.prog K mg CT fIT ccT cdaT "ValueError" "ValueError.__new__" "ValueError.__init__" [.type "ValueError", .type "Exception", .type "BaseException", .type "object"] "NoText" "NoText.__init__" (defArgs st_nx) fs_nx [fs_nx1] (defScope st_nx) := { gC := PySem.W.mg_of X G aCT, cls := ⟨_, _, _, _, _, _, _, _, _, _, _, _, _, _, _, xLT, fun _ => rfl⟩, base := F.excBase_ValueError, kxs := PySem.W.kxs_ValueError, iC := iCT, tI := tIT, fn := ⟨_, _, _, _, _, _, _, _, lIT⟩, code := cIT, cdo := ⟨_, _, _, _, _, _, lcdT, vs2T, fileET⟩, cell := ⟨_, _, _, lccT⟩, sup := supCT, opq := opq, noS := PySem.W.mg_none_of X G z_super, topS := topN, subB := subBT, subC := subCT, kC := kCT, exC := exCT, tyC := tyCT, kS := by decide +kernel, kCl := by decide +kernel, kSf := by decide +kernel, kF := rfl, st := ⟨_, _, _, _, _, _, _, _, rfl, fun L => ⟨rfl, rfl, _, rfl⟩⟩, hd := ⟨_, rfl, rfl⟩ }
  have T : Tx l.prog K mg := { f_cdiv := f_cdiv, fd_cdiv := _, F_cdiv := F_cdiv, g_cdiv := PySem.W.mg_of X G a_cdiv, b_cdiv := b_cdiv, f_showfr := f_showfr, fd_showfr := _, F_showfr := F_showfr, g_showfr := PySem.W.mg_of X G a_showfr, b_showfr := b_showfr, f_showwh := f_showwh, fd_showwh := _, F_showwh := F_showwh, g_showwh := PySem.W.mg_of X G a_showwh, b_showwh := b_showwh, f_readfr := f_readfr, fd_readfr := _, F_readfr := F_readfr, g_readfr := PySem.W.mg_of X G a_readfr, b_readfr := b_readfr, f_readsg := f_readsg, fd_readsg := _, F_readsg := F_readsg, g_readsg := PySem.W.mg_of X G a_readsg, b_readsg := b_readsg, f_readfg := f_readfg, fd_readfg := _, F_readfg := F_readfg, g_readfg := PySem.W.mg_of X G a_readfg, b_readfg := b_readfg, f_box := f_box, fd_box := _, F_box := F_box, g_box := PySem.W.mg_of X G a_box, b_box := b_box, f_take := f_take, fd_take := _, F_take := F_take, g_take := PySem.W.mg_of X G a_take, b_take := b_take, f_alike := f_alike, fd_alike := _, F_alike := F_alike, g_alike := PySem.W.mg_of X G a_alike, b_alike := b_alike, f_shared := f_shared, fd_shared := _, F_shared := F_shared, g_shared := PySem.W.mg_of X G a_shared, b_shared := b_shared, f_lowest := f_lowest, fd_lowest := _, F_lowest := F_lowest, g_lowest := PySem.W.mg_of X G a_lowest, b_lowest := b_lowest, f_signs := f_signs, fd_signs := _, F_signs := F_signs, g_signs := PySem.W.mg_of X G a_signs, b_signs := b_signs, f_figures := f_figures, fd_figures := _, F_figures := F_figures, g_figures := PySem.W.mg_of X G a_figures, b_figures := b_figures, f_lin := f_lin, fd_lin := _, F_lin := F_lin, g_lin := PySem.W.mg_of X G a_lin, b_lin := b_lin, f_spoilt := f_spoilt, fd_spoilt := _, F_spoilt := F_spoilt, g_spoilt := PySem.W.mg_of X G a_spoilt, b_spoilt := b_spoilt, f_heard := f_heard, fd_heard := _, F_heard := F_heard, g_heard := PySem.W.mg_of X G a_heard, b_heard := b_heard, f_right := f_right, fd_right := _, F_right := F_right, g_right := PySem.W.mg_of X G a_right, b_right := b_right, m_len := PySem.W.mg_none_of X G z_len, m_int := PySem.W.mg_none_of X G z_int, m_bool := PySem.W.mg_none_of X G z_bool, m_list := PySem.W.mg_none_of X G z_list, m_tuple := PySem.W.mg_none_of X G z_tuple, m_zip := PySem.W.mg_none_of X G z_zip, m_isinstance := PySem.W.mg_none_of X G z_isinstance, m_max := PySem.W.mg_none_of X G z_max, m_min := PySem.W.mg_none_of X G z_min, m_range := PySem.W.mg_none_of X G z_range, m_all := PySem.W.mg_none_of X G z_all, m_abs := PySem.W.mg_none_of X G z_abs, m_divmod := PySem.W.mg_none_of X G z_divmod, m_reversed := PySem.W.mg_none_of X G z_reversed, m_ValueError := PySem.W.mg_none_of X G z_ValueError, m_super := PySem.W.mg_none_of X G z_super, m_str := PySem.W.mg_none_of X G z_str, t_FIGURES := t_FIGURES, c_FIGURES := PySem.W.mg_of X G a_FIGURES, t_MOST_FIGURES := t_MOST_FIGURES, c_MOST_FIGURES := PySem.W.mg_of X G a_MOST_FIGURES, t_PIECE_FIGURES := t_PIECE_FIGURES, c_PIECE_FIGURES := PySem.W.mg_of X G a_PIECE_FIGURES, t_PIECE := t_PIECE, c_PIECE := PySem.W.mg_of X G a_PIECE, CB := CB, g_BoughError := PySem.W.mg_of X G aB, C_NoFit := C_NoFit, g_NoFit := PySem.W.mg_of X G g_NoFit, C_NoPrinter := C_NoPrinter, g_NoPrinter := PySem.W.mg_of X G g_NoPrinter, C_NoReader := C_NoReader, g_NoReader := PySem.W.mg_of X G g_NoReader, C_NoRow := C_NoRow, g_NoRow := PySem.W.mg_of X G g_NoRow, C_NoTree := C_NoTree, g_NoTree := PySem.W.mg_of X G g_NoTree, C_NoTurner := C_NoTurner, g_NoTurner := PySem.W.mg_of X G g_NoTurner, C_NoWood := C_NoWood, g_NoWood := PySem.W.mg_of X G g_NoWood, C_NoWord := C_NoWord, g_NoWord := PySem.W.mg_of X G g_NoWord, C_TooLong := C_TooLong, g_TooLong := PySem.W.mg_of X G g_TooLong, C_TooWide := C_TooWide, g_TooWide := PySem.W.mg_of X G g_TooWide, C_NoBox := C_NoBox, g_NoBox := PySem.W.mg_of X G g_NoBox, C_NotKept := C_NotKept, g_NotKept := PySem.W.mg_of X G g_NotKept, C_Nought := C_Nought, g_Nought := PySem.W.mg_of X G g_Nought, kT_NoFit := kT_NoFit, kT_NoPrinter := kT_NoPrinter, kT_NoReader := kT_NoReader, kT_NoRow := kT_NoRow, kT_NoTree := kT_NoTree, kT_NoTurner := kT_NoTurner, kT_NoWood := kT_NoWood, kT_NoWord := kT_NoWord, kT_TooLong := kT_TooLong, kT_TooWide := kT_TooWide, kT_NoBox := kT_NoBox, kT_NotKept := kT_NotKept, kT_Nought := kT_Nought, CT := CT, fIT := fIT, ccT := ccT, cdaT := cdaT, excT := excT, fldT := ⟨⟨_, (by unfold PySem.W.clsIn; rw [xLT]), rfl, rfl⟩, saCT, fun f hf => by rw [List.mem_singleton.mp hf]; exact n_row⟩, exIT := ⟨gaCT, ggCT, exCT, hdCT, clCT, snC, tkC, mrCT⟩, xfcT := ⟨gaCT, ggCT, exCT, hdCT⟩, exmT := PySem.W.exm_ref exB hdB tyB sCBT, kCT := kCCT, kVT := kVET, is1T := ⟨_, _, _, _, rfl, by decide +kernel, by decide +kernel, fun L => rfl⟩, noRow := n_row, kBT := kBT, exmS := PySem.W.exm_ref exCT hdCT tyCT sCCT, dig := dig }
  exact ⟨PySem.W.fnOf "law" "law" (defArgs st_law) (defBody st_law) (defScope st_law) .none kV_law dc_law pm_law an_law cd_law ct_law, fun s v => .of_eq rfl, fun base _ _ => ok_law T F_law⟩
end B02
open PySem PySem.W PyProof.Rows
set_option maxRecDepth 100000 in
set_option maxHeartbeats 0 in
theorem PySem.Challenge.cw_boughkept_k02_fractions_written_holds : PySem.Challenge.rw_boughkept_k02_fractions_written.Holds := by
  w_on; o_law; k_head; (case hw => w_witness2)
  k_fill
  refine L2.walk_of (l := PySem.Challenge.rw_boughkept_k02_fractions_written) (n := 63) (k := 6) (x := "_law_script") (CX := fun _ => L2.CX0) (sp := fun w => B02.spLaw _) rfl (by decide) rfl ⟨rfl, by decide, by decide⟩ (fun w h Y => PySem.W.kIn_of Y) ?F (fun _ _ a ns hl _ hS => ⟨a, ns, rfl, hS, hl, fun _ => rfl⟩) (fun _ _ _ _ _ h => h)
  case F =>
    intro w mg fa h KX G hmg
    refine' B02.all_mk KX G hmg ?a_cdiv ?l_cdiv ?c_cdiv ?k_cdiv ?a_showfr ?l_showfr ?c_showfr ?k_showfr ?a_showwh ?l_showwh ?c_showwh ?k_showwh ?a_readfr ?l_readfr ?c_readfr ?k_readfr ?a_readsg ?l_readsg ?c_readsg ?k_readsg ?a_readfg ?l_readfg ?c_readfg ?k_readfg ?a_box ?l_box ?c_box ?k_box ?a_take ?l_take ?c_take ?k_take ?a_alike ?l_alike ?c_alike ?k_alike ?a_shared ?l_shared ?c_shared ?k_shared ?a_lowest ?l_lowest ?c_lowest ?k_lowest ?a_signs ?l_signs ?c_signs ?k_signs ?a_figures ?l_figures ?c_figures ?k_figures ?a_lin ?l_lin ?c_lin ?k_lin ?a_spoilt ?l_spoilt ?c_spoilt ?k_spoilt ?a_heard ?l_heard ?c_heard ?k_heard ?a_right ?l_right ?c_right ?k_right ?a_law ?l_law ?c_law ?k_law ?z_len ?z_int ?z_bool ?z_list ?z_tuple ?z_zip ?z_isinstance ?z_max ?z_min ?z_range ?z_all ?z_abs ?z_divmod ?z_reversed ?z_ValueError ?z_super ?z_str ?a_FIGURES ?a_MOST_FIGURES ?a_PIECE_FIGURES ?a_PIECE ?aB ?exB ?hdB ?tyB ?opq ?topN ?snC ?tkC ?g_NoFit ?g_NoPrinter ?g_NoReader ?g_NoRow ?g_NoTree ?g_NoTurner ?g_NoWood ?g_NoWord ?g_TooLong ?g_TooWide ?g_NoBox ?g_NotKept ?g_Nought ?aCT ?xLT ?iCT ?tIT ?lIT ?cIT ?lcdT ?vs2T ?fileET ?lccT ?supCT ?subBT ?subCT ?kCT ?exCT ?tyCT ?gaCT ?ggCT ?hdCT ?clCT ?mrCT ?saCT ?n_row ?sCBT ?kCCT ?kVET ?kT_NoFit ?kT_NoPrinter ?kT_NoReader ?kT_NoRow ?kT_NoTree ?kT_NoTurner ?kT_NoWood ?kT_NoWord ?kT_TooLong ?kT_TooWide ?kT_NoBox ?kT_NotKept ?kT_Nought ?sCCT ?kBT ?dig
    (case a_cdiv => k_is)
    (case l_cdiv => k_is)
    (case c_cdiv => k_is)
    (case k_cdiv => k_is)
    (case a_showfr => k_is)
    (case l_showfr => k_is)
    (case c_showfr => k_is)
    (case k_showfr => k_is)
    (case a_showwh => k_is)
    (case l_showwh => k_is)
    (case c_showwh => k_is)
    (case k_showwh => k_is)
    (case a_readfr => k_is)
    (case l_readfr => k_is)
    (case c_readfr => k_is)
    (case k_readfr => k_is)
    (case a_readsg => k_is)
    (case l_readsg => k_is)
    (case c_readsg => k_is)
    (case k_readsg => k_is)
    (case a_readfg => k_is)
    (case l_readfg => k_is)
    (case c_readfg => k_is)
    (case k_readfg => k_is)
    (case a_box => k_is)
    (case l_box => k_is)
    (case c_box => k_is)
    (case k_box => k_is)
    (case a_take => k_is)
    (case l_take => k_is)
    (case c_take => k_is)
    (case k_take => k_is)
    (case a_alike => k_is)
    (case l_alike => k_is)
    (case c_alike => k_is)
    (case k_alike => k_is)
    (case a_shared => k_is)
    (case l_shared => k_is)
    (case c_shared => k_is)
    (case k_shared => k_is)
    (case a_lowest => k_is)
    (case l_lowest => k_is)
    (case c_lowest => k_is)
    (case k_lowest => k_is)
    (case a_signs => k_is)
    (case l_signs => k_is)
    (case c_signs => k_is)
    (case k_signs => k_is)
    (case a_figures => k_is)
    (case l_figures => k_is)
    (case c_figures => k_is)
    (case k_figures => k_is)
    (case a_lin => k_is)
    (case l_lin => k_is)
    (case c_lin => k_is)
    (case k_lin => k_is)
    (case a_spoilt => k_is)
    (case l_spoilt => k_is)
    (case c_spoilt => k_is)
    (case k_spoilt => k_is)
    (case a_heard => k_is)
    (case l_heard => k_is)
    (case c_heard => k_is)
    (case k_heard => k_is)
    (case a_right => k_is)
    (case l_right => k_is)
    (case c_right => k_is)
    (case k_right => k_is)
    (case a_law => k_is)
    (case l_law => k_is)
    (case c_law => k_is)
    (case k_law => k_is)
    (case z_len => k_is)
    (case z_int => k_is)
    (case z_bool => k_is)
    (case z_list => k_is)
    (case z_tuple => k_is)
    (case z_zip => k_is)
    (case z_isinstance => k_is)
    (case z_max => k_is)
    (case z_min => k_is)
    (case z_range => k_is)
    (case z_all => k_is)
    (case z_abs => k_is)
    (case z_divmod => k_is)
    (case z_reversed => k_is)
    (case z_ValueError => k_is)
    (case z_super => k_is)
    (case z_str => k_is)
    (case a_FIGURES => k_is)
    (case a_MOST_FIGURES => k_is)
    (case a_PIECE_FIGURES => k_is)
    (case a_PIECE => k_is)
    (case aB => k_is)
    (case exB => k_is)
    (case hdB => k_is)
    (case tyB => k_is)
    (case opq => k_is)
    (case topN => first | rfl | decide +kernel)
    (case snC => k_is)
    (case tkC => k_is)
    (case g_NoFit => k_is)
    (case g_NoPrinter => k_is)
    (case g_NoReader => k_is)
    (case g_NoRow => k_is)
    (case g_NoTree => k_is)
    (case g_NoTurner => k_is)
    (case g_NoWood => k_is)
    (case g_NoWord => k_is)
    (case g_TooLong => k_is)
    (case g_TooWide => k_is)
    (case g_NoBox => k_is)
    (case g_NotKept => k_is)
    (case g_Nought => k_is)
    (case aCT => k_is)
    (case xLT => k_is)
    (case iCT => k_is)
    (case tIT => k_is)
    (case lIT => k_is)
    (case cIT => k_is)
    (case lcdT => k_is)
    (case vs2T => rfl)
    (case fileET => first | rfl | decide +kernel)
    (case lccT => k_is)
    (case supCT => ks_is)
    (case subBT => k_is)
    (case subCT => k_is)
    (case kCT => k_is)
    (case exCT => k_is)
    (case tyCT => k_is)
    (case gaCT => k_is)
    (case ggCT => k_is)
    (case hdCT => k_is)
    (case clCT => k_is)
    (case mrCT => k_is)
    (case saCT => k_is)
    (case n_row => k_is)
    (case sCBT => first | rfl | k_is)
    (case kCCT => kit_is)
    (case kVET => kit_is)
    (case kT_NoFit => kit_is)
    (case kT_NoPrinter => kit_is)
    (case kT_NoReader => kit_is)
    (case kT_NoRow => kit_is)
    (case kT_NoTree => kit_is)
    (case kT_NoTurner => kit_is)
    (case kT_NoWood => kit_is)
    (case kT_NoWord => kit_is)
    (case kT_TooLong => kit_is)
    (case kT_TooWide => kit_is)
    (case kT_NoBox => kit_is)
    (case kT_NotKept => kit_is)
    (case kT_Nought => kit_is)
    (case sCCT => first | rfl | k_is)
    (case kBT => kit_is)
    (case dig => k_is)
