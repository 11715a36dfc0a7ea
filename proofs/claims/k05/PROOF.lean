import PyProof.Rows.All
import Wide.All
import OpenK.AllK
import Wide.FinOn
import KE.KExcSuper
import HandS.Exc
import HandS.ExcInit
import HandS.ExcSuper
import HandS.ExcField
import KE.KIsAll
import KE.KTryMore
import HandS.Base
import HandS.Call
import HandS.ExcIs
import HandS.IsInst
import PyProof.ToksMono
import HandS.List
import HandS.Text
import HandS.Replace
import HandS.ReplaceLit
import PyProof.ListMulRoad
import PyProof.FactsAll.tuple_2
import PyProof.StrOps2
import HandS.TupMul
import KE.KItemsList
import HandS.Zip
import KE.GoesEnum
import HandS.Iter
import HandS.Wide
import HandS.Conv
import HandS.DictComp
import KE.GoesMore
import KE.GoesZip
import HandS.Walk
import HandS.Words
import PyProof.EqAt
import PyProof.EqKinds
import PyProof.TupleCall
import HandS.Dict
import KE.KeyNested
import HandS.Rev
import HandS.TupAny
import HandS.Deep
import HandS.SetFor
import KE.DataFind
import PyProof.ExcClass3
import PyProof.Rows.FactsExc_KeyError
import KE.RegKIsAll
import HandS.ForMost
import HandS.ForExc
import HandS.WideBits
import HandS.Defaults
import HandS.CallSlots
import HandS.StrMore
import HandS.Small
import HandS.Style
import HandS.Codes
import HandS.TupLe
import HandS.More
import HandS.FStr
import PySem.Challenge.RW_boughkept_k05_refusals
set_option Elab.async false
set_option linter.all false
set_option maxRecDepth 100000
set_option maxHeartbeats 2000000
namespace PySem
namespace BX
open PySem.W PySem.Calls PyProof.Rows PySem.HandSPX
/-- what the written part says of an own exception class at C whose __init__ (at fI) begins with super().__init__(text) -/
structure ETxt (P : Program) (K : Frag) (mg : Str → Option Value) (C fI cc cda : Addr) (B newId initId : String) (bmB : List Value) (nmC qual : Str) (params : Arguments) (first : Stmt) (rest : List Stmt) (scope : Scope) : Prop where
  gC : mg nmC = some (.ref C)
  cls : ∃ nm q N bs bm sn sub ab col dd k0 k1 k2 k3 k5, K.lookup C = some (excClassObj nm q C N bs bm true sn sub ab col dd k0 k1 k2 k3 k5 newId) ∧ (∀ X : String, bm.contains (.type X) = bmB.contains (.type X))
  base : ExcBaseFacts B newId initId bmB
  kxs : KxsFacts B initId
  iC : findIn K (.ref C) "__init__" = some (some (.ref fI))
  tI : typeIn K (.ref fI) = some (.type "function")
  fn : ∃ (oc : Value) (od : Option Addr) (kV doc pm : Value) (an : Option Addr) (ct : Value) (osl : Array (Option Value)), K.lookup fI = some ⟨oc, od, .func (ksFn "__init__" qual params (first :: rest) scope .none kV doc pm an (.ref cda) ct cc), osl⟩
  code : codeIn K (.ref cda) qual = true
  cdo : ∃ (ccl : Value) (cdd : Option Addr) (vs : Array Value) (ccs : Array (Option Value)) (file : Str) (tf : Tok), K.lookup cda = some ⟨ccl, cdd, .fields vs, ccs⟩ ∧ vs[2]? = some (.str file tf) ∧ ((P.main.file : Str) == file) = true
  cell : ∃ (cl : Value) (cld : Option Addr) (csl : Array (Option Value)), K.lookup cc = some ⟨cl, cld, .cell (some (.ref C)), csl⟩
  sup : ks_superIn K C C "__init__" = some (some (.builtin initId))
  opq : nsIn K cStatics "thirdparty.any" = some none
  noS : mg "super" = none
  topS : (P.main.scope.names.lookup ("super" : Str)).isSome = false
  subB : subIn K (.ref C) (.type B) = some true
  subC : mroIn K C (.ref C) = some true
  kC : keepIn K (.ref C) = true
  exC : subIn K (.ref C) (.type "BaseException") = some true
  tyC : typeIn K (.ref C) = some (.type "type")
  kS : scope.names.lookup ("super" : Str) = some .globalImplicit
  kCl : scope.names.lookup ("__class__" : Str) = some .free
  kSf : scope.names.lookup ("self" : Str) = some .local
  kF : scope.kind = .function
  st : ∃ (p0 p1 p2 p3 p4 p5 : Pos) (msg : Str) (j : Nat), first = .Expr (.Call (.Attribute (.Call (.Name "super" p0) [] [] p1) "__init__" p2) [.Constant (.str msg) j p3] [] p4) p5 ∧ ∀ L : Addr,
    interactive (ksEnv qual scope L fI (.ref cda) cc) = false ∧ swapsWith (.Call (.Attribute (.Call (.Name "super" p0) [] [] p1) "__init__" p2) [.Constant (.str msg) j p3] [] p4) none p5.line (ksEnv qual scope L fI (.ref cda) cc) = pure false ∧
    ∃ pl : Sem Bool, eval (.Call (.Attribute (.Call (.Name "super" p0) [] [] p1) "__init__" p2) [.Constant (.str msg) j p3] [] p4) (ksEnv qual scope L fI (.ref cda) cc) = (do
      let ov ← attributeBase (.Call (.Name "super" p0) [] [] p1) "__init__" (ksEnv qual scope L fI (.ref cda) cc) (eval (.Call (.Name "super" p0) [] [] p1) (ksEnv qual scope L fI (.ref cda) cc))
      standAt p2.atName
      let (f, fst) ← holding [ov] (getMethod ov "__init__" pl)
      callWith p4 f fst (backTo p4 (starEach [.Constant (.str msg) j p3] (ksEnv qual scope L fI (.ref cda) cc))) [])
  hd : ∃ ar : Arg, (params.posonlyargs ++ params.args).head? = some ar ∧ ar.arg = ("self" : Str)
section
variable {prog : Program} {w : World} {A : Around} {E : Value → Shared → Prop} {K : Frag} {mg mb : Str → Option Value} {C fI cc cda : Addr} {B newId initId : String} {bmB : List Value} {nmC qual : Str} {params : Arguments} {first : Stmt} {rest : List Stmt} {scope : Scope}
variable {h : Heap} {g : Array GenState} {d : Drawn} {t : Nat} {os : OsState}
/-- super().__init__(text): the args are laid anew -/
theorem call_mw (T : ETxt prog K mg C fI cc cda B newId initId bmB nmC qual params first rest scope) {u e t0 : Addr} {us : List Value} {Q : Value → Shared → Prop} (X : K.In h)
    (he : h.get? e = some (excO C t0)) (hu : h.get? u = some (kxs_mw initId e)) (hrest : us.length ≤ sizeLine)
    (hq : ∀ h' t1, (∀ b o, b ≠ e → h.get? b = some o → h'.get? b = some o) → h'.get? e = some (excO C t1) → Q .none ⟨h', g, d, t, os⟩) :
    wpAny (model prog w) A (call (.ref u) us) Q E ⟨h, g, d, t, os⟩ := by
  obtain ⟨nm, q, N, bs, bm, sn, sub, ab, col, dd, k0, k1, k2, k3, k5, hC, hbm⟩ := T.cls
  refine wpAny_call (codeAny_of_tree ?_)
  show wpAny _ A.in1 (callAny (.ref u) ⟨us, []⟩) _ _ _
  simp only [callAny]
  refine wpAny_bind (wpAny_load hu ?_)
  simp only [kxs_mw, show (Value.type "method-wrapper" == Value.type "method" || Value.type "method-wrapper" == Value.type "builtin_function_or_method" || Value.type "method-wrapper" == Value.type "method-wrapper") = true by decide, if_true]
  refine KFB.if_so (by decide) ?_
  refine wpAny_bind (check_bound_init T.base.toExcCallFacts (X _ _ hC) he rfl ?_)
  refine wpAny_bind (wpAny_pure (wpAny_pure ?_))
  refine ⟨plainId_quiet T.base.init.plain _, codeAny_builtin T.base.initEntry ?_⟩
  exact exc_init_tree (cls := .ref C) (t0 := t0) (dv := none) (c2 := .none) (c3 := .none) (b4 := .bool false) he hrest fun h' k e' _ => hq h' h.objs.size k e'

theorem super_stmt (T : ETxt prog K mg C fI cc cda B newId initId bmB nmC qual params first rest scope) {L x t0 : Addr} {m : Str → Option Value} {Q : Flow → Shared → Prop} (X : K.In h)
    (hg : h.Ns mainGlobals mg) (hb : h.Ns builtinsNs mb) (hS : mb "super" = some (.type "super")) (hL : h.Ns L m) (hself : m "self" = some (.ref x)) (hx : h.get? x = some (excO C t0)) (hxC : x ≠ C)
    (hq : ∀ h' tk t1, (∀ b o, b ≠ x → h.get? b = some o → h'.get? b = some o) → h'.get? x = some (excO C t1) → Q .next ⟨h', g, d, tk, os⟩) :
    _root_.PySem.wpAt (model prog w) A (.func (first :: rest) (ksEnv qual scope L fI (.ref cda) cc))
      (exec first (ksEnv qual scope L fI (.ref cda) cc)) Q E ⟨h, g, d, t, os⟩ := by
  obtain ⟨nm, q, N, bs, bm, sn, sub, ab, col, dd, k0, k1, k2, k3, k5, hC, hbm⟩ := T.cls
  obtain ⟨oc, od, kV, doc, pm, an, ct, osl, hf⟩ := T.fn
  obtain ⟨ccl, cdd, vs, ccs, file, tf, hcda, hvs, hfile⟩ := T.cdo
  obtain ⟨cl, cld, csl, hcc⟩ := T.cell
  obtain ⟨ar, har, harg⟩ := T.hd
  have hcd : clsIn K C = some { name := nm, bases := bs, mro := .ref C :: bm, ns := N, qualname := q, hasDict := true, slotNames := sn, subclasses := sub, abstract := ab, collection := col, hasDel := false } := by unfold clsIn; rw [hC] <;> rfl
  have hD := X _ _ hC
  obtain ⟨p0, p1, p2, p3, p4, p5, msg, j, rfl, hst⟩ := T.st
  obtain ⟨hi, hsw, pl, hev⟩ := hst L
  refine ks_wpAt_Expr_any (hi := hi) (hs := hsw) ?_
  refine ks_wpAt_MethodCall (pl := pl) (he := hev) ?_
  refine ks_wpAt_super_base (env := ksEnv qual scope L fI (.ref cda) cc) T.kS T.kCl (by decide) rfl (X _ _ hf) rfl har rfl (X _ _ hcda) rfl hvs hfile T.topS ?_
  refine ks_loadName_global T.kF T.kS (loadGlobal_builtin (env := ksEnv qual scope L fI (.ref cda) cc) hg T.noS hb hS ⟨rfl, ?_⟩)
  refine wpAny_loadName_free T.kF T.kCl rfl ⟨_, X _ _ hcc, rfl⟩ ?_
  rw [harg]
  refine wpAny_loadName_local T.kF T.kSf hL hself ?_
  refine ks_wpAny_isType_cls hD rfl ⟨rfl, ?_⟩
  refine ks_wpAny_call_super hD rfl hx rfl (fun c e => by cases e) (looks_mroIn X T.subC) (fun h1 e1 k1' => ?_)
  have X1 : K.In h1 := X.keeps k1'
  have hx1 := k1' _ _ hx
  have hsup : alongIn K "__init__" (((Value.ref C :: bm).dropWhile (· != .ref C)).drop 1) = some (some (.builtin initId)) := by
    have z := T.sup
    unfold ks_superIn at z
    rw [hcd] at z
    exact z
  have hI1 : InstAt h1 x (excO C t0) C none := ⟨hx1, rfl, rfl, trivial⟩
  have hmro : Looks (model prog w) h1 (mroOf (.ref C)) (Value.ref C :: bm) := (looks_clsIn X1 hcd).andThen .now
  refine kxs_getMethod T.kxs e1 (looks_opaque X1 T.opq) hmro rfl X1 hsup (hI1.type.andThen (looks_subIn X1 T.subB)) hxC (by decide) ?_
  have hx2 : (h1.push (kxs_mw initId x)).get? x = some (excO C t0) := Heap.get?_push_of_some _ hx1
  have hu2 : (h1.push (kxs_mw initId x)).get? h1.objs.size = some (kxs_mw initId x) := Heap.get?_push_size _ rfl
  have X2 : K.In (h1.push (kxs_mw initId x)) := X1.keeps fun b o e => Heap.get?_push_of_some _ e
  refine kxs_callWith (i := initId) (x := x) (by rfl) ?_
  refine evalArgs_plain ?_
  refine Calls.spliced_cons ?_
  show wpAny _ _ (eval (.Constant (.str msg) j p3) _) _ _ _
  refine Calls.Constant_str ?_
  refine Calls.spliced_nil ?_
  refine ⟨hu2, ?_⟩
  refine call_mw T X2 hx2 hu2 (by rw [sizeLine_eq]; exact (by decide : 1 ≤ 16777216)) fun h' t1 k e => ?_
  exact hq h' _ t1 (fun b o hb z => k b o hb (Heap.get?_push_of_some _ (k1' b o z))) e
/-- __init__ without fields of its own -/
theorem init0 (T : ETxt prog K mg C fI cc cda B newId initId bmB nmC qual params first [] scope) {R : Result → Shared → Prop} {s : Shared} {x t0 : Addr} (X : K.In s.heap) (hlim : s.heap.NoLimit)
    (hg : s.heap.Ns mainGlobals mg) (hb : s.heap.Ns builtinsNs mb) (hS : mb "super" = some (.type "super")) (hx : s.heap.get? x = some (excO C t0)) (hxC : x ≠ C) (hroom : A.depth < recursionLimit)
    (hbind : ∀ (kV doc pm : Value) (an : Option Addr) (ct : Value), BindsTo s (ksFn "__init__" qual params [first] scope .none kV doc pm an (.ref cda) ct cc) ⟨[.ref x], []⟩ [("self", .ref x)])
    (hcell : ∀ z ∈ scope.names, z.2 ≠ .cell) (hco : scope.isCoroutine = false) (hgen : scope.isGenerator = false)
    (hq : ∀ h' tk t1, (∀ b o, b ≠ x → s.heap.get? b = some o → h'.get? b = some o) → h'.get? x = some (excO C t1) → R (.ok (.ret .none)) { s with heap := h', toks := tk }) :
    codeAny (model prog w) A (.call (.ref fI) ⟨[.ref x], []⟩) R s := by
  obtain ⟨oc, od, kV, doc, pm, an, ct, osl, hf⟩ := T.fn
  refine ks_codeAny_call_defAt (fd := ksFn "__init__" qual params [first] scope .none kV doc pm an (.ref cda) ct cc) (body := [first]) (binds := [("self", .ref x)]) hroom (X _ _ hf) rfl hlim (codeRec_of X T.code) rfl (hbind kV doc pm an ct) hcell ?_ (fun h₁ hns hk => ?_) hco hgen T.kF
  · intro y hy
    rw [List.mem_singleton.mp hy]
    exact T.kSf
  obtain ⟨hp, g, d, t, os⟩ := s
  refine ks_wpAt_execs_cons ?_
  refine super_stmt (mb := mb) (m := fun x_1 => List.lookup x_1 [(("self" : Str), Value.ref x)].reverse) T (X.keeps hk) ?_ ?_ hS hns (by simp [List.lookup]) (hk _ _ hx) hxC (fun h' tk t1 k e => ?_)
  · exact hg.keeps hk
  · exact hb.keeps hk
  · refine wpAt_of_wpAny (wpAny_execs_nil ?_)
    exact hq h' tk t1 (fun b o hb z => k b o hb (hk b o z)) e
/-- C() -/
theorem made0 (T : ETxt prog K mg C fI cc cda B newId initId bmB nmC qual params first [] scope) {R : Result → Shared → Prop} {s : Shared} (X : K.In s.heap) (hlim : s.heap.NoLimit)
    (hg : s.heap.Ns mainGlobals mg) (hb : s.heap.Ns builtinsNs mb) (hS : mb "super" = some (.type "super")) (hroom : A.depth + 1 < recursionLimit)
    (hbind : ∀ (x : Addr) (s : Shared) (kV doc pm : Value) (an : Option Addr) (ct : Value), BindsTo s (ksFn "__init__" qual params [first] scope .none kV doc pm an (.ref cda) ct cc) ⟨[.ref x], []⟩ [("self", .ref x)])
    (hcell : ∀ z ∈ scope.names, z.2 ≠ .cell) (hco : scope.isCoroutine = false) (hgen : scope.isGenerator = false)
    (hq : ∀ h' tk t1, (∀ b o, s.heap.get? b = some o → h'.get? b = some o) → h'.get? (s.heap.objs.size + 1) = some (excO C t1) → R (.ok (.ret (.ref (s.heap.objs.size + 1)))) { s with heap := h', toks := tk }) :
    codeAny (model prog w) A (.call (.ref C) ⟨[], []⟩) R s := by
  obtain ⟨nm, q, N, bs, bm, sn, sub, ab, col, dd, k0, k1, k2, k3, k5, hC, hbm⟩ := T.cls
  obtain ⟨hp, g, dr, tk, os⟩ := s
  have k : ∀ b o, hp.get? b = some o → ((hp.push (kdv_tup [])).push (excO C hp.objs.size)).get? b = some o := fun b o e => Heap.get?_push_of_some _ (Heap.get?_push_of_some _ e)
  have hget : ((hp.push (kdv_tup [])).push (excO C hp.objs.size)).get? (hp.objs.size + 1) = some (excO C hp.objs.size) := by heap_get
  have hne : hp.objs.size + 1 ≠ C := fun z => by
    have := Heap.lt_size (X _ _ hC)
    rw [← z] at this
    exact absurd this (by show ¬ (hp.objs.size + 1 < hp.objs.size); omega)
  refine call_own T.base hbm (X _ _ hC) (looks_findIn X T.iC) (fun self => bind_fn X self T.tI) (by rw [sizeLine_eq]; exact (by decide : 0 ≤ 16777216)) ?_
  refine init0 (mb := mb) (s := ⟨(hp.push (kdv_tup [])).push (excO C hp.objs.size), g, dr, tk, os⟩) T (X.keeps k) (hlim.keeps k) (hg.keeps k) (hb.keeps k) hS hget hne ?_ (hbind _ _) hcell hco hgen fun h' tk' t1 k' e => ?_
  · show A.depth + 1 < recursionLimit
    exact hroom
  · refine ⟨rfl, hq h' tk' t1 (fun b o z => k' b o (Nat.ne_of_lt (Nat.lt_succ_of_lt (Heap.lt_size z))) (k b o z)) e⟩
end
end BX
end PySem
namespace L2
open PySem PySem.Spec PyProof.Rows
theorem pmk_e0 {X : Cx} {C fI cc cda : Addr} {B newId initId : String} {bmB : List Value} {nmC qual : Str} {params : Arguments} {first : Stmt} {scope : Scope} {p pos : Pos} {k : Nat}
    (T : PySem.BX.ETxt X.prog X.K X.mg C fI cc cda B newId initId bmB nmC qual params first [] scope) (hr : Room k X.A) (hg : Gl X nmC)
    (hbind : ∀ (x : Addr) (s : Shared) (kV doc pm : Value) (an : Option Addr) (ct : Value), BindsTo s (PySem.W.ksFn "__init__" qual params [first] scope .none kV doc pm an (.ref cda) ct cc) ⟨[.ref x], []⟩ [("self", .ref x)])
    (hcell : ∀ z ∈ scope.names, z.2 ≠ .cell) (hco : scope.isCoroutine = false) (hgen : scope.isGenerator = false) (hdb : (nmC == ("__debug__" : Str)) = false := by decide) :
    PMk X (.Call (.Name nmC p) [] [] pos) (fun _ H Q => Q (.ref C) none H) := by
  intro pins s σ H Q I h
  refine wpAny_Call_Name_kw (ld_glob I hg T.gC ?_ hdb)
  refine PySem.W.callWith_K0 I.kIn T.kC ?_
  show wpAny _ _ (call (.ref C) []) _ _ _
  have hlim := I.nolimit
  obtain ⟨mb, hb1, hb2⟩ := I.mod.blt
  have hbS : mb "super" = some (.type "super") := (hb2 _ (by decide)).trans (by first | rfl | decide +kernel)
  obtain ⟨hp, gg, dr, tk, os⟩ := s
  refine wpAny_call (PySem.BX.made0 (mb := mb) T I.kIn hlim (I.mod.glob.keeps I.bk) (hb1.keeps I.bk) hbS (by have := hr.dp; omega) hbind hcell hco hgen fun h' tk' t1 kp e => ?_)
  show MkP X pins σ Q (.ref (hp.objs.size + 1)) ⟨h', gg, dr, tk', os⟩
  obtain ⟨G', g1, g2⟩ := restrict h' fun b => decide (b ≠ hp.objs.size + 1)
  have gk : ∀ b, b ≠ hp.objs.size + 1 → G'.get? b = h'.get? b := fun b hb => g1 b (decide_eq_true hb)
  have ge : G'.get? (hp.objs.size + 1) = none := g2 _ (by simp)
  have old : ∀ b o, hp.get? b = some o → G'.get? b = some o := fun b o q => (gk b (Nat.ne_of_lt (Nat.lt_succ_of_lt (Heap.lt_size q)))).trans (kp b o q)
  have J : Inv X pins σ H ⟨G', gg, dr, tk', os⟩ := I.kept (t' := tk') old
  refine ⟨hp.objs.size + 1, _, _, ⟨G', gg, dr, tk', os⟩, H, .ref C, none, rfl, J, fun b o q => ?_, ge, e, ⟨rfl, rfl⟩, rfl, rfl, I.hok.fresh (Nat.le_succ _), rfl, I.bare, raises_own T.exC T.tyC, h⟩
  by_cases hb : b = hp.objs.size + 1
  · have q' : G'.get? b = some o := q
    rw [hb, ge] at q'; cases q'
  · exact (gk b hb).symm.trans q
end L2
set_option Elab.async false
set_option linter.all false
set_option maxRecDepth 100000
set_option maxHeartbeats 2000000
namespace PySem
namespace BX
open PySem.W PySem.Calls PyProof.Rows PySem.HandSPX
section
variable {prog : Program} {w : World} {A : Around} {E : Value → Shared → Prop} {K : Frag} {C : Addr} {cd : ClassData}
variable {h : Heap} {g : Array GenState} {d : Drawn} {t : Nat} {os : OsState}
/-- self.f = p, the first field -/
theorem st_new {env : Env} {m : Str → Option Value} {x t1 : Addr} {f p : Str} {v : Value} {p1 p2 p3 pos : Pos} {Q : Flow → Shared → Prop} (X : K.In h) (hL : h.Ns env.locals m) (hself : m "self" = some (.ref x)) (hp : m p = some v)
    (hx : h.get? x = some (excO C t1)) (hcl : clsIn K C = some cd) (hm : refsVE cd.mro = true) (hh : cd.hasDict = true) (sa : findIn K (.ref C) "__setattr__" = some (some (.builtin "object.__setattr__"))) (hno : findIn K (.ref C) f = some none)
    (hk : env.scope.kind = .function) (hl : env.kindOf p = some .local) (hls : env.kindOf "self" = some .local) (hd : (p == ("__debug__" : Str)) = false) (hs : swapsWith (.Name p p3) (some (.Attribute (.Name "self" p1) f p2)) pos.line env = pure false)
    (hq : ∀ h' tk' dx, (∀ b o, b ≠ x → h.get? b = some o → h'.get? b = some o) → h.objs.size ≤ dx → dx ≠ x → h'.get? x = some { cls := .ref C, dict := some dx, data := .fields #[.ref t1, .none, .none, .none, .bool false, .none] } →
      h'.Ns1 dx (fun y => if y = f then some v else none) → Q .next ⟨h', g, d, tk', os⟩) :
    wpAny (model prog w) A (exec (.Assign [.Attribute (.Name "self" p1) f p2] (.Name p p3) pos) env) Q E ⟨h, g, d, t, os⟩ := by
  refine plainObj_wpAny_Assign_Attribute (ESX.ldL (s := ⟨h, g, d, t, os⟩) hL hp (ESX.ldL (s := ⟨h, g, d, t, os⟩) hL hself ?_ hk hls) hk hl hd) hs
  refine set_plain (s := ⟨h, g, d, t, os⟩) X (ox := excO C t1) (od := none) ⟨hx, rfl, rfl, trivial⟩ sa ?_
  exact exc_osa X hx hcl hm hh hno (fun h' tk' dx k dn dne hx' hn => hq h' tk' dx k dn dne hx' hn)
/-- self.f = p, a further field -/
theorem st_old {env : Env} {m m0 : Str → Option Value} {nl : List Str} {x t1 dx : Addr} {f p : Str} {v : Value} {p1 p2 p3 pos : Pos} {Q : Flow → Shared → Prop} (X : K.In h) (hL : h.Ns env.locals m) (hself : m "self" = some (.ref x)) (hp : m p = some v)
    (hx : h.get? x = some { cls := .ref C, dict := some dx, data := .fields #[.ref t1, .none, .none, .none, .bool false, .none] }) (hns : h.Ns1 dx m0) (hw : Within m0 nl) (hz : nl.length ≤ 1000) (hcl : clsIn K C = some cd) (hm : refsVE cd.mro = true) (hh : cd.hasDict = true)
    (sa : findIn K (.ref C) "__setattr__" = some (some (.builtin "object.__setattr__"))) (hno : findIn K (.ref C) f = some none)
    (hk : env.scope.kind = .function) (hl : env.kindOf p = some .local) (hls : env.kindOf "self" = some .local) (hd : (p == ("__debug__" : Str)) = false) (hs : swapsWith (.Name p p3) (some (.Attribute (.Name "self" p1) f p2)) pos.line env = pure false)
    (hq : ∀ h' tk', (∀ b o, b ≠ dx → h.get? b = some o → h'.get? b = some o) → h'.Ns1 dx (fun y => if y = f then some v else m0 y) → Q .next ⟨h', g, d, tk', os⟩) :
    wpAny (model prog w) A (exec (.Assign [.Attribute (.Name "self" p1) f p2] (.Name p p3) pos) env) Q E ⟨h, g, d, t, os⟩ := by
  refine plainObj_wpAny_Assign_Attribute (ESX.ldL (s := ⟨h, g, d, t, os⟩) hL hp (ESX.ldL (s := ⟨h, g, d, t, os⟩) hL hself ?_ hk hls) hk hl hd) hs
  obtain ⟨oD, _, _, hoD, _, _⟩ := hns.count hw
  refine set_plain (s := ⟨h, g, d, t, os⟩) X (ox := { cls := .ref C, dict := some dx, data := .fields #[.ref t1, .none, .none, .none, .bool false, .none] }) (od := some oD) ⟨hx, rfl, rfl, hoD⟩ sa ?_
  exact PySem.OEX.osa_old X hx hns hw hz hcl hm hh hno (fun h' tk' k hn => hq h' tk' k hn)
end
/-- what is asked of a class whose fields are set -/
structure FTxt (K : Frag) (C : Addr) (names : List Str) : Prop where
  cl : ∃ cd : ClassData, clsIn K C = some cd ∧ refsVE cd.mro = true ∧ cd.hasDict = true
  sa : findIn K (.ref C) "__setattr__" = some (some (.builtin "object.__setattr__"))
  no : ∀ f ∈ names, findIn K (.ref C) f = some none
/-- self.f = p -/
def IsF (qual : Str) (scope : Scope) (fI cda cc : Addr) (st : Stmt) (f p : Str) : Prop := ∃ a1 a2 a3 pos : Pos, st = .Assign [.Attribute (.Name "self" a1) f a2] (.Name p a3) pos ∧ scope.names.lookup p = some .local ∧ (p == ("__debug__" : Str)) = false ∧
  ∀ L : Addr, swapsWith (.Name p a3) (some (.Attribute (.Name "self" a1) f a2)) pos.line (ksEnv qual scope L fI (.ref cda) cc) = pure false
section
variable {prog : Program} {w : World} {A : Around} {E : Value → Shared → Prop} {K : Frag} {mg mb : Str → Option Value} {C fI cc cda : Addr} {B newId initId : String} {bmB : List Value} {nmC qual : Str} {params : Arguments} {first s1 s2 : Stmt} {scope : Scope}
theorem init1 {f p : Str} {u : Value} (T : ETxt prog K mg C fI cc cda B newId initId bmB nmC qual params first [s1] scope) (F : FTxt K C [f]) (i1 : IsF qual scope fI cda cc s1 f p) {R : Result → Shared → Prop} {s : Shared} {x t0 : Addr} (X : K.In s.heap) (hlim : s.heap.NoLimit)
    (hg : s.heap.Ns mainGlobals mg) (hb : s.heap.Ns builtinsNs mb) (hS : mb "super" = some (.type "super")) (hx : s.heap.get? x = some (excO C t0)) (hxK : ∀ b o, K.lookup b = some o → b ≠ x) (hroom : A.depth < recursionLimit)
    (hbind : ∀ (kV doc pm : Value) (an : Option Addr) (ct : Value), BindsTo s (ksFn "__init__" qual params [first, s1] scope .none kV doc pm an (.ref cda) ct cc) ⟨[.ref x, u], []⟩ [("self", .ref x), (p, u)])
    (hps : p ≠ "self") (hcell : ∀ z ∈ scope.names, z.2 ≠ .cell) (hco : scope.isCoroutine = false) (hgen : scope.isGenerator = false)
    (hq : ∀ h' tk t1 dx, (∀ b o, b ≠ x → s.heap.get? b = some o → h'.get? b = some o) → s.heap.objs.size ≤ dx → dx ≠ x → h'.get? x = some { cls := .ref C, dict := some dx, data := .fields #[.ref t1, .none, .none, .none, .bool false, .none] } →
      h'.Ns1 dx (fun y => if y = f then some u else none) → R (.ok (.ret .none)) { s with heap := h', toks := tk }) :
    codeAny (model prog w) A (.call (.ref fI) ⟨[.ref x, u], []⟩) R s := by
  obtain ⟨oc, od, kV, doc, pm, an, ct, osl, hf⟩ := T.fn
  obtain ⟨cd, hcl, hm, hh⟩ := F.cl
  obtain ⟨a1, a2, a3, pos, rfl, hlp, hdp, hsw⟩ := i1
  have hxC : x ≠ C := fun z => by
    obtain ⟨nm, q, N, bs, bm, sn, sub, ab, col, dd, k0, k1, k2, k3, k5, hC, hbm⟩ := T.cls
    exact hxK _ _ hC z.symm
  refine ks_codeAny_call_defAt (fd := ksFn "__init__" qual params [first, .Assign [.Attribute (.Name "self" a1) f a2] (.Name p a3) pos] scope .none kV doc pm an (.ref cda) ct cc) (body := [first, .Assign [.Attribute (.Name "self" a1) f a2] (.Name p a3) pos]) (binds := [("self", .ref x), (p, u)]) hroom (X _ _ hf) rfl hlim (codeRec_of X T.code) rfl (hbind kV doc pm an ct) hcell ?_ (fun h₁ hns hk => ?_) hco hgen T.kF
  · intro y hy
    rcases List.mem_cons.mp hy with rfl | hy
    · exact T.kSf
    · rw [List.mem_singleton.mp hy]
      exact hlp
  have hms : List.lookup ("self" : Str) [(("self" : Str), Value.ref x), (p, u)].reverse = some (.ref x) := by
    show List.lookup ("self" : Str) [(p, u), (("self" : Str), Value.ref x)] = _
    rw [List.lookup_cons, show (("self" : Str) == p) = false from beq_false_of_ne (Ne.symm hps)]
    rfl
  have hmp : List.lookup p [(("self" : Str), Value.ref x), (p, u)].reverse = some u := by
    show List.lookup p [(p, u), (("self" : Str), Value.ref x)] = _
    rw [List.lookup_cons, show (p == p) = true from beq_self_eq_true p]
  obtain ⟨hp, g, d, t, os⟩ := s
  have hLx : hp.objs.size ≠ x := (Nat.ne_of_lt (Heap.lt_size hx)).symm
  refine ks_wpAt_execs_cons ?_
  refine super_stmt (mb := mb) (m := fun y => List.lookup y [(("self" : Str), Value.ref x), (p, u)].reverse) T (X.keeps hk) (hg.keeps hk) (hb.keeps hk) hS hns hms (hk _ _ hx) hxC (fun h' tk t1 k e => ?_)
  have X' : K.In h' := fun b o l => k b o (hxK b o l) (hk _ _ (X b o l))
  have hns' : h'.Ns hp.objs.size (fun y => List.lookup y [(("self" : Str), Value.ref x), (p, u)].reverse) := hns.at fun o z => k _ _ hLx z
  refine wpAt_of_wpAny (wpAny_execs_cons ?_)
  refine st_new X' hns' hms hmp e hcl hm hh F.sa (F.no f List.mem_cons_self) T.kF hlp T.kSf hdp (hsw _) fun h2 tk2 dx k2 dn dne hx2 hn2 => ?_
  refine wpAny_execs_nil ?_
  refine hq h2 tk2 t1 dx (fun b o hb z => k2 b o hb (k b o hb (hk _ _ z))) ?_ dne hx2 hn2
  have : hp.objs.size < h'.objs.size := by
    obtain ⟨o, _, _, z, _⟩ := hns'
    exact Heap.lt_size z
  show hp.objs.size ≤ dx
  omega
theorem init2 {f1 f2 p1 p2 : Str} {u1 u2 : Value} (T : ETxt prog K mg C fI cc cda B newId initId bmB nmC qual params first [s1, s2] scope) (F : FTxt K C [f1, f2]) (i1 : IsF qual scope fI cda cc s1 f1 p1) (i2 : IsF qual scope fI cda cc s2 f2 p2) {R : Result → Shared → Prop} {s : Shared} {x t0 : Addr} (X : K.In s.heap) (hlim : s.heap.NoLimit)
    (hg : s.heap.Ns mainGlobals mg) (hb : s.heap.Ns builtinsNs mb) (hS : mb "super" = some (.type "super")) (hx : s.heap.get? x = some (excO C t0)) (hxK : ∀ b o, K.lookup b = some o → b ≠ x) (hroom : A.depth < recursionLimit)
    (hbind : ∀ (kV doc pm : Value) (an : Option Addr) (ct : Value), BindsTo s (ksFn "__init__" qual params [first, s1, s2] scope .none kV doc pm an (.ref cda) ct cc) ⟨[.ref x, u1, u2], []⟩ [("self", .ref x), (p1, u1), (p2, u2)])
    (hps : p1 ≠ "self" ∧ p2 ≠ "self" ∧ p1 ≠ p2) (hcell : ∀ z ∈ scope.names, z.2 ≠ .cell) (hco : scope.isCoroutine = false) (hgen : scope.isGenerator = false)
    (hq : ∀ h' tk t1 dx, (∀ b o, b ≠ x → s.heap.get? b = some o → h'.get? b = some o) → s.heap.objs.size ≤ dx → dx ≠ x → h'.get? x = some { cls := .ref C, dict := some dx, data := .fields #[.ref t1, .none, .none, .none, .bool false, .none] } →
      h'.Ns1 dx (fun y => if y = f2 then some u2 else if y = f1 then some u1 else none) → R (.ok (.ret .none)) { s with heap := h', toks := tk }) :
    codeAny (model prog w) A (.call (.ref fI) ⟨[.ref x, u1, u2], []⟩) R s := by
  obtain ⟨oc, od, kV, doc, pm, an, ct, osl, hf⟩ := T.fn
  obtain ⟨cd, hcl, hm, hh⟩ := F.cl
  obtain ⟨a1, a2, a3, pos, rfl, hlp, hdp, hsw⟩ := i1
  obtain ⟨b1, b2, b3, pos', rfl, hlp', hdp', hsw'⟩ := i2
  have hxC : x ≠ C := fun z => by
    obtain ⟨nm, q, N, bs, bm, sn, sub, ab, col, dd, k0, k1, k2, k3, k5, hC, hbm⟩ := T.cls
    exact hxK _ _ hC z.symm
  refine ks_codeAny_call_defAt (fd := ksFn "__init__" qual params [first, .Assign [.Attribute (.Name "self" a1) f1 a2] (.Name p1 a3) pos, .Assign [.Attribute (.Name "self" b1) f2 b2] (.Name p2 b3) pos'] scope .none kV doc pm an (.ref cda) ct cc) (body := [first, .Assign [.Attribute (.Name "self" a1) f1 a2] (.Name p1 a3) pos, .Assign [.Attribute (.Name "self" b1) f2 b2] (.Name p2 b3) pos']) (binds := [("self", .ref x), (p1, u1), (p2, u2)]) hroom (X _ _ hf) rfl hlim (codeRec_of X T.code) rfl (hbind kV doc pm an ct) hcell ?_ (fun h₁ hns hk => ?_) hco hgen T.kF
  · intro y hy
    rcases List.mem_cons.mp hy with rfl | hy
    · exact T.kSf
    · rcases List.mem_cons.mp hy with rfl | hy
      · exact hlp
      · rw [List.mem_singleton.mp hy]
        exact hlp'
  have hms : List.lookup ("self" : Str) [(("self" : Str), Value.ref x), (p1, u1), (p2, u2)].reverse = some (.ref x) := by
    show List.lookup ("self" : Str) [(p2, u2), (p1, u1), (("self" : Str), Value.ref x)] = _
    rw [List.lookup_cons, show (("self" : Str) == p2) = false from beq_false_of_ne (Ne.symm hps.2.1)]
    show List.lookup ("self" : Str) [(p1, u1), (("self" : Str), Value.ref x)] = _
    rw [List.lookup_cons, show (("self" : Str) == p1) = false from beq_false_of_ne (Ne.symm hps.1)]
    rfl
  have hmp : List.lookup p1 [(("self" : Str), Value.ref x), (p1, u1), (p2, u2)].reverse = some u1 := by
    show List.lookup p1 [(p2, u2), (p1, u1), (("self" : Str), Value.ref x)] = _
    rw [List.lookup_cons, show (p1 == p2) = false from beq_false_of_ne hps.2.2]
    show List.lookup p1 [(p1, u1), (("self" : Str), Value.ref x)] = _
    rw [List.lookup_cons, show (p1 == p1) = true from beq_self_eq_true p1]
  have hmp2 : List.lookup p2 [(("self" : Str), Value.ref x), (p1, u1), (p2, u2)].reverse = some u2 := by
    show List.lookup p2 [(p2, u2), (p1, u1), (("self" : Str), Value.ref x)] = _
    rw [List.lookup_cons, show (p2 == p2) = true from beq_self_eq_true p2]
  obtain ⟨hp, g, d, t, os⟩ := s
  have hLx : hp.objs.size ≠ x := (Nat.ne_of_lt (Heap.lt_size hx)).symm
  refine ks_wpAt_execs_cons ?_
  refine super_stmt (mb := mb) (m := fun y => List.lookup y [(("self" : Str), Value.ref x), (p1, u1), (p2, u2)].reverse) T (X.keeps hk) (hg.keeps hk) (hb.keeps hk) hS hns hms (hk _ _ hx) hxC (fun h' tk t1 k e => ?_)
  have X' : K.In h' := fun b o l => k b o (hxK b o l) (hk _ _ (X b o l))
  have hns' : h'.Ns hp.objs.size (fun y => List.lookup y [(("self" : Str), Value.ref x), (p1, u1), (p2, u2)].reverse) := hns.at fun o z => k _ _ hLx z
  have hlt : hp.objs.size < h'.objs.size := by
    obtain ⟨o, _, _, z, _⟩ := hns'
    exact Heap.lt_size z
  refine wpAt_of_wpAny (wpAny_execs_cons ?_)
  refine st_new X' hns' hms hmp e hcl hm hh F.sa (F.no f1 List.mem_cons_self) T.kF hlp T.kSf hdp (hsw _) fun h2 tk2 dx k2 dn dne hx2 hn2 => ?_
  have X2 : K.In h2 := fun b o l => k2 b o (hxK b o l) (X' b o l)
  have hns2 : h2.Ns hp.objs.size (fun y => List.lookup y [(("self" : Str), Value.ref x), (p1, u1), (p2, u2)].reverse) := hns'.at fun o z => k2 _ _ hLx z
  refine wpAny_execs_cons ?_
  refine st_old X2 hns2 hms hmp2 hx2 hn2 (Within.cons f1 u1 Within.nil) (by show 1 ≤ 1000; decide) hcl hm hh F.sa (F.no f2 (List.mem_cons_of_mem _ List.mem_cons_self)) T.kF hlp' T.kSf hdp' (hsw' _) fun h3 tk3 k3 hn3 => ?_
  refine wpAny_execs_nil ?_
  have ndx : ∀ {b : Addr} {o : Obj}, hp.get? b = some o → b ≠ dx := fun {b o} z y => by
    have := Heap.lt_size z
    rw [y] at this
    exact Nat.lt_irrefl _ (Nat.lt_of_lt_of_le this (Nat.le_trans (Nat.le_of_lt hlt) dn))
  refine hq h3 tk3 t1 dx (fun b o hb z => k3 b o (ndx z) (k2 b o hb (k b o hb (hk _ _ z)))) (by show hp.objs.size ≤ dx; omega) dne (k3 _ _ (Ne.symm dne) hx2) hn3
/-- C(u) -/
theorem made1 {f p : Str} {u : Value} (T : ETxt prog K mg C fI cc cda B newId initId bmB nmC qual params first [s1] scope) (F : FTxt K C [f]) (i1 : IsF qual scope fI cda cc s1 f p) {R : Result → Shared → Prop} {s : Shared} (X : K.In s.heap) (hlim : s.heap.NoLimit)
    (hg : s.heap.Ns mainGlobals mg) (hb : s.heap.Ns builtinsNs mb) (hS : mb "super" = some (.type "super")) (hroom : A.depth + 1 < recursionLimit)
    (hbind : ∀ (x : Addr) (s : Shared) (kV doc pm : Value) (an : Option Addr) (ct : Value), BindsTo s (ksFn "__init__" qual params [first, s1] scope .none kV doc pm an (.ref cda) ct cc) ⟨[.ref x, u], []⟩ [("self", .ref x), (p, u)])
    (hps : p ≠ "self") (hcell : ∀ z ∈ scope.names, z.2 ≠ .cell) (hco : scope.isCoroutine = false) (hgen : scope.isGenerator = false)
    (hq : ∀ h' tk t1 dx, (∀ b o, s.heap.get? b = some o → h'.get? b = some o) → s.heap.objs.size ≤ dx → dx ≠ s.heap.objs.size + 1 → h'.get? (s.heap.objs.size + 1) = some { cls := .ref C, dict := some dx, data := .fields #[.ref t1, .none, .none, .none, .bool false, .none] } →
      h'.Ns1 dx (fun y => if y = f then some u else none) → R (.ok (.ret (.ref (s.heap.objs.size + 1)))) { s with heap := h', toks := tk }) :
    codeAny (model prog w) A (.call (.ref C) ⟨[u], []⟩) R s := by
  obtain ⟨nm, q, N, bs, bm, sn, sub, ab, col, dd, k0, k1, k2, k3, k5, hC, hbm⟩ := T.cls
  obtain ⟨hp, g, dr, tk, os⟩ := s
  have k : ∀ b o, hp.get? b = some o → ((hp.push (kdv_tup [u])).push (excO C hp.objs.size)).get? b = some o := fun b o e => Heap.get?_push_of_some _ (Heap.get?_push_of_some _ e)
  have hget : ((hp.push (kdv_tup [u])).push (excO C hp.objs.size)).get? (hp.objs.size + 1) = some (excO C hp.objs.size) := by heap_get
  have hne : ∀ {b : Addr} {o : Obj}, hp.get? b = some o → b ≠ hp.objs.size + 1 := fun {b o} z y => by
    have := Heap.lt_size z
    rw [y] at this
    exact absurd this (by show ¬ (hp.objs.size + 1 < hp.objs.size); omega)
  refine call_own T.base hbm (X _ _ hC) (looks_findIn X T.iC) (fun self => bind_fn X self T.tI) (by rw [sizeLine_eq]; exact (by decide : 1 ≤ 16777216)) ?_
  refine init1 (mb := mb) (s := ⟨(hp.push (kdv_tup [u])).push (excO C hp.objs.size), g, dr, tk, os⟩) T F i1 (X.keeps k) (hlim.keeps k) (hg.keeps k) (hb.keeps k) hS hget (fun b o l => hne (X b o l)) ?_ (hbind _ _) hps hcell hco hgen fun h' tk' t1 dx k' hdx ndx e hn => ?_
  · show A.depth + 1 < recursionLimit
    exact hroom
  · refine ⟨rfl, hq h' tk' t1 dx (fun b o z => k' b o (hne z) (k b o z)) ?_ ndx e hn⟩
    have : hp.objs.size + 2 ≤ dx := by
      have z : ((hp.push (kdv_tup [u])).push (excO C hp.objs.size)).objs.size = hp.objs.size + 2 := by simp [Heap.push]
      rw [← z]
      exact hdx
    show hp.objs.size ≤ dx
    omega
/-- C(u1, u2) -/
theorem made2 {f1 f2 p1 p2 : Str} {u1 u2 : Value} (T : ETxt prog K mg C fI cc cda B newId initId bmB nmC qual params first [s1, s2] scope) (F : FTxt K C [f1, f2]) (i1 : IsF qual scope fI cda cc s1 f1 p1) (i2 : IsF qual scope fI cda cc s2 f2 p2) {R : Result → Shared → Prop} {s : Shared} (X : K.In s.heap) (hlim : s.heap.NoLimit)
    (hg : s.heap.Ns mainGlobals mg) (hb : s.heap.Ns builtinsNs mb) (hS : mb "super" = some (.type "super")) (hroom : A.depth + 1 < recursionLimit)
    (hbind : ∀ (x : Addr) (s : Shared) (kV doc pm : Value) (an : Option Addr) (ct : Value), BindsTo s (ksFn "__init__" qual params [first, s1, s2] scope .none kV doc pm an (.ref cda) ct cc) ⟨[.ref x, u1, u2], []⟩ [("self", .ref x), (p1, u1), (p2, u2)])
    (hps : p1 ≠ "self" ∧ p2 ≠ "self" ∧ p1 ≠ p2) (hcell : ∀ z ∈ scope.names, z.2 ≠ .cell) (hco : scope.isCoroutine = false) (hgen : scope.isGenerator = false)
    (hq : ∀ h' tk t1 dx, (∀ b o, s.heap.get? b = some o → h'.get? b = some o) → s.heap.objs.size ≤ dx → dx ≠ s.heap.objs.size + 1 → h'.get? (s.heap.objs.size + 1) = some { cls := .ref C, dict := some dx, data := .fields #[.ref t1, .none, .none, .none, .bool false, .none] } →
      h'.Ns1 dx (fun y => if y = f2 then some u2 else if y = f1 then some u1 else none) → R (.ok (.ret (.ref (s.heap.objs.size + 1)))) { s with heap := h', toks := tk }) :
    codeAny (model prog w) A (.call (.ref C) ⟨[u1, u2], []⟩) R s := by
  obtain ⟨nm, q, N, bs, bm, sn, sub, ab, col, dd, k0, k1, k2, k3, k5, hC, hbm⟩ := T.cls
  obtain ⟨hp, g, dr, tk, os⟩ := s
  have k : ∀ b o, hp.get? b = some o → ((hp.push (kdv_tup [u1, u2])).push (excO C hp.objs.size)).get? b = some o := fun b o e => Heap.get?_push_of_some _ (Heap.get?_push_of_some _ e)
  have hget : ((hp.push (kdv_tup [u1, u2])).push (excO C hp.objs.size)).get? (hp.objs.size + 1) = some (excO C hp.objs.size) := by heap_get
  have hne : ∀ {b : Addr} {o : Obj}, hp.get? b = some o → b ≠ hp.objs.size + 1 := fun {b o} z y => by
    have := Heap.lt_size z
    rw [y] at this
    exact absurd this (by show ¬ (hp.objs.size + 1 < hp.objs.size); omega)
  refine call_own T.base hbm (X _ _ hC) (looks_findIn X T.iC) (fun self => bind_fn X self T.tI) (by rw [sizeLine_eq]; exact (by decide : 2 ≤ 16777216)) ?_
  refine init2 (mb := mb) (s := ⟨(hp.push (kdv_tup [u1, u2])).push (excO C hp.objs.size), g, dr, tk, os⟩) T F i1 i2 (X.keeps k) (hlim.keeps k) (hg.keeps k) (hb.keeps k) hS hget (fun b o l => hne (X b o l)) ?_ (hbind _ _) hps hcell hco hgen fun h' tk' t1 dx k' hdx ndx e hn => ?_
  · show A.depth + 1 < recursionLimit
    exact hroom
  · refine ⟨rfl, hq h' tk' t1 dx (fun b o z => k' b o (hne z) (k b o z)) ?_ ndx e hn⟩
    have : hp.objs.size + 2 ≤ dx := by
      have z : ((hp.push (kdv_tup [u1, u2])).push (excO C hp.objs.size)).objs.size = hp.objs.size + 2 := by simp [Heap.push]
      rw [← z]
      exact hdx
    show hp.objs.size ≤ dx
    omega
end
end BX
end PySem
namespace L2
open PySem PySem.Spec PyProof.Rows
/-- C(e) -/
def tMk1 (C : Addr) (f : Str) (ta : TA) : St → Hp → XK → Prop := fun σ H Q => ta σ H fun vs H1 => ∃ y, vs = [y] ∧ ∀ dx, H1 dx = none → Q (.ref C) (some dx) (upd H1 dx (.xd [(f, y)]))
/-- C(e1, e2) -/
def tMk2 (C : Addr) (f1 f2 : Str) (ta : TA) : St → Hp → XK → Prop := fun σ H Q => ta σ H fun vs H1 => ∃ y1 y2, vs = [y1, y2] ∧ ∀ dx, H1 dx = none → Q (.ref C) (some dx) (upd H1 dx (.xd [(f2, y2), (f1, y1)]))
section
variable {X : Cx} {C fI cc cda : Addr} {B newId initId : String} {bmB : List Value} {nmC qual : Str} {params : Arguments} {first s1 s2 : Stmt} {scope : Scope} {p pos : Pos} {k : Nat} {ta : TA}
theorem mk_fin {pins : List (Addr × Obj)} {σ : St} {H : Hp} {Q : XK} {hp h' : Heap} {gg : Array GenState} {dr : Drawn} {tk tk' : Nat} {os : OsState} {t1 dx : Addr} {fs : List (Str × V)} {mA : Str → Option Value} (I : Inv X pins σ H ⟨hp, gg, dr, tk, os⟩) (r : Raises X (.ref C))
    (kp : ∀ b o, hp.get? b = some o → h'.get? b = some o) (hdx : hp.objs.size ≤ dx) (ndx : dx ≠ hp.objs.size + 1) (e : h'.get? (hp.objs.size + 1) = some ({ cls := .ref C, dict := some dx, data := .fields #[.ref t1, .none, .none, .none, .bool false, .none] } : Obj)) (hn : h'.Ns1 dx mA) (rel : ∀ f, RelO (fs.lookup f) (mA f))
    (q : Q (.ref C) (some dx) (upd H dx (.xd fs))) : MkP X pins σ Q (.ref (hp.objs.size + 1)) ⟨h', gg, dr, tk', os⟩ := by
  obtain ⟨G', g1, g2⟩ := restrict h' fun b => decide (b ≠ hp.objs.size + 1)
  have gk : ∀ b, b ≠ hp.objs.size + 1 → G'.get? b = h'.get? b := fun b hb => g1 b (decide_eq_true hb)
  have ge : G'.get? (hp.objs.size + 1) = none := g2 _ (by simp)
  have old : ∀ b o, hp.get? b = some o → G'.get? b = some o := fun b o q => (gk b (Nat.ne_of_lt (Nat.lt_succ_of_lt (Heap.lt_size q)))).trans (kp b o q)
  have J : Inv X pins σ (upd H dx (.xd fs)) ⟨G', gg, dr, tk', os⟩ := I.laid (t' := tk') old hdx ⟨mA, hn.at fun o y => (gk dx ndx).trans y, rel⟩
  refine ⟨hp.objs.size + 1, _, _, ⟨G', gg, dr, tk', os⟩, _, .ref C, some dx, rfl, J, fun b o q => ?_, ge, e, ⟨rfl, rfl⟩, rfl, rfl, ?_, rfl, I.bare, r, q⟩
  · by_cases hb : b = hp.objs.size + 1
    · have q' : G'.get? b = some o := q
      rw [hb, ge] at q'; cases q'
    · exact (gk b hb).symm.trans q
  · rw [upd_ne (Ne.symm ndx)]
    exact I.hok.fresh (Nat.le_succ _)
theorem pmk_e1 {f pn : Str} {e : Expr} (T : PySem.BX.ETxt X.prog X.K X.mg C fI cc cda B newId initId bmB nmC qual params first [s1] scope) (F : PySem.BX.FTxt X.K C [f]) (i1 : PySem.BX.IsF qual scope fI cda cc s1 f pn) (hr : Room k X.A) (hg : Gl X nmC)
    (hbind : ∀ (u : Value) (x : Addr) (s : Shared) (kV doc pm : Value) (an : Option Addr) (ct : Value), BindsTo s (PySem.W.ksFn "__init__" qual params [first, s1] scope .none kV doc pm an (.ref cda) ct cc) ⟨[.ref x, u], []⟩ [("self", .ref x), (pn, u)])
    (hps : pn ≠ "self") (hcell : ∀ z ∈ scope.names, z.2 ≠ .cell) (hco : scope.isCoroutine = false) (hgen : scope.isGenerator = false) (ha : PA X [e] ta) (hdb : (nmC == ("__debug__" : Str)) = false := by decide)
    (he : starEach [e] X.env = (false, eval e X.env) :: starEach [] X.env := by rfl) (hpl : (backTo pos (starEach [] X.env)).any (·.1) = false := by rfl) :
    PMk X (.Call (.Name nmC p) [e] [] pos) (tMk1 C f ta) := by
  intro pins s σ H Q I h
  refine wpAny_Call_Name_kw (ld_glob I hg T.gC ?_ hdb)
  refine PySem.W.callWith_K (h₀ := X.base) I.ok.mod.kin T.kC (thn (ha.run pos pins s σ H _ I h) fun us s1 ⟨vs, H1, I1, r1, y, ev, q1⟩ => ⟨I1.kIn, ?_⟩) he hpl
  subst ev
  cases r1 with
  | @cons _ u _ ur ry rr =>
    cases rr
    show wpAny _ _ (call (.ref C) [u]) _ _ _
    have hlim := I1.nolimit
    obtain ⟨mb, hb1, hb2⟩ := I1.mod.blt
    have hbS : mb "super" = some (.type "super") := (hb2 _ (by decide)).trans (by first | rfl | decide +kernel)
    obtain ⟨hp, gg, dr, tk, os⟩ := s1
    refine wpAny_call (PySem.BX.made1 (mb := mb) T F i1 I1.kIn hlim (I1.mod.glob.keeps I1.bk) (hb1.keeps I1.bk) hbS (by have := hr.dp; omega) (hbind u) hps hcell hco hgen fun h' tk' t1 dx kp hdx ndx e hn => ?_)
    exact mk_fin I1 (raises_own T.exC T.tyC) kp hdx ndx e hn (relO_put (fs := []) ry fun g => True.intro) (q1 dx (I1.hok.fresh hdx))
theorem pmk_e2 {f1 f2 p1 p2 : Str} {e e' : Expr} (T : PySem.BX.ETxt X.prog X.K X.mg C fI cc cda B newId initId bmB nmC qual params first [s1, s2] scope) (F : PySem.BX.FTxt X.K C [f1, f2]) (i1 : PySem.BX.IsF qual scope fI cda cc s1 f1 p1) (i2 : PySem.BX.IsF qual scope fI cda cc s2 f2 p2) (hr : Room k X.A) (hg : Gl X nmC)
    (hbind : ∀ (u1 u2 : Value) (x : Addr) (s : Shared) (kV doc pm : Value) (an : Option Addr) (ct : Value), BindsTo s (PySem.W.ksFn "__init__" qual params [first, s1, s2] scope .none kV doc pm an (.ref cda) ct cc) ⟨[.ref x, u1, u2], []⟩ [("self", .ref x), (p1, u1), (p2, u2)])
    (hps : p1 ≠ "self" ∧ p2 ≠ "self" ∧ p1 ≠ p2) (hcell : ∀ z ∈ scope.names, z.2 ≠ .cell) (hco : scope.isCoroutine = false) (hgen : scope.isGenerator = false) (ha : PA X [e, e'] ta) (hdb : (nmC == ("__debug__" : Str)) = false := by decide)
    (he : starEach [e, e'] X.env = (false, eval e X.env) :: starEach [e'] X.env := by rfl) (hpl : (backTo pos (starEach [e'] X.env)).any (·.1) = false := by rfl) :
    PMk X (.Call (.Name nmC p) [e, e'] [] pos) (tMk2 C f1 f2 ta) := by
  intro pins s σ H Q I h
  refine wpAny_Call_Name_kw (ld_glob I hg T.gC ?_ hdb)
  refine PySem.W.callWith_K (h₀ := X.base) I.ok.mod.kin T.kC (thn (ha.run pos pins s σ H _ I h) fun us s1 ⟨vs, H1, I1, r1, y1, y2, ev, q1⟩ => ⟨I1.kIn, ?_⟩) he hpl
  subst ev
  cases r1 with
  | @cons _ u _ ur ry rr =>
    cases rr with
    | @cons _ u2 _ ur2 ry2 rr2 =>
      cases rr2
      show wpAny _ _ (call (.ref C) [u, u2]) _ _ _
      have hlim := I1.nolimit
      obtain ⟨mb, hb1, hb2⟩ := I1.mod.blt
      have hbS : mb "super" = some (.type "super") := (hb2 _ (by decide)).trans (by first | rfl | decide +kernel)
      obtain ⟨hp, gg, dr, tk, os⟩ := s1
      refine wpAny_call (PySem.BX.made2 (mb := mb) T F i1 i2 I1.kIn hlim (I1.mod.glob.keeps I1.bk) (hb1.keeps I1.bk) hbS (by have := hr.dp; omega) (hbind u u2) hps hcell hco hgen fun h' tk' t1 dx kp hdx ndx e hn => ?_)
      exact mk_fin I1 (raises_own T.exC T.tyC) kp hdx ndx e hn (relO_put ry2 (relO_put (fs := []) ry fun g => True.intro)) (q1 dx (I1.hok.fresh hdx))
end
end L2
set_option Elab.async false
set_option linter.all false
set_option maxRecDepth 100000
set_option maxHeartbeats 4000000
namespace BI
open PySem PySem.W PySem.Spec PySem.Calls PyProof.Rows L2
section
variable {prog : Program} {w : World} {A : Around} {E : Value → Shared → Prop} {s : Shared} {K : Frag} {x D : Addr} {ob : Obj} {own : Option Obj}
theorem find_data {name : Str} {a g : Value} (isc : (clsIn K D).isSome = true) (at' : findIn K (.ref D) name = some (some a)) (ge : specialIn K a "__get__" = some (some g)) (tk : takesIn K a = some true) : findObj K D own name = some (.bind g a) := by
  obtain ⟨cd, e⟩ := Option.isSome_iff_exists.mp isc
  unfold findObj
  rw [e, Option.bind_some, at', Option.bind_some]
  simp [ge, tk]
/-- e.__class__, e with fields or without -/
theorem class_of {Q : Option Value → Shared → Prop} (Z : ExcC K D) (kin : K.In s.heap) (at' : InstAt s.heap x ob D own) (hq : Q (some (.ref D)) { s with toks := s.toks + 1 }) : wpAny (model prog w) A (getAttr? (.ref x) "__class__") Q E s := by
  have fo : findObj K D own "__class__" = some (.bind (.builtin "getset_descriptor.__get__") (.builtin "object.__class__")) := find_data (by obtain ⟨cd, e, _⟩ := any_some Z.hd; rw [e]; rfl) Z.ha Z.hn Z.ht
  obtain ⟨hp, g, d, t, os⟩ := s
  have l0 := at'.type (M := model prog w)
  have l1 := looks_findIn (M := model prog w) kin Z.hg
  have l2 := looks_findIn (M := model prog w) kin Z.hk
  have l3 := looks_find (M := model prog w) kin at' fo
  have isb : Looks (model prog w) hp (isInstance (.ref x) (.type "BaseException")) true := l0.andThen (looks_subIn kin Z.hs)
  have n2 : (Value.builtin "BaseException.__getattribute__" == Value.builtin "object.__getattribute__") = false := by decide +kernel
  have n1 : (onTheHeap (Value.ref D) && Value.builtin "BaseException.__getattribute__" == Value.builtin "object.__getattribute__") = false := by rw [n2]; rfl
  have n0 : (false && onTheHeap (Value.builtin "BaseException.__getattribute__")) = false := rfl
  unfold getAttr? getAttrBy? getAttrBy
  refine wpAny_bind (wpAny_mkText (wpAny_bind (wpAny_attempt (wpAny_holding (wpAny_bind (l0.at (wpAny_bind (l1.at ?_))))))))
  show wpAny _ _ (if (onTheHeap (Value.ref D) && Value.builtin "BaseException.__getattribute__" == Value.builtin "object.__getattribute__") = true then _ else _) _ _ _
  rw [n1, if_neg Bool.false_ne_true]
  unfold getAttrByItsOwn hookBefore
  refine wpAny_bind ?_
  rw [if_pos (show onTheHeap (Value.ref D) = true from rfl)]
  refine l2.at (wpAny_bind (wpAny_attempt (wpAny_holding ?_)))
  unfold callGetattribute
  rw [n0, if_neg Bool.false_ne_true]
  unfold boundAndCalled
  rw [PySem.F.excAttr_ValueError.ga.bind (.ref x)]
  refine wpAny_bind (wpAny_pure ?_)
  show wpAny _ _ (call (.builtin "BaseException.__getattribute__") [.ref x, .str "__class__" t]) _ _ _
  refine wpAny_call (codeAny_call_builtin PySem.F.excAttr_ValueError.ga.plain PySem.F.entry_bexc_ga ?_)
  refine @check_slot (model prog w) _ _ ⟨hp, g, d, t + 1, os⟩ "BaseException.__getattribute__" "BaseException" "__getattribute__" (.ref x) [.str "__class__" t] [] _ (by decide +kernel) (by decide +kernel) isb (PySem.F.args_bexc_ga (.ref x) (.str "__class__" t)) ?_
  unfold Builtin.«object.__getattribute__»
  refine wpAny_bind (wpAny_of_eq (a := ((Value.ref x : Value), [Value.str "__class__" t])) (by first | rfl | (simp only [slotArgs]; rfl)) ?_)
  refine wpAny_bind (wpAny_pure (wpAny_bind (l0.at (wpAny_bind (l3.at ?_)))))
  show wpAny _ _ (holding [Value.builtin "object.__class__"] (call (.builtin "getset_descriptor.__get__") [.builtin "object.__class__", .ref x, .ref D]) >>= ret) _ _ _
  refine wpAny_bind (wpAny_holding (wpAny_call (class_get (s := ⟨hp, g, d, t + 1, os⟩) (ox := ob) (od := own) kin at' Z.hm ?_)))
  refine wpAny_pure ?_
  show wpAny _ _ (handedOut (.ref D)) _ _ _
  rw [handedOut_of (v := .ref D) rfl]
  first
    | exact wpAny_pure (wpAny_pure hq)
    | exact wpAny_pure hq
    | exact wpAny_pure (wpAny_bind (wpAny_pure (wpAny_pure hq)))
theorem kitx (Z : ExcC K D) : KitX K (.ref x) (.ref D) (fun h => InstAt h x ob D own) where
  ty := fun _ _ _ at' => at'.type
  it := fun _ _ kin _ => by
    obtain ⟨cd, e, _⟩ := any_some Z.hd
    unfold clsIn at e
    split at e
    · rename_i c' d' cd' sl' ho
      intro A' Q' E' s' k q
      unfold isType loadHead
      exact wpAny_bind (wpAny_loadPart (k _ _ (kin _ _ ho)) (wpAny_pure q))
    · cases e
  ne := fun h tp dd its n sl kin htp => by
    obtain ⟨cd, e, _⟩ := any_some Z.hd
    refine Bool.eq_false_iff.mpr fun q => ?_
    have e1 : D = tp := Value.ref.inj (beq_iff_eq.mp q)
    subst e1
    unfold clsIn at e
    split at e
    · rename_i c' d' cd' sl' ho
      have z := (kin _ _ ho).symm.trans htp
      cases z
    · cases e
  ca := fun kin at' k => class_of Z kin at' k
end
/-- isinstance(e, c): e the exception that the suite holds, of class D -/
def rF (K : Frag) (D a : Addr) (cls : Value) (d : Option Addr) : List V → Hp → VK → Prop := fun xs H Q => ∃ (c : V) (cv : Value) (b : Bool) (dd : Addr) (fs : List (Str × V)), cls = .ref D ∧ d = some dd ∧ H dd = some (.xd fs) ∧ xs = [.ref a, c] ∧ (∀ u, RelV c u → u = cv) ∧ kitOne K (.ref D) cv = some b ∧ Q (.bl b) H
/-- isinstance(e, (c, ..)) -/
def rFT (K : Frag) (D a : Addr) (cls : Value) (d : Option Addr) : List V → Hp → VK → Prop := fun xs H Q => ∃ (tp : Addr) (cs : List V) (ws : List Value) (b : Bool) (dd : Addr) (fs : List (Str × V)), cls = .ref D ∧ d = some dd ∧ H dd = some (.xd fs) ∧ xs = [.ref a, .ref tp] ∧ H tp = some (.tup cs) ∧ Paired (fun c cv => ∀ u, RelV c u → u = cv) cs ws ∧ kitAny K (.ref D) ws = some b ∧ Q (.bl b) H
theorem vals_all : ∀ {cs : List V} {ws us : List Value}, Paired (fun c cv => ∀ u, RelV c u → u = cv) cs ws → Vals cs us → us = ws
  | _, _, _, .nil, .nil => rfl
  | _, _, _, .cons r t, .cons r' t' => by rw [r _ r', vals_all t t']
section
variable {X : Cx} {a D : Addr} {oe : Obj} {cls : Value} {d : Option Addr} {pn : List (Addr × Obj)}
theorem inst_at {pins : List (Addr × Obj)} {s : Shared} {σ : L2.St} {H : Hp} {dd : Addr} {fs : List (Str × V)} (I : Inv (X.suite a ((a, oe) :: pn)) pins σ H s) (hz : Zc (.ref D) (some dd) oe) (hf : ∃ vs, oe.data = .fields vs) (ed : H dd = some (.xd fs)) : ∃ od, InstAt s.heap a oe D (some od) := by
  obtain ⟨hget, _⟩ := I.pin (a, oe) (List.mem_append.mpr (.inl List.mem_cons_self))
  obtain ⟨vs, hv⟩ := hf
  have hx : ObjOk X.prog X.w H s.heap dd (.xd fs) := I.hok dd _ ed
  obtain ⟨mA, hns, hr⟩ := hx
  obtain ⟨od, ho, hl⟩ := lookIn_ns hns
  exact ⟨od, hget, hz.1, by unfold notCls; rw [hv] <;> rfl, by rw [hz.2]; exact ho⟩
theorem call_F (Z : ExcC X.K D) (hz : Zc cls d oe) (hf : ∃ vs, oe.data = .fields vs) : CallR (X.suite a ((a, oe) :: pn)) (.builtin "isinstance") (rF X.K D a cls d) := by
  intro pins s σ H xs us Q I r h
  obtain ⟨c, cv, b, dd, fs, rfl, rfl, ed, rfl, hcv, e, q⟩ := h
  cases r with
  | cons rx rr =>
    cases rr with
    | cons rt rr =>
      cases rr
      cases rx
      have ec := hcv _ rt
      subst ec
      obtain ⟨od, J⟩ := inst_at I hz hf ed
      exact kia_one (kitx Z) I.kIn J e (fun z => nomatch z) fun tk => ⟨.bl b, H, I.kept (t' := tk) fun _ _ z => z, rfl, q⟩
theorem call_FT (Z : ExcC X.K D) (hz : Zc cls d oe) (hf : ∃ vs, oe.data = .fields vs) : CallR (X.suite a ((a, oe) :: pn)) (.builtin "isinstance") (rFT X.K D a cls d) := by
  intro pins s σ H xs us Q I r h
  obtain ⟨tp, cs, ws, b, dd, fs, rfl, rfl, ed, rfl, hT, hcs, e, q⟩ := h
  cases r with
  | cons rx rr =>
    cases rr with
    | cons rt rr =>
      cases rr
      cases rx
      cases rt
      obtain ⟨od, J⟩ := inst_at I hz hf ed
      have hx : ObjOk X.prog X.w H s.heap tp (.tup cs) := I.hok tp _ hT
      obtain ⟨_, its, rv, o, h1, h2, n, h3⟩ := hx
      have e3 := vals_all hcs rv
      subst e3
      obtain ⟨oc, od', dt, sl⟩ := o
      simp only at h2 h3
      subst h2 h3
      exact kia_tup (kitx Z) I.kIn J h1 e (fun z => nomatch z) fun tk => ⟨.bl b, H, I.kept (t' := tk) fun _ _ z => z, rfl, q⟩
end
end BI
set_option Elab.async false
set_option linter.all false
set_option maxRecDepth 100000
set_option maxHeartbeats 4000000
namespace B2
open PySem PySem.W PySem.Spec PySem.Calls PyProof.Rows L2
theorem CallR.or {X : Cx} {f : Value} {r1 r2 : List V → Hp → VK → Prop} (h1 : CallR X f r1) (h2 : CallR X f r2) : CallR X f (fun xs H Q => r1 xs H Q ∨ r2 xs H Q) := by
  intro pins s σ H xs us Q I r h
  rcases h with h | h
  · exact h1 pins s σ H xs us Q I r h
  · exact h2 pins s σ H xs us Q I r h
section
variable {X : Cx} {a D1 D2 : Addr} {oe : Obj} {cls : Value} {d : Option Addr} {pn : List (Addr × Obj)}
theorem call_F2 (Z1 : ExcC X.K D1) (Z2 : ExcC X.K D2) (hz : Zc cls d oe) (hf : ∃ vs, oe.data = .fields vs) : CallR (X.suite a ((a, oe) :: pn)) (.builtin "isinstance") (fun xs H Q => BI.rF X.K D1 a cls d xs H Q ∨ BI.rF X.K D2 a cls d xs H Q) := CallR.or (BI.call_F Z1 hz hf) (BI.call_F Z2 hz hf)
theorem call_FT2 (Z1 : ExcC X.K D1) (Z2 : ExcC X.K D2) (hz : Zc cls d oe) (hf : ∃ vs, oe.data = .fields vs) : CallR (X.suite a ((a, oe) :: pn)) (.builtin "isinstance") (fun xs H Q => BI.rFT X.K D1 a cls d xs H Q ∨ BI.rFT X.K D2 a cls d xs H Q) := CallR.or (BI.call_FT Z1 hz hf) (BI.call_FT Z2 hz hf)
end
theorem op_eqDK {X : Cx} (K : PySem.W.Frag) (hu : X.A.units + 64 < cLine) (hK : X.K = K := by rfl) : OpR X (compareOp .Eq) (rEqD K) := by
  subst hK
  exact op_eqD hu
/-- sep.join(e), K handed in -/
def rJn (K : PySem.W.Frag) : V → List V → Hp → VK → Prop := fun x xs H Q => ∃ a p, ∃ ys : List Str, x = .str a ∧ xs = [.ref p] ∧ (SqL K H p (ys.map V.str) ∨ SqT K H p (ys.map V.str)) ∧
      (ys.map (·.length)).sum + ys.length * a.length ≤ 16777216 ∧ Q (.str (Txt.join a ys)) H
section
variable {X : Cx} {o e : Expr} {to te : TE}
theorem pe_joinK {apos pos : Pos} (K : PySem.W.Frag) (ho : PE X o to) (he : PE X e te) (hs : starEach [e] X.env = [(false, eval e X.env)] := by rfl) (hbase : attributeBase o "join" X.env (eval o X.env) = eval o X.env := by rfl) (hline : (apos.endLine == pos.line) = true := by rfl) (hK : X.K = K := by rfl) :
    PE X (.Call (.Attribute o "join" apos) [e] [] pos) (tM1 (rJn K) to te) := by
  subst hK
  exact pe_join ho he hs hbase hline
/-- [c + f, ..]: behind the written text a token is out -/
theorem pa_consC {es : List Expr} {f : Expr} {c : Str} {j : Nat} {cp bp : Pos} {op : Operator} {r : R2} {tf : TE} {ta : TA} (ho : OpR X (binaryOp op) r) (hf : PE X f tf) (hr : PAT X es ta)
    (hs : starEach (.BinOp (.Constant (.str c) j cp) op f bp :: es) X.env = (false, eval (.BinOp (.Constant (.str c) j cp) op f bp) X.env) :: starEach es X.env := by rfl) : PA X (.BinOp (.Constant (.str c) j cp) op f bp :: es) (tCons (tOp r (tC (.str c)) tf) ta) := by
  refine ⟨fun pos pins s σ H Q I h => ?_⟩
  rw [hs]
  show wpAny _ _ (spliced ((false, eval (.BinOp (.Constant (.str c) j cp) op f bp) X.env) :: backTo pos (starEach es X.env))) _ _ s
  refine Calls.spliced_cons (wpAny_BinOp (Calls.Constant_str ?_))
  have I0 : Inv X pins σ H { s with toks := s.toks + 1 } := I.tok _
  refine wpAny_mono (PySem.wpAny_toks (hf.run pins { s with toks := s.toks + 1 } σ H _ I0 h)) (fun v s1 q => ?_) fun _ _ z => z.2
  obtain ⟨hk, y, H1, I1, r1, q1⟩ := q
  refine wpAny_mono (PySem.wpAny_toks (ho pins s1 σ H1 (.str c) y (.str c s.toks) v _ I1 ⟨_, rfl⟩ r1 q1)) (fun u s2 q => ?_) fun _ _ z => z.2
  obtain ⟨hk2, x, H2, I2, r2, q2⟩ := q
  have h1 : 1 ≤ s2.toks := by
    have : s.toks + 1 ≤ s1.toks := hk
    omega
  exact thn (hr pos pins s2 σ H2 _ h1 I2 q2) fun us s3 ⟨xs, H3, I3, r3, q3⟩ => ⟨x :: xs, H3, I3, .cons r2 r3, q3⟩
end
end B2
set_option Elab.async false
set_option linter.all false
set_option maxRecDepth 100000
set_option maxHeartbeats 4000000
namespace BO
open PySem PySem.Spec PyProof.Rows L2
theorem tuple_one (l : Addr) (items : Array Value) (n : Nat) (dd : Option Addr) (sl : Array (Option Value)) (u : Tok) (c1 : (items.isEmpty || (1 : Int) == 1) = true) :
    Meets (Builtin.«tuple.__mul__» ⟨[.ref l, .int 1 u], []⟩) (fun _ R s => s.heap.get? l = some { cls := .type "tuple", dict := dd, data := .seq items n, slots := sl } ∧ R (.ok (.ret (Value.ref l))) s) :=
  .of_wp fun prog w A R s h => by
    obtain ⟨hp, g, d, tk, os⟩ := s
    obtain ⟨hl, h⟩ := h
    have f1 := AutoSeq1.idx_int
    wp_walk using wpAny_loadPart' hl
    exact ⟨_, rfl, h⟩
theorem tuple_zero (l : Addr) (items : Array Value) (n : Nat) (dd : Option Addr) (sl : Array (Option Value)) (u : Tok) (c1 : (items.isEmpty || (0 : Int) == 1) = false) :
    Meets (Builtin.«tuple.__mul__» ⟨[.ref l, .int 0 u], []⟩) (fun _ R s => s.heap.get? l = some { cls := .type "tuple", dict := dd, data := .seq items n, slots := sl } ∧
      R (.ok (.ret (Value.ref s.heap.objs.size))) { s with heap := s.heap.push { cls := Value.type "tuple", data := Data.seq #[] }, toks := s.toks }) :=
  .of_wp fun prog w A R s h => by
    obtain ⟨hp, g, d, tk, os⟩ := s
    obtain ⟨hl, h⟩ := h
    have f1 := AutoSeq1.idx_int
    wp_walk using wpAny_loadPart' hl
    repeat (first
      | (refine wpAny_ite_false (decide_eq_false (by rw [c1]; exact Bool.false_ne_true)) ?_; wp_walk using wpAny_loadPart' hl))
    exact ⟨_, rfl, h⟩
/-- t * 0, t * 1, t not empty -/
def rRep01 (K : PySem.W.Frag) : R2 := fun x y H Q => ∃ l k xs, x = .ref l ∧ y = .int k ∧ SqT K H l xs ∧ xs ≠ [] ∧ ((k = 1 ∧ Q (.ref l) H) ∨ (k = 0 ∧ ∀ p, H p = none → Q (.ref p) (upd H p (.tup []))))
/-- z * n -/
def repS (z : Str) (n : Nat) : Str := if n = 1 then z else ⟨(List.replicate n z.cps).foldl (· ++ ·) #[]⟩
def rRepS : R2 := fun x y H Q => ∃ (z : Str) (n : Nat), x = .str z ∧ y = .int (n : Int) ∧ 1 ≤ n ∧ n ≤ 100 ∧ 1 ≤ z.length ∧ z.length ≤ 100 ∧ Q (.str (repS z n)) H
section
variable {X : Cx}
theorem op_rep01 : OpR X (binaryOp .Mult) (rRep01 X.K) := by
  intro pins s σ H x y v u Q I rx ry h
  obtain ⟨l, k, xs, rfl, rfl, hT, hne, q⟩ := h
  cases rx
  obtain ⟨t, rfl⟩ := ry
  obtain ⟨its, r, ⟨⟨cls, dd, data, sl⟩, ho, hc, n, hd⟩, hs⟩ := I.tuple hT
  simp only at hc hd
  subst hc hd
  have hi : its.toArray.isEmpty = false := by
    cases its with
    | nil =>
      cases r
      exact absurd rfl hne
    | cons a b => rfl
  rcases q with ⟨rfl, q⟩ | ⟨rfl, q⟩
  · refine wpAny_binaryOp_repeat_ref (T := "tuple") (U := "int") (by decide) ⟨_, ho, rfl⟩ (fun s' => typeIs_int s' 1 t) noFill_tuple_mul F.fills_int_mul F.slot_int_rmul repeat_tuple F.slot_int_index.lookup
      (call_meets F.slot_int_rmul (typeIs_int s 1 t) F.entry_int_rmul (F.args_int_rmul_2 _ _) (int_rmul_tuple 1 t l its.toArray n dd sl)
        ⟨ho, rfl, ⟨_, ho, rfl⟩, call_meets F.slot_tuple_mul ⟨_, ho, rfl⟩ F.entry_tuple_mul (F.args_tuple_mul_2 _ _) (tuple_one l its.toArray n dd sl t (by rw [hi]; rfl)) ⟨ho, ?_⟩⟩)
    exact ⟨.ref l, H, I, rfl, q⟩
  · refine wpAny_binaryOp_repeat_ref (T := "tuple") (U := "int") (by decide) ⟨_, ho, rfl⟩ (fun s' => typeIs_int s' 0 t) noFill_tuple_mul F.fills_int_mul F.slot_int_rmul repeat_tuple F.slot_int_index.lookup
      (call_meets F.slot_int_rmul (typeIs_int s 0 t) F.entry_int_rmul (F.args_int_rmul_2 _ _) (int_rmul_tuple 0 t l its.toArray n dd sl)
        ⟨ho, rfl, ⟨_, ho, rfl⟩, call_meets F.slot_tuple_mul ⟨_, ho, rfl⟩ F.entry_tuple_mul (F.args_tuple_mul_2 _ _) (tuple_zero l its.toArray n dd sl t (by rw [hi]; rfl)) ⟨ho, ?_⟩⟩)
    refine ⟨.ref s.heap.objs.size, _, I.laid (t' := s.toks) (o := .tup []) (fun b ob q => Heap.get?_push_of_some _ q) (Nat.le_refl _) ?_, rfl, q _ (I.hok.fresh (Nat.le_refl _))⟩
    exact ⟨by rw [sizeLine_eq]; exact (by decide : 0 ≤ 16777216), [], .nil, IsTup.new _ _⟩
theorem fold_rep (a : Array Nat) : ∀ (m : Nat) (b : Array Nat), (List.replicate m a).foldl (fun x1 x2 => x1 ++ x2) b = (b.toList ++ (List.replicate m a.toList).flatten).toArray
  | 0, b => by simp
  | m + 1, b => by
    rw [List.replicate_succ, List.foldl_cons, fold_rep a m (b ++ a), List.replicate_succ, List.flatten_cons]
    simp
theorem repS_eq {z : Str} {n : Nat} (h : 1 ≤ n) : repS z n = ⟨(List.replicate n z.cps.toList).flatten.toArray⟩ := by
  unfold repS
  by_cases e : n = 1
  · subst e
    rw [if_pos rfl]
    simp
  · rw [if_neg e, fold_rep]
    simp
theorem short {k : Nat} (h : k ≤ 100 * 100) : Builtin.Str.tooLong k = false := by
  unfold Builtin.Str.tooLong
  exact decide_eq_false (by rw [sizeLine_eq]; omega)
theorem op_repS : OpR X (binaryOp .Mult) rRepS := by
  intro pins s σ H x y v u Q I rx ry h
  obtain ⟨z, n, rfl, rfl, h1, h2, h3, h4, q⟩ := h
  obtain ⟨t, rfl⟩ := rx
  obtain ⟨t', rfl⟩ := ry
  have hn : ¬ ((n : Int) < 1) := by omega
  have hz : (z.length == 0) = false := beq_false_of_ne (by omega)
  refine P.mul_str (by rw [decide_eq_false (by omega), decide_eq_false (by omega)]; rfl) (fun _ c => ?_) (fun _ c => ?_) ?_
  · have : (100 : Int) ≤ (2 ^ 63 - 1) / (n : Int) := Int.le_ediv_of_mul_le (by omega) (by omega)
    omega
  · rw [Int.toNat_natCast]
    exact short (Nat.mul_le_mul h4 h2)
  · rw [if_neg hn]
    unfold repS at q
    by_cases e : n = 1
    · subst e
      rw [if_pos rfl] at q
      rw [if_pos (by rfl)]
      exact ⟨.str z, H, I, ⟨t, rfl⟩, q⟩
    · rw [if_neg e] at q
      rw [if_neg (by rw [hz, Bool.or_false]; exact fun w => e (by have := beq_iff_eq.mp w; omega))]
      refine ⟨?_, .str _, H, I.tok _, ⟨_, rfl⟩, ?_⟩
      · rw [Int.toNat_natCast, fold_rep]
        show (List.toArray _).size ≤ sizeLine
        rw [List.size_toArray, List.length_append, List.length_flatten, List.map_replicate, List.sum_replicate_nat, sizeLine_eq]
        show (#[] : Array Nat).toList.length + n * z.cps.toList.length ≤ _
        have e3 : z.cps.toList.length = z.length := by simp [Str.length]
        rw [e3]
        have := Nat.mul_le_mul h2 h4
        show 0 + n * z.length ≤ 16777216
        omega
      · rw [Int.toNat_natCast]
        exact q
end
end BO
set_option Elab.async false
set_option linter.all false
set_option maxRecDepth 100000
set_option maxHeartbeats 2000000
namespace ZL
open PySem RZ
section
variable {prog : Program} {w : World} {A : Around} {E : Value → Shared → Prop} {s : Shared}
abbrev ZOut (h : Heap) (z TI TO a : Addr) (f : Bool) : Prop := h.get? z = some { cls := .type "zip", data := .fields #[rawInt a, .bool f, .bool false, .ref TI, .ref TO] }
theorem own_out {z TI TO a : Addr} {f : Bool} {oa : Obj} {Q : Bool → Shared → Prop} (hz : ZOut s.heap z TI TO a f) (ha : s.heap.get? a = some oa)
    (hQ : ∀ h₀ : Heap, ZOut h₀ z TI TO a true → Heap.SameBut z s.heap h₀ → Q false { s with heap := h₀ }) : wpAny (model prog w) A (Builtin.SmallTypes.ownedTupleIsFree (.ref z)) Q E s := by
  unfold Builtin.SmallTypes.ownedTupleIsFree
  refine wpAny_bind (wpAny_field hz rfl (x := rawInt a) rfl ?_)
  show wpAny _ _ (loadIfAlive ((a : Int).toNat) >>= _) _ _ _
  rw [Int.toNat_natCast]
  refine wpAny_bind (PySem.W.kdx_alive ha ?_)
  simp only [Option.isNone_some, Bool.false_eq_true, if_false]
  refine wpAny_bind (wpAny_field hz rfl (x := .bool f) rfl ?_)
  cases f with
  | true =>
    rw [if_neg (show ¬ ((Value.bool true != Value.bool true) = true) from Bool.false_ne_true)]
    exact wpAny_pure (hQ _ hz (Heap.SameBut.refl _ _))
  | false =>
    rw [if_pos (show (Value.bool false != Value.bool true) = true from rfl)]
    refine wpAny_bind (wpAny_setField_rec hz (by simp) fun h₃ he₃ hs₃ => ?_)
    exact wpAny_pure (hQ h₃ he₃ hs₃)
theorem zipT_next_out {z TI TO i1 i2 l1 l2 a : Addr} {f : Bool} {oa : Obj} {k1 k2 : Nat} {xs ys : Array Value} {x y : Value} {Q : Value → Shared → Prop} (D : ZipApart z TI TO i1 i2 l1 l2)
    (hz : ZOut s.heap z TI TO a f) (ha : s.heap.get? a = some oa) (hTI : IsPair s.heap TI (.ref i1) (.ref i2))
    (h1 : s.heap.IsTupleIter i1 l1 k1) (h2 : s.heap.IsTupleIter i2 l2 k2) (hl1 : s.heap.IsTuple l1 xs) (hl2 : s.heap.IsTuple l2 ys) (hx : xs[k1]? = some x) (hy : ys[k2]? = some y)
    (hQ : ∀ h', ZOut h' z TI TO a true → h'.IsTupleIter i1 l1 (k1 + 1) → h'.IsTupleIter i2 l2 (k2 + 1) → IsPair h' s.heap.objs.size x y → h'.objs.size = s.heap.objs.size + 1 →
      (∀ c o, c ≠ z → c ≠ i1 → c ≠ i2 → s.heap.get? c = some o → h'.get? c = some o) → Q (.ref s.heap.objs.size) { s with heap := h' }) :
    wpAny (model prog w) A (Builtin.«zip.__next__» ⟨[.ref z], []⟩) (fun fin s' => ∃ v, fin = .done (.ret v) ∧ Q v s') E s := by
  show wpAny _ _ (field (.ref z) 2 >>= _) _ _ _
  refine wpAny_bind (wpAny_field hz rfl (x := .bool false) rfl ?_)
  show wpAny _ _ (field (.ref z) 3 >>= _) _ _ _
  refine wpAny_bind (wpAny_field hz rfl (x := .ref TI) rfl ?_)
  refine wpAny_bind (wpAny_seqItems hTI rfl ?_)
  show wpAny _ _ (Builtin.SmallTypes.ownedTupleIsFree (.ref z) >>= _) _ _ _
  refine wpAny_bind (own_out hz ha fun h₀ hz₀ hs₀ => ?_)
  simp only [Bool.false_eq_true, if_false]
  refine wpAny_bind ?_
  rw [show (#[Value.ref i1, Value.ref i2] : Array Value) = [Value.ref i1, Value.ref i2].toArray from rfl]
  simp only [List.forIn_toArray, List.forIn_cons, List.forIn_nil]
  refine wpAny_bind (wpAny_bind (wpAny_holding ?_))
  show wpAny _ _ (Builtin.SmallTypes.nextOf (.ref i1) >>= _) _ _ _
  refine wpAny_bind (nextOf_tuple_item (h1.extBut hs₀.extBut D.i1z) (hl1.extBut hs₀.extBut D.l1z) hx fun h₂ h1₂ hs₂ => wpAny_pure ?_)
  refine wpAny_pure ?_
  refine wpAny_bind (wpAny_bind (wpAny_holding ?_))
  show wpAny _ _ (Builtin.SmallTypes.nextOf (.ref i2) >>= _) _ _ _
  refine wpAny_bind (nextOf_tuple_item ((h2.extBut hs₀.extBut D.i2z).extBut hs₂.extBut D.i12.symm) ((hl2.extBut hs₀.extBut D.l2z).extBut hs₂.extBut D.l2i1) hy fun h₄ h2₄ hs₄ => wpAny_pure ?_)
  refine wpAny_pure (wpAny_pure ?_)
  refine wpAny_bind (wpAny_newTuple (hsz := by show 2 ≤ sizeLine; decide) ?_)
  have hsz : h₄.objs.size = s.heap.objs.size := by rw [hs₄.1, hs₂.1, hs₀.1]
  have e1 : h₄.get? z = _ := hs₄.extBut _ _ D.i2z.symm (hs₂.extBut _ _ D.i1z.symm hz₀)
  refine wpAny_pure ⟨_, rfl, ?_⟩
  show Q (.ref h₄.objs.size) _
  rw [hsz]
  refine hQ _ (Heap.get?_push_of_some _ e1) ?_ ?_ ?_ (by rw [Heap.size_push, hsz]) fun c o c1 c2 c3 e => Heap.get?_push_of_some _ (hs₄.extBut _ _ c3 (hs₂.extBut _ _ c2 (hs₀.extBut _ _ c1 e)))
  · exact (h1₂.extBut hs₄.extBut D.i12).at fun o e => Heap.get?_push_of_some _ e
  · exact h2₄.at fun o e => Heap.get?_push_of_some _ e
  · rw [← hsz]
    exact Heap.get?_push_size _ rfl
theorem zipT_end_out {z TI TO i1 i2 l1 l2 a : Addr} {f : Bool} {oa : Obj} {k1 k2 : Nat} {xs ys : Array Value} {Q : PySem.Fin → Shared → Prop} (hh : A.handled = none) (D : ZipApart z TI TO i1 i2 l1 l2)
    (hz : ZOut s.heap z TI TO a f) (ha : s.heap.get? a = some oa) (hTI : IsPair s.heap TI (.ref i1) (.ref i2))
    (h1 : s.heap.IsTupleIter i1 l1 k1) (h2 : s.heap.IsTupleIter i2 l2 k2) (hl1 : s.heap.IsTuple l1 xs) (hl2 : s.heap.IsTuple l2 ys) (hx : xs[k1]? = none)
    (hE : ∀ h' e, (∀ c o, c ≠ z → c ≠ i1 → c ≠ i2 → s.heap.get? c = some o → h'.get? c = some o) → (∃ o, h'.get? e = some o ∧ o.cls = .type "StopIteration") → E (.ref e) { s with heap := h' }) :
    wpAny (model prog w) A (Builtin.«zip.__next__» ⟨[.ref z], []⟩) Q E s := by
  show wpAny _ _ (field (.ref z) 2 >>= _) _ _ _
  refine wpAny_bind (wpAny_field hz rfl (x := .bool false) rfl ?_)
  show wpAny _ _ (field (.ref z) 3 >>= _) _ _ _
  refine wpAny_bind (wpAny_field hz rfl (x := .ref TI) rfl ?_)
  refine wpAny_bind (wpAny_seqItems hTI rfl ?_)
  show wpAny _ _ (Builtin.SmallTypes.ownedTupleIsFree (.ref z) >>= _) _ _ _
  refine wpAny_bind (own_out hz ha fun h₀ hz₀ hs₀ => ?_)
  simp only [Bool.false_eq_true, if_false]
  refine wpAny_bind ?_
  rw [show (#[Value.ref i1, Value.ref i2] : Array Value) = [Value.ref i1, Value.ref i2].toArray from rfl]
  simp only [List.forIn_toArray, List.forIn_cons, List.forIn_nil]
  refine wpAny_bind (wpAny_bind (wpAny_holding ?_))
  show wpAny _ _ (Builtin.SmallTypes.nextOf (.ref i1) >>= _) _ _ _
  refine wpAny_bind (nextOf_tuple_end hh (h1.extBut hs₀.extBut D.i1z) (hl1.extBut hs₀.extBut D.l1z) hx fun h₂ e hs₂ he => ?_)
  exact hE h₂ e (fun c o c1 c2 c3 x => hs₂ _ _ c2 (hs₀.extBut _ _ c1 x)) he
theorem pyNext_out {z TI TO i1 i2 l1 l2 a : Addr} {f : Bool} {oa : Obj} {k1 k2 : Nat} {xs ys : Array Value} {x y : Value} {Q : Option Value → Shared → Prop} (D : ZipApart z TI TO i1 i2 l1 l2)
    (hz : ZOut s.heap z TI TO a f) (ha : s.heap.get? a = some oa) (hTI : IsPair s.heap TI (.ref i1) (.ref i2))
    (h1 : s.heap.IsTupleIter i1 l1 k1) (h2 : s.heap.IsTupleIter i2 l2 k2) (hl1 : s.heap.IsTuple l1 xs) (hl2 : s.heap.IsTuple l2 ys) (hx : xs[k1]? = some x) (hy : ys[k2]? = some y)
    (hQ : ∀ h', ZOut h' z TI TO a true → h'.IsTupleIter i1 l1 (k1 + 1) → h'.IsTupleIter i2 l2 (k2 + 1) → IsPair h' s.heap.objs.size x y → h'.objs.size = s.heap.objs.size + 1 →
      (∀ c o, c ≠ z → c ≠ i1 → c ≠ i2 → s.heap.get? c = some o → h'.get? c = some o) → Q (some (.ref s.heap.objs.size)) { s with heap := h' }) :
    wpAny (model prog w) A (pyNext (.ref z)) Q E s := by
  have hT : s.TypeIs (.ref z) "zip" := ⟨_, hz, rfl⟩
  unfold pyNext
  exact wpAny_bind (wpAny_attempt (wpAny_callSpecial?_slot (name := Str.ofString "__next__") hT F.slot_zip_next
    (wpAny_call_entry F.slot_zip_next hT F.entry_zip_next
      (zipT_next_out D hz ha hTI h1 h2 hl1 hl2 hx hy fun h' a1 a3 a4 a5 a6 a7 => wpAny_pure (hQ h' a1 a3 a4 a5 a6 a7)) (F.args_zip_next_1 _))))
theorem pyNext_out_end {z TI TO i1 i2 l1 l2 a : Addr} {f : Bool} {oa : Obj} {k1 k2 : Nat} {xs ys : Array Value} {Q : Option Value → Shared → Prop} (hh : A.handled = none) (D : ZipApart z TI TO i1 i2 l1 l2)
    (hz : ZOut s.heap z TI TO a f) (ha : s.heap.get? a = some oa) (hTI : IsPair s.heap TI (.ref i1) (.ref i2))
    (h1 : s.heap.IsTupleIter i1 l1 k1) (h2 : s.heap.IsTupleIter i2 l2 k2) (hl1 : s.heap.IsTuple l1 xs) (hl2 : s.heap.IsTuple l2 ys) (hx : xs[k1]? = none)
    (hQ : ∀ h', (∀ c o, c ≠ z → c ≠ i1 → c ≠ i2 → s.heap.get? c = some o → h'.get? c = some o) → Q none { s with heap := h' }) : wpAny (model prog w) A (pyNext (.ref z)) Q E s := by
  have hT : s.TypeIs (.ref z) "zip" := ⟨_, hz, rfl⟩
  unfold pyNext
  refine wpAny_bind (wpAny_attempt (wpAny_callSpecial?_slot (name := Str.ofString "__next__") hT F.slot_zip_next
    (wpAny_call_entry F.slot_zip_next hT F.entry_zip_next (zipT_end_out hh D hz ha hTI h1 h2 hl1 hl2 hx fun h' e hk he => ?_) (F.args_zip_next_1 _))))
  obtain ⟨o, ho, hc⟩ := he
  refine wpAny_bind (wpAny_isInstance (T := "StopIteration") (b := true) ⟨o, ho, hc⟩ isSubtype_stop ?_)
  exact wpAny_pure (hQ _ hk)
end
/-! ### list(zip(t, u)): the loop -/
theorem off {a lo b : Addr} (h : a < lo) (h2 : lo ≤ b) : b ≠ a := Nat.ne_of_gt (Nat.lt_of_lt_of_le h h2)
/-- the zip object with what it holds, i pairs drawn, the first of which stands at a (S the list that holds them) -/
structure ZAt (h : Heap) (z TI TO i1 i2 l1 l2 S : Addr) (i : Nat) : Prop where
  zip : (i = 0 ∧ IsZip h z TI TO .none) ∨ ∃ a f oa, ZOut h z TI TO a f ∧ h.get? a = some oa ∧ a ≠ z ∧ a ≠ TO ∧ a ≠ i1 ∧ a ≠ i2 ∧ a ≠ S
  pair : IsPair h TI (.ref i1) (.ref i2)
  own : ∃ x y, IsPair h TO x y
  it1 : h.IsTupleIter i1 l1 i
  it2 : h.IsTupleIter i2 l2 i
theorem ZAt.keep {h h' : Heap} {z TI TO i1 i2 l1 l2 S : Addr} {i : Nat} (x : ZAt h z TI TO i1 i2 l1 l2 S i) (k : ∀ b o, b ≠ S → h.get? b = some o → h'.get? b = some o) (e1 : z ≠ S) (e2 : TI ≠ S) (e3 : TO ≠ S) (e4 : i1 ≠ S) (e5 : i2 ≠ S) : ZAt h' z TI TO i1 i2 l1 l2 S i := by
  obtain ⟨hz, hp, ⟨u, v, ho⟩, h1, h2⟩ := x
  refine ⟨?_, k _ _ e2 hp, ⟨u, v, k _ _ e3 ho⟩, h1.at fun o e => k _ o e4 e, h2.at fun o e => k _ o e5 e⟩
  rcases hz with ⟨e, hz⟩ | ⟨a, f, oa, hz, ha, n1, n2, n3, n4, n5⟩
  · exact .inl ⟨e, k _ _ e1 hz⟩
  · exact .inr ⟨a, f, oa, k _ _ e1 hz, k _ _ n5 ha, n1, n2, n3, n4, n5⟩
section
variable {prog : Program} {w : World} {A : Around} {E : Value → Shared → Prop} {s : Shared} {z TI TO i1 i2 l1 l2 S : Addr} {xs ys : Array Value}
theorem z_item {i : Nat} {x y : Value} {Q : Option Value → Shared → Prop} (D : ZipApart z TI TO i1 i2 l1 l2) (hst : ZAt s.heap z TI TO i1 i2 l1 l2 S i) (hl1 : s.heap.IsTuple l1 xs) (hl2 : s.heap.IsTuple l2 ys) (hx : xs[i]? = some x) (hy : ys[i]? = some y) (hS : S < s.heap.objs.size)
    (hQ : ∀ h', ZAt h' z TI TO i1 i2 l1 l2 S (i + 1) → IsPair h' s.heap.objs.size x y → h'.objs.size = s.heap.objs.size + 1 → (∀ c o, c ≠ z → c ≠ TO → c ≠ i1 → c ≠ i2 → s.heap.get? c = some o → h'.get? c = some o) → Q (some (.ref s.heap.objs.size)) { s with heap := h' }) :
    wpAny (model prog w) A (pyNext (.ref z)) Q E s := by
  obtain ⟨hz, hp, ⟨u, v, ho⟩, h1, h2⟩ := hst
  have lz : z < s.heap.objs.size := by
    rcases hz with ⟨_, hz⟩ | ⟨a, f, oa, hz, _⟩ <;> exact Heap.lt_size hz
  have lo : TO < s.heap.objs.size := Heap.lt_size ho
  have l1' : i1 < s.heap.objs.size := by obtain ⟨_, e, _⟩ := h1; exact Heap.lt_size e
  have l2' : i2 < s.heap.objs.size := by obtain ⟨_, e, _⟩ := h2; exact Heap.lt_size e
  rcases hz with ⟨rfl, hz⟩ | ⟨a, f, oa, hz, ha, n1, n2, n3, n4, n5⟩
  · refine pyNext_zipT_item D hz hp ho h1 h2 hl1 hl2 hx hy fun h' z' to' h1' h2' pr sz k => hQ h' ⟨.inr ⟨s.heap.objs.size, false, _, z', pr, Nat.ne_of_gt lz, Nat.ne_of_gt lo, Nat.ne_of_gt l1', Nat.ne_of_gt l2', Nat.ne_of_gt hS⟩, k _ _ D.TIz D.TITO D.TIi1 D.TIi2 hp, ⟨x, y, to'⟩, h1', h2'⟩ pr sz k
  · refine pyNext_out D hz ha hp h1 h2 hl1 hl2 hx hy fun h' z' h1' h2' pr sz k => hQ h' ⟨.inr ⟨a, true, oa, z', k _ _ n1 n3 n4 ha, n1, n2, n3, n4, n5⟩, k _ _ D.TIz D.TIi1 D.TIi2 hp, ⟨u, v, k _ _ D.TOz D.TOi1 D.TOi2 ho⟩, h1', h2'⟩ pr sz fun c o c1 _ c3 c4 e => k c o c1 c3 c4 e
theorem z_done {i : Nat} {Q : Option Value → Shared → Prop} (hh : A.handled = none) (D : ZipApart z TI TO i1 i2 l1 l2) (hst : ZAt s.heap z TI TO i1 i2 l1 l2 S i) (hl1 : s.heap.IsTuple l1 xs) (hl2 : s.heap.IsTuple l2 ys) (hx : xs[i]? = none)
    (hQ : ∀ h', (∀ c o, c ≠ z → c ≠ TO → c ≠ i1 → c ≠ i2 → s.heap.get? c = some o → h'.get? c = some o) → Q none { s with heap := h' }) : wpAny (model prog w) A (pyNext (.ref z)) Q E s := by
  obtain ⟨hz, hp, ⟨u, v, ho⟩, h1, h2⟩ := hst
  rcases hz with ⟨rfl, hz⟩ | ⟨a, f, oa, hz, ha, n1, n2, n3, n4, n5⟩
  · exact pyNext_zipT_end hh D hz hp ho h1 h2 hl1 hl2 (.inl hx) hQ
  · exact pyNext_out_end hh D hz ha hp h1 h2 hl1 hl2 hx fun h' k => hQ h' fun c o c1 _ c3 c4 e => k c o c1 c3 c4 e
/-- the new pairs -/
structure ZG (xs ys : Array Value) (lo : Addr) (h : Heap) (as : List Addr) : Prop where
  rise : as.Pairwise (· < ·)
  above : ∀ a ∈ as, lo ≤ a
  pairs : ∀ (j : Nat) (a : Addr), as[j]? = some a → ∃ x y, xs[j]? = some x ∧ ys[j]? = some y ∧ IsPair h a x y
theorem ZG.there {lo : Addr} {h : Heap} {as : List Addr} (g : ZG xs ys lo h as) {a : Addr} (ha : a ∈ as) : a < h.objs.size := by
  obtain ⟨j, hj⟩ := List.mem_iff_getElem?.mp ha
  obtain ⟨_, _, _, _, e⟩ := g.pairs j a hj
  exact Heap.lt_size e
theorem z_loop {R : Result → Shared → Prop} (hh : A.handled = none) (D : ZipApart z TI TO i1 i2 l1 l2) (lo : Addr) (bz : z < lo) (bI : TI < lo) (bO : TO < lo) (b1 : i1 < lo) (b2 : i2 < lo) (bS : S < lo) (ez : z ≠ S) (eI : TI ≠ S) (eO : TO ≠ S) (e1 : i1 ≠ S) (e2 : i2 ≠ S) (el1 : l1 ≠ S) (el2 : l2 ≠ S)
    (hxy : xs.size = ys.size) (hn : xs.size ≤ sizeLine) (res : Value) {h₁ : Heap}
    (hR : ∀ h' tk acc c as, (∀ b o, b ≠ S → b ≠ z → b ≠ TO → b ≠ i1 → b ≠ i2 → h₁.get? b = some o → h'.get? b = some o) → h'.get? S = some { cls := .type "list", dict := none, data := .seq acc c, slots := #[] } → as.length = xs.size → ZG xs ys lo h' as →
      acc.toList = as.map Value.ref → R (.ok (.ret res)) { s with heap := h', toks := tk }) :
    ∀ (k i : Nat) (h : Heap) (tk c : Nat) (acc : Array Value) (as : List Addr), xs.size - i = k → i ≤ xs.size → ZAt h z TI TO i1 i2 l1 l2 S i → h.IsTuple l1 xs → h.IsTuple l2 ys → (∀ b o, b ≠ S → b ≠ z → b ≠ TO → b ≠ i1 → b ≠ i2 → h₁.get? b = some o → h.get? b = some o) →
      h.get? S = some { cls := .type "list", dict := none, data := .seq acc c, slots := #[] } → acc.toList = as.map Value.ref → as.length = i → ZG xs ys lo h as → lo ≤ h.objs.size →
      codeAny (model prog w) A (.builtin "list.extend.loop" ⟨[.ref S, .ref z, res], []⟩) R { s with heap := h, toks := tk } := by
  intro k
  induction k with
  | zero =>
    intro i h tk c acc as hk hi hst hl1 hl2 hkeep hS hacc hal hG hIs
    have hin : i = xs.size := by omega
    refine codeAny_builtin PySem.F.entry_extend_loop ?_
    rw [Around.under_plainId PySem.F.plain_extend_loop _]
    show wpAny _ A.in1 (pyNext (.ref z) >>= _) _ _ _
    refine wpAny_bind (z_done (s := { s with heap := h, toks := tk }) (A := A.in1) hh D hst hl1 hl2 (Array.getElem?_eq_none (by omega)) fun h' he => ?_)
    refine wpAny_pure (hR h' tk acc c as (fun b o h1 h2 h3 h4 h5 e => he b o h2 h3 h4 h5 (hkeep b o h1 h2 h3 h4 h5 e)) (he S _ ez.symm eO.symm e1.symm e2.symm hS) (by omega) ⟨hG.rise, hG.above, fun j a hj => ?_⟩ hacc)
    obtain ⟨x, y, f1, f2, f3⟩ := hG.pairs j a hj
    have hb := hG.above a (List.mem_of_getElem? hj)
    exact ⟨x, y, f1, f2, he a _ (off bz hb) (off bO hb) (off b1 hb) (off b2 hb) f3⟩
  | succ k ih =>
    intro i h tk c acc as hk hi hst hl1 hl2 hkeep hS hacc hal hG hIs
    have hlt : i < xs.size := by omega
    have hx : xs[i]? = some xs[i] := Array.getElem?_eq_getElem hlt
    have hlt2 : i < ys.size := by omega
    have hy : ys[i]? = some ys[i] := Array.getElem?_eq_getElem hlt2
    have hsz : acc.size = i := by rw [← Array.length_toList, hacc, List.length_map, hal]
    refine codeAny_builtin PySem.F.entry_extend_loop ?_
    rw [Around.under_plainId PySem.F.plain_extend_loop _]
    show wpAny _ A.in1 (pyNext (.ref z) >>= _) _ _ _
    refine wpAny_bind (z_item (s := { s with heap := h, toks := tk }) D hst hl1 hl2 hx hy (Heap.lt_size hS) fun h' hst' ht hz hkp => ?_)
    dsimp only at ht hz hkp ⊢
    have hS' := hkp S _ ez.symm eO.symm e1.symm e2.symm hS
    have up : ∀ b o, b ≠ S → h'.get? b = some o → (h'.update S (Obj.mapSeq (·.push (Value.ref h.objs.size)))).get? b = some o := fun b o hb e => (Heap.get?_update_other _ _ (Ne.symm hb)).trans e
    have hSl : S < h.objs.size := Heap.lt_size hS
    show wpAny _ A.in1 (updateSeq S (·.push (Value.ref h.objs.size)) >>= _) _ _ _
    refine wpAny_bind ?_
    refine wpAny_updateSeq hS' rfl (wpAny_pure ⟨plainId_quiet PySem.F.plain_extend_loop _, ih (i + 1) _ tk _ (acc.push (Value.ref h.objs.size)) (as ++ [h.objs.size]) (by omega) hlt (hst'.keep up ez eI eO e1 e2)
      (hl1.at fun o e => up _ o el1 (hkp _ o D.l1z D.l1TO D.l1i1 D.l1i2 e)) (hl2.at fun o e => up _ o el2 (hkp _ o D.l2z D.l2TO D.l2i1 D.l2i2 e))
      (fun b o h1 h2 h3 h4 h5 e => up b o h1 (hkp b o h2 h3 h4 h5 (hkeep b o h1 h2 h3 h4 h5 e))) (Heap.get?_update_self _ hS' rfl) (by rw [Array.toList_push, hacc, List.map_append]; rfl) (by rw [List.length_append, hal]; rfl) ⟨?_, ?_, ?_⟩ ?_⟩) (by rw [hsz]; omega) (by show (acc.push (Value.ref h.objs.size)).size ≤ sizeLine + 1; rw [Array.size_push, hsz]; omega)
    · refine List.pairwise_append.mpr ⟨hG.rise, List.pairwise_singleton _ _, fun a ha b hb => ?_⟩
      rw [List.mem_singleton.mp hb]
      exact hG.there ha
    · intro a ha
      rcases List.mem_append.mp ha with ha | ha
      · exact hG.above a ha
      · rw [List.mem_singleton.mp ha]; exact hIs
    · intro j b hj
      rcases Nat.lt_trichotomy j as.length with h1 | h1 | h1
      · rw [List.getElem?_append_left h1] at hj
        obtain ⟨x', y', f1, f2, f3⟩ := hG.pairs j b hj
        have hb := hG.above b (List.mem_of_getElem? hj)
        exact ⟨x', y', f1, f2, up b _ (off bS hb) (hkp b _ (off bz hb) (off bO hb) (off b1 hb) (off b2 hb) f3)⟩
      · subst h1
        have hb : h.objs.size = b := by simpa using hj
        subst hb
        exact ⟨_, _, by rw [hal]; exact hx, by rw [hal]; exact hy, up _ _ (Nat.ne_of_gt hSl) ht⟩
      · have hnone : (as ++ [h.objs.size])[j]? = none := List.getElem?_eq_none (by rw [List.length_append, List.length_singleton]; omega)
        rw [hnone] at hj; cases hj
    · have e : (h'.update S (Obj.mapSeq (·.push (Value.ref h.objs.size)))).get? h.objs.size = _ := up _ _ (Nat.ne_of_gt hSl) ht
      exact Nat.le_trans hIs (Nat.le_of_lt (Heap.lt_size e))
theorem zip_no_len : typeLookup (.type "zip") "__len__" = pure none := by rw [typeLookup_type, builtinLookup_eq_fast]; kernel_rfl
theorem zip_no_hint : typeLookup (.type "zip") "__length_hint__" = pure none := by rw [typeLookup_type, builtinLookup_eq_fast]; kernel_rfl
theorem z_hint {r : Addr} (hT : s.TypeIs (.ref r) "zip") {Q : Bool → Shared → Prop} (h : Q true s) : wpAny (model prog w) A (Builtin.List.listLengthHint (.ref r)) Q E s := by
  unfold Builtin.List.listLengthHint
  refine wpAny_bind (wpAny_specialOf hT zip_no_len ?_)
  refine wpAny_bind (wpAny_specialOf hT zip_no_hint ?_)
  exact wpAny_pure h
theorem z_extend {R : Result → Shared → Prop} (hh : A.handled = none) (D : ZipApart z TI TO i1 i2 l1 l2) (hz : IsZip s.heap z TI TO .none) (hp : IsPair s.heap TI (.ref i1) (.ref i2)) (ho : ∃ x y, IsPair s.heap TO x y) (h1 : s.heap.IsTupleIter i1 l1 0) (h2 : s.heap.IsTupleIter i2 l2 0)
    (hl1 : s.heap.IsTuple l1 xs) (hl2 : s.heap.IsTuple l2 ys) (S : Addr) (ez : z ≠ S) (eI : TI ≠ S) (eO : TO ≠ S) (e1 : i1 ≠ S) (e2 : i2 ≠ S) (el1 : l1 ≠ S) (el2 : l2 ≠ S) (res : Value) (c₀ : Nat) (hS : s.heap.get? S = some { cls := .type "list", data := .seq #[] c₀ }) (hxy : xs.size = ys.size) (hn : xs.size ≤ sizeLine)
    (hR : ∀ h' tk acc c as, (∀ b o, b ≠ S → b ≠ z → b ≠ TO → b ≠ i1 → b ≠ i2 → s.heap.get? b = some o → h'.get? b = some o) → h'.get? S = some { cls := .type "list", dict := none, data := .seq acc c, slots := #[] } → as.length = xs.size → ZG xs ys s.heap.objs.size h' as →
      acc.toList = as.map Value.ref → R (.ok (.ret res)) { s with heap := h', toks := tk }) :
    wpAny (model prog w) A.in1 (Builtin.List.listExtendWith (.ref S) (.ref z) res)
      (fun fin s' => match fin with | .done f => R (.ok f) s' | .again c' => c'.quiet = true ∧ codeAny (model prog w) A c' R s') (fun e s' => R (.error e) s') s := by
  have bz : z < s.heap.objs.size := Heap.lt_size hz
  have bI : TI < s.heap.objs.size := Heap.lt_size hp
  have bO : TO < s.heap.objs.size := by obtain ⟨_, _, e⟩ := ho; exact Heap.lt_size e
  have b1 : i1 < s.heap.objs.size := by obtain ⟨_, e, _⟩ := h1; exact Heap.lt_size e
  have b2 : i2 < s.heap.objs.size := by obtain ⟨_, e, _⟩ := h2; exact Heap.lt_size e
  have bS : S < s.heap.objs.size := Heap.lt_size hS
  have hT : s.TypeIs (.ref z) "zip" := ⟨_, hz, rfl⟩
  have key : ∀ (h : Heap) (c₁ tk : Nat), (∀ b o, b ≠ S → s.heap.get? b = some o → h.get? b = some o) → s.heap.objs.size ≤ h.objs.size →
      h.get? S = some { cls := .type "list", data := .seq #[] c₁ } → codeAny (model prog w) A (.builtin "list.extend.loop" ⟨[.ref S, .ref z, res], []⟩) R { s with heap := h, toks := tk } := by
    intro h c₁ tk hk hsz hS₁
    refine z_loop (s := s) (h₁ := s.heap) (xs := xs) (ys := ys) hh D s.heap.objs.size bz bI bO b1 b2 bS ez eI eO e1 e2 el1 el2 hxy hn res hR xs.size 0 h tk c₁ #[] [] (Nat.sub_zero _) (Nat.zero_le _)
      ⟨.inl ⟨rfl, hk _ _ ez hz⟩, hk _ _ eI hp, ?_, h1.at fun o e => hk _ o e1 e, h2.at fun o e => hk _ o e2 e⟩ (hl1.at fun o e => hk _ o el1 e) (hl2.at fun o e => hk _ o el2 e) (fun b o hb _ _ _ _ e => hk b o hb e) hS₁ rfl rfl ⟨List.Pairwise.nil, (fun _ ha => nomatch ha), (fun j a hj => by simp at hj)⟩ hsz
    obtain ⟨x, y, e⟩ := ho
    exact ⟨x, y, hk _ _ eO e⟩
  unfold Builtin.List.listExtendWith
  refine wpAny_bind (wpAny_typeOf (T := "zip") hT ?_)
  have g1 : Builtin.List.listSameRef (.ref S) (.ref z) = false := by simp [Builtin.List.listSameRef, Ne.symm ez]
  have g2 : (Value.type "zip" == Value.type "list") = false := by decide
  have g3 : (Value.type "zip" == Value.type "tuple") = false := by decide
  simp only [g1, g2, g3, Bool.or_false, Bool.false_eq_true, if_false]
  refine wpAny_bind (wpAny_pyIter_zip hz ?_)
  refine wpAny_bind (wpAny_holding (z_hint hT ?_))
  refine wpAny_ite_split (fun _ => ?_) (fun _ => wpAny_pure ⟨plainId_quiet PySem.F.plain_extend_loop _, key _ c₀ _ (fun b o _ e => e) (Nat.le_refl _) hS⟩)
  refine wpAny_bind (wpAny_rule ?_)
  refine wpAny_bind ?_
  show wpAny _ _ (updateSeq S (·.push .none) >>= fun _ => updateSeq S (·.pop)) _ _ _
  refine wpAny_bind (wpAny_updateSeq hS rfl ?_)
  have hS₂ := Heap.get?_update_self (Obj.mapSeq (·.push Value.none)) hS rfl
  refine wpAny_updateSeq (hz := by seq_fits) hS₂ rfl ?_
  have hS₃ := Heap.get?_update_self (Obj.mapSeq (·.pop)) hS₂ rfl
  refine wpAny_pure ⟨plainId_quiet PySem.F.plain_extend_loop _, key _ _ _ (fun b o hb e => ?_) ?_ hS₃⟩
  · exact (Heap.get?_update_other _ _ (Ne.symm hb)).trans ((Heap.get?_update_other _ _ (Ne.symm hb)).trans e)
  · rw [Heap.size_update, Heap.size_update]
    exact Nat.le_refl _
end
section
variable {prog : Program} {w : World} {A : Around} {E : Value → Shared → Prop} {s : Shared} {l1 l2 : Addr} {xs ys : Array Value}
/-- list(z) of a fresh zip of two tuples -/
theorem z_list {z TI TO i1 i2 : Addr} {Q : Value → Shared → Prop} (hh : A.handled = none) (D : ZipApart z TI TO i1 i2 l1 l2) (hz : IsZip s.heap z TI TO .none) (hp : IsPair s.heap TI (.ref i1) (.ref i2)) (ho : ∃ x y, IsPair s.heap TO x y) (h1 : s.heap.IsTupleIter i1 l1 0) (h2 : s.heap.IsTupleIter i2 l2 0)
    (hl1 : s.heap.IsTuple l1 xs) (hl2 : s.heap.IsTuple l2 ys) (hxy : xs.size = ys.size) (hn : xs.size ≤ sizeLine)
    (hQ : ∀ h' tk acc c as, (∀ b o, b ≠ z → b ≠ TO → b ≠ i1 → b ≠ i2 → s.heap.get? b = some o → h'.get? b = some o) → h'.get? s.heap.objs.size = some { cls := .type "list", dict := none, data := .seq acc c, slots := #[] } → as.length = xs.size → ZG xs ys (s.heap.objs.size + 1) h' as →
      acc.toList = as.map Value.ref → Q (.ref s.heap.objs.size) { s with heap := h', toks := tk }) :
    wpAny (model prog w) A (call (.type "list") [.ref z]) Q E s := by
  refine callType_codes (Q₁ := fun obj s₁ => obj = .ref s.heap.objs.size ∧ s₁ = { s with heap := s.heap.push { cls := .type "list", data := .seq #[] } }) PySem.F.called_list (PySem.F.typeCall_list_1 _) PySem.F.entry_list_init
    (code_list_new _ ⟨rfl, rfl⟩) fun obj s₁ h₁ => ?_
  obtain ⟨rfl, rfl⟩ := h₁
  have hS : (s.heap.push { cls := .type "list", data := .seq #[] }).get? s.heap.objs.size = some { cls := .type "list", data := .seq #[] } := Heap.get?_push_size _ rfl
  refine ⟨⟨_, hS, rfl⟩, PySem.F.args_list_init_2 _ _, ?_⟩
  have bz : z < s.heap.objs.size := Heap.lt_size hz
  have bI : TI < s.heap.objs.size := Heap.lt_size hp
  have bO : TO < s.heap.objs.size := by obtain ⟨_, _, e⟩ := ho; exact Heap.lt_size e
  have b1 : i1 < s.heap.objs.size := by obtain ⟨_, e, _⟩ := h1; exact Heap.lt_size e
  have b2 : i2 < s.heap.objs.size := by obtain ⟨_, e, _⟩ := h2; exact Heap.lt_size e
  have bl1 : l1 < s.heap.objs.size := by obtain ⟨_, e, _⟩ := hl1; exact Heap.lt_size e
  have bl2 : l2 < s.heap.objs.size := by obtain ⟨_, e, _⟩ := hl2; exact Heap.lt_size e
  obtain ⟨hp', gg, dr, tk, os⟩ := s
  show wpAny _ _ (do let old ← Builtin.List.listItems (.ref hp'.objs.size); Builtin.List.listUpdate (.ref hp'.objs.size) (fun _ => #[]); letGo old.toList.reverse; Builtin.List.listExtendWith (.ref hp'.objs.size) (.ref z) .none) _ _ _
  refine wpAny_bind ?_
  unfold Builtin.List.listItems
  refine wpAny_bind (wpAny_seqItems hS rfl (wpAny_pure ?_))
  show wpAny _ _ (updateSeq hp'.objs.size (fun _ => #[]) >>= fun _ => letGo (#[] : Array Value).toList.reverse >>= fun _ => Builtin.List.listExtendWith (.ref hp'.objs.size) (.ref z) .none) _ _ _
  refine wpAny_bind (wpAny_updateSeq hS rfl ?_)
  have hS₂ := Heap.get?_update_self (Obj.mapSeq (fun _ => (#[] : Array Value))) hS rfl
  have oth : ∀ b o, hp'.get? b = some o → ((hp'.push { cls := .type "list", data := .seq #[] }).update hp'.objs.size (Obj.mapSeq (fun _ => (#[] : Array Value)))).get? b = some o :=
    fun b o e => (Heap.get?_update_other _ _ (Nat.ne_of_gt (Heap.lt_size e))).trans (Heap.get?_push_of_some _ e)
  refine wpAny_bind (wpAny_letGo ?_)
  refine z_extend (xs := xs) (ys := ys) (s := ⟨(hp'.push { cls := .type "list", data := .seq #[] }).update hp'.objs.size (Obj.mapSeq (fun _ => (#[] : Array Value))), gg, dr, tk, os⟩) (A := A.in1) hh D (oth _ _ hz) (oth _ _ hp) (let ⟨x, y, e⟩ := ho; ⟨x, y, oth _ _ e⟩) (h1.at fun o e => oth _ o e) (h2.at fun o e => oth _ o e) (hl1.at fun o e => oth _ o e) (hl2.at fun o e => oth _ o e) hp'.objs.size
    (Nat.ne_of_lt bz) (Nat.ne_of_lt bI) (Nat.ne_of_lt bO) (Nat.ne_of_lt b1) (Nat.ne_of_lt b2) (Nat.ne_of_lt bl1) (Nat.ne_of_lt bl2) .none _ hS₂ hxy hn (fun h' tk' acc c as hk hS' hl hG hacc => ?_)
  have esz : ((hp'.push { cls := .type "list", data := .seq #[] }).update hp'.objs.size (Obj.mapSeq (fun _ => (#[] : Array Value)))).objs.size = hp'.objs.size + 1 := by rw [Heap.size_update, Heap.size_push]
  have hG' : ZG xs ys (hp'.objs.size + 1) h' as := by
    rw [← esz]
    exact hG
  exact ⟨rfl, hQ h' tk' acc c as (fun b o c1 c2 c3 c4 e => hk b o (Nat.ne_of_lt (Heap.lt_size e)) c1 c2 c3 c4 (oth b o e)) hS' hl hG' hacc⟩
end
end ZL
namespace ZL
open PySem PySem.Spec PyProof.Rows L2 RZ
/-- new pairs tracked at their addresses -/
def putP : Hp → List Addr → List (V × V) → Hp
  | H, a :: as, p :: ps => putP (upd H a (.tup [p.1, p.2])) as ps
  | H, _, _ => H
theorem putP_off {b : Addr} : ∀ (as : List Addr) (ps : List (V × V)) (H : Hp), b ∉ as → putP H as ps b = H b
  | [], _, _, _ => rfl
  | _ :: _, [], _, _ => rfl
  | a :: as, p :: ps, H, h => by
    show putP (upd H a (.tup [p.1, p.2])) as ps b = H b
    rw [putP_off as ps _ (fun z => h (List.mem_cons_of_mem _ z)), upd_ne (fun z => h (by rw [z]; exact List.mem_cons_self))]
theorem putP_at : ∀ (as : List Addr) (ps : List (V × V)) (H : Hp), as.length = ps.length → as.Nodup → ∀ (j : Nat) (t : Addr) (p : V × V), as[j]? = some t → ps[j]? = some p → putP H as ps t = some (.tup [p.1, p.2])
  | [], _, _, _, _, j, t, p, h, _ => by simp at h
  | _ :: _, [], _, h, _, _, _, _, _, _ => by cases h
  | a :: as, q :: ps, H, hl, hn, 0, t, p, h, h2 => by
    have hn' := List.nodup_cons.mp hn
    have e1 : a = t := Option.some.inj h
    have e2 : q = p := Option.some.inj h2
    subst e1 e2
    show putP (upd H a (.tup [q.1, q.2])) as ps a = some (.tup [q.1, q.2])
    rw [putP_off as ps _ hn'.1, upd_same]
  | a :: as, q :: ps, H, hl, hn, j + 1, t, p, h, h2 => by
    have hn' := List.nodup_cons.mp hn
    exact putP_at as ps (upd H a (.tup [q.1, q.2])) (Nat.succ.inj hl) hn'.2 j t p h h2
theorem vals_refs : ∀ as : List Addr, Vals (as.map V.ref) (as.map Value.ref)
  | [] => .nil
  | _ :: as => .cons rfl (vals_refs as)
/-- what list(zip(t, u)) leaves -/
def ZNew (H : Hp) (xs ys : List V) (H' : Hp) (p : Addr) (ts : List Addr) : Prop :=
  (∀ b o, H b = some o → H' b = some o) ∧ H p = none ∧ (∀ t ∈ ts, H t = none) ∧ p ∉ ts ∧ ts.Nodup ∧ H' p = some (.lst (ts.map V.ref)) ∧ ts.length = xs.length ∧
    ∀ (j : Nat) (t : Addr), ts[j]? = some t → ∃ x y, xs[j]? = some x ∧ ys[j]? = some y ∧ H' t = some (.tup [x, y])
def tLz (K : PySem.W.Frag) (ta : TA) : TE := fun σ H Q => ta σ H fun vs H1 => ∃ a b xs ys, vs = [.ref a, .ref b] ∧ SqT K H1 a xs ∧ SqT K H1 b ys ∧ xs.length = ys.length ∧ ∀ H' p ts, ZNew H1 xs ys H' p ts → Q (.ref p) H'
section
variable {X : Cx} {e e2 : Expr} {ta : TA} {p p2 pos pos2 : Pos}
theorem pe_listZip (hc : X.calm = true) (hg : Gl X "list") (hm : X.mg "list" = none) (hgz : Gl X "zip") (hmz : X.mg "zip" = none) (ha : PA X [e, e2] ta)
    (hs1 : starEach [.Call (.Name "zip" p2) [e, e2] [] pos2] X.env = (false, eval (.Call (.Name "zip" p2) [e, e2] [] pos2) X.env) :: starEach [] X.env := by rfl)
    (hs : starEach [e, e2] X.env = (false, eval e X.env) :: starEach [e2] X.env := by rfl) (hpl : (backTo pos2 (starEach [e2] X.env)).any (·.1) = false := by rfl) :
    PE X (.Call (.Name "list" p) [.Call (.Name "zip" p2) [e, e2] [] pos2] [] pos) (tLz X.K ta) := by
  refine ⟨fun pins s σ H Q I h => ?_⟩
  refine wpAny_Call_Name_kw (ld_blt I hg hm boot_list ?_)
  refine PyProof.Rows.callWith_type1 ?_ hs1 rfl
  rw [hs1]
  show wpAny _ _ (spliced ((false, eval (.Call (.Name "zip" p2) [e, e2] [] pos2) X.env) :: backTo pos (starEach [] X.env))) _ _ s
  refine Calls.spliced_cons ?_
  refine wpAny_Call_Name_kw (ld_blt I hgz hmz PyProof.Rows.boot_zip (PyProof.Rows.callWith_type1 (thn (ha.run pos2 pins s σ H _ I h) fun us s1 ⟨vs, H1, I1, r1, q1⟩ => ?_) hs hpl))
  obtain ⟨a, b, xs, ys, ex, hx, hy, hl, q⟩ := q1
  subst ex
  cases r1 with
  | cons r rr =>
    cases rr with
    | cons r' rr =>
      cases rr
      cases r
      cases r'
      obtain ⟨its, rv, pt, hzl⟩ := I1.tuple hx
      obtain ⟨its2, rv2, pt2, hzl2⟩ := I1.tuple hy
      have la : a < s1.heap.objs.size := by obtain ⟨_, e, _⟩ := pt; exact Heap.lt_size e
      have lb : b < s1.heap.objs.size := by obtain ⟨_, e, _⟩ := pt2; exact Heap.lt_size e
      refine call_zipT pt pt2 fun h5 hz hp ho h1 h2 hsz hk => Calls.spliced_nil ?_
      have D : ZipApart (s1.heap.objs.size + 4) (s1.heap.objs.size + 2) (s1.heap.objs.size + 3) s1.heap.objs.size (s1.heap.objs.size + 1) a b := by
        have la' : a < s1.heap.objs.size + 0 := la
        have lb' : b < s1.heap.objs.size + 0 := lb
        have ne : ∀ (c n m k : Nat), c < n + 0 → c ≠ n + k := fun c n m k h => by omega
        have nn : ∀ (n i j : Nat), i ≠ j → n + i ≠ n + j := fun n i j h => by omega
        exact ⟨nn _ _ _ (by decide), nn _ _ _ (by decide), nn _ 0 _ (by decide), nn _ _ _ (by decide), nn _ _ _ (by decide), nn _ _ 0 (by decide), nn _ _ _ (by decide), nn _ _ 0 (by decide), nn _ _ _ (by decide), nn _ 0 _ (by decide),
          ne _ _ 0 _ la', ne _ _ 0 _ la', ne _ _ 0 0 la', ne _ _ 0 _ la', ne _ _ 0 _ lb', ne _ _ 0 _ lb', ne _ _ 0 0 lb', ne _ _ 0 _ lb'⟩
      have le1 := rv.length
      have le2 := rv2.length
      refine z_list (xs := its.toArray) (ys := its2.toArray) (s := { s1 with heap := h5 }) (I1.ok.hd hc) D hz hp ⟨_, _, ho⟩ h1 h2 (let ⟨o, e, z⟩ := pt; ⟨o, hk _ _ e, z⟩) (let ⟨o, e, z⟩ := pt2; ⟨o, hk _ _ e, z⟩) (by simp; omega) (by simp; omega) fun h' tk acc c as hk' hS hal hG hacc => ?_
      -- the pairs
      have hps : ∃ ps : List (V × V), ps.length = xs.length ∧ ∀ j x y, xs[j]? = some x → ys[j]? = some y → ps[j]? = some (x, y) := ⟨xs.zip ys, by rw [List.length_zip]; omega, fun j x y h1 h2 => List.getElem?_zip_eq_some.mpr ⟨h1, h2⟩⟩
      obtain ⟨ps, hpl', hpx⟩ := hps
      have e5 : h5.objs.size = s1.heap.objs.size + 5 := hsz
      have nd : as.Nodup := List.Pairwise.imp (fun {a b} (h : a < b) => Nat.ne_of_lt h) hG.rise
      have old : ∀ c o, s1.heap.get? c = some o → h'.get? c = some o := fun c o e => by
        have lc : c < s1.heap.objs.size := Heap.lt_size e
        have nn : ∀ (c n k : Nat), c < n → c ≠ n + k := fun c n k h => by omega
        exact hk' c o (nn _ _ _ lc) (nn _ _ _ lc) (nn _ _ 0 lc) (nn _ _ _ lc) (hk c o e)
      have ab : ∀ t ∈ as, s1.heap.objs.size ≤ t := fun t ht => by
        have z := hG.above t ht
        have z' : h5.objs.size + 1 ≤ t := z
        exact Nat.le_trans (by rw [e5]; exact Nat.le_trans (Nat.le_add_right _ 5) (Nat.le_succ _)) z'
      have hpn : h5.objs.size ∉ as := fun z => by
        have z' : h5.objs.size + 1 ≤ h5.objs.size := hG.above _ z
        exact absurd z' (Nat.not_succ_le_self _)
      have sz5 : s1.heap.objs.size ≤ h5.objs.size := by rw [e5]; exact Nat.le_add_right _ 5
      have new : ∀ t ∈ as, H1 t = none := fun t ht => I1.hok.fresh (ab t ht)
      have newS : H1 h5.objs.size = none := I1.hok.fresh sz5
      have hasl : as.length = xs.length := by rw [hal]; simp; omega
      have off : ∀ b, b ∉ as → b ≠ h5.objs.size → putP (upd H1 h5.objs.size (.lst (as.map V.ref))) as ps b = H1 b := fun b h1 h2 => by rw [putP_off as ps _ h1, upd_ne h2]
      have kp : ∀ b u, H1 b = some u → (putP (upd H1 h5.objs.size (.lst (as.map V.ref))) as ps) b = some u := fun b u e => by
        rw [off b (fun z => by rw [new b z] at e; cases e) (fun z => by rw [z, newS] at e; cases e)]
        exact e
      have eS : putP (upd H1 h5.objs.size (.lst (as.map V.ref))) as ps h5.objs.size = some (.lst (as.map V.ref)) := by rw [putP_off as ps _ hpn, upd_same]
      have atj : ∀ (j : Nat) (t : Addr), as[j]? = some t → ∃ x y u v, xs[j]? = some x ∧ ys[j]? = some y ∧ RelV x u ∧ RelV y v ∧ IsPair h' t u v ∧ putP (upd H1 h5.objs.size (.lst (as.map V.ref))) as ps t = some (.tup [x, y]) := fun j t hj => by
        obtain ⟨u, v, g1, g2, g3⟩ := hG.pairs j t hj
        have lj : j < as.length := (List.getElem?_eq_some_iff.mp hj).1
        have lx : j < xs.length := by omega
        have ly : j < ys.length := by omega
        have gx : xs[j]? = some xs[j] := List.getElem?_eq_getElem lx
        have gy : ys[j]? = some ys[j] := List.getElem?_eq_getElem ly
        obtain ⟨u', hu', ru⟩ := rv.get gx
        obtain ⟨v', hv', rv'⟩ := rv2.get gy
        have eu : u' = u := Option.some.inj (hu'.symm.trans (by simpa using g1))
        have ev : v' = v := Option.some.inj (hv'.symm.trans (by simpa using g2))
        subst eu ev
        exact ⟨_, _, _, _, gx, gy, ru, rv', g3, putP_at as ps _ (by omega) nd j t (xs[j], ys[j]) hj (hpx j _ _ gx gy)⟩
      have J : Inv X pins σ (putP (upd H1 h5.objs.size (.lst (as.map V.ref))) as ps) { s1 with heap := h', toks := tk } := by
        refine I1.call' (ch := []) rfl ⟨fun b o q _ _ _ => old b o q, fun b o q _ _ _ => ⟨o.slots, old b o q⟩, fun b o q n _ => ?_, fun b o q _ => ⟨o, old b o q⟩, fun b xs q => kp b _ q, fun b o u q => kp b _ q, fun b ps q => ⟨#[], by rw [kp b _ q]; simp⟩⟩ (fun b u q => ?_) I1.bare fun b z => by simp at z
        · have lb' : b < s1.heap.objs.size := Heap.lt_size q
          rw [off b (fun z => absurd lb' (Nat.not_lt.mpr (ab b z))) (fun z => absurd (Nat.lt_of_lt_of_le lb' sz5) (by rw [z]; exact Nat.lt_irrefl _))]
          exact n
        · by_cases hb : b ∈ as
          · obtain ⟨j, hj⟩ := List.mem_iff_getElem?.mp hb
            obtain ⟨x, y, u1, v1, _, _, r1, r2, pr, ep⟩ := atj j b hj
            rw [ep] at q
            cases q
            exact ⟨by show 2 ≤ sizeLine; decide, [u1, v1], .cons r1 (.cons r2 .nil), ⟨_, pr, rfl, _, rfl⟩⟩
          · by_cases hb2 : b = h5.objs.size
            · rw [hb2] at q ⊢
              rw [eS] at q
              cases q
              refine ⟨by rw [List.length_map]; omega, acc.toList, c, by rw [hacc]; exact vals_refs as, ?_⟩
              rw [Array.toArray_toList]
              exact hS
            · rw [off b hb hb2] at q
              exact (I1.hok b u q).stay (fun d v _ y => old d v y) (fun d y => kp d _ y) fun d xs y => kp d _ y
      refine ⟨.ref h5.objs.size, _, J, rfl, q _ _ as ⟨kp, newS, new, hpn, nd, eS, hasl, fun j t hj => ?_⟩⟩
      obtain ⟨x, y, u1, v1, gx, gy, _, _, _, ep⟩ := atj j t hj
      exact ⟨x, y, gx, gy, ep⟩
end
end ZL
set_option Elab.async false
set_option linter.all false
set_option maxRecDepth 100000
set_option maxHeartbeats 4000000
/-! for i, x in enumerate(t), t a tuple -/
namespace EnT
open PySem
theorem new_one {v : Value} {o : Obj} {H : Heap → Prop} (B : Begins v o H) :
    Meets (Builtin.«enumerate.__new__» ⟨[.type "enumerate", v], []⟩) (fun _ R s => H s.heap ∧
      R (.ok (.ret (.ref (s.heap.push o).objs.size))) { s with heap := (s.heap.push o).push { cls := .type "enumerate", data := .fields #[.none, .bool false, .ref s.heap.objs.size, rawInt 0, .none, .none] } }) :=
  .of_wp fun prog w A R s h => by
    obtain ⟨h0, g0, d0, k0, o0⟩ := s; obtain ⟨hH, hR⟩ := h
    have sube := sub_enumerate
    have it1 : ∀ {A' : Around} {E' : Value → Shared → Prop} {Q' : Value → Shared → Prop}, Q' (.ref h0.objs.size) ⟨h0.push o, g0, d0, k0, o0⟩ → wpAny (model prog w) A' (pyIter v) Q' E' ⟨h0, g0, d0, k0, o0⟩ :=
      fun q => B.iter prog w _ _ ⟨h0, g0, d0, k0, o0⟩ _ hH q
    wp_walk using it1
    refine wpAny_stack_any fun st => wpAny_pure ?_
    split
    · rename_i c _ _ _ _ _
      cases (c == Value.type "enumerate") <;> (wp_walk using it1; exact ⟨_, rfl, hR⟩)
    · wp_walk using it1
      exact ⟨_, rfl, hR⟩
section
variable {prog : Program} {w : World} {A : Around} {E : Value → Shared → Prop} {s : Shared}
theorem call_one {v : Value} {o : Obj} {H : Heap → Prop} {Q : Value → Shared → Prop} (B : Begins v o H) (hH : H s.heap)
    (q : ∀ h', IsEnum h' (s.heap.objs.size + 1) s.heap.objs.size 0 .none → h'.get? s.heap.objs.size = some o → h'.objs.size = s.heap.objs.size + 2 → (∀ b u, s.heap.get? b = some u → h'.get? b = some u) → Q (.ref (s.heap.objs.size + 1)) { s with heap := h' }) :
    wpAny (model prog w) A (call (.type "enumerate") [v]) Q E s := by
  refine callType_new F.called_enumerate (by decide) (F.typeCall_enumerate_1 _) (F.newCall_enumerate_1 _) (fun obj => F.args_object_init_2 obj _) F.entry_enumerate_new (new_one B) ⟨hH, ?_⟩
  have z1 : (s.heap.push o).objs.size = s.heap.objs.size + 1 := Heap.size_push ..
  show _ ∧ _
  rw [z1]
  have e1 : IsEnum ((s.heap.push o).push { cls := .type "enumerate", data := .fields #[.none, .bool false, .ref s.heap.objs.size, rawInt 0, .none, .none] }) (s.heap.objs.size + 1) s.heap.objs.size 0 .none := by
    have z2 := Heap.get?_push_size (s.heap.push o) (o := { cls := .type "enumerate", data := .fields #[.none, .bool false, .ref s.heap.objs.size, rawInt 0, .none, .none] }) rfl
    rw [z1] at z2; exact z2
  exact ⟨⟨_, e1, rfl⟩, q _ e1 (Heap.get?_push_of_some _ (Heap.get?_push_size _ B.free)) (by rw [Heap.size_push, z1]) fun b u x => Heap.get?_push_of_some _ (Heap.get?_push_of_some _ x)⟩
end
end EnT
namespace EnT
open PySem PySem.Spec PyProof.Rows L2
/-- the tuple at a, each item in a new pair with its number -/
def IteT (K : PySem.W.Frag) (a : Addr) (n : Nat) : It :=
  ⟨fun i H => ∃ (xs : List V) (x : V), SqT K H a xs ∧ xs.length = n ∧ xs[i]? = some x, fun i H v H' => ∃ T x, v = .ref T ∧ H T = none ∧ H' = upd H T (.tup [.int (i : Nat), x]) ∧ ∀ xs, SqT K H a xs → xs[i]? = some x, fun i H => ∃ xs : List V, SqT K H a xs ∧ xs.length = n ∧ n ≤ i⟩
theorem turnT {P : Program} {w : World} {K : PySem.W.Frag} {elts : List Expr} {kk : Nat} {tpos : Pos} (a e it : Addr) (n : Nat) (nei : e ≠ it) (nai : a ≠ it) (nae : a ≠ e) :
    Turn P w K (.Tuple elts kk tpos) (IteT K a n) [e, it] e (fun i h => (∃ old, IsEnum h e it ((i : Nat) : Int) old) ∧ h.IsTupleIter it a i ∧ i ≤ n) where
  mem := by simp
  obj := fun i h st b hb => by
    obtain ⟨⟨old, he⟩, ⟨o, ho, _, hd⟩, _⟩ := st
    rcases (show b = e ∨ b = it by simpa using hb) with z | z
    · subst z
      exact ⟨_, he, fun v q => nomatch q⟩
    · subst z
      exact ⟨o, ho, fun v q => by rw [hd] at q; cases q⟩
  keep := fun i h h' st k => ⟨st.1.imp fun old he => k e (by simp) _ he, st.2.1.at fun o q => k it (by simp) o q, st.2.2⟩
  item := by
    intro X hP hw hK hc i pins s σ H E I hf st hg
    subst hP hw hK
    obtain ⟨⟨old, he⟩, hit, hin⟩ := st
    obtain ⟨xs, x, hq, hxn, hx⟩ := hg
    have hlx : i < xs.length := (List.getElem?_eq_some_iff.mp hx).1
    obtain ⟨its, rv, pt, _⟩ := I.tuple hq
    obtain ⟨u, hu, ru⟩ := rv.get hx
    have le : e < s.heap.objs.size := Heap.lt_size he
    have li : it < s.heap.objs.size := by obtain ⟨_, q, _⟩ := hit; exact Heap.lt_size q
    have hlt : i < its.toArray.size := by
      have := (List.getElem?_eq_some_iff.mp hu).1
      simpa using this
    refine wpAny_pyNext_enum_itemC (Draws.tuple (A := X.A.in1) (I.ok.hd hc) it a nai its.toArray) he (i := i) ⟨hit, pt⟩ hlt nei (by
      intro z
      rcases (show e = it ∨ e = a by simpa using z) with z | z
      · exact nei z
      · exact nae z.symm) fun x' h' tk hx' ho hst' hT hsz hk => ?_
    have ex : x' = u := by
      have z : its[i]? = some x' := by simpa using hx'
      exact Option.some.inj (z.symm.trans hu)
    subst ex
    refine ⟨_, rfl, wpAny_letOwnedTupleGo_enum (s := { s with heap := h', toks := tk + 1 }) ho fun h2 he' sb => ?_⟩
    have hT2 : h2.get? s.heap.objs.size = some { cls := .type "tuple", data := .seq #[.int i tk, x'] } := (sb.2 _ (Nat.ne_of_gt le)).trans hT
    have nw : ObjOk X.prog X.w (upd H s.heap.objs.size (.tup [.int (i : Nat), x])) h2 s.heap.objs.size (.tup [.int (i : Nat), x]) :=
      ⟨by show 2 ≤ sizeLine; decide, [.int i tk, x'], .cons ⟨_, rfl⟩ (.cons ru .nil), ⟨_, hT2, rfl, _, rfl⟩⟩
    have I1 : Inv X pins σ (upd H s.heap.objs.size (.tup [.int (i : Nat), x])) { s with heap := h2, toks := tk + 1 } :=
      I.turnedNew (ch := [e, it]) (fun b ob hb q => (sb.2 b (fun z => hb (by simp [z]))).trans (hk b ob (fun z => hb (by simp [z])) (fun z => hb (by simp [z])) q)) hf (Nat.le_refl _) nw
    refine ⟨.ref s.heap.objs.size, _, I1, rfl, ⟨_, x, rfl, I.hok.fresh (Nat.le_refl _), rfl, fun ys hy => by rw [I.tuple_inj hy hq]; exact hx⟩, ⟨⟨x', ?_⟩, hst'.1.at fun o q => (sb.2 it nei.symm).trans q, by omega⟩, fun b hb => ?_⟩
    · rw [show ((i + 1 : Nat) : Int) = (i : Int) + 1 by omega]
      exact he'
    · have lb : b < s.heap.objs.size := by
        rcases (show b = e ∨ b = it by simpa using hb) with z | z <;> (subst z; assumption)
      rw [upd_ne (Nat.ne_of_lt lb)]
      exact (hf b hb).1
  done := by
    intro X hP hw hK hc i pins s σ H E I hf st hg
    subst hP hw hK
    obtain ⟨⟨old, he⟩, hit, hin⟩ := st
    obtain ⟨xs, hq, hxn, hx⟩ := hg
    obtain ⟨its, rv, pt, _⟩ := I.tuple hq
    obtain ⟨f0, f1, f2, f3, f4, f5⟩ := hf it (by simp)
    have hl := rv.length
    have ei : its.toArray.size = i := by simp; omega
    subst ei
    exact wpAny_pyNext_enum_endD (Draws.tuple (A := X.A.in1) (I.ok.hd hc) it a nai its.toArray) he ⟨hit, pt⟩ fun h' eb => ⟨rfl, I.turned (t' := s.toks) (fun b o hb q => eb b o hb q) f0 f1 f3 f4 f5⟩
  self := fun A i s Q E st h => by
    obtain ⟨⟨_, he⟩, _⟩ := st
    exact wpAny_pyIter_enum he h
def iEnumT (K : PySem.W.Frag) (ta : TA) : TI := fun σ H R => ta σ H fun vs H1 => ∃ a xs, vs = [.ref a] ∧ SqT K H1 a xs ∧ R (IteT K a xs.length) H1
theorem pi_enumT {X : Cx} {e : Expr} {ta : TA} {p pos tpos : Pos} {elts : List Expr} {kk : Nat} (hg : Gl X "enumerate") (hm : X.mg "enumerate" = none) (ha : PA X [e] ta) (hs : starEach [e] X.env = [(false, eval e X.env)] := by rfl) :
    PI X (.Tuple elts kk tpos) (.Call (.Name "enumerate" p) [e] [] pos) (iEnumT X.K ta) := by
  refine ⟨fun pins s0 σ H R I h => Call_ (ld_blt I hg hm boot_enumerate (PyProof.Rows.callWith_type1 (thn (ha.run pos pins s0 σ H _ I h) fun us s1 ⟨vs, H1, I1, r1, q1⟩ => ?_) hs rfl))⟩
  obtain ⟨a, xs, ex, hq, q⟩ := q1
  subst ex
  cases r1 with
  | cons r rr =>
    cases rr
    cases r
    obtain ⟨its, rv, pt, _⟩ := I1.tuple hq
    have la : a < s1.heap.objs.size := by obtain ⟨_, z, _⟩ := pt; exact Heap.lt_size z
    refine call_one (begins_tuple a its.toArray) pt fun h' he hit hsz hk => wpAny_pyIter_enum he ?_
    have I2 : Inv X pins σ H1 { s1 with heap := h' } := I1.kept (t' := s1.toks) hk
    refine ⟨s1.heap.objs.size + 1, [s1.heap.objs.size + 1, s1.heap.objs.size], _, _, H1, rfl, I2, turnT a (s1.heap.objs.size + 1) s1.heap.objs.size xs.length (Nat.succ_ne_self _) (Nat.ne_of_lt la) (Nat.ne_of_lt (Nat.lt_succ_of_lt la)), ⟨⟨.none, he⟩, ⟨_, hit, rfl, rfl⟩, Nat.zero_le _⟩, fun b hb => ?_, q⟩
    have hle : s1.heap.objs.size ≤ b := by
      rcases (show b = s1.heap.objs.size + 1 ∨ b = s1.heap.objs.size by simpa using hb) with z | z <;> (subst z; first | exact Nat.le_succ _ | exact Nat.le_refl _)
    exact I1.fpOk hle (I1.hok.fresh hle)
/-- a for over it, by an invariant -/
theorem for_enumT {K : PySem.W.Frag} {a : Addr} {xs : List V} {g : TG} {tb : TS} {D : Ends} {σ : L2.St} {H : Hp} (Pv : Nat → L2.St → Hp → Prop) (h0 : Pv 0 σ H) (hq : ∀ i σ H, Pv i σ H → SqT K H a xs)
    (hs : ∀ (i : Nat) (x : V) (T : Addr) (σ : L2.St) (H : Hp), xs[i]? = some x → Pv i σ H → H T = none → g (.ref T) σ (upd H T (.tup [.int (i : Nat), x])) fun σ2 H2 => tb { D with nx := Pv (i + 1), ct := Pv (i + 1), bk := D.nx } σ2 H2) (hd : ∀ σ H, Pv xs.length σ H → D.nx σ H) :
    ∃ W : Nat → Nat → L2.St → Hp → Prop, (∃ m, W 0 m σ H) ∧ ∀ i m σ H, W i m σ H →
      ((IteT K a xs.length).stop i H ∧ D.nx σ H) ∨ ((IteT K a xs.length).go i H ∧ ∃ N : L2.St → Hp → Prop, (∀ σ' H', N σ' H' → ∃ m', m' < m ∧ W (i + 1) m' σ' H') ∧ ∀ v H', (IteT K a xs.length).yld i H v H' → g v σ H' fun σ2 H2 => tb { D with nx := N, ct := N, bk := D.nx } σ2 H2) := by
  refine ⟨fun i m σ H => m = xs.length - i ∧ i ≤ xs.length ∧ Pv i σ H, ⟨xs.length, rfl, Nat.zero_le _, h0⟩, ?_⟩
  rintro i m σ H ⟨rfl, hi, pv⟩
  have qx := hq i σ H pv
  by_cases hlt : i < xs.length
  · refine .inr ⟨⟨xs, xs[i], qx, rfl, List.getElem?_eq_getElem hlt⟩, Pv (i + 1), fun σ' H' p' => ⟨xs.length - (i + 1), by omega, rfl, hlt, p'⟩, fun v H' y => ?_⟩
    obtain ⟨T, x, rfl, nT, rfl, fx⟩ := y
    exact hs i x T σ H (fx xs qx) pv nT
  · have e : i = xs.length := by omega
    subst e
    exact .inl ⟨⟨xs, qx, rfl, Nat.le_refl _⟩, hd σ H pv⟩
end EnT
set_option linter.all false
namespace KX
open PySem PySem.Spec L2
theorem pg_tupK {X : Cx} {pos : Pos} (K : PySem.W.Frag) {es : List Expr} {k : Nat} {t : TGs} {n : Nat} (hc : X.calm = true) (h : PGs X es t)
    (hn : (assignEach es X.env).length = n := by rfl) (hst : (assignEach es X.env).findIdx? (·.1) = none := by rfl) (hK : X.K = K := by rfl) : PG X (.Tuple es k pos) (gTup K n t) := by
  subst hK
  exact pg_tup hc h hn hst
def rTup (K : PySem.W.Frag) : List V → Hp → VK → Prop := fun xs H Q => ∃ p ys, xs = [V.ref p] ∧ ((SqL K H p ys ∧ ∀ (l : Addr), H l = none → Q (V.ref l) (upd H l (HO.tup ys))) ∨ SqT K H p ys ∧ Q (V.ref p) H)
theorem call_tuple_K {X : Cx} (K : PySem.W.Frag) (hK : X.K = K := by rfl) : CallR X (Value.type "tuple") (rTup K) := by
  subst hK
  exact call_tuple_of
theorem ix_listK {X : Cx} (K : PySem.W.Frag) (hK : X.K = K := by rfl) : IxR X (rIxL K) := by
  subst hK
  exact ix_list
theorem ix_tupK {X : Cx} (K : PySem.W.Frag) (hK : X.K = K := by rfl) : IxR X (rIxT K) := by
  subst hK
  exact ix_tup
theorem in_seqK {X : Cx} (K : PySem.W.Frag) (hK : X.K = K := by rfl) : OpR X (compareOp CmpOp.In) (rIn K false) := by
  subst hK
  exact op_in_seq
theorem mt_indexK {X : Cx} (K : PySem.W.Frag) (hK : X.K = K := by rfl) : MtR X "list.index" (rIndex K) := by
  subst hK
  exact mt_index
theorem pi_tupK {X : Cx} (K : PySem.W.Frag) {tg l : Expr} {tl : TE} (h : PE X l tl) (hK : X.K = K := by rfl) : PI X tg l (iTup K tl) := by
  subst hK
  exact pi_tup h
theorem pi_listK {X : Cx} (K : PySem.W.Frag) {tg l : Expr} {tl : TE} (h : PE X l tl) (hK : X.K = K := by rfl) : PI X tg l (iList K tl) := by
  subst hK
  exact pi_list h
theorem hu {A : Around} {k : Nat} (hr : Room k A) : A.units + 1 < cLine := by have := hr.units; omega
theorem pe_bmK {X : Cx} (K : PySem.W.Frag) {o e : Expr} {es : List Expr} {to : TE} {t : TA} {name : Str} {apos cpos : Pos} {T id : String} {r : V → List V → Hp → VK → Prop} (h1 : PlainAttrs T) (h2 : Slot T name id) (h3 : typeOf (Value.builtin id) = pure (Value.type "method_descriptor")) (h4 : MtR X id r) (h5 : PE X o to) (h6 : PA X (e :: es) t)
    (a1 : attributeBase o name X.env (eval o X.env) = eval o X.env := by rfl)
    (a2 : ((((backTo cpos (starEach (e :: es) X.env)).all fun x => !x.fst) && (backToKw cpos (keywordEach [] X.env)).all fun x => x.fst.isSome) && decide (((e :: es).length + ([] : List Keyword).length + if ([] : List Keyword).isEmpty = true then 0 else 1) < 30)) = true := by rfl)
    (a3 : (apos.endLine == cpos.line) = true := by rfl) (a4 : starEach (e :: es) X.env = (false, eval e X.env) :: starEach es X.env := by rfl) (a5 : ((backTo cpos (starEach es X.env)).any fun x => x.fst) = false := by rfl) (hK : X.K = K := by rfl) :
    PE X ((o.Attribute name apos).Call (e :: es) [] cpos) (tBM K T r to t) := by
  subst hK
  exact pe_bm h1 h2 h3 h4 h5 h6 a1 a2 a3 a4 a5
theorem notin_seqK {X : Cx} (K : PySem.W.Frag) (hK : X.K = K := by rfl) : OpR X (compareOp CmpOp.NotIn) (rIn K true) := by
  subst hK
  exact op_notIn_seq
theorem call_list_K {X : Cx} (K : PySem.W.Frag) (hK : X.K = K := by rfl) : CallR X (Value.type "list") (fun xs H Q => ∃ p ys, xs = [V.ref p] ∧ (SqL K H p ys ∨ SqT K H p ys) ∧ ∀ (l : Addr), H l = none → Q (V.ref l) (upd H l (HO.lst ys))) := by
  subst hK
  exact call_list_of
def rLenK (K : PySem.W.Frag) : List V → Hp → VK → Prop := fun xs H Q => ∃ p ys, xs = [V.ref p] ∧ (SqL K H p ys ∨ SqT K H p ys) ∧ Q (V.int (ys.length : Nat)) H
theorem len_seqK {X : Cx} (K : PySem.W.Frag) (hK : X.K = K := by rfl) : CallR X (Value.builtin "len") (rLenK K) := by
  subst hK
  exact call_len_seq
end KX
set_option Elab.async false
set_option linter.all false
set_option maxRecDepth 100000
set_option maxHeartbeats 4000000
/-! for x, y in zip(u, v), each of u and v a list or a tuple -/
namespace ZM
open PySem PySem.Spec PyProof.Rows L2
def Sq (K : PySem.W.Frag) (b : Bool) (H : Hp) (a : Addr) (xs : List V) : Prop := match b with
  | true => SqT K H a xs
  | false => SqL K H a xs
def ItA (b : Bool) (h : Heap) (it a : Addr) (i : Nat) : Prop := match b with
  | true => h.IsTupleIter it a i
  | false => h.IsListIter it a i
def SeqIs (b : Bool) (h : Heap) (a : Addr) (its : Array Value) : Prop := match b with
  | true => h.IsTuple a its
  | false => h.IsList a its
def itO (b : Bool) (a : Addr) : Obj := match b with
  | true => { cls := .type "tuple_iterator", data := .fields #[.ref a, .int 0 0] }
  | false => { cls := .type "list_iterator", data := .fields #[.ref a, .int 0 0] }
theorem draws (b : Bool) {prog : Program} {w : World} {A : Around} (hh : A.handled = none) (it a : Addr) (hne : a ≠ it) (its : Array Value) : Draws prog w A it [it, a] its.size (fun i v => its[i]? = some v) (fun i h => ItA b h it a i ∧ SeqIs b h a its) := by
  cases b
  · exact Draws.list hh it a hne its
  · exact Draws.tuple hh it a hne its
theorem begins (b : Bool) (a : Addr) (its : Array Value) : Begins (.ref a) (itO b a) fun h => SeqIs b h a its := by
  cases b
  · exact begins_list a its
  · exact begins_tuple a its
theorem itA_at {b : Bool} {h h' : Heap} {it a : Addr} {i : Nat} (x : ItA b h it a i) (k : ∀ o, h.get? it = some o → h'.get? it = some o) : ItA b h' it a i := by
  cases b
  · obtain ⟨o, e, c, d⟩ := x
    exact ⟨o, k o e, c, d⟩
  · obtain ⟨o, e, c, d⟩ := x
    exact ⟨o, k o e, c, d⟩
theorem itA_obj {b : Bool} {h : Heap} {it a : Addr} {i : Nat} (x : ItA b h it a i) : ∃ o, h.get? it = some o ∧ ∀ v, o.data ≠ .cell v := by
  cases b
  · obtain ⟨o, e, c, d⟩ := x
    exact ⟨o, e, fun v q => by rw [d] at q; cases q⟩
  · obtain ⟨o, e, c, d⟩ := x
    exact ⟨o, e, fun v q => by rw [d] at q; cases q⟩
theorem itA_new {b : Bool} {h : Heap} {it a : Addr} (e : h.get? it = some (itO b a)) : ItA b h it a 0 := by
  cases b
  · exact ⟨_, e, rfl, rfl⟩
  · exact ⟨_, e, rfl, rfl⟩
section
variable {X : Cx} {pins : List (Addr × Obj)} {σ : L2.St} {H : Hp} {s : Shared}
theorem sq_at {b : Bool} {a : Addr} {xs : List V} (I : Inv X pins σ H s) (h : Sq X.K b H a xs) : ∃ its : List Value, Vals xs its ∧ SeqIs b s.heap a its.toArray ∧ a < s.heap.objs.size := by
  cases b
  · obtain ⟨its, rv, p, _⟩ := I.list h
    exact ⟨its, rv, p.isList, p.lt⟩
  · obtain ⟨its, rv, p, _⟩ := I.tuple h
    obtain ⟨o, ho, _⟩ := id p
    exact ⟨its, rv, p, Heap.lt_size ho⟩
theorem sq_inj {b : Bool} {a : Addr} {xs ys : List V} (I : Inv X pins σ H s) (h : Sq X.K b H a xs) (h' : Sq X.K b H a ys) : xs = ys := by
  cases b
  · exact I.list_inj h h'
  · exact I.tuple_inj h h'
end
def ItzM (K : PySem.W.Frag) (b1 b2 : Bool) (a b : Addr) (n1 n2 : Nat) : It :=
  ⟨fun i H => ∃ (xs ys : List V) (x y : V), Sq K b1 H a xs ∧ Sq K b2 H b ys ∧ xs.length = n1 ∧ ys.length = n2 ∧ xs[i]? = some x ∧ ys[i]? = some y,
    fun i H v H' => ∃ T x y, v = .ref T ∧ H T = none ∧ H' = upd H T (.tup [x, y]) ∧ (∀ xs, Sq K b1 H a xs → xs[i]? = some x) ∧ ∀ ys, Sq K b2 H b ys → ys[i]? = some y,
    fun i H => ∃ xs ys : List V, Sq K b1 H a xs ∧ Sq K b2 H b ys ∧ xs.length = n1 ∧ ys.length = n2 ∧ (n1 ≤ i ∨ n2 ≤ i)⟩
theorem turnM {P : Program} {w : World} {K : PySem.W.Frag} {elts : List Expr} {kk : Nat} {tpos : Pos} {b1 b2 : Bool} {a b z TI TO i1 i2 : Addr} {n1 n2 : Nat} (D : ZipSep2 z TI TO i1 i2 [i1, a] [i2, b]) (na : a ≠ i1) (nb : b ≠ i2) :
    Turn P w K (.Tuple elts kk tpos) (ItzM K b1 b2 a b n1 n2) [z, TI, TO, i1, i2] z (fun i h => IsZip h z TI TO .none ∧ IsTupOf2 h TI (.ref i1) (.ref i2) ∧ (∃ x y, IsTupOf2 h TO x y) ∧ ItA b1 h i1 a i ∧ ItA b2 h i2 b i ∧ i ≤ n1 ∧ i ≤ n2) where
  mem := by simp
  obj := fun i h st c hc => by
    obtain ⟨hz, hTI, ⟨x, y, hTO⟩, h1, h2, _⟩ := st
    have e' : c = z ∨ c = TI ∨ c = TO ∨ c = i1 ∨ c = i2 := by simpa using hc
    rcases e' with q | q | q | q | q
    · rw [q]; exact ⟨_, hz, fun v q => nomatch q⟩
    · rw [q]; exact ⟨_, hTI, fun v q => nomatch q⟩
    · rw [q]; exact ⟨_, hTO, fun v q => nomatch q⟩
    · rw [q]; exact itA_obj h1
    · rw [q]; exact itA_obj h2
  keep := fun i h h' st k => by
    obtain ⟨hz, hTI, ⟨x, y, hTO⟩, h1, h2, l1, l2⟩ := st
    exact ⟨k z (by simp) _ hz, k TI (by simp) _ hTI, ⟨x, y, k TO (by simp) _ hTO⟩, itA_at h1 fun o q => k i1 (by simp) o q, itA_at h2 fun o q => k i2 (by simp) o q, l1, l2⟩
  item := by
    intro X hP hw hK hc i pins s σ H E I hf st hg
    subst hP hw hK
    obtain ⟨hz, hTI, ⟨x0, y0, hTO⟩, h1, h2, hl1, hl2⟩ := st
    obtain ⟨xs, ys, x, y, hqx, hqy, hn1, hn2, hx, hy⟩ := hg
    obtain ⟨its, rv, p, _⟩ := sq_at I hqx
    obtain ⟨its2, rv2, p2, _⟩ := sq_at I hqy
    obtain ⟨u, hu, ru⟩ := rv.get hx
    obtain ⟨u2, hu2, ru2⟩ := rv2.get hy
    have hzl : z < s.heap.objs.size := Heap.lt_size hz
    have hlt1 : i < its.toArray.size := by
      have := (List.getElem?_eq_some_iff.mp hu).1
      simpa using this
    have hlt2 : i < its2.toArray.size := by
      have := (List.getElem?_eq_some_iff.mp hu2).1
      simpa using this
    have hlx : i < xs.length := (List.getElem?_eq_some_iff.mp hx).1
    have hly : i < ys.length := (List.getElem?_eq_some_iff.mp hy).1
    refine wpAny_pyNext_zipD2_item D (draws b1 (A := X.A.in1) (I.ok.hd hc) i1 a na its.toArray) (draws b2 (A := X.A.in1) (I.ok.hd hc) i2 b nb its2.toArray) hz hTI hTO ⟨h1, p⟩ ⟨h2, p2⟩ hlt1 hlt2 fun x1 x2 h' tk hx1 hx2 z' TO' st1 st2 hT hsz hk => ?_
    have ex1 : x1 = u := by
      have q : its[i]? = some x1 := by simpa using hx1
      exact Option.some.inj (q.symm.trans hu)
    have ex2 : x2 = u2 := by
      have q : its2[i]? = some x2 := by simpa using hx2
      exact Option.some.inj (q.symm.trans hu2)
    subst ex1 ex2
    refine ⟨_, rfl, wpAny_letOwnedTupleGo_zip (s := { s with heap := h', toks := tk }) z' fun h'' z'' sb => ?_⟩
    have hT2 : h''.get? s.heap.objs.size = some { cls := .type "tuple", data := .seq #[x1, x2] } := (sb.2 _ (Nat.ne_of_gt hzl)).trans hT
    have new : ObjOk X.prog X.w (upd H s.heap.objs.size (.tup [x, y])) h'' s.heap.objs.size (.tup [x, y]) :=
      ⟨by show 2 ≤ sizeLine; decide, [x1, x2], .cons ru (.cons ru2 .nil), ⟨_, hT2, rfl, _, rfl⟩⟩
    have I1 : Inv X pins σ (upd H s.heap.objs.size (.tup [x, y])) { s with heap := h'', toks := tk } :=
      I.turnedNew (t' := tk) (ch := [z, TI, TO, i1, i2]) (fun c o hb q => (sb.2 c (fun q' => hb (by simp [q']))).trans (hk c o (fun q' => hb (by simp [q'])) (fun q' => hb (by simp [q'])) (fun q' => hb (by simp [q'])) (fun q' => hb (by simp [q'])) q)) hf (Nat.le_refl _) new
    refine ⟨.ref s.heap.objs.size, _, I1, rfl, ⟨_, x, y, rfl, I.hok.fresh (Nat.le_refl _), rfl, fun l hl => by rw [sq_inj I hl hqx]; exact hx, fun l hl => by rw [sq_inj I hl hqy]; exact hy⟩, ⟨z'', ?_, ⟨x1, x2, ?_⟩, ?_, ?_, by omega, by omega⟩, fun c hcm => ?_⟩
    · exact (sb.2 _ D.TIz).trans (hk _ _ D.TIz D.TITO D.TIi1 D.TIi2 hTI)
    · exact (sb.2 _ D.TOz).trans TO'
    · exact itA_at st1.1 fun o q => (sb.2 _ D.zi1.symm).trans q
    · exact itA_at st2.1 fun o q => (sb.2 _ D.zi2.symm).trans q
    · have hlt : c < s.heap.objs.size := by
        have e' : c = z ∨ c = TI ∨ c = TO ∨ c = i1 ∨ c = i2 := by simpa using hcm
        rcases e' with q | q | q | q | q
        · rw [q]; exact hzl
        · rw [q]; exact Heap.lt_size hTI
        · rw [q]; exact Heap.lt_size hTO
        · rw [q]; obtain ⟨_, e1, _⟩ := itA_obj h1; exact Heap.lt_size e1
        · rw [q]; obtain ⟨_, e2, _⟩ := itA_obj h2; exact Heap.lt_size e2
      rw [upd_ne (Nat.ne_of_lt hlt)]
      exact (hf c hcm).1
  done := by
    intro X hP hw hK hc i pins s σ H E I hf st hg
    subst hP hw hK
    obtain ⟨hz, hTI, ⟨x0, y0, hTO⟩, h1, h2, hl1, hl2⟩ := st
    obtain ⟨xs, ys, hqx, hqy, hn1, hn2, hend⟩ := hg
    obtain ⟨its, rv, p, _⟩ := sq_at I hqx
    obtain ⟨its2, rv2, p2, _⟩ := sq_at I hqy
    have l1 := rv.length
    have l2 := rv2.length
    have z1 : its.toArray.size = n1 := by simp; omega
    have z2 : its2.toArray.size = n2 := by simp; omega
    exact wpAny_pyNext_zipD2_end D (draws b1 (A := X.A.in1) (I.ok.hd hc) i1 a na its.toArray) (draws b2 (A := X.A.in1) (I.ok.hd hc) i2 b nb its2.toArray) hz hTI hTO ⟨h1, p⟩ ⟨h2, p2⟩ (by omega) (by omega) (by omega) fun h' tk hk => ⟨rfl, I.turnedL (t' := tk) (ch := [z, TI, TO, i1, i2]) (fun c o hb q =>
      hk c o (fun q' => hb (by simp [q'])) (fun q' => hb (by simp [q'])) (fun q' => hb (by simp [q'])) (fun q' => hb (by simp [q'])) q) hf⟩
  self := fun A i s Q E st h => wpAny_pyIter_zip st.1 h
theorem far (x y : Nat) (h : x ≠ y) : @Ne Addr x y := h
theorem far2 (x y z : Nat) (h : x ≠ y) (h' : x ≠ z) : ¬ (@Membership.mem Addr (List Addr) _ [y, z] x) := fun q => by
  rcases List.mem_cons.mp q with q | q
  · exact h q
  · exact h' (List.mem_singleton.mp q)
theorem sepN (N a b : Nat) (la : a < N) (lb : b < N) : ZipSep2 (N + 4) (N + 2) (N + 3) N (N + 1) [N, a] [N + 1, b] :=
  ⟨far (N + 2) (N + 4) (by omega), far (N + 3) (N + 4) (by omega), far (N + 2) (N + 3) (by omega), far (N + 2) N (by omega), List.mem_cons_self, far2 (N + 4) N a (by omega) (by omega), far2 (N + 3) N a (by omega) (by omega), far (N + 2) (N + 1) (by omega), List.mem_cons_self, far2 (N + 4) (N + 1) b (by omega) (by omega), far2 (N + 3) (N + 1) b (by omega) (by omega), far2 N (N + 1) b (by omega) (by omega), far2 (N + 1) N a (by omega) (by omega)⟩
def iZipM (K : PySem.W.Frag) (b1 b2 : Bool) (ta : TA) : TI := fun σ H R => ta σ H fun vs H1 => ∃ a b xs ys, vs = [.ref a, .ref b] ∧ Sq K b1 H1 a xs ∧ Sq K b2 H1 b ys ∧ R (ItzM K b1 b2 a b xs.length ys.length) H1
theorem pi_zipM {X : Cx} (b1 b2 : Bool) {e e2 : Expr} {ta : TA} {p pos tpos : Pos} {elts : List Expr} {kk : Nat} (hg : Gl X "zip") (hm : X.mg "zip" = none) (ha : PA X [e, e2] ta)
    (hs : starEach [e, e2] X.env = (false, eval e X.env) :: starEach [e2] X.env := by rfl) (hpl : (backTo pos (starEach [e2] X.env)).any (·.1) = false := by rfl) :
    PI X (.Tuple elts kk tpos) (.Call (.Name "zip" p) [e, e2] [] pos) (iZipM X.K b1 b2 ta) := by
  refine ⟨fun pins s σ H R I h => ?_⟩
  refine Call_ (ld_blt I hg hm PyProof.Rows.boot_zip (PyProof.Rows.callWith_type1 (thn (ha.run pos pins s σ H _ I h) fun us s1 ⟨vs, H1, I1, r1, q1⟩ => ?_) hs hpl))
  obtain ⟨a, b, xs, ys, ex, hqx, hqy, q⟩ := q1
  subst ex
  cases r1 with
  | cons r rr =>
    cases rr with
    | cons r' rr =>
      cases rr
      cases r
      cases r'
      obtain ⟨its, rv, p1, la⟩ := sq_at I1 hqx
      obtain ⟨its2, rv2, p2, lb⟩ := sq_at I1 hqy
      refine zip_begins2 (begins b1 a its.toArray) (begins b2 b its2.toArray) p1 p2 fun h' hz hTI hTO h1 h2 hsz hk => wpAny_pyIter_zip hz ?_
      have I2 : Inv X pins σ H1 { s1 with heap := h' } := I1.kept (t' := s1.toks) hk
      have sep := sepN s1.heap.objs.size a b la lb
      refine ⟨s1.heap.objs.size + 4, [s1.heap.objs.size + 4, s1.heap.objs.size + 2, s1.heap.objs.size + 3, s1.heap.objs.size, s1.heap.objs.size + 1], _, _, H1, rfl, I2, turnM (b1 := b1) (b2 := b2) (n1 := xs.length) (n2 := ys.length) sep (Nat.ne_of_lt la) (Nat.ne_of_lt (Nat.lt_succ_of_lt lb)), ⟨hz, hTI, ⟨_, _, hTO⟩, itA_new h1, itA_new h2, Nat.zero_le _, Nat.zero_le _⟩, fun c hcm => ?_, q⟩
      have e' : c = s1.heap.objs.size + 4 ∨ c = s1.heap.objs.size + 2 ∨ c = s1.heap.objs.size + 3 ∨ c = s1.heap.objs.size ∨ c = s1.heap.objs.size + 1 := by simpa using hcm
      have hle : s1.heap.objs.size ≤ c := by
        rcases e' with e | e | e | e | e
        · rw [e]; exact Nat.le_add_right _ _
        · rw [e]; exact Nat.le_add_right _ _
        · rw [e]; exact Nat.le_add_right _ _
        · rw [e]; exact Nat.le_refl _
        · rw [e]; exact Nat.le_add_right _ _
      exact I1.fpOk hle (I1.hok.fresh hle)
theorem walkM {K : PySem.W.Frag} {b1 b2 : Bool} {a b : Addr} {xs ys : List V} {n : Nat} (hn : n = min xs.length ys.length) : Walk (ItzM K b1 b2 a b xs.length ys.length) n (fun H => Sq K b1 H a xs ∧ Sq K b2 H b ys) (YPair (fun i => xs[i]?) (fun i => ys[i]?)) := by
  subst hn
  refine ⟨fun i _ hi q => ?_, fun _ q => ⟨xs, ys, q.1, q.2, rfl, rfl, by omega⟩, fun i H v H' _ q y => ?_⟩
  · have h1 : i < xs.length := by omega
    have h2 : i < ys.length := by omega
    exact ⟨xs, ys, xs[i], ys[i], q.1, q.2, rfl, rfl, List.getElem?_eq_getElem h1, List.getElem?_eq_getElem h2⟩
  · obtain ⟨T, x, y, h1, h2, h3, h4, h5⟩ := y
    exact ⟨T, x, y, h1, h2, h3, h4 xs q.1, h5 ys q.2⟩
theorem Sq.t {K : PySem.W.Frag} {H : Hp} {a : Addr} {xs : List V} (h : H a = some (.tup xs)) : Sq K true H a xs := SqT.of h
theorem Sq.l {K : PySem.W.Frag} {H : Hp} {a : Addr} {xs : List V} (h : H a = some (.lst xs)) : Sq K false H a xs := SqL.of h
end ZM
set_option Elab.async false
set_option linter.all false
set_option maxRecDepth 100000
set_option maxHeartbeats 4000000
/-! t * 0, t * 2, t a tuple, perhaps without items -/
namespace BR
open PySem PySem.Spec PyProof.Rows L2
theorem tuple_none0 (l : Addr) (n : Nat) (dd : Option Addr) (sl : Array (Option Value)) (u : Tok) :
    Meets (Builtin.«tuple.__mul__» ⟨[.ref l, .int 0 u], []⟩) (fun _ R s => s.heap.get? l = some { cls := .type "tuple", dict := dd, data := .seq #[] n, slots := sl } ∧ R (.ok (.ret (Value.ref l))) s) :=
  .of_wp fun prog w A R s h => by
    obtain ⟨hp, g, d, tk, os⟩ := s
    obtain ⟨hl, h⟩ := h
    have f1 := AutoSeq1.idx_int
    wp_walk using wpAny_loadPart' hl
    exact ⟨_, rfl, h⟩
theorem tuple_none2 (l : Addr) (n : Nat) (dd : Option Addr) (sl : Array (Option Value)) (u : Tok) :
    Meets (Builtin.«tuple.__mul__» ⟨[.ref l, .int 2 u], []⟩) (fun _ R s => s.heap.get? l = some { cls := .type "tuple", dict := dd, data := .seq #[] n, slots := sl } ∧ R (.ok (.ret (Value.ref l))) s) :=
  .of_wp fun prog w A R s h => by
    obtain ⟨hp, g, d, tk, os⟩ := s
    obtain ⟨hl, h⟩ := h
    have f1 := AutoSeq1.idx_int
    wp_walk using wpAny_loadPart' hl
    exact ⟨_, rfl, h⟩
def rRepA (K : PySem.W.Frag) : R2 := fun x y H Q => ∃ l k xs, x = .ref l ∧ y = .int k ∧ SqT K H l xs ∧ xs.length ≤ 1000 ∧ (k = 0 ∨ k = 2) ∧ (xs = [] → Q (.ref l) H) ∧ (xs ≠ [] → ∀ p, H p = none → Q (.ref p) (upd H p (.tup (List.replicate k.toNat xs).flatten)))
section
variable {X : Cx}
theorem op_repA : OpR X (binaryOp .Mult) (rRepA X.K) := by
  intro pins s σ H x y v u Q I rx ry h
  obtain ⟨l, k, xs, ex, ey, hT, hlen, hk, q0, q1⟩ := h
  by_cases hx : xs = []
  · subst hx ex ey
    cases rx
    obtain ⟨t, rfl⟩ := ry
    obtain ⟨its, r, ⟨⟨cls, dd, data, sl⟩, ho, hc, n, hd⟩, hs⟩ := I.tuple hT
    simp only at hc hd
    subst hc hd
    cases r
    rcases hk with rfl | rfl
    · refine wpAny_binaryOp_repeat_ref (T := "tuple") (U := "int") (by decide) ⟨_, ho, rfl⟩ (fun s' => typeIs_int s' 0 t) noFill_tuple_mul F.fills_int_mul F.slot_int_rmul repeat_tuple F.slot_int_index.lookup
        (call_meets F.slot_int_rmul (typeIs_int s 0 t) F.entry_int_rmul (F.args_int_rmul_2 _ _) (int_rmul_tuple 0 t l _ n dd sl)
          ⟨ho, rfl, ⟨_, ho, rfl⟩, call_meets F.slot_tuple_mul ⟨_, ho, rfl⟩ F.entry_tuple_mul (F.args_tuple_mul_2 _ _) (tuple_none0 l n dd sl t) ⟨ho, ?_⟩⟩)
      exact ⟨.ref l, H, I, rfl, q0 rfl⟩
    · refine wpAny_binaryOp_repeat_ref (T := "tuple") (U := "int") (by decide) ⟨_, ho, rfl⟩ (fun s' => typeIs_int s' 2 t) noFill_tuple_mul F.fills_int_mul F.slot_int_rmul repeat_tuple F.slot_int_index.lookup
        (call_meets F.slot_int_rmul (typeIs_int s 2 t) F.entry_int_rmul (F.args_int_rmul_2 _ _) (int_rmul_tuple 2 t l _ n dd sl)
          ⟨ho, rfl, ⟨_, ho, rfl⟩, call_meets F.slot_tuple_mul ⟨_, ho, rfl⟩ F.entry_tuple_mul (F.args_tuple_mul_2 _ _) (tuple_none2 l n dd sl t) ⟨ho, ?_⟩⟩)
      exact ⟨.ref l, H, I, rfl, q0 rfl⟩
  · rcases hk with rfl | rfl
    · exact BO.op_rep01 pins s σ H x y v u Q I rx ry ⟨l, 0, xs, ex, ey, hT, hx, .inr ⟨rfl, fun p n => q1 hx p n⟩⟩
    · exact op_repT pins s σ H x y v u Q I rx ry ⟨l, 2, xs, ex, ey, hT, hx, by decide, by decide, hlen, fun p n => q1 hx p n⟩
end
end BR
set_option Elab.async false
set_option linter.all false
set_option maxRecDepth 100000
/-! dicts whose keys are rows (a text, a tuple of ints) -/
namespace DN
open PySem PySem.Spec PyProof.Rows L2

abbrev Row := Str × List Int
def nk (r : Row) : NestedKey := .tup [.text r.1, .tup (r.2.map .num)]
theorem num_inj : ∀ {a b : List Int}, a.map NestedKey.num = b.map NestedKey.num → a = b
  | [], [], _ => rfl
  | [], _ :: _, e => by simp at e
  | _ :: _, [], e => by simp at e
  | x :: xs, y :: ys, e => by
    rw [List.map_cons, List.map_cons] at e
    injection e with e1 e2
    injection e1 with e1
    rw [e1, num_inj e2]
theorem nk_inj {a b : Row} (e : nk a = nk b) : a = b := by
  obtain ⟨a1, a2⟩ := a
  obtain ⟨b1, b2⟩ := b
  unfold nk at e
  injection e with e
  injection e with e1 e2
  injection e1 with e1
  injection e2 with e2 _
  injection e2 with e2
  have e3 := num_inj e2
  simp only at e1 e3
  rw [e1, e3]
/-- the row r stands at b -/
def RowAt (H : Hp) (b : Addr) (r : Row) : Prop := ∃ p, H b = some (.tup [.str r.1, .ref p]) ∧ H p = some (.tup (r.2.map V.int))
theorem RowAt.keep {H H' : Hp} {b : Addr} {r : Row} (x : RowAt H b r) (ht : ∀ b xs, H b = some (.tup xs) → H' b = some (.tup xs)) : RowAt H' b r :=
  let ⟨p, h1, h2⟩ := x; ⟨p, ht _ _ h1, ht _ _ h2⟩
theorem nested_ints {h : Heap} : ∀ {ns : List Int} {us : List Value}, Vals (ns.map V.int) us → NestedAll h (ns.map .num) us
  | [], _, r => by rw [List.map_nil] at r; cases r; exact .nil
  | n :: ns, _, r => by
    rw [List.map_cons] at r
    cases r with
    | cons h1 t =>
      obtain ⟨t', e⟩ := (show ∃ t, _ = Value.int n t from h1)
      subst e
      exact .cons (.int n t') (nested_ints t)
theorem depth_nums : ∀ ns : List Int, NestedKey.depthAll (ns.map .num) = 0
  | [] => rfl
  | n :: ns => by rw [List.map_cons]; simp [NestedKey.depthAll, NestedKey.depth, depth_nums ns]
theorem depth_nk (r : Row) : (nk r).depth ≤ 8 := by
  simp [nk, NestedKey.depth, NestedKey.depthAll, depth_nums]
theorem row_is {P : Program} {w : World} {H : Hp} {h : Heap} {b : Addr} {r : Row} (ok : HOk P w H h) (x : RowAt H b r) : (nestedKind P w).is h (nk r) b := by
  obtain ⟨p, e1, e2⟩ := x
  obtain ⟨_, its, r1, o, h1, h2, n, h3⟩ := (show ObjOk P w H h b (.tup [.str r.1, .ref p]) from ok b _ e1)
  obtain ⟨_, its', r1', o', h1', h2', n', h3'⟩ := (show ObjOk P w H h p (.tup (r.2.map V.int)) from ok p _ e2)
  refine ⟨.tup h1 h2 h3 ?_, depth_nk r⟩
  cases r1 with
  | @cons _ u _ us q1 t =>
    cases t with
    | @cons _ u' _ us' q2 t' =>
      cases t'
      obtain ⟨tk, e⟩ := (show ∃ t, u = Value.str r.1 t from q1)
      subst e
      cases (show u' = Value.ref p from q2)
      refine .cons (.text _ _) (.cons (.tup h1' h2' h3' ?_) .nil)
      simpa using nested_ints (h := h) r1'

abbrev KN : List (Row × Addr × V) → List (NestedKey × Addr × Value) → Prop := Paired fun p q => q.1 = nk p.1 ∧ q.2.1 = p.2.1 ∧ RelV p.2.2 q.2.2
/-- the dict's object -/
def DictN (P : Program) (w : World) (a : Addr) (xs : List (Row × Addr × V)) (h : Heap) : Prop :=
  xs.length ≤ sizeLine ∧ (a == sysModules) = false ∧ ∃ ys, KN xs ys ∧ ∃ o es ep, h.get? a = some o ∧ o.ExactDict ∧ o.data = .dict es ep ∧ es.toList = ys.map (entryOfKey (nestedKind P w)) ∧ (ys.map (·.1)).Nodup
def dN (P : Program) (w : World) (a : Addr) (xs : List (Row × Addr × V)) : HO := .ext (DictN P w a xs)
def pr (xs : List (Row × Addr × V)) : List (Row × V) := xs.map fun x => (x.1, x.2.2)
/-- at a a dict of such rows -/
def DNt (P : Program) (w : World) (H : Hp) (a : Addr) (kvs : List (Row × V)) : Prop := ∃ xs, H a = some (dN P w a xs) ∧ pr xs = kvs ∧ ∀ x ∈ xs, RowAt H x.2.1 x.1
theorem DNt.keep {P : Program} {w : World} {H H' : Hp} {a : Addr} {kvs : List (Row × V)} (x : DNt P w H a kvs) (ha : H' a = H a) (ht : ∀ b xs, H b = some (.tup xs) → H' b = some (.tup xs)) : DNt P w H' a kvs := by
  obtain ⟨xs, h1, h2, h3⟩ := x
  exact ⟨xs, ha.trans h1, h2, fun x hx => (h3 x hx).keep ht⟩
theorem DNt.at {P : Program} {w : World} {H : Hp} {a : Addr} {kvs : List (Row × V)} (x : DNt P w H a kvs) : ∃ φ, H a = some (.ext φ) := let ⟨_, h, _⟩ := x; ⟨_, h⟩
theorem DNt.ne_tup {P : Program} {w : World} {H : Hp} {a b : Addr} {kvs : List (Row × V)} {ys : List V} (x : DNt P w H a kvs) (h : H b = some (.tup ys)) : b ≠ a := by
  obtain ⟨φ, e⟩ := x.at
  exact ne_of h e (fun z => nomatch z)
theorem DNt.ne_lst {P : Program} {w : World} {H : Hp} {a b : Addr} {kvs : List (Row × V)} {ys : List V} (x : DNt P w H a kvs) (h : H b = some (.lst ys)) : b ≠ a := by
  obtain ⟨φ, e⟩ := x.at
  exact ne_of h e (fun z => nomatch z)
theorem DNt.ne_dK {P : Program} {w : World} {H : Hp} {a b : Addr} {kvs : List (Row × V)} {ys : List (Key × V)} (x : DNt P w H a kvs) (h : H b = some (.dK ys)) : b ≠ a := by
  obtain ⟨φ, e⟩ := x.at
  exact ne_of h e (fun z => nomatch z)
theorem DNt.ne_none {P : Program} {w : World} {H : Hp} {a b : Addr} {kvs : List (Row × V)} (x : DNt P w H a kvs) (h : H b = none) : a ≠ b := by
  obtain ⟨φ, e⟩ := x.at
  exact ne_of_none e h
theorem KN.val {xs : List (Row × Addr × V)} {ys : List (NestedKey × Addr × Value)} (r : KN xs ys) (k : Row) : RelO (valV (pr xs) k) ((atKey ys (nk k)).map (·.2)) := by
  induction r with
  | nil => exact True.intro
  | @cons p q ps qs h t ih =>
    obtain ⟨h1, _, h2⟩ := h
    by_cases e : p.1 = k
    · have e' : q.1 = nk k := by rw [h1, e]
      have b : atKey (q :: qs) (nk k) = some q.2 := by simp [atKey, List.find?_cons, e']
      show RelO (valV ((p.1, p.2.2) :: pr ps) k) _
      rw [valV_pos (p := (p.1, p.2.2)) e, b]; exact h2
    · have e' : ¬ q.1 = nk k := fun z => e (nk_inj (h1.symm.trans z))
      have b : atKey (q :: qs) (nk k) = atKey qs (nk k) := by simp [atKey, List.find?_cons, e']
      show RelO (valV ((p.1, p.2.2) :: pr ps) k) _
      rw [valV_neg (p := (p.1, p.2.2)) e, b]; exact ih
/-- one more pair at the end -/
theorem KN.put {xs : List (Row × Addr × V)} {ys : List (NestedKey × Addr × Value)} (r : KN xs ys) {k : Row} (hn : valV (pr xs) k = none) {b : Addr} {y : V} {u : Value} (ry : RelV y u) :
    KN (xs ++ [(k, b, y)]) (storedH ys (nk k) b u) := by
  have e : (atKey ys (nk k)).isSome = false := by
    have q := (r.val k).isSome_eq
    rw [hn, Option.isSome_map] at q
    exact q.symm
  unfold storedH
  rw [e]
  exact Paired.snoc r ⟨rfl, rfl, ry⟩

section
variable {P : Program} {w : World} {H : Hp} {h : Heap} {a : Addr}
theorem dn_of {xs : List (Row × Addr × V)} (ok : HOk P w H h) (e : H a = some (dN P w a xs)) (hr : ∀ x ∈ xs, RowAt H x.2.1 x.1) :
    xs.length ≤ sizeLine ∧ (a == sysModules) = false ∧ ∃ ys, KN xs ys ∧ h.DictOfH (nestedKind P w) a ys := by
  obtain ⟨⟨z, y, ys, r, o, es, ep, h1, h2, h3, h4, h5⟩, _⟩ := (show ObjOk P w H h a (dN P w a xs) from ok a _ e)
  refine ⟨z, y, ys, r, o, es, ep, h1, h2, h3, h4, ?_, h5⟩
  have all : ∀ {l : List (Row × Addr × V)} {m : List (NestedKey × Addr × Value)}, KN l m → (∀ x ∈ l, RowAt H x.2.1 x.1) → ∀ x ∈ m, (nestedKind P w).is h x.1 x.2.1 := by
    intro l m q
    induction q with
    | nil => intro _ x hx; exact nomatch hx
    | @cons p q ps qs hq t ih =>
      intro hl x hx
      rcases List.mem_cons.mp hx with e | hx
      · subst e
        rw [hq.1, hq.2.1]
        exact row_is ok (hl p (List.mem_cons_self ..))
      · exact ih (fun x hx => hl x (List.mem_cons_of_mem _ hx)) x hx
  exact all r hr
theorem dn_stay {xs : List (Row × Addr × V)} : ∀ h1 h2 : Heap, DictN P w a xs h1 → (∀ o, h1.get? a = some o → h2.get? a = some o) → DictN P w a xs h2 := by
  rintro h1 h2 ⟨z, y, ys, r, o, es, ep, e, c⟩ k
  exact ⟨z, y, ys, r, o, es, ep, k _ e, c⟩
end

section
variable {X : Cx} {pins : List (Addr × Obj)} {σ : L2.St} {H : Hp} {s : Shared} {a b : Addr} {k : Row} {v : V} {u r : Value} {kvs : List (Row × V)} {A : Around} {E : Value → Shared → Prop}
theorem room_of (hu : A.units + 64 < cLine) : (nestedKind X.prog X.w).room A.in1 := by
  show A.units + 1 + 8 < cLine; omega
theorem n_getItem {Q : Value → Shared → Prop} (hu : A.units + 64 < cLine) (I : Inv X pins σ H s) (g : DNt X.prog X.w H a kvs) (eb : RowAt H b k) (l : valV kvs k = some v) (h : ∀ w' s', Inv X pins σ H s' → RelV v w' → Q w' s') :
    wpAny (model X.prog X.w) A (getItem (.ref a) (.ref b)) Q E s := by
  obtain ⟨xs, e, ep, hx⟩ := g
  obtain ⟨z, hd, ys, rel, dd⟩ := dn_of I.hok e hx
  obtain ⟨w', hw, rw'⟩ := RelO.some_of (v := v) (o := (atKey ys (nk k)).map (·.2)) (by rw [← l, ← ep]; exact rel.val k)
  obtain ⟨p, hp, hp2⟩ := Option.map_eq_some_iff.mp hw
  refine wpAny_getItem_heap (room_of (X := X) hu) (row_is I.hok eb) dd hp ?_
  rw [hp2]
  exact h w' _ (I.tok _) rw'
theorem n_in {Q : Value → Shared → Prop} (hu : A.units + 64 < cLine) (I : Inv X pins σ H s) (g : DNt X.prog X.w H a kvs) (eb : RowAt H b k) (h : ∀ s', Inv X pins σ H s' → Q (.bool (valV kvs k).isSome) s') :
    wpAny (model X.prog X.w) A (compareOp .In (.ref b) (.ref a)) Q E s := by
  obtain ⟨xs, e, ep, hx⟩ := g
  obtain ⟨z, hd, ys, rel, dd⟩ := dn_of I.hok e hx
  refine wpAny_in_heap (room_of (X := X) hu) (row_is I.hok eb) hd dd ?_
  have q := (rel.val k).isSome_eq
  rw [Option.isSome_map, ep] at q
  rw [← q]
  exact h _ (I.tok _)
theorem n_notIn {Q : Value → Shared → Prop} (hu : A.units + 64 < cLine) (I : Inv X pins σ H s) (g : DNt X.prog X.w H a kvs) (eb : RowAt H b k) (h : ∀ s', Inv X pins σ H s' → Q (.bool (!(valV kvs k).isSome)) s') :
    wpAny (model X.prog X.w) A (compareOp .NotIn (.ref b) (.ref a)) Q E s := by
  obtain ⟨xs, e, ep, hx⟩ := g
  obtain ⟨z, hd, ys, rel, dd⟩ := dn_of I.hok e hx
  refine wpAny_notIn_heap (room_of (X := X) hu) (row_is I.hok eb) hd dd ?_
  have q := (rel.val k).isSome_eq
  rw [Option.isSome_map, ep] at q
  rw [← q]
  exact h _ (I.tok _)
/-- d[row] = v, a row that is not there -/
theorem n_setItem {Q : Unit → Shared → Prop} (hu : A.units + 64 < cLine) (I : Inv X pins σ H s) (g : DNt X.prog X.w H a kvs) (eb : RowAt H b k) (hn : valV kvs k = none) (hl : kvs.length < sizeLine) (rv : RelV v r)
    (h : ∀ s' H', DNt X.prog X.w H' a (kvs ++ [(k, v)]) → (∀ c, c ≠ a → H' c = H c) → Inv X pins σ H' s' → Q () s') :
    wpAny (model X.prog X.w) A (setItem (.ref a) (.ref b) r) Q E s := by
  obtain ⟨xs, e, ep, hx⟩ := g
  obtain ⟨z, hd, ys, rel, dd⟩ := dn_of I.hok e hx
  have hz : ys.length ≤ sizeLine := by rw [← Paired.length rel]; exact z
  have hlx : xs.length = kvs.length := by rw [← ep]; simp [pr]
  refine wpAny_setItem_heap (hsz := hz) (room_of (X := X) hu) (row_is I.hok eb) dd fun h' dd' hs => ?_
  obtain ⟨q, es, ep', hq, h2, h3, h4, _, h5⟩ := dd'
  have new : DictN X.prog X.w a (xs ++ [(k, b, v)]) h' := ⟨by rw [List.length_append, hlx]; exact hl, hd, _, rel.put (by rw [ep]; exact hn) rv, q, es, ep', hq, h2, h3, h4, h5⟩
  have hne : ∀ c ys, H c = some (.tup ys) → c ≠ a := fun c ys ec => ne_of ec e (fun z => nomatch z)
  refine h _ (upd H a (dN X.prog X.w a (xs ++ [(k, b, v)]))) ⟨_, upd_same, by simp [pr, ← ep], fun x hx' => ?_⟩ (fun c hc => upd_ne hc) ?_
  · have hk : ∀ c ys, H c = some (.tup ys) → upd H a (dN X.prog X.w a (xs ++ [(k, b, v)])) c = some (.tup ys) := fun c ys ec => by rw [upd_ne (hne c ys ec)]; exact ec
    rcases List.mem_append.mp hx' with hx' | hx'
    · exact (hx x hx').keep hk
    · rw [List.mem_singleton.mp hx']
      exact eb.keep hk
  · exact d_write (t' := _) I (by rw [e]; exact True.intro) hs ⟨q, hq⟩ ⟨new, ⟨q, hq⟩, dn_stay⟩
theorem n_typeIs (I : Inv X pins σ H s) (g : DNt X.prog X.w H a kvs) : s.TypeIs (.ref a) "dict" := by
  obtain ⟨xs, e, ep, hx⟩ := g
  obtain ⟨z, hd, ys, rel, dd⟩ := dn_of I.hok e hx
  exact dd.typeIs
end

/-- {} for rows -/
def tNew (P : Program) (w : World) : TE := fun _ H Q => ∀ p H', H p = none → DNt P w H' p [] → (∀ c, c ≠ p → H' c = H c) → Q (.ref p) H'
def tGet (P : Program) (w : World) (td ty : TE) : TE := fun σ H Q => td σ H fun x H1 => ty σ H1 fun y H2 => ∃ a b kvs k v, x = .ref a ∧ y = .ref b ∧ DNt P w H2 a kvs ∧ RowAt H2 b k ∧ valV kvs k = some v ∧ Q v H2
def tNotIn (P : Program) (w : World) (ty td : TE) : TE := fun σ H Q => ty σ H fun y H1 => td σ H1 fun x H2 => ∃ a b kvs k, x = .ref a ∧ y = .ref b ∧ DNt P w H2 a kvs ∧ RowAt H2 b k ∧ Q (.bl (!(valV kvs k).isSome)) H2
def tIn (P : Program) (w : World) (ty td : TE) : TE := fun σ H Q => ty σ H fun y H1 => td σ H1 fun x H2 => ∃ a b kvs k, x = .ref a ∧ y = .ref b ∧ DNt P w H2 a kvs ∧ RowAt H2 b k ∧ Q (.bl (valV kvs k).isSome) H2
def sPut (P : Program) (w : World) (td ty tv : TE) : TS := fun D σ H => tv σ H fun v H1 => td σ H1 fun x H2 => ty σ H2 fun y H3 => ∃ a b kvs k, x = .ref a ∧ y = .ref b ∧ DNt P w H3 a kvs ∧ RowAt H3 b k ∧ valV kvs k = none ∧ kvs.length < sizeLine ∧
  ∀ H4, DNt P w H4 a (kvs ++ [(k, v)]) → (∀ c, c ≠ a → H4 c = H3 c) → D.nx σ H4
section
variable {X : Cx} {o i e value : Expr} {pos pos' tpos : Pos} {td ty tv : TE}
theorem pe_new : PE X (.Dict [] [] pos) (tNew X.prog X.w) := ⟨fun pins s σ H Q I h => by
  have hn : H s.heap.objs.size = none := I.hok.fresh (Nat.le_refl _)
  have new : DictN X.prog X.w s.heap.objs.size [] (s.heap.push { cls := .type "dict", data := .dict #[] }) :=
    ⟨Nat.zero_le _, beq_eq_false_iff_ne.mpr (Ne.symm (Nat.ne_of_lt I.big)), [], .nil, _, #[], 0, Heap.get?_push_size _ rfl, ⟨rfl, rfl, rfl⟩, rfl, rfl, List.nodup_nil⟩
  refine wpAny_Dict_empty ⟨.ref s.heap.objs.size, _, I.laid (a := s.heap.objs.size) (o := dN X.prog X.w s.heap.objs.size []) (t' := s.toks) (fun _ _ q => Heap.get?_push_of_some _ q) (Nat.le_refl _) ⟨new, ⟨_, Heap.get?_push_size _ rfl⟩, dn_stay⟩, rfl,
    h _ _ hn ⟨[], upd_same, rfl, fun x hx => nomatch hx⟩ fun c hc => upd_ne hc⟩⟩
theorem pe_get (hu : X.A.units + 64 < cLine) (ho : PE X o td) (hi : PE X i ty) (hs : NoSl i) : PE X (.Subscript o i pos) (tGet X.prog X.w td ty) := by
  refine ⟨fun pins s σ H Q I h => ?_⟩
  refine subD_of PySem.F.slot_dict_getitem.lookup hs (thn (ho.run pins s σ H _ I h) fun u s1 ⟨x, H1, I1, rx, q1⟩ => thn (hi.run pins s1 σ H1 _ I1 q1) fun iv s2 ⟨y, H2, I2, ry, a, b, kvs, k, v, ex, ey, g, eb, l, q2⟩ => ?_)
  subst ex ey
  obtain rfl : u = Value.ref a := rx
  obtain rfl : iv = Value.ref b := ry
  exact ⟨n_typeIs I2 g, n_getItem hu I2 g eb l fun w' s3 I3 rw' => ⟨v, H2, I3, rw', q2⟩⟩
theorem pc_in (hu : X.A.units + 64 < cLine) (hi : PE X i ty) (ho : PE X o td) : PC X .In i o (tIn X.prog X.w ty td) := by
  refine ⟨fun pins s σ H Q I h => ?_⟩
  refine thn (hi.run pins s σ H _ I h) fun iv s1 ⟨y, H1, I1, ry, q1⟩ => thn (ho.run pins s1 σ H1 _ I1 q1) fun u s2 ⟨x, H2, I2, rx, a, b, kvs, k, ex, ey, g, eb, q2⟩ => ?_
  subst ex ey
  obtain rfl : u = Value.ref a := rx
  obtain rfl : iv = Value.ref b := ry
  exact n_in hu I2 g eb fun s3 I3 => ⟨.bl (valV kvs k).isSome, H2, I3, rfl, q2⟩
theorem pc_notIn (hu : X.A.units + 64 < cLine) (hi : PE X i ty) (ho : PE X o td) : PC X .NotIn i o (tNotIn X.prog X.w ty td) := by
  refine ⟨fun pins s σ H Q I h => ?_⟩
  refine thn (hi.run pins s σ H _ I h) fun iv s1 ⟨y, H1, I1, ry, q1⟩ => thn (ho.run pins s1 σ H1 _ I1 q1) fun u s2 ⟨x, H2, I2, rx, a, b, kvs, k, ex, ey, g, eb, q2⟩ => ?_
  subst ex ey
  obtain rfl : u = Value.ref a := rx
  obtain rfl : iv = Value.ref b := ry
  exact n_notIn hu I2 g eb fun s3 I3 => ⟨.bl (!(valV kvs k).isSome), H2, I3, rfl, q2⟩
theorem ps_put (hu : X.A.units + 64 < cLine) (ho : PE X o td) (hi : PE X i ty) (hv : PE X value tv) (hs : swapsWith value (some (.Subscript o i pos')) pos.line X.env = pure false) :
    PS X (.Assign [.Subscript o i pos'] value pos) (sPut X.prog X.w td ty tv) := by
  refine ⟨fun pins s σ H D I h => ?_⟩
  refine wpAny_Assign_Subscript (thn (hv.run pins s σ H _ I h) fun r s1 ⟨v, H1, I1, rv, q1⟩ => thn (ho.run pins s1 σ H1 _ I1 q1) fun u s2 ⟨x, H2, I2, rx, q2⟩ => thn (hi.run pins s2 σ H2 _ I2 q2) fun iv s3 ⟨y, H3, I3, ry, a, b, kvs, k, ex, ey, g, eb, hn, hl, q3⟩ => ?_) hs
  subst ex ey
  obtain rfl : u = Value.ref a := rx
  obtain rfl : iv = Value.ref b := ry
  exact n_setItem hu I3 g eb hn hl rv fun s4 H4 d4 k4 I4 => ⟨σ, H4, I4, q3 H4 d4 k4⟩
end
end DN
set_option linter.all false
/-! rules for a block, the written part handed in: all, sum, max, min, isinstance, reversed, rows in a dict -/
namespace KY
open PySem PySem.Spec PyProof.Rows L2
theorem cr_allK {X : Cx} (K : PySem.W.Frag) (hc : X.calm = true := by rfl) (hK : X.K = K := by rfl) : CallR X (.builtin "all") (rAll K) := by
  subst hK
  exact cr_all hc
theorem cr_sumK {X : Cx} (K : PySem.W.Frag) (hc : X.calm = true := by rfl) (hK : X.K = K := by rfl) : CallR X (.builtin "sum") (rSum K) := by
  subst hK
  exact cr_sum hc
theorem cr_maxK {X : Cx} (K : PySem.W.Frag) (hc : X.calm = true := by rfl) (hK : X.K = K := by rfl) : CallR X (.builtin "max") (rMax K) := by
  subst hK
  exact cr_max hc
theorem isiK {X : Cx} (K : PySem.W.Frag) (hK : X.K = K := by rfl) : CallR X (.builtin "isinstance") (rIsi K) := by
  subst hK
  exact call_isi
theorem sl_tupK {X : Cx} (K : PySem.W.Frag) (hK : X.K = K := by rfl) : SlR X (rSlA K) := by
  subst hK
  exact sl_tupA
theorem pi_revK {X : Cx} (K : PySem.W.Frag) {tg e : Expr} {te : TE} {p pos : Pos} (hg : Gl X "reversed") (hm : X.mg "reversed" = none) (he : PE X e te) (hs : starEach [e] X.env = (false, eval e X.env) :: starEach [] X.env := by rfl) (hK : X.K = K := by rfl) : PI X tg (.Call (.Name "reversed" p) [e] [] pos) (RT.iRevA K te) := by
  subst hK
  exact RT.pi_revA hg hm he hs
end KY
set_option linter.all false
set_option maxRecDepth 100000
/-! for x in s, s a list or a tuple -/
namespace SQ
open PySem PySem.Spec PyProof.Rows L2
def iSeq (K : PySem.W.Frag) (tl : TE) : TI := fun σ H R => tl σ H fun x H1 => ∃ (a : Addr) (xs : List V), x = .ref a ∧ (H1 a = some (.lst xs) ∨ H1 a = some (.tup xs)) ∧
  ∀ (J : It) (G : Hp → Prop), Walk J xs.length G (YAt xs) → (∀ Hx : Hp, (∀ o, H1 a = some o → Hx a = some o) → G Hx) → R J H1
theorem pi_seq {X : Cx} {tg le : Expr} {tl : TE} (he : PE X le tl) : PI X tg le (iSeq X.K tl) := by
  constructor
  intro pins s0 σ H R Iv want
  refine thn (he.run pins s0 σ H _ Iv want) fun val sn ⟨vx, Hn, In, rel, src, ys, esrc, ways, goes⟩ => ?_
  subst esrc
  cases rel
  have newFp : ∀ b ∈ [sn.heap.objs.size], FpOk X pins Hn b := fun b hb => by
    have same : b = sn.heap.objs.size := List.mem_singleton.mp hb
    rw [same]
    exact In.fpOk (Nat.le_refl _) (In.hok.fresh (Nat.le_refl _))
  rcases ways with here0 | here0
  · have seq : SqL X.K Hn src ys := SqL.of here0
    have go := goes (Itl X.K src) _ (walk_list (K := X.K) (a := src) (xs := ys)) fun Hx kept => SqL.of (kept _ here0)
    obtain ⟨its, rv, here, _⟩ := In.list seq
    apply wpAny_pyIter_list here.isList
    exact ⟨sn.heap.objs.size, [sn.heap.objs.size], _, _, Hn, rfl, In.kept (t' := sn.toks) fun b o eb => Heap.get?_push_of_some _ eb, turn_list src _, ⟨_, Heap.get?_push_size _ rfl, rfl, rfl⟩, newFp, go⟩
  · have seq : SqT X.K Hn src ys := SqT.of here0
    have go := goes (Itt X.K src) _ (walk_tup (K := X.K) (a := src) (xs := ys)) fun Hx kept => SqT.of (kept _ here0)
    obtain ⟨its, rv, here, _⟩ := In.tuple seq
    apply wpAny_pyIter_tuple (show sn.heap.IsTuple src its.toArray from here)
    exact ⟨sn.heap.objs.size, [sn.heap.objs.size], _, _, Hn, rfl, In.kept (t' := sn.toks) fun b o eb => Heap.get?_push_of_some _ eb, turn_tuple src _, ⟨_, Heap.get?_push_size _ rfl, rfl, rfl⟩, newFp, go⟩
theorem pi_seqK {X : Cx} (K : PySem.W.Frag) {tg le : Expr} {tl : TE} (he : PE X le tl) (hK : X.K = K := by rfl) : PI X tg le (iSeq K tl) := by
  subst hK
  exact pi_seq he
end SQ
set_option Elab.async false
set_option linter.all false
set_option maxRecDepth 100000
set_option maxHeartbeats 4000000
/-! xs.remove(y), xs a list of data -/
namespace RM
open PySem PySem.Spec PyProof.Rows L2
section
variable {X : Cx}
def rRemD (K : PySem.W.Frag) : V → List V → Hp → VK → Prop := fun x xs H Q => ∃ (l : Addr) (ys : List V) (y : V) (d : PyData) (ds : List PyData) (j : Nat) (z : PyData), x = .ref l ∧ xs = [y] ∧ H l = some (.lst ys) ∧ DpAll K H ys ds ∧ Dp K H y d ∧
  SeqAt.shaped (.list ds) = true ∧ SeqAt.shaped d = true ∧ ds[j]? = some z ∧ PyData.eqv z d = true ∧ (∀ (m : Nat) (z' : PyData), m < j → ds[m]? = some z' → PyData.eqv z' d = false) ∧ Q .non (upd H l (.lst (ys.eraseIdx j)))
theorem mt_removeD (hu : X.A.units + 65 < cLine) : MtM X "list.remove" (rRemD X.K) := by
  intro pins s σ H x xs v us Q I rx rxs h
  obtain ⟨l, ys, y, d, ds, j, z, rfl, rfl, hH, hds, hy, sl, sd, hz, hzj, hno, q⟩ := h
  cases rx
  obtain ⟨u, rfl, ru⟩ := rxs.one
  obtain ⟨bs, r1⟩ := Dp.reads I d y u hy ru
  have lay : PyData.canLayAll0 ds = true := SeqAt.canLay_of_shaped sl
  have room : X.A.units + 1 + min (PyData.depthAll ds) d.depth < cLine := room_in_shaped sd hu
  obtain ⟨zl, its, n, r, hl, e⟩ := I.lstM hH
  obtain ⟨as, h4⟩ := Dp.readsAll I ds _ its hds r
  have hn : its.length = ds.length := SeqAt.ReadsAll.length ds its as h4
  have back : its.map (SeqAt.readOf s.heap) = ds := SeqAt.readsAll_map ds its as lay h4
  have hjd := (List.getElem?_eq_some_iff.mp hz).1
  have told : ∀ (m : Nat) (hm : m < its.toArray.size) (z' : PyData), ds[m]? = some z' → SeqAt.readOf s.heap its.toArray[m] = z' := fun m hm z' hz' => by
    have hml : m < its.length := by simpa using hm
    rw [← back, List.getElem?_map, List.getElem?_eq_getElem hml] at hz'
    have e1 : SeqAt.readOf s.heap its[m] = z' := Option.some.inj hz'
    simpa using e1
  have rl := r.length
  have hjs : j < its.toArray.size := by rw [List.size_toArray]; omega
  refine call_meets PySem.F.slot_list_remove ⟨_, e, rfl⟩ PySem.F.entry_list_remove (PySem.F.args_list_remove_2 _ _)
    (SeqAt.list_removeAt l its.toArray n none #[] u (fun v => PyData.eqv (SeqAt.readOf s.heap v) d) j (by rw [List.size_toArray]; omega) ?_ ?_ (by rw [List.size_toArray]; omega)) ⟨e, SeqAt.items_eqAt (vs := its.toArray) (show ReadsAll s.heap its.toArray.toList ds as from h4) r1 lay (SeqAt.canLay_of_shaped sd) room, ?_⟩
  · show PyData.eqv (SeqAt.readOf s.heap its.toArray[j]) d = true
    rw [told j (by rw [List.size_toArray]; omega) z hz]
    exact hzj
  · intro m hm hmj
    have hz' : ds[m]? = some ds[m] := List.getElem?_eq_getElem (by omega)
    show PyData.eqv (SeqAt.readOf s.heap its.toArray[m]) d = false
    rw [told m hm _ hz']
    exact hno m _ hmj hz'
  · have rr := r.eraseIdx j
    refine ⟨.non, _, I.lset (its' := its.eraseIdx j) (t' := s.toks) hH e ?_ rr ?_, rfl, q⟩
    · show its.toArray.eraseIdxIfInBounds j = (its.eraseIdx j).toArray
      rw [List.eraseIdxIfInBounds_toArray]
    · have z2 := List.length_eraseIdx_le ys j
      omega
end
end RM
set_option Elab.async false
set_option linter.all false
set_option maxRecDepth 100000
set_option maxHeartbeats 4000000
/-! t * n, t a tuple of some items, n from 0 to 5000 -/
namespace BM
open PySem PySem.Spec PyProof.Rows L2
section
variable {X : Cx}
def rRepM (K : PySem.W.Frag) : R2 := fun x y H Q => ∃ l k xs, x = .ref l ∧ y = .int k ∧ SqT K H l xs ∧ xs ≠ [] ∧ 2 ≤ k ∧ k ≤ 5000 ∧ xs.length ≤ 100 ∧ ∀ p, H p = none → Q (.ref p) (upd H p (.tup (List.replicate k.toNat xs).flatten))
theorem op_repM : OpR X (binaryOp .Mult) (rRepM X.K) := by
  intro pins s σ H x y v u Q I rx ry h
  obtain ⟨l, k, xs, rfl, rfl, hT, hne, h1, h2, hz, q⟩ := h
  cases rx
  obtain ⟨t, rfl⟩ := ry
  obtain ⟨its, r, ⟨⟨cls, dd, data, sl⟩, ho, hc, n, hd⟩, hs⟩ := I.tuple hT
  simp only at hc hd
  subst hc hd
  have hle : its.length = xs.length := r.length.symm
  have hn : its ≠ [] := fun e => hne (by
    rw [e] at hle
    exact List.eq_nil_of_length_eq_zero hle.symm)
  have hi : its.toArray.isEmpty = false := by
    cases its with
    | nil => exact absurd rfl hn
    | cons a b => rfl
  have hsz0 : its.toArray.size = xs.length := by rw [List.size_toArray, hle]
  have hb : k.toNat * xs.length ≤ 5000 * 100 := Nat.mul_le_mul (by omega) hz
  have hm : ((its.toArray.size : Nat) : Int) * k ≤ 500000 := by
    rw [hsz0]
    have a1 : ((xs.length : Nat) : Int) * k ≤ 100 * k := Int.mul_le_mul_of_nonneg_right (by omega) (by omega)
    omega
  have flen : (List.replicate k.toNat its).flatten.length ≤ sizeLine := by
    rw [PyProof.Rows.lm_len_rep_flat, hle, sizeLine_eq]
    omega
  have c0 : (decide (k < -(2 ^ 63)) || decide (k ≥ 2 ^ 63)) = false := by
    rw [decide_eq_false (by omega), decide_eq_false (by omega)] <;> rfl
  have c1 : (its.toArray.isEmpty || k == 1) = false := by
    rw [hi, Bool.false_or]
    exact beq_eq_false_iff_ne.mpr (by omega)
  have c2 : (decide (k ≤ 0) || its.toArray.isEmpty) = false := by
    rw [hi, Bool.or_false]
    exact decide_eq_false (by omega)
  have c4 : Builtin.Tuple.tupleTooMany (((its.toArray.size : Nat) : Int) * k) = false := by
    unfold Builtin.Tuple.tupleTooMany
    rw [sizeLine_eq]
    exact decide_eq_false (by omega)
  refine wpAny_binaryOp_repeat_ref (T := "tuple") (U := "int") (by decide) ⟨_, ho, rfl⟩ (fun s' => typeIs_int s' k t) noFill_tuple_mul F.fills_int_mul F.slot_int_rmul repeat_tuple F.slot_int_index.lookup
    (call_meets F.slot_int_rmul (typeIs_int s k t) F.entry_int_rmul (F.args_int_rmul_2 _ _) (int_rmul_tuple k t l its.toArray n dd sl)
      ⟨ho, rfl, ⟨_, ho, rfl⟩, call_meets F.slot_tuple_mul ⟨_, ho, rfl⟩ F.entry_tuple_mul (F.args_tuple_mul_2 _ _) (tuple_mulW l its.toArray n dd sl k t c0 c1 c2 (by omega) c4 (by rw [size_rep, List.size_toArray]; exact flen)) ⟨ho, ?_⟩⟩)
  rw [size_rep]
  refine ⟨.ref s.heap.objs.size, _, I.laid (t' := s.toks) (o := .tup (List.replicate k.toNat xs).flatten) (fun b ob q => Heap.get?_push_of_some _ q) (Nat.le_refl _) ?_, rfl, q _ (I.hok.fresh (Nat.le_refl _))⟩
  exact ⟨by rw [PyProof.Rows.lm_len_rep_flat, sizeLine_eq]; omega, _, r.rep k.toNat, IsTup.new _ _⟩
/-- of a tuple known as it is, however often -/
def rRepN : R2 := fun x y H Q => ∃ (l : Addr) (n : Nat) (v : V), x = .ref l ∧ y = .int ((n : Nat) : Int) ∧ H l = some (.tup [v]) ∧ n ≤ 5000 ∧ ∀ (p : Addr) (H' : Hp), (∀ b o, H b = some o → H' b = some o) → H' p = some (.tup (List.replicate n v)) → Q (.ref p) H'
theorem flat_one (n : Nat) (v : V) : (List.replicate n [v]).flatten = List.replicate n v := by
  induction n with
  | zero => rfl
  | succ n ih => rw [List.replicate_succ, List.flatten_cons, ih, List.replicate_succ]; rfl
theorem op_repN : OpR X (binaryOp .Mult) rRepN := by
  intro pins s σ H x y v u Q I rx ry h
  obtain ⟨l, n, w, ex, ey, hT, hn, q⟩ := h
  by_cases h2 : 2 ≤ n
  · refine op_repM pins s σ H x y v u Q I rx ry ⟨l, (n : Int), [w], ex, ey, SqT.of hT, by simp, by omega, by omega, by simp, fun p np => q p _ (fun b o e => ?_) ?_⟩
    · rw [upd_ne (ne_of_none e np)]
      exact e
    · rw [upd_same, Int.toNat_natCast, flat_one]
  · refine BO.op_rep01 pins s σ H x y v u Q I rx ry ⟨l, (n : Int), [w], ex, ey, SqT.of hT, by simp, ?_⟩
    by_cases h1 : n = 1
    · subst h1
      exact .inl ⟨rfl, q l H (fun b o e => e) hT⟩
    · have h0 : n = 0 := by omega
      subst h0
      refine .inr ⟨rfl, fun p np => q p _ (fun b o e => ?_) upd_same⟩
      rw [upd_ne (ne_of_none e np)]
      exact e
end
end BM
set_option Elab.async false
set_option linter.all false
set_option maxRecDepth 100000
set_option maxHeartbeats 4000000
namespace BO
open PySem PySem.Spec PyProof.Rows L2
section
variable {X : Cx}
/-- z * n, n from 0 to 9,000, z of 1 to 10 signs -/
def rRepG : R2 := fun x y H Q => ∃ (cs : List Nat) (n : Nat), x = .str ⟨cs.toArray⟩ ∧ y = .int (n : Int) ∧ 1 ≤ cs.length ∧ cs.length ≤ 10 ∧ n ≤ 9000 ∧ Q (.str ⟨((List.replicate n cs).flatten).toArray⟩) H
theorem op_repG : OpR X (binaryOp .Mult) rRepG := by
  intro pins s σ H x y v u Q I rx ry h
  obtain ⟨cs, n, rfl, rfl, h1, h2, h3, q⟩ := h
  obtain ⟨t, rfl⟩ := rx
  obtain ⟨t', rfl⟩ := ry
  have hz1 : (⟨cs.toArray⟩ : Str).length = cs.length := by simp [Str.length]
  have hz : ((⟨cs.toArray⟩ : Str).length == 0) = false := beq_false_of_ne (by omega)
  by_cases h0 : n = 0
  · subst h0
    refine P.mul_str_none (by decide) (by decide) ?_
    exact ⟨.str Str.empty, H, I.tok _, ⟨_, rfl⟩, q⟩
  have hn : ¬ ((n : Int) < 1) := by omega
  have e0 : repS ⟨cs.toArray⟩ n = (⟨((List.replicate n cs).flatten).toArray⟩ : Str) := repS_eq (by omega)
  rw [← e0] at q
  refine P.mul_str (by rw [decide_eq_false (by omega), decide_eq_false (by omega)]; rfl) (fun _ c => ?_) (fun _ c => ?_) ?_
  · have : (100 : Int) ≤ (2 ^ 63 - 1) / (n : Int) := Int.le_ediv_of_mul_le (by omega) (by omega)
    omega
  · rw [Int.toNat_natCast, hz1]
    unfold Builtin.Str.tooLong
    refine decide_eq_false ?_
    rw [sizeLine_eq]
    have := Nat.mul_le_mul h2 h3
    omega
  · rw [if_neg hn]
    unfold repS at q
    by_cases e : n = 1
    · subst e
      rw [if_pos rfl] at q
      rw [if_pos (by rfl)]
      exact ⟨.str _, H, I, ⟨t, rfl⟩, q⟩
    · rw [if_neg e] at q
      rw [if_neg (by rw [hz, Bool.or_false]; exact fun w => e (by have := beq_iff_eq.mp w; omega))]
      refine ⟨?_, .str _, H, I.tok _, ⟨_, rfl⟩, ?_⟩
      · rw [Int.toNat_natCast, fold_rep]
        show (List.toArray _).size ≤ sizeLine
        rw [List.size_toArray, List.length_append, List.length_flatten, List.map_replicate, List.sum_replicate_nat, sizeLine_eq]
        show (#[] : Array Nat).toList.length + n * cs.toArray.toList.length ≤ _
        have := Nat.mul_le_mul h2 h3
        show 0 + n * cs.length ≤ 16777216
        rw [Nat.mul_comm]
        omega
      · rw [Int.toNat_natCast]
        exact q
end
end BO
set_option Elab.async false
set_option linter.all false
set_option maxRecDepth 100000
set_option maxHeartbeats 4000000
/-! exceptions of own classes as values: made (also by keywords), asked by isinstance, their fields read -/
namespace PySem
namespace XV
open PySem.W PySem.Calls PyProof.Rows PySem.HandSPX PySem.BX
/-- what is asked of the built-in __init__ -/
structure InitF (B initId : String) : Prop where
  kind : builtinKind initId = some .slot
  split : splitId initId = some (B, "__init__")
  row : Manifest.signature? initId = some ⟨.positional, "*", B, .self, [⟨"args", .varPos, false⟩]⟩
  noStar : (B != "*") = true
  plain : plainId initId = true
  entry : entryFor table initId = some Builtin.«BaseException.__init__»
theorem InitF.of {B n i : String} (F : ExcCallFacts B n i) : InitF B i := ⟨F.initKind, F.initSplit, F.initRow, F.noStar, F.init.plain, F.initEntry⟩
theorem initF_KeyError : InitF "KeyError" "KeyError.__init__" := ⟨excClass_KeyError.initKind, excClass_KeyError.initSplit, excClass_KeyError.initSig, excClass_KeyError.notStar, excClass_KeyError.init.plain, excClass_KeyError.initEntry⟩
theorem kxs_KeyError : KxsFacts "KeyError" "KeyError.__init__" := ⟨by show builtinType _ = _; rw [builtinType_eq_fast]; kernel_rfl, by first | kernel_rfl | rfl⟩
/-- what is asked of the built-in __new__ and of the class's bases -/
def NewOk (newId : String) (bm : List Value) : Prop := ∃ (Bn inN : String) (bmN : List Value), ExcBaseFacts Bn newId inN bmN ∧ bm.contains (.type Bn) = true ∧ bm.contains (.type "AttributeError") = false ∧ bm.contains (.type "NameError") = false
/-- what the written part says of an own exception class at C whose __init__ (at fI) begins with super().__init__(text) -/
structure VTxt (P : Program) (K : Frag) (mg : Str → Option Value) (C fI cc cda : Addr) (B newId initId : String) (nmC qual : Str) (params : Arguments) (first : Stmt) (rest : List Stmt) (scope : Scope) : Prop where
  gC : mg nmC = some (.ref C)
  cls : ∃ nm q N bs bm sn sub ab col dd k0 k1 k2 k3 k5, K.lookup C = some (excClassObj nm q C N bs bm true sn sub ab col dd k0 k1 k2 k3 k5 newId) ∧ NewOk newId bm
  base : InitF B initId
  kxs : KxsFacts B initId
  iC : findIn K (.ref C) "__init__" = some (some (.ref fI))
  tI : typeIn K (.ref fI) = some (.type "function")
  fn : ∃ (oc : Value) (od : Option Addr) (kV doc pm : Value) (an : Option Addr) (ct : Value) (osl : Array (Option Value)), K.lookup fI = some ⟨oc, od, .func (ksFn "__init__" qual params (first :: rest) scope .none kV doc pm an (.ref cda) ct cc), osl⟩
  code : codeIn K (.ref cda) qual = true
  cdo : ∃ (ccl : Value) (cdd : Option Addr) (vs : Array Value) (ccs : Array (Option Value)) (file : Str) (tf : Tok), K.lookup cda = some ⟨ccl, cdd, .fields vs, ccs⟩ ∧ vs[2]? = some (.str file tf) ∧ ((P.main.file : Str) == file) = true
  cell : ∃ (cl : Value) (cld : Option Addr) (csl : Array (Option Value)), K.lookup cc = some ⟨cl, cld, .cell (some (.ref C)), csl⟩
  sup : ks_superIn K C C "__init__" = some (some (.builtin initId))
  opq : nsIn K cStatics "thirdparty.any" = some none
  noS : mg "super" = none
  topS : (P.main.scope.names.lookup ("super" : Str)).isSome = false
  subB : subIn K (.ref C) (.type B) = some true
  subC : mroIn K C (.ref C) = some true
  kC : keepIn K (.ref C) = true
  exC : subIn K (.ref C) (.type "BaseException") = some true
  tyC : typeIn K (.ref C) = some (.type "type")
  kS : scope.names.lookup ("super" : Str) = some .globalImplicit
  kCl : scope.names.lookup ("__class__" : Str) = some .free
  kSf : scope.names.lookup ("self" : Str) = some .local
  kF : scope.kind = .function
  st : ∃ (p0 p1 p2 p3 p4 p5 : Pos) (msg : Str) (j : Nat), first = .Expr (.Call (.Attribute (.Call (.Name "super" p0) [] [] p1) "__init__" p2) [.Constant (.str msg) j p3] [] p4) p5 ∧ ∀ L : Addr,
    interactive (ksEnv qual scope L fI (.ref cda) cc) = false ∧ swapsWith (.Call (.Attribute (.Call (.Name "super" p0) [] [] p1) "__init__" p2) [.Constant (.str msg) j p3] [] p4) none p5.line (ksEnv qual scope L fI (.ref cda) cc) = pure false ∧
    ∃ pl : Sem Bool, eval (.Call (.Attribute (.Call (.Name "super" p0) [] [] p1) "__init__" p2) [.Constant (.str msg) j p3] [] p4) (ksEnv qual scope L fI (.ref cda) cc) = (do
      let ov ← attributeBase (.Call (.Name "super" p0) [] [] p1) "__init__" (ksEnv qual scope L fI (.ref cda) cc) (eval (.Call (.Name "super" p0) [] [] p1) (ksEnv qual scope L fI (.ref cda) cc))
      standAt p2.atName
      let (f, fst) ← holding [ov] (getMethod ov "__init__" pl)
      callWith p4 f fst (backTo p4 (starEach [.Constant (.str msg) j p3] (ksEnv qual scope L fI (.ref cda) cc))) [])
  hd : ∃ ar : Arg, (params.posonlyargs ++ params.args).head? = some ar ∧ ar.arg = ("self" : Str)
section
variable {M : Model} {A : Around} {E : Value → Shared → Prop} {h : Heap} {g : Array GenState} {d : Drawn} {t : Nat} {os : OsState}
variable {nm q : Str} {C N : Addr} {bs bm bmB : List Value} {hdct : Bool} {sn : List Str} {sub : List Value} {ab : Bool} {col : Option Bool} {dd : Option Addr} {k0 k1 k2 k3 k5 : Option Value} {B Bn newId initId inN : String} {kw : List (Str × Value)}
theorem check_new_k (F : ExcBaseFacts Bn newId inN bmB) (hB : bm.contains (.type Bn) = true) {rest : List Value} {Q : Unit → Shared → Prop}
    (hC : h.get? C = some (excClassObj nm q C N bs bm hdct sn sub ab col dd k0 k1 k2 k3 k5 newId)) (hq : Q () ⟨h, g, d, t, os⟩) : wpAny M A (checkBuiltinCall newId ⟨.ref C :: rest, kw⟩) Q E ⟨h, g, d, t, os⟩ := by
  have hcont : (Value.ref C :: bm).contains (.type Bn) = true := by rw [List.contains_cons, hB, Bool.or_true]
  have hstar := F.noStar
  simp only [checkBuiltinCall, F.newKind, F.newSplit, F.newRow]
  repeat (first | refine wpAny_loadPart_at hC ?_ | (refine wpAny_isSubtype_exc hC ?_; rw [hcont]) | refine wpAny_staticBase_exc hC ?_ | refine wpAny_madeBy_exc hC ?_ | simp only [bne_self_eq_false, Bool.false_eq_true, if_false] | wp_step)
  exact hq
theorem check_bound_k (F : InitF B initId) {e : Addr} {oe : Obj} {rest : List Value} {Q : Unit → Shared → Prop}
    (hC : h.get? C = some (excClassObj nm q C N bs bm hdct sn sub ab col dd k0 k1 k2 k3 k5 newId)) (he : h.get? e = some oe) (hcls : oe.cls = .ref C) (hq : Q () ⟨h, g, d, t, os⟩) : wpAny M A (checkBoundCall initId ⟨.ref e :: rest, []⟩) Q E ⟨h, g, d, t, os⟩ := by
  have hshort := F.noStar
  simp only [checkBoundCall, F.kind, F.row]
  repeat (first | (with_reducible refine wpAny_loadPart_at he ?_; rw [hcls]) | with_reducible refine wpAny_loadPart_at hC ?_ | wp_step)
  refine wpAny_onRaise ?_
  rw [show ∀ (a b : String) (n : Nat), Bind.check ⟨.positional, "*", B, .self, [⟨"args", .varPos, false⟩]⟩ a b n (List.map (fun x => x.fst) ({ pos := Value.ref e :: rest } : Args).kw) = pure () from
    fun a b n => check_star_args _ _ _ _ _ _]
  exact wpAny_pure hq
theorem check_tc_k {rest : List Value} {Q : Unit → Shared → Prop} (hC : h.get? C = some (excClassObj nm q C N bs bm hdct sn sub ab col dd k0 k1 k2 k3 k5 newId))
    (hq : Q () ⟨h, g, d, t, os⟩) : wpAny M A (checkBuiltinCall "type.__call__" ⟨.ref C :: rest, kw⟩) Q E ⟨h, g, d, t, os⟩ := by
  have f3 := tc_sub
  have hT : (⟨h, g, d, t, os⟩ : Shared).TypeIs (.ref C) "type" := ⟨_, hC, rfl⟩
  simp only [checkBuiltinCall, tc_kind, tc_split]
  repeat (any_goals (first | assumption | with_reducible refine wpAny_loadPart_at hC ?_ | with_reducible refine wpAny_onRaise ?_ | with_reducible refine wpAny_map ?_ | wp_step))
end
section
variable {prog : Program} {w : World} {A : Around} {E : Value → Shared → Prop} {R : Result → Shared → Prop} {h : Heap} {g : Array GenState} {d : Drawn} {t : Nat} {os : OsState}
variable {nm q : Str} {C N : Addr} {bs bm bmB : List Value} {hdct : Bool} {sn : List Str} {sub : List Value} {ab : Bool} {col : Option Bool} {dd : Option Addr} {k0 k1 k2 k3 k5 : Option Value} {B newId initId : String} {kw : List (Str × Value)}
theorem new_k (N0 : NewOk newId bm) {rest : List Value}
    (hC : h.get? C = some (excClassObj nm q C N bs bm hdct sn sub ab col dd k0 k1 k2 k3 k5 newId))
    (hq : R (.ok (.ret (.ref (h.objs.size + 1)))) ⟨(h.push { cls := .type "tuple", data := .seq rest.toArray }).push
      { cls := .ref C, data := .fields #[.ref h.objs.size, .none, .none, .none, .bool false, .none] }, g, d, t, os⟩) (hrest : rest.length ≤ sizeLine) :
    codeAny (model prog w) A (.builtin newId ⟨.ref C :: rest, kw⟩) R ⟨h, g, d, t, os⟩ := by
  obtain ⟨Bn, inN, bmN, F, hB, hA, hN⟩ := N0
  have hends := F.ends
  have hcB : (Value.ref C :: bm).contains (.type Bn) = true := by rw [List.contains_cons, hB, Bool.or_true]
  have hcA : (Value.ref C :: bm).contains (.type "AttributeError") = false := by rw [List.contains_cons, hA]; rfl
  have hcN : (Value.ref C :: bm).contains (.type "NameError") = false := by rw [List.contains_cons, hN]; rfl
  refine codeAny_builtinAt F.entry ?_
  unfold Builtin.«BaseException.__new__»
  refine wpAt_bind ?_
  show wpAt _ _ _ (stack >>= _) _ _ _
  refine wpAt_bind (wpAt_stack fun p below => wpAt_of_wpAny ?_)
  wp_walk
  refine wpAt_of_wpAny ?_
  rw [F.owner]
  repeat (first | with_reducible refine wpAny_madeHere_exc F.canon hC ?_ | with_reducible refine wpAny_loadPart_at hC ?_ | (with_reducible refine wpAny_isSubtype_exc hC ?_; first | rw [hcB] | rw [hcA] | rw [hcN]) | wp_step)
  show R _ _
  rw [Heap.size_push]
  exact hq
theorem type_call_k (N0 : NewOk newId bm) {rest : List Value} {fI : Addr} {Q : Fin → Shared → Prop}
    (hC : h.get? C = some (excClassObj nm q C N bs bm hdct sn sub ab col dd k0 k1 k2 k3 k5 newId))
    (hi : W.Looks (model prog w) h (typeLookup (.ref C) "__init__") (some (.ref fI))) (hb : ∀ self, W.Looks (model prog w) h (bindSpecial (.ref fI) self) (.ref fI, [self])) (hrest : rest.length ≤ sizeLine)
    (hq : codeAny (model prog w) A (.call (.ref fI) ⟨.ref (h.objs.size + 1) :: rest, kw⟩)
      (fun r s' => match r with | .ok (.ret v) => v = .none ∧ Q (.done (.ret (.ref (h.objs.size + 1)))) s' | .ok _ => False | .error e => E e s')
      ⟨(h.push (W.kdv_tup rest)).push (excO C h.objs.size), g, d, t, os⟩) :
    wpAny (model prog w) A (Builtin.«type.__call__» ⟨.ref C :: rest, kw⟩) Q E ⟨h, g, d, t, os⟩ := by
  repeat (first | with_reducible refine wpAny_loadPart_at hC ?_ | with_reducible refine wpAny_madeBy_exc hC ?_ | wp_step)
  have N1 := N0
  obtain ⟨Bn, inN, bmN, F, hB, hA, hN⟩ := N1
  refine codeAny_call_builtin_code (Code.quiet_builtin _ F.quiet) (check_new_k F hB hC ?_)
  refine new_k N0 hC ?_ hrest
  show wpAny _ _ _ _ _ _
  have k : ∀ b o, h.get? b = some o → ((h.push (W.kdv_tup rest)).push (excO C h.objs.size)).get? b = some o := fun b o e => Heap.get?_push_of_some _ (Heap.get?_push_of_some _ e)
  have hC₁ := k _ _ hC
  have hget : ((h.push (W.kdv_tup rest)).push (excO C h.objs.size)).get? (h.objs.size + 1) = some (excO C h.objs.size) := by heap_get
  have hcC : (Value.ref C :: bm).contains (.ref C) = true := by simp
  have i1 := hi.keeps k
  have b1 := (hb (.ref (h.objs.size + 1))).keeps k
  unfold isInstance
  repeat (first | with_reducible refine wpAny_loadPart_at hget ?_ | (with_reducible refine wpAny_isSubtype_exc hC₁ ?_; rw [hcC]) | wp_step)
  show wpAny _ _ (typeLookup (.ref C) _) _ _ _
  refine i1.at ?_
  refine wpAny_holding (wpAny_bind (b1.at ?_))
  refine wpAny_bind (wpAny_call (codeAny_mono hq fun r s' z => ?_))
  rcases r with e | (v | _ | _ | _) <;> first | exact z | exact z.elim | skip
  obtain ⟨rfl, z⟩ := z
  first
    | exact wpAny_pure (wpAny_pure z)
    | (wp_walk; exact z)
theorem call_k (N0 : NewOk newId bm) {rest : List Value} {fI : Addr}
    (hC : h.get? C = some (excClassObj nm q C N bs bm hdct sn sub ab col dd k0 k1 k2 k3 k5 newId))
    (hi : W.Looks (model prog w) h (typeLookup (.ref C) "__init__") (some (.ref fI))) (hb : ∀ self, W.Looks (model prog w) h (bindSpecial (.ref fI) self) (.ref fI, [self])) (hrest : rest.length ≤ sizeLine)
    (hq : codeAny (model prog w) (A.under (.builtin "type.__call__" ⟨.ref C :: rest, kw⟩)) (.call (.ref fI) ⟨.ref (h.objs.size + 1) :: rest, kw⟩) (W.InitBack (h.objs.size + 1) R)
      ⟨(h.push (W.kdv_tup rest)).push (excO C h.objs.size), g, d, t, os⟩) :
    codeAny (model prog w) A (.call (.ref C) ⟨rest, kw⟩) R ⟨h, g, d, t, os⟩ := by
  have f1 := tc_lookup
  have f2 := tc_bind (.ref C)
  have hTy : (⟨h, g, d, t, os⟩ : Shared).TypeIs (.ref C) "type" := ⟨_, hC, rfl⟩
  refine codeAny_of_tree ?_
  show wpAny _ _ (callAny (.ref C) _) _ _ _
  repeat (any_goals (first | assumption | with_reducible refine wpAny_loadPart_at hC ?_ | wp_step))
  refine ⟨rfl, ?_⟩
  refine codeAny_call_builtin_at (Code.quiet_builtin _ (by decide +kernel)) entry_typeCall (check_tc_k hC (type_call_k N0 hC hi hb hrest ?_))
  refine codeAny_mono hq fun r s' z => ?_
  rcases r with e | (v | _ | _ | _) <;> exact z
end
section
variable {prog : Program} {w : World} {A : Around} {E : Value → Shared → Prop} {K : Frag} {mg mb : Str → Option Value} {C fI cc cda : Addr} {B newId initId : String} {nmC qual : Str} {params : Arguments} {first : Stmt} {rest : List Stmt} {scope : Scope} {ar : Args} {kw : List (Str × Value)}
variable {h : Heap} {g : Array GenState} {d : Drawn} {t : Nat} {os : OsState}
/-- super().__init__(text): the args are laid anew -/
theorem call_mw (T : VTxt prog K mg C fI cc cda B newId initId nmC qual params first rest scope) {u e t0 : Addr} {us : List Value} {Q : Value → Shared → Prop} (X : K.In h)
    (he : h.get? e = some (excO C t0)) (hu : h.get? u = some (kxs_mw initId e)) (hrest : us.length ≤ sizeLine)
    (hq : ∀ h' t1, (∀ b o, b ≠ e → h.get? b = some o → h'.get? b = some o) → h'.get? e = some (excO C t1) → Q .none ⟨h', g, d, t, os⟩) :
    wpAny (model prog w) A (call (.ref u) us) Q E ⟨h, g, d, t, os⟩ := by
  obtain ⟨nm, q, N, bs, bm, sn, sub, ab, col, dd, k0, k1, k2, k3, k5, hC, hbm⟩ := T.cls
  refine wpAny_call (codeAny_of_tree ?_)
  show wpAny _ A.in1 (callAny (.ref u) ⟨us, []⟩) _ _ _
  simp only [callAny]
  refine wpAny_bind (wpAny_load hu ?_)
  simp only [kxs_mw, show (Value.type "method-wrapper" == Value.type "method" || Value.type "method-wrapper" == Value.type "builtin_function_or_method" || Value.type "method-wrapper" == Value.type "method-wrapper") = true by decide, if_true]
  refine KFB.if_so (by decide) ?_
  refine wpAny_bind (check_bound_k T.base (X _ _ hC) he rfl ?_)
  refine wpAny_bind (wpAny_pure (wpAny_pure ?_))
  refine ⟨plainId_quiet T.base.plain _, codeAny_builtin T.base.entry ?_⟩
  exact exc_init_tree (cls := .ref C) (t0 := t0) (dv := none) (c2 := .none) (c3 := .none) (b4 := .bool false) he hrest fun h' k e' _ => hq h' h.objs.size k e'

theorem super_stmt (T : VTxt prog K mg C fI cc cda B newId initId nmC qual params first rest scope) {L x t0 : Addr} {m : Str → Option Value} {Q : Flow → Shared → Prop} (X : K.In h)
    (hg : h.Ns mainGlobals mg) (hb : h.Ns builtinsNs mb) (hS : mb "super" = some (.type "super")) (hL : h.Ns L m) (hself : m "self" = some (.ref x)) (hx : h.get? x = some (excO C t0)) (hxC : x ≠ C)
    (hq : ∀ h' tk t1, (∀ b o, b ≠ x → h.get? b = some o → h'.get? b = some o) → h'.get? x = some (excO C t1) → Q .next ⟨h', g, d, tk, os⟩) :
    _root_.PySem.wpAt (model prog w) A (.func (first :: rest) (ksEnv qual scope L fI (.ref cda) cc))
      (exec first (ksEnv qual scope L fI (.ref cda) cc)) Q E ⟨h, g, d, t, os⟩ := by
  obtain ⟨nm, q, N, bs, bm, sn, sub, ab, col, dd, k0, k1, k2, k3, k5, hC, hbm⟩ := T.cls
  obtain ⟨oc, od, kV, doc, pm, an, ct, osl, hf⟩ := T.fn
  obtain ⟨ccl, cdd, vs, ccs, file, tf, hcda, hvs, hfile⟩ := T.cdo
  obtain ⟨cl, cld, csl, hcc⟩ := T.cell
  obtain ⟨ar, har, harg⟩ := T.hd
  have hcd : clsIn K C = some { name := nm, bases := bs, mro := .ref C :: bm, ns := N, qualname := q, hasDict := true, slotNames := sn, subclasses := sub, abstract := ab, collection := col, hasDel := false } := by unfold clsIn; rw [hC] <;> rfl
  have hD := X _ _ hC
  obtain ⟨p0, p1, p2, p3, p4, p5, msg, j, rfl, hst⟩ := T.st
  obtain ⟨hi, hsw, pl, hev⟩ := hst L
  refine ks_wpAt_Expr_any (hi := hi) (hs := hsw) ?_
  refine ks_wpAt_MethodCall (pl := pl) (he := hev) ?_
  refine ks_wpAt_super_base (env := ksEnv qual scope L fI (.ref cda) cc) T.kS T.kCl (by decide) rfl (X _ _ hf) rfl har rfl (X _ _ hcda) rfl hvs hfile T.topS ?_
  refine ks_loadName_global T.kF T.kS (loadGlobal_builtin (env := ksEnv qual scope L fI (.ref cda) cc) hg T.noS hb hS ⟨rfl, ?_⟩)
  refine wpAny_loadName_free T.kF T.kCl rfl ⟨_, X _ _ hcc, rfl⟩ ?_
  rw [harg]
  refine wpAny_loadName_local T.kF T.kSf hL hself ?_
  refine ks_wpAny_isType_cls hD rfl ⟨rfl, ?_⟩
  refine ks_wpAny_call_super hD rfl hx rfl (fun c e => by cases e) (looks_mroIn X T.subC) (fun h1 e1 k1' => ?_)
  have X1 : K.In h1 := X.keeps k1'
  have hx1 := k1' _ _ hx
  have hsup : alongIn K "__init__" (((Value.ref C :: bm).dropWhile (· != .ref C)).drop 1) = some (some (.builtin initId)) := by
    have z := T.sup
    unfold ks_superIn at z
    rw [hcd] at z
    exact z
  have hI1 : InstAt h1 x (excO C t0) C none := ⟨hx1, rfl, rfl, trivial⟩
  have hmro : Looks (model prog w) h1 (mroOf (.ref C)) (Value.ref C :: bm) := (looks_clsIn X1 hcd).andThen .now
  refine kxs_getMethod T.kxs e1 (looks_opaque X1 T.opq) hmro rfl X1 hsup (hI1.type.andThen (looks_subIn X1 T.subB)) hxC (by decide) ?_
  have hx2 : (h1.push (kxs_mw initId x)).get? x = some (excO C t0) := Heap.get?_push_of_some _ hx1
  have hu2 : (h1.push (kxs_mw initId x)).get? h1.objs.size = some (kxs_mw initId x) := Heap.get?_push_size _ rfl
  have X2 : K.In (h1.push (kxs_mw initId x)) := X1.keeps fun b o e => Heap.get?_push_of_some _ e
  refine kxs_callWith (i := initId) (x := x) (by rfl) ?_
  refine evalArgs_plain ?_
  refine Calls.spliced_cons ?_
  show wpAny _ _ (eval (.Constant (.str msg) j p3) _) _ _ _
  refine Calls.Constant_str ?_
  refine Calls.spliced_nil ?_
  refine ⟨hu2, ?_⟩
  refine call_mw T X2 hx2 hu2 (by rw [sizeLine_eq]; exact (by decide : 1 ≤ 16777216)) fun h' t1 k e => ?_
  exact hq h' _ t1 (fun b o hb z => k b o hb (Heap.get?_push_of_some _ (k1' b o z))) e
/-- __init__ without fields of its own -/
theorem init0 (T : VTxt prog K mg C fI cc cda B newId initId nmC qual params first [] scope) {R : Result → Shared → Prop} {s : Shared} {x t0 : Addr} (X : K.In s.heap) (hlim : s.heap.NoLimit)
    (hg : s.heap.Ns mainGlobals mg) (hb : s.heap.Ns builtinsNs mb) (hS : mb "super" = some (.type "super")) (hx : s.heap.get? x = some (excO C t0)) (hxC : x ≠ C) (hroom : A.depth < recursionLimit)
    (hbind : ∀ (kV doc pm : Value) (an : Option Addr) (ct : Value), BindsTo s (ksFn "__init__" qual params [first] scope .none kV doc pm an (.ref cda) ct cc) ar [("self", .ref x)])
    (hcell : ∀ z ∈ scope.names, z.2 ≠ .cell) (hco : scope.isCoroutine = false) (hgen : scope.isGenerator = false)
    (hq : ∀ h' tk t1, (∀ b o, b ≠ x → s.heap.get? b = some o → h'.get? b = some o) → h'.get? x = some (excO C t1) → R (.ok (.ret .none)) { s with heap := h', toks := tk }) :
    codeAny (model prog w) A (.call (.ref fI) ar) R s := by
  obtain ⟨oc, od, kV, doc, pm, an, ct, osl, hf⟩ := T.fn
  refine ks_codeAny_call_defAt (fd := ksFn "__init__" qual params [first] scope .none kV doc pm an (.ref cda) ct cc) (body := [first]) (binds := [("self", .ref x)]) hroom (X _ _ hf) rfl hlim (codeRec_of X T.code) rfl (hbind kV doc pm an ct) hcell ?_ (fun h₁ hns hk => ?_) hco hgen T.kF
  · intro y hy
    rw [List.mem_singleton.mp hy]
    exact T.kSf
  obtain ⟨hp, g, d, t, os⟩ := s
  refine ks_wpAt_execs_cons ?_
  refine super_stmt (mb := mb) (m := fun x_1 => List.lookup x_1 [(("self" : Str), Value.ref x)].reverse) T (X.keeps hk) ?_ ?_ hS hns (by simp [List.lookup]) (hk _ _ hx) hxC (fun h' tk t1 k e => ?_)
  · exact hg.keeps hk
  · exact hb.keeps hk
  · refine wpAt_of_wpAny (wpAny_execs_nil ?_)
    exact hq h' tk t1 (fun b o hb z => k b o hb (hk b o z)) e
/-- C() -/
theorem made0 (T : VTxt prog K mg C fI cc cda B newId initId nmC qual params first [] scope) {R : Result → Shared → Prop} {s : Shared} (X : K.In s.heap) (hlim : s.heap.NoLimit)
    (hg : s.heap.Ns mainGlobals mg) (hb : s.heap.Ns builtinsNs mb) (hS : mb "super" = some (.type "super")) (hroom : A.depth + 1 < recursionLimit)
    (hbind : ∀ (x : Addr) (s : Shared) (kV doc pm : Value) (an : Option Addr) (ct : Value), BindsTo s (ksFn "__init__" qual params [first] scope .none kV doc pm an (.ref cda) ct cc) ⟨[.ref x], []⟩ [("self", .ref x)])
    (hcell : ∀ z ∈ scope.names, z.2 ≠ .cell) (hco : scope.isCoroutine = false) (hgen : scope.isGenerator = false)
    (hq : ∀ h' tk t1, (∀ b o, s.heap.get? b = some o → h'.get? b = some o) → h'.get? (s.heap.objs.size + 1) = some (excO C t1) → R (.ok (.ret (.ref (s.heap.objs.size + 1)))) { s with heap := h', toks := tk }) :
    codeAny (model prog w) A (.call (.ref C) ⟨[], []⟩) R s := by
  obtain ⟨nm, q, N, bs, bm, sn, sub, ab, col, dd, k0, k1, k2, k3, k5, hC, hbm⟩ := T.cls
  obtain ⟨hp, g, dr, tk, os⟩ := s
  have k : ∀ b o, hp.get? b = some o → ((hp.push (kdv_tup [])).push (excO C hp.objs.size)).get? b = some o := fun b o e => Heap.get?_push_of_some _ (Heap.get?_push_of_some _ e)
  have hget : ((hp.push (kdv_tup [])).push (excO C hp.objs.size)).get? (hp.objs.size + 1) = some (excO C hp.objs.size) := by heap_get
  have hne : hp.objs.size + 1 ≠ C := fun z => by
    have := Heap.lt_size (X _ _ hC)
    rw [← z] at this
    exact absurd this (by show ¬ (hp.objs.size + 1 < hp.objs.size); omega)
  refine call_k hbm (X _ _ hC) (looks_findIn X T.iC) (fun self => bind_fn X self T.tI) (by rw [sizeLine_eq]; exact (by decide : 0 ≤ 16777216)) ?_
  refine init0 (mb := mb) (s := ⟨(hp.push (kdv_tup [])).push (excO C hp.objs.size), g, dr, tk, os⟩) T (X.keeps k) (hlim.keeps k) (hg.keeps k) (hb.keeps k) hS hget hne ?_ (hbind _ _) hcell hco hgen fun h' tk' t1 k' e => ?_
  · show A.depth + 1 < recursionLimit
    exact hroom
  · refine ⟨rfl, hq h' tk' t1 (fun b o z => k' b o (Nat.ne_of_lt (Nat.lt_succ_of_lt (Heap.lt_size z))) (k b o z)) e⟩
end
/-- what is asked of a class's mro, so that its instances' fields may be set -/
def MroOk (l : List Value) : Prop := l.isEmpty = false ∧ l.contains (.type "object") = true ∧ ∀ self, refuseLoop self "__setattr__" l = pure ()
theorem MroOk.of {l : List Value} (h : refsVE l = true) : MroOk l := ⟨refsVE_ne h, (refsVE_contains "object" _ h).trans (by decide +kernel), fun self => refsVE_pass self _ h⟩
theorem mro_I {C : Addr} : MroOk [.ref C, .type "IndexError", .type "LookupError", .type "Exception", .type "BaseException", .type "object"] := ⟨rfl, rfl, fun self => by rw [refuseLoop_ref]; kernel_rfl⟩
theorem mro_K {C : Addr} : MroOk [.ref C, .type "KeyError", .type "LookupError", .type "Exception", .type "BaseException", .type "object"] := ⟨rfl, rfl, fun self => by rw [refuseLoop_ref]; kernel_rfl⟩
section
open Builtin Builtin.ObjectAttr
variable {prog : Program} {w : World} {A : Around} {E : Value → Shared → Prop} {R : Result → Shared → Prop} {hp : Heap} {g : Array GenState} {d : Drawn} {t : Nat} {os : OsState}
theorem exc_osaM {K : W.Frag} {name : Str} {tk : Tok} {v : Value} {x C : Addr} {fv : Array Value} {cd : ClassData}
    (X : K.In hp) (hx : hp.get? x = some { cls := .ref C, data := .fields fv }) (hcd : PySem.W.clsIn K C = some cd) (hm : MroOk cd.mro) (hh : cd.hasDict = true) (ha : W.findIn K (.ref C) name = some none)
    (hq : ∀ h' tk' dx, (∀ b o, b ≠ x → hp.get? b = some o → h'.get? b = some o) → hp.objs.size ≤ dx → dx ≠ x → h'.get? x = some { cls := .ref C, dict := some dx, data := .fields fv } →
      h'.Ns1 dx (fun y => if y = name then some v else none) → R (.ok (.ret .none)) ⟨h', g, d, tk', os⟩) :
    codeAny (model prog w) A (.call (.builtin "object.__setattr__") ⟨[.ref x, .str name tk, v], []⟩) R ⟨hp, g, d, t, os⟩ := by
  have I : W.InstAt hp x { cls := .ref C, data := .fields fv } C none := ⟨hx, rfl, rfl, trivial⟩
  have SF := F.store_object
  have ne := hm.1
  have hob : cd.mro.contains (.type "object") = true := hm.2.1
  have hxs : x ≠ hp.objs.size := Nat.ne_of_lt (Heap.lt_size hx)
  have sub : W.Looks (model prog w) hp (isInstance (.ref x) (.type "object")) true := I.type.andThen (W.looks_mroIn X (by unfold W.mroIn; rw [hcd, Option.bind_some, if_neg (by rw [ne]; decide), hob]))
  refine codeAny_call_builtin SF.slot.plain SF.entry (@W.check_slot (model prog w) _ _ ⟨hp, g, d, t, os⟩ "object.__setattr__" "object" "__setattr__" (.ref x) [.str name tk, v] [] _ SF.kind SF.split sub (SF.args (.ref x) (.str name tk) v) ?_)
  have hmr : W.Looks (model prog w) hp (mroOf (.ref C)) cd.mro := (W.looks_clsIn X hcd).andThen .now
  have L3 : W.Looks (model prog w) hp (storeTaker? none) none := .now
  have hcls : W.Looks (model prog w) hp (classData C) cd := W.looks_clsIn X hcd
  rw [W.osa_eq, refuse_eq]
  refine wpAny_bind (wpAny_bind (I.type.at (wpAny_bind (hmr.at ?_))))
  rw [hm.2.2]
  refine wpAny_pure (wpAny_bind (I.type.at (wpAny_bind ((W.looks_findIn X ha).at (wpAny_bind (L3.at ?_))))))
  show wpAny _ _ (storeInOwnDict (.ref x) (.ref C) (.str name tk) name v false) _ _ _
  obtain ⟨nm, bs, mro, ns, qn, hd, sn, sb, ab, col, del⟩ := cd
  dsimp only at hh
  subst hh
  unfold storeInOwnDict ownDictForStores
  repeat (first | with_reducible refine PySem.HandSPX.store_in_new ?_ ?_ | with_reducible refine wpAny_loadPart_at hx ?_ | with_reducible refine hcls.at ?_ | wp_step)
  · exact ⟨_, #[], _, (Heap.get?_update_ne _ _ _ _ hxs.symm).trans (Heap.get?_push_at rfl rfl), rfl, fun e he => absurd he (by simp), fun _ => rfl⟩
  · intro h' tk' hn' hs
    have hx₁ : (hp.push { cls := .type "dict", data := .dict #[] }).get? x = some { cls := .ref C, data := .fields fv } := Heap.get?_push_of_some _ hx
    refine hq h' tk' hp.objs.size (fun b o hb ho => ?_) (Nat.le_refl _) hxs.symm ?_ hn'
    · exact (hs.2 b (Nat.ne_of_lt (Heap.lt_size ho))).trans ((Heap.get?_update_ne _ _ _ _ hb).trans (Heap.get?_push_of_some _ ho))
    · exact (hs.2 x hxs).trans (Heap.get?_update_self _ hx₁ rfl)
theorem osa_oldM {K : W.Frag} {name : Str} {tk : Tok} {v : Value} {x C dx : Addr} {fv : Array Value} {cd : ClassData} {m0 : Str → Option Value} {nl : List Str}
    (X : K.In hp) (hx : hp.get? x = some { cls := .ref C, dict := some dx, data := .fields fv }) (hns : hp.Ns1 dx m0) (hw : Within m0 nl) (hz : nl.length ≤ 1000) (hcd : PySem.W.clsIn K C = some cd) (hm : MroOk cd.mro) (hh : cd.hasDict = true)
    (ha : W.findIn K (.ref C) name = some none)
    (hq : ∀ h' tk', (∀ b o, b ≠ dx → hp.get? b = some o → h'.get? b = some o) → h'.Ns1 dx (fun y => if y = name then some v else m0 y) → R (.ok (.ret .none)) ⟨h', g, d, tk', os⟩) :
    codeAny (model prog w) A (.call (.builtin "object.__setattr__") ⟨[.ref x, .str name tk, v], []⟩) R ⟨hp, g, d, t, os⟩ := by
  obtain ⟨oD, esD, epD, hoD, hdD, _⟩ := hns.count hw
  have I : W.InstAt hp x { cls := .ref C, dict := some dx, data := .fields fv } C (some oD) := ⟨hx, rfl, rfl, hoD⟩
  have SF := F.store_object
  have ne := hm.1
  have hob : cd.mro.contains (.type "object") = true := hm.2.1
  have sub : W.Looks (model prog w) hp (isInstance (.ref x) (.type "object")) true := I.type.andThen (W.looks_mroIn X (by unfold W.mroIn; rw [hcd, Option.bind_some, if_neg (by rw [ne]; decide), hob]))
  refine codeAny_call_builtin SF.slot.plain SF.entry (@W.check_slot (model prog w) _ _ ⟨hp, g, d, t, os⟩ "object.__setattr__" "object" "__setattr__" (.ref x) [.str name tk, v] [] _ SF.kind SF.split sub (SF.args (.ref x) (.str name tk) v) ?_)
  have hmr : W.Looks (model prog w) hp (mroOf (.ref C)) cd.mro := (W.looks_clsIn X hcd).andThen .now
  have L3 : W.Looks (model prog w) hp (storeTaker? none) none := .now
  have hcls : W.Looks (model prog w) hp (classData C) cd := W.looks_clsIn X hcd
  rw [W.osa_eq, refuse_eq]
  refine wpAny_bind (wpAny_bind (I.type.at (wpAny_bind (hmr.at ?_))))
  rw [hm.2.2]
  refine wpAny_pure (wpAny_bind (I.type.at (wpAny_bind ((W.looks_findIn X ha).at (wpAny_bind (L3.at ?_))))))
  show wpAny _ _ (storeInOwnDict (.ref x) (.ref C) (.str name tk) name v false) _ _ _
  obtain ⟨nm, bs, mro, ns, qn, hd, sn, sb, ab, col, del⟩ := cd
  dsimp only at hh
  subst hh
  unfold storeInOwnDict ownDictForStores
  repeat (first | with_reducible refine PySem.OEX.store_in_old hns hw hz ?_ | with_reducible refine wpAny_loadPart_at hx ?_ | with_reducible refine hcls.at ?_ | wp_step)
  intro h' tk' hn' hs
  exact hq h' tk' (fun b o hb ho => (hs.2 b hb).trans ho) hn'
end
section
variable {prog : Program} {w : World} {A : Around} {E : Value → Shared → Prop} {K : Frag} {C : Addr} {cd : ClassData}
variable {h : Heap} {g : Array GenState} {d : Drawn} {t : Nat} {os : OsState}
theorem st_new {env : Env} {m : Str → Option Value} {x t1 : Addr} {f p : Str} {v : Value} {p1 p2 p3 pos : Pos} {Q : Flow → Shared → Prop} (X : K.In h) (hL : h.Ns env.locals m) (hself : m "self" = some (.ref x)) (hp : m p = some v)
    (hx : h.get? x = some (excO C t1)) (hcl : clsIn K C = some cd) (hm : MroOk cd.mro) (hh : cd.hasDict = true) (sa : findIn K (.ref C) "__setattr__" = some (some (.builtin "object.__setattr__"))) (hno : findIn K (.ref C) f = some none)
    (hk : env.scope.kind = .function) (hl : env.kindOf p = some .local) (hls : env.kindOf "self" = some .local) (hd : (p == ("__debug__" : Str)) = false) (hs : swapsWith (.Name p p3) (some (.Attribute (.Name "self" p1) f p2)) pos.line env = pure false)
    (hq : ∀ h' tk' dx, (∀ b o, b ≠ x → h.get? b = some o → h'.get? b = some o) → h.objs.size ≤ dx → dx ≠ x → h'.get? x = some { cls := .ref C, dict := some dx, data := .fields #[.ref t1, .none, .none, .none, .bool false, .none] } →
      h'.Ns1 dx (fun y => if y = f then some v else none) → Q .next ⟨h', g, d, tk', os⟩) :
    wpAny (model prog w) A (exec (.Assign [.Attribute (.Name "self" p1) f p2] (.Name p p3) pos) env) Q E ⟨h, g, d, t, os⟩ := by
  refine plainObj_wpAny_Assign_Attribute (ESX.ldL (s := ⟨h, g, d, t, os⟩) hL hp (ESX.ldL (s := ⟨h, g, d, t, os⟩) hL hself ?_ hk hls) hk hl hd) hs
  refine set_plain (s := ⟨h, g, d, t, os⟩) X (ox := excO C t1) (od := none) ⟨hx, rfl, rfl, trivial⟩ sa ?_
  exact exc_osaM X hx hcl hm hh hno (fun h' tk' dx k dn dne hx' hn => hq h' tk' dx k dn dne hx' hn)
/-- self.f = p, a further field -/
theorem st_old {env : Env} {m m0 : Str → Option Value} {nl : List Str} {x t1 dx : Addr} {f p : Str} {v : Value} {p1 p2 p3 pos : Pos} {Q : Flow → Shared → Prop} (X : K.In h) (hL : h.Ns env.locals m) (hself : m "self" = some (.ref x)) (hp : m p = some v)
    (hx : h.get? x = some { cls := .ref C, dict := some dx, data := .fields #[.ref t1, .none, .none, .none, .bool false, .none] }) (hns : h.Ns1 dx m0) (hw : Within m0 nl) (hz : nl.length ≤ 1000) (hcl : clsIn K C = some cd) (hm : MroOk cd.mro) (hh : cd.hasDict = true)
    (sa : findIn K (.ref C) "__setattr__" = some (some (.builtin "object.__setattr__"))) (hno : findIn K (.ref C) f = some none)
    (hk : env.scope.kind = .function) (hl : env.kindOf p = some .local) (hls : env.kindOf "self" = some .local) (hd : (p == ("__debug__" : Str)) = false) (hs : swapsWith (.Name p p3) (some (.Attribute (.Name "self" p1) f p2)) pos.line env = pure false)
    (hq : ∀ h' tk', (∀ b o, b ≠ dx → h.get? b = some o → h'.get? b = some o) → h'.Ns1 dx (fun y => if y = f then some v else m0 y) → Q .next ⟨h', g, d, tk', os⟩) :
    wpAny (model prog w) A (exec (.Assign [.Attribute (.Name "self" p1) f p2] (.Name p p3) pos) env) Q E ⟨h, g, d, t, os⟩ := by
  refine plainObj_wpAny_Assign_Attribute (ESX.ldL (s := ⟨h, g, d, t, os⟩) hL hp (ESX.ldL (s := ⟨h, g, d, t, os⟩) hL hself ?_ hk hls) hk hl hd) hs
  obtain ⟨oD, _, _, hoD, _, _⟩ := hns.count hw
  refine set_plain (s := ⟨h, g, d, t, os⟩) X (ox := { cls := .ref C, dict := some dx, data := .fields #[.ref t1, .none, .none, .none, .bool false, .none] }) (od := some oD) ⟨hx, rfl, rfl, hoD⟩ sa ?_
  exact osa_oldM X hx hns hw hz hcl hm hh hno (fun h' tk' k hn => hq h' tk' k hn)
end
/-- what is asked of a class whose fields are set -/
structure FTxt (K : Frag) (C : Addr) (names : List Str) : Prop where
  cl : ∃ cd : ClassData, clsIn K C = some cd ∧ MroOk cd.mro ∧ cd.hasDict = true
  sa : findIn K (.ref C) "__setattr__" = some (some (.builtin "object.__setattr__"))
  no : ∀ f ∈ names, findIn K (.ref C) f = some none
section
variable {prog : Program} {w : World} {A : Around} {E : Value → Shared → Prop} {K : Frag} {mg mb : Str → Option Value} {C fI cc cda : Addr} {B newId initId : String} {nmC qual : Str} {params : Arguments} {first s1 s2 : Stmt} {scope : Scope} {ar : Args} {kw : List (Str × Value)}
theorem init1 {f p : Str} {u : Value} (T : VTxt prog K mg C fI cc cda B newId initId nmC qual params first [s1] scope) (F : FTxt K C [f]) (i1 : IsF qual scope fI cda cc s1 f p) {R : Result → Shared → Prop} {s : Shared} {x t0 : Addr} (X : K.In s.heap) (hlim : s.heap.NoLimit)
    (hg : s.heap.Ns mainGlobals mg) (hb : s.heap.Ns builtinsNs mb) (hS : mb "super" = some (.type "super")) (hx : s.heap.get? x = some (excO C t0)) (hxK : ∀ b o, K.lookup b = some o → b ≠ x) (hroom : A.depth < recursionLimit)
    (hbind : ∀ (kV doc pm : Value) (an : Option Addr) (ct : Value), BindsTo s (ksFn "__init__" qual params [first, s1] scope .none kV doc pm an (.ref cda) ct cc) ar [("self", .ref x), (p, u)])
    (hps : p ≠ "self") (hcell : ∀ z ∈ scope.names, z.2 ≠ .cell) (hco : scope.isCoroutine = false) (hgen : scope.isGenerator = false)
    (hq : ∀ h' tk t1 dx, (∀ b o, b ≠ x → s.heap.get? b = some o → h'.get? b = some o) → s.heap.objs.size ≤ dx → dx ≠ x → h'.get? x = some { cls := .ref C, dict := some dx, data := .fields #[.ref t1, .none, .none, .none, .bool false, .none] } →
      h'.Ns1 dx (fun y => if y = f then some u else none) → R (.ok (.ret .none)) { s with heap := h', toks := tk }) :
    codeAny (model prog w) A (.call (.ref fI) ar) R s := by
  obtain ⟨oc, od, kV, doc, pm, an, ct, osl, hf⟩ := T.fn
  obtain ⟨cd, hcl, hm, hh⟩ := F.cl
  obtain ⟨a1, a2, a3, pos, rfl, hlp, hdp, hsw⟩ := i1
  have hxC : x ≠ C := fun z => by
    obtain ⟨nm, q, N, bs, bm, sn, sub, ab, col, dd, k0, k1, k2, k3, k5, hC, hbm⟩ := T.cls
    exact hxK _ _ hC z.symm
  refine ks_codeAny_call_defAt (fd := ksFn "__init__" qual params [first, .Assign [.Attribute (.Name "self" a1) f a2] (.Name p a3) pos] scope .none kV doc pm an (.ref cda) ct cc) (body := [first, .Assign [.Attribute (.Name "self" a1) f a2] (.Name p a3) pos]) (binds := [("self", .ref x), (p, u)]) hroom (X _ _ hf) rfl hlim (codeRec_of X T.code) rfl (hbind kV doc pm an ct) hcell ?_ (fun h₁ hns hk => ?_) hco hgen T.kF
  · intro y hy
    rcases List.mem_cons.mp hy with rfl | hy
    · exact T.kSf
    · rw [List.mem_singleton.mp hy]
      exact hlp
  have hms : List.lookup ("self" : Str) [(("self" : Str), Value.ref x), (p, u)].reverse = some (.ref x) := by
    show List.lookup ("self" : Str) [(p, u), (("self" : Str), Value.ref x)] = _
    rw [List.lookup_cons, show (("self" : Str) == p) = false from beq_false_of_ne (Ne.symm hps)]
    rfl
  have hmp : List.lookup p [(("self" : Str), Value.ref x), (p, u)].reverse = some u := by
    show List.lookup p [(p, u), (("self" : Str), Value.ref x)] = _
    rw [List.lookup_cons, show (p == p) = true from beq_self_eq_true p]
  obtain ⟨hp, g, d, t, os⟩ := s
  have hLx : hp.objs.size ≠ x := (Nat.ne_of_lt (Heap.lt_size hx)).symm
  refine ks_wpAt_execs_cons ?_
  refine super_stmt (mb := mb) (m := fun y => List.lookup y [(("self" : Str), Value.ref x), (p, u)].reverse) T (X.keeps hk) (hg.keeps hk) (hb.keeps hk) hS hns hms (hk _ _ hx) hxC (fun h' tk t1 k e => ?_)
  have X' : K.In h' := fun b o l => k b o (hxK b o l) (hk _ _ (X b o l))
  have hns' : h'.Ns hp.objs.size (fun y => List.lookup y [(("self" : Str), Value.ref x), (p, u)].reverse) := hns.at fun o z => k _ _ hLx z
  refine wpAt_of_wpAny (wpAny_execs_cons ?_)
  refine st_new X' hns' hms hmp e hcl hm hh F.sa (F.no f List.mem_cons_self) T.kF hlp T.kSf hdp (hsw _) fun h2 tk2 dx k2 dn dne hx2 hn2 => ?_
  refine wpAny_execs_nil ?_
  refine hq h2 tk2 t1 dx (fun b o hb z => k2 b o hb (k b o hb (hk _ _ z))) ?_ dne hx2 hn2
  have : hp.objs.size < h'.objs.size := by
    obtain ⟨o, _, _, z, _⟩ := hns'
    exact Heap.lt_size z
  show hp.objs.size ≤ dx
  omega
theorem init2 {f1 f2 p1 p2 : Str} {u1 u2 : Value} (T : VTxt prog K mg C fI cc cda B newId initId nmC qual params first [s1, s2] scope) (F : FTxt K C [f1, f2]) (i1 : IsF qual scope fI cda cc s1 f1 p1) (i2 : IsF qual scope fI cda cc s2 f2 p2) {R : Result → Shared → Prop} {s : Shared} {x t0 : Addr} (X : K.In s.heap) (hlim : s.heap.NoLimit)
    (hg : s.heap.Ns mainGlobals mg) (hb : s.heap.Ns builtinsNs mb) (hS : mb "super" = some (.type "super")) (hx : s.heap.get? x = some (excO C t0)) (hxK : ∀ b o, K.lookup b = some o → b ≠ x) (hroom : A.depth < recursionLimit)
    (hbind : ∀ (kV doc pm : Value) (an : Option Addr) (ct : Value), BindsTo s (ksFn "__init__" qual params [first, s1, s2] scope .none kV doc pm an (.ref cda) ct cc) ar [("self", .ref x), (p1, u1), (p2, u2)])
    (hps : p1 ≠ "self" ∧ p2 ≠ "self" ∧ p1 ≠ p2) (hcell : ∀ z ∈ scope.names, z.2 ≠ .cell) (hco : scope.isCoroutine = false) (hgen : scope.isGenerator = false)
    (hq : ∀ h' tk t1 dx, (∀ b o, b ≠ x → s.heap.get? b = some o → h'.get? b = some o) → s.heap.objs.size ≤ dx → dx ≠ x → h'.get? x = some { cls := .ref C, dict := some dx, data := .fields #[.ref t1, .none, .none, .none, .bool false, .none] } →
      h'.Ns1 dx (fun y => if y = f2 then some u2 else if y = f1 then some u1 else none) → R (.ok (.ret .none)) { s with heap := h', toks := tk }) :
    codeAny (model prog w) A (.call (.ref fI) ar) R s := by
  obtain ⟨oc, od, kV, doc, pm, an, ct, osl, hf⟩ := T.fn
  obtain ⟨cd, hcl, hm, hh⟩ := F.cl
  obtain ⟨a1, a2, a3, pos, rfl, hlp, hdp, hsw⟩ := i1
  obtain ⟨b1, b2, b3, pos', rfl, hlp', hdp', hsw'⟩ := i2
  have hxC : x ≠ C := fun z => by
    obtain ⟨nm, q, N, bs, bm, sn, sub, ab, col, dd, k0, k1, k2, k3, k5, hC, hbm⟩ := T.cls
    exact hxK _ _ hC z.symm
  refine ks_codeAny_call_defAt (fd := ksFn "__init__" qual params [first, .Assign [.Attribute (.Name "self" a1) f1 a2] (.Name p1 a3) pos, .Assign [.Attribute (.Name "self" b1) f2 b2] (.Name p2 b3) pos'] scope .none kV doc pm an (.ref cda) ct cc) (body := [first, .Assign [.Attribute (.Name "self" a1) f1 a2] (.Name p1 a3) pos, .Assign [.Attribute (.Name "self" b1) f2 b2] (.Name p2 b3) pos']) (binds := [("self", .ref x), (p1, u1), (p2, u2)]) hroom (X _ _ hf) rfl hlim (codeRec_of X T.code) rfl (hbind kV doc pm an ct) hcell ?_ (fun h₁ hns hk => ?_) hco hgen T.kF
  · intro y hy
    rcases List.mem_cons.mp hy with rfl | hy
    · exact T.kSf
    · rcases List.mem_cons.mp hy with rfl | hy
      · exact hlp
      · rw [List.mem_singleton.mp hy]
        exact hlp'
  have hms : List.lookup ("self" : Str) [(("self" : Str), Value.ref x), (p1, u1), (p2, u2)].reverse = some (.ref x) := by
    show List.lookup ("self" : Str) [(p2, u2), (p1, u1), (("self" : Str), Value.ref x)] = _
    rw [List.lookup_cons, show (("self" : Str) == p2) = false from beq_false_of_ne (Ne.symm hps.2.1)]
    show List.lookup ("self" : Str) [(p1, u1), (("self" : Str), Value.ref x)] = _
    rw [List.lookup_cons, show (("self" : Str) == p1) = false from beq_false_of_ne (Ne.symm hps.1)]
    rfl
  have hmp : List.lookup p1 [(("self" : Str), Value.ref x), (p1, u1), (p2, u2)].reverse = some u1 := by
    show List.lookup p1 [(p2, u2), (p1, u1), (("self" : Str), Value.ref x)] = _
    rw [List.lookup_cons, show (p1 == p2) = false from beq_false_of_ne hps.2.2]
    show List.lookup p1 [(p1, u1), (("self" : Str), Value.ref x)] = _
    rw [List.lookup_cons, show (p1 == p1) = true from beq_self_eq_true p1]
  have hmp2 : List.lookup p2 [(("self" : Str), Value.ref x), (p1, u1), (p2, u2)].reverse = some u2 := by
    show List.lookup p2 [(p2, u2), (p1, u1), (("self" : Str), Value.ref x)] = _
    rw [List.lookup_cons, show (p2 == p2) = true from beq_self_eq_true p2]
  obtain ⟨hp, g, d, t, os⟩ := s
  have hLx : hp.objs.size ≠ x := (Nat.ne_of_lt (Heap.lt_size hx)).symm
  refine ks_wpAt_execs_cons ?_
  refine super_stmt (mb := mb) (m := fun y => List.lookup y [(("self" : Str), Value.ref x), (p1, u1), (p2, u2)].reverse) T (X.keeps hk) (hg.keeps hk) (hb.keeps hk) hS hns hms (hk _ _ hx) hxC (fun h' tk t1 k e => ?_)
  have X' : K.In h' := fun b o l => k b o (hxK b o l) (hk _ _ (X b o l))
  have hns' : h'.Ns hp.objs.size (fun y => List.lookup y [(("self" : Str), Value.ref x), (p1, u1), (p2, u2)].reverse) := hns.at fun o z => k _ _ hLx z
  have hlt : hp.objs.size < h'.objs.size := by
    obtain ⟨o, _, _, z, _⟩ := hns'
    exact Heap.lt_size z
  refine wpAt_of_wpAny (wpAny_execs_cons ?_)
  refine st_new X' hns' hms hmp e hcl hm hh F.sa (F.no f1 List.mem_cons_self) T.kF hlp T.kSf hdp (hsw _) fun h2 tk2 dx k2 dn dne hx2 hn2 => ?_
  have X2 : K.In h2 := fun b o l => k2 b o (hxK b o l) (X' b o l)
  have hns2 : h2.Ns hp.objs.size (fun y => List.lookup y [(("self" : Str), Value.ref x), (p1, u1), (p2, u2)].reverse) := hns'.at fun o z => k2 _ _ hLx z
  refine wpAny_execs_cons ?_
  refine st_old X2 hns2 hms hmp2 hx2 hn2 (Within.cons f1 u1 Within.nil) (by show 1 ≤ 1000; decide) hcl hm hh F.sa (F.no f2 (List.mem_cons_of_mem _ List.mem_cons_self)) T.kF hlp' T.kSf hdp' (hsw' _) fun h3 tk3 k3 hn3 => ?_
  refine wpAny_execs_nil ?_
  have ndx : ∀ {b : Addr} {o : Obj}, hp.get? b = some o → b ≠ dx := fun {b o} z y => by
    have := Heap.lt_size z
    rw [y] at this
    exact Nat.lt_irrefl _ (Nat.lt_of_lt_of_le this (Nat.le_trans (Nat.le_of_lt hlt) dn))
  refine hq h3 tk3 t1 dx (fun b o hb z => k3 b o (ndx z) (k2 b o hb (k b o hb (hk _ _ z)))) (by show hp.objs.size ≤ dx; omega) dne (k3 _ _ (Ne.symm dne) hx2) hn3
/-- C(u) -/
theorem made1 {f p : Str} {u : Value} {us : List Value} (T : VTxt prog K mg C fI cc cda B newId initId nmC qual params first [s1] scope) (F : FTxt K C [f]) (i1 : IsF qual scope fI cda cc s1 f p) {R : Result → Shared → Prop} {s : Shared} (X : K.In s.heap) (hlim : s.heap.NoLimit)
    (hg : s.heap.Ns mainGlobals mg) (hb : s.heap.Ns builtinsNs mb) (hS : mb "super" = some (.type "super")) (hroom : A.depth + 1 < recursionLimit)
    (hbind : ∀ (x : Addr) (s : Shared) (kV doc pm : Value) (an : Option Addr) (ct : Value), BindsTo s (ksFn "__init__" qual params [first, s1] scope .none kV doc pm an (.ref cda) ct cc) ⟨.ref x :: us, kw⟩ [("self", .ref x), (p, u)])
    (hus : us.length ≤ sizeLine) (hps : p ≠ "self") (hcell : ∀ z ∈ scope.names, z.2 ≠ .cell) (hco : scope.isCoroutine = false) (hgen : scope.isGenerator = false)
    (hq : ∀ h' tk t1 dx, (∀ b o, s.heap.get? b = some o → h'.get? b = some o) → s.heap.objs.size ≤ dx → dx ≠ s.heap.objs.size + 1 → h'.get? (s.heap.objs.size + 1) = some { cls := .ref C, dict := some dx, data := .fields #[.ref t1, .none, .none, .none, .bool false, .none] } →
      h'.Ns1 dx (fun y => if y = f then some u else none) → R (.ok (.ret (.ref (s.heap.objs.size + 1)))) { s with heap := h', toks := tk }) :
    codeAny (model prog w) A (.call (.ref C) ⟨us, kw⟩) R s := by
  obtain ⟨nm, q, N, bs, bm, sn, sub, ab, col, dd, k0, k1, k2, k3, k5, hC, hbm⟩ := T.cls
  obtain ⟨hp, g, dr, tk, os⟩ := s
  have k : ∀ b o, hp.get? b = some o → ((hp.push (kdv_tup us)).push (excO C hp.objs.size)).get? b = some o := fun b o e => Heap.get?_push_of_some _ (Heap.get?_push_of_some _ e)
  have hget : ((hp.push (kdv_tup us)).push (excO C hp.objs.size)).get? (hp.objs.size + 1) = some (excO C hp.objs.size) := by heap_get
  have hne : ∀ {b : Addr} {o : Obj}, hp.get? b = some o → b ≠ hp.objs.size + 1 := fun {b o} z y => by
    have := Heap.lt_size z
    rw [y] at this
    exact absurd this (by show ¬ (hp.objs.size + 1 < hp.objs.size); omega)
  refine call_k hbm (X _ _ hC) (looks_findIn X T.iC) (fun self => bind_fn X self T.tI) hus ?_
  refine init1 (mb := mb) (s := ⟨(hp.push (kdv_tup us)).push (excO C hp.objs.size), g, dr, tk, os⟩) T F i1 (X.keeps k) (hlim.keeps k) (hg.keeps k) (hb.keeps k) hS hget (fun b o l => hne (X b o l)) ?_ (hbind _ _) hps hcell hco hgen fun h' tk' t1 dx k' hdx ndx e hn => ?_
  · show A.depth + 1 < recursionLimit
    exact hroom
  · refine ⟨rfl, hq h' tk' t1 dx (fun b o z => k' b o (hne z) (k b o z)) ?_ ndx e hn⟩
    have : hp.objs.size + 2 ≤ dx := by
      have z : ((hp.push (kdv_tup us)).push (excO C hp.objs.size)).objs.size = hp.objs.size + 2 := by simp [Heap.push]
      rw [← z]
      exact hdx
    show hp.objs.size ≤ dx
    omega
/-- C(u1, u2) -/
theorem made2 {f1 f2 p1 p2 : Str} {u1 u2 : Value} {us : List Value} (T : VTxt prog K mg C fI cc cda B newId initId nmC qual params first [s1, s2] scope) (F : FTxt K C [f1, f2]) (i1 : IsF qual scope fI cda cc s1 f1 p1) (i2 : IsF qual scope fI cda cc s2 f2 p2) {R : Result → Shared → Prop} {s : Shared} (X : K.In s.heap) (hlim : s.heap.NoLimit)
    (hg : s.heap.Ns mainGlobals mg) (hb : s.heap.Ns builtinsNs mb) (hS : mb "super" = some (.type "super")) (hroom : A.depth + 1 < recursionLimit)
    (hbind : ∀ (x : Addr) (s : Shared) (kV doc pm : Value) (an : Option Addr) (ct : Value), BindsTo s (ksFn "__init__" qual params [first, s1, s2] scope .none kV doc pm an (.ref cda) ct cc) ⟨.ref x :: us, kw⟩ [("self", .ref x), (p1, u1), (p2, u2)])
    (hus : us.length ≤ sizeLine) (hps : p1 ≠ "self" ∧ p2 ≠ "self" ∧ p1 ≠ p2) (hcell : ∀ z ∈ scope.names, z.2 ≠ .cell) (hco : scope.isCoroutine = false) (hgen : scope.isGenerator = false)
    (hq : ∀ h' tk t1 dx, (∀ b o, s.heap.get? b = some o → h'.get? b = some o) → s.heap.objs.size ≤ dx → dx ≠ s.heap.objs.size + 1 → h'.get? (s.heap.objs.size + 1) = some { cls := .ref C, dict := some dx, data := .fields #[.ref t1, .none, .none, .none, .bool false, .none] } →
      h'.Ns1 dx (fun y => if y = f2 then some u2 else if y = f1 then some u1 else none) → R (.ok (.ret (.ref (s.heap.objs.size + 1)))) { s with heap := h', toks := tk }) :
    codeAny (model prog w) A (.call (.ref C) ⟨us, kw⟩) R s := by
  obtain ⟨nm, q, N, bs, bm, sn, sub, ab, col, dd, k0, k1, k2, k3, k5, hC, hbm⟩ := T.cls
  obtain ⟨hp, g, dr, tk, os⟩ := s
  have k : ∀ b o, hp.get? b = some o → ((hp.push (kdv_tup us)).push (excO C hp.objs.size)).get? b = some o := fun b o e => Heap.get?_push_of_some _ (Heap.get?_push_of_some _ e)
  have hget : ((hp.push (kdv_tup us)).push (excO C hp.objs.size)).get? (hp.objs.size + 1) = some (excO C hp.objs.size) := by heap_get
  have hne : ∀ {b : Addr} {o : Obj}, hp.get? b = some o → b ≠ hp.objs.size + 1 := fun {b o} z y => by
    have := Heap.lt_size z
    rw [y] at this
    exact absurd this (by show ¬ (hp.objs.size + 1 < hp.objs.size); omega)
  refine call_k hbm (X _ _ hC) (looks_findIn X T.iC) (fun self => bind_fn X self T.tI) hus ?_
  refine init2 (mb := mb) (s := ⟨(hp.push (kdv_tup us)).push (excO C hp.objs.size), g, dr, tk, os⟩) T F i1 i2 (X.keeps k) (hlim.keeps k) (hg.keeps k) (hb.keeps k) hS hget (fun b o l => hne (X b o l)) ?_ (hbind _ _) hps hcell hco hgen fun h' tk' t1 dx k' hdx ndx e hn => ?_
  · show A.depth + 1 < recursionLimit
    exact hroom
  · refine ⟨rfl, hq h' tk' t1 dx (fun b o z => k' b o (hne z) (k b o z)) ?_ ndx e hn⟩
    have : hp.objs.size + 2 ≤ dx := by
      have z : ((hp.push (kdv_tup us)).push (excO C hp.objs.size)).objs.size = hp.objs.size + 2 := by simp [Heap.push]
      rw [← z]
      exact hdx
    show hp.objs.size ≤ dx
    omega
end
end XV
end PySem
namespace L2
open PySem PySem.Spec PyProof.Rows
/-- at a: an exception of the class at C, its dict at d (or none) -/
def exw (a C : Addr) (d : Option Addr) : HO := .ext fun h => ∃ (o : Obj) (vs : Array Value), h.get? a = some o ∧ o.cls = .ref C ∧ o.dict = d ∧ o.data = .fields vs
theorem exw_at {P : Program} {w : World} {H : Hp} {h : Heap} {a C : Addr} {d : Option Addr} (hok : HOk P w H h) (e : H a = some (exw a C d)) : ∃ (o : Obj) (vs : Array Value), h.get? a = some o ∧ o.cls = .ref C ∧ o.dict = d ∧ o.data = .fields vs := by
  have x : ObjOk P w H h a (.ext fun h => ∃ (o : Obj) (vs : Array Value), h.get? a = some o ∧ o.cls = .ref C ∧ o.dict = d ∧ o.data = .fields vs) := hok a _ e
  exact x.1
theorem exw_ok {P : Program} {w : World} {H : Hp} {h : Heap} {a C : Addr} {d : Option Addr} {o : Obj} {vs : Array Value} (he : h.get? a = some o) (hc : o.cls = .ref C) (hd : o.dict = d) (hv : o.data = .fields vs) : ObjOk P w H h a (exw a C d) :=
  ⟨⟨o, vs, he, hc, hd, hv⟩, ⟨_, he⟩, fun h1 h2 z k => by
    obtain ⟨o, vs, q, r⟩ := z
    exact ⟨o, vs, k _ q, r⟩⟩
theorem inst_w {P : Program} {w : World} {H : Hp} {h : Heap} {a C : Addr} {d : Option Addr} (hok : HOk P w H h) (e : H a = some (exw a C d)) (hd : ∀ dd, d = some dd → ∃ fs, H dd = some (.xd fs)) : ∃ ob own, PySem.W.InstAt h a ob C own := by
  obtain ⟨o, vs, ho, hc, hdd, hv⟩ := exw_at hok e
  cases d with
  | none =>
    refine ⟨o, none, ho, hc, by unfold PySem.W.notCls; rw [hv] <;> rfl, ?_⟩
    rw [hdd]
    trivial
  | some dd =>
    obtain ⟨fs, ed⟩ := hd dd rfl
    have hx : ObjOk P w H h dd (.xd fs) := hok dd _ ed
    obtain ⟨mA, hns, hr⟩ := hx
    obtain ⟨od, h1, hl⟩ := lookIn_ns hns
    refine ⟨o, some od, ho, hc, by unfold PySem.W.notCls; rw [hv] <;> rfl, ?_⟩
    rw [hdd]
    exact h1
/-- an exception made, as a value -/
def tExV (t : St → Hp → XK → Prop) : TE := fun σ H Q => t σ H fun cls d H' => ∃ C, cls = .ref C ∧ ∀ a, H' a = none → Q (.ref a) (upd H' a (exw a C d))
theorem pe_mk {X : Cx} {e : Expr} {t : St → Hp → XK → Prop} (hm : PMk X e t) : PE X e (tExV t) := by
  refine ⟨fun pins s σ H Q I h => ?_⟩
  refine wpAny_mono (hm pins s σ H _ I h) (fun u s' hu => ?_) fun _ _ x => x
  obtain ⟨a, oe, vs, sI, H', cls, d, rfl, J, k, hne, ha, hz, hd, h1, na, os, ag, r, C, rfl, q⟩ := hu
  have nn : ∀ {b : Addr} {o : Obj}, sI.heap.get? b = some o → b ≠ a := fun {b o} z y => by
    rw [y, hne] at z
    cases z
  have U : Un (frs X.stack) [] H' (upd H' a (exw a C d)) sI.heap s'.heap := {
    keep := fun b o z n _ _ => k b o z
    slot := fun b o z n _ _ => ⟨o.slots, k b o z⟩
    free := fun b o z n _ => by rw [upd_ne (nn z)]; exact n
    there := fun b o z _ => ⟨o, k b o z⟩
    tups := fun b xs z => by rw [upd_ne (ne_of_none z na)]; exact z
    frzs := fun b o v z => by rw [upd_ne (ne_of_none z na)]; exact z
    tbls := fun b ps z => ⟨#[], by rw [upd_ne (ne_of_none z na), z]; simp⟩ }
  have hok : HOk X.prog X.w (upd H' a (exw a C d)) s'.heap := fun b o z => by
    by_cases hb : b = a
    · subst hb
      rw [upd_same] at z
      cases z
      exact exw_ok ha hz.1 hz.2 hd
    · rw [upd_ne hb] at z
      exact (J.hok b o z).stay (fun c v hc y => k c v y) (fun c hc => by rw [upd_ne (ne_of_none hc na)]; exact hc) (fun c xs hc => by rw [upd_ne (ne_of_none hc na)]; exact hc)
  exact ⟨.ref a, _, J.call' (ch := []) os U hok ag (fun b z => absurd z (by simp)), rfl, q a na⟩
/-- isinstance(e, c), e an exception as a value -/
def rIsV (K : PySem.W.Frag) : List V → Hp → VK → Prop := fun xs H Q => ∃ (a D : Addr) (d : Option Addr) (c : V) (cv : Value) (b : Bool), xs = [.ref a, c] ∧ H a = some (exw a D d) ∧ (∀ dd, d = some dd → ∃ fs, H dd = some (.xd fs)) ∧ ExcC K D ∧ (∀ u, RelV c u → u = cv) ∧ PySem.W.kitOne K (.ref D) cv = some b ∧ Q (.bl b) H
theorem call_isV {X : Cx} : CallR X (.builtin "isinstance") (rIsV X.K) := by
  intro pins s σ H xs us Q I r h
  obtain ⟨a, D, d, c, cv, b, rfl, ea, hd, Z, hcv, e, q⟩ := h
  cases r with
  | cons rx rr =>
    cases rr with
    | cons rt rr =>
      cases rr
      cases rx
      have ec := hcv _ rt
      subst ec
      obtain ⟨ob, own, J⟩ := inst_w I.hok ea hd
      exact PySem.W.kia_one (BI.kitx Z) I.kIn J e (fun z => nomatch z) fun tk => ⟨.bl b, H, I.kept (t' := tk) fun _ _ z => z, rfl, q⟩
/-- e.f, e an exception as a value -/
def tXw (K : PySem.W.Frag) (f : Str) (te : TE) : TE := fun σ H Q => te σ H fun x H1 => ∃ (a C dd : Addr) (fs : List (Str × V)) (v : V), x = .ref a ∧ H1 a = some (exw a C (some dd)) ∧ XfC K C ∧ PySem.W.findIn K (.ref C) f = some none ∧ H1 dd = some (.xd fs) ∧ fs.lookup f = some v ∧ Q v H1
theorem pe_xw {X : Cx} {e : Expr} {te : TE} {pos : Pos} {n : Str} (he : PE X e te) (hb : attributeBase e n X.env (eval e X.env) = eval e X.env := by rfl) : PE X (.Attribute e n pos) (tXw X.K n te) := by
  refine ⟨fun pins s σ H Q I h => ?_⟩
  refine attr_of hb (thn (he.run pins s σ H _ I h) fun u s1 hh => ?_)
  obtain ⟨x, H1, I1, rx, a, C, dd, fs, v, ex, eo, T, hno, ea, l, q⟩ := hh
  subst ex
  obtain rfl : u = Value.ref a := rx
  obtain ⟨o, vs, ho, hc, hdd, hv⟩ := exw_at I1.hok eo
  have hx : ObjOk X.prog X.w H1 s1.heap dd (.xd fs) := I1.hok dd _ ea
  obtain ⟨mA, hns, hr⟩ := hx
  obtain ⟨od, ho2, hl⟩ := lookIn_ns hns
  obtain ⟨u, hu, ru⟩ := RelO.some_of (v := v) (o := mA n) (by rw [← l]; exact hr n)
  have J : PySem.W.InstAt s1.heap a o C (some od) := ⟨ho, hc, by unfold PySem.W.notCls; rw [hv] <;> rfl, by rw [hdd]; exact ho2⟩
  exact HandSPX.exc_get I1.kIn J T.ga T.gg T.exC (PySem.W.findObj_own T.hdC hno rfl (by rw [hl, hu])) (handed_of ru) ⟨v, H1, I1.tok _, ru, q⟩
section
variable {X : Cx} {C fI cc cda : Addr} {B newId initId : String} {nmC qual : Str} {params : Arguments} {first s1 s2 : Stmt} {scope : Scope} {p pos kp1 kp2 : Pos} {k : Nat} {ta : TA}
theorem pmv0 (T : PySem.XV.VTxt X.prog X.K X.mg C fI cc cda B newId initId nmC qual params first [] scope) (hr : Room k X.A) (hg : Gl X nmC)
    (hbind : ∀ (x : Addr) (s : Shared) (kV doc pm : Value) (an : Option Addr) (ct : Value), BindsTo s (PySem.W.ksFn "__init__" qual params [first] scope .none kV doc pm an (.ref cda) ct cc) ⟨[.ref x], []⟩ [("self", .ref x)])
    (hcell : ∀ z ∈ scope.names, z.2 ≠ .cell) (hco : scope.isCoroutine = false) (hgen : scope.isGenerator = false) (hdb : (nmC == ("__debug__" : Str)) = false := by decide) :
    PMk X (.Call (.Name nmC p) [] [] pos) (fun _ H Q => Q (.ref C) none H) := by
  intro pins s σ H Q I h
  refine wpAny_Call_Name_kw (ld_glob I hg T.gC ?_ hdb)
  refine PySem.W.callWith_K0 I.kIn T.kC ?_
  show wpAny _ _ (call (.ref C) []) _ _ _
  have hlim := I.nolimit
  obtain ⟨mb, hb1, hb2⟩ := I.mod.blt
  have hbS : mb "super" = some (.type "super") := (hb2 _ (by decide)).trans (by first | rfl | decide +kernel)
  obtain ⟨hp, gg, dr, tk, os⟩ := s
  refine wpAny_call (PySem.XV.made0 (mb := mb) T I.kIn hlim (I.mod.glob.keeps I.bk) (hb1.keeps I.bk) hbS (by have := hr.dp; omega) hbind hcell hco hgen fun h' tk' t1 kp e => ?_)
  show MkP X pins σ Q (.ref (hp.objs.size + 1)) ⟨h', gg, dr, tk', os⟩
  obtain ⟨G', g1, g2⟩ := restrict h' fun b => decide (b ≠ hp.objs.size + 1)
  have gk : ∀ b, b ≠ hp.objs.size + 1 → G'.get? b = h'.get? b := fun b hb => g1 b (decide_eq_true hb)
  have ge : G'.get? (hp.objs.size + 1) = none := g2 _ (by simp)
  have old : ∀ b o, hp.get? b = some o → G'.get? b = some o := fun b o q => (gk b (Nat.ne_of_lt (Nat.lt_succ_of_lt (Heap.lt_size q)))).trans (kp b o q)
  have J : Inv X pins σ H ⟨G', gg, dr, tk', os⟩ := I.kept (t' := tk') old
  refine ⟨hp.objs.size + 1, _, _, ⟨G', gg, dr, tk', os⟩, H, .ref C, none, rfl, J, fun b o q => ?_, ge, e, ⟨rfl, rfl⟩, rfl, rfl, I.hok.fresh (Nat.le_succ _), rfl, I.bare, raises_own T.exC T.tyC, h⟩
  by_cases hb : b = hp.objs.size + 1
  · have q' : G'.get? b = some o := q
    rw [hb, ge] at q'; cases q'
  · exact (gk b hb).symm.trans q
theorem pmv1 {f pn : Str} {e : Expr} (T : PySem.XV.VTxt X.prog X.K X.mg C fI cc cda B newId initId nmC qual params first [s1] scope) (F : PySem.XV.FTxt X.K C [f]) (i1 : PySem.BX.IsF qual scope fI cda cc s1 f pn) (hr : Room k X.A) (hg : Gl X nmC)
    (hbind : ∀ (u : Value) (x : Addr) (s : Shared) (kV doc pm : Value) (an : Option Addr) (ct : Value), BindsTo s (PySem.W.ksFn "__init__" qual params [first, s1] scope .none kV doc pm an (.ref cda) ct cc) ⟨[.ref x, u], []⟩ [("self", .ref x), (pn, u)])
    (hps : pn ≠ "self") (hcell : ∀ z ∈ scope.names, z.2 ≠ .cell) (hco : scope.isCoroutine = false) (hgen : scope.isGenerator = false) (ha : PA X [e] ta) (hdb : (nmC == ("__debug__" : Str)) = false := by decide)
    (he : starEach [e] X.env = (false, eval e X.env) :: starEach [] X.env := by rfl) (hpl : (backTo pos (starEach [] X.env)).any (·.1) = false := by rfl) :
    PMk X (.Call (.Name nmC p) [e] [] pos) (tMk1 C f ta) := by
  intro pins s σ H Q I h
  refine wpAny_Call_Name_kw (ld_glob I hg T.gC ?_ hdb)
  refine PySem.W.callWith_K (h₀ := X.base) I.ok.mod.kin T.kC (thn (ha.run pos pins s σ H _ I h) fun us s1 ⟨vs, H1, I1, r1, y, ev, q1⟩ => ⟨I1.kIn, ?_⟩) he hpl
  subst ev
  cases r1 with
  | @cons _ u _ ur ry rr =>
    cases rr
    show wpAny _ _ (call (.ref C) [u]) _ _ _
    have hlim := I1.nolimit
    obtain ⟨mb, hb1, hb2⟩ := I1.mod.blt
    have hbS : mb "super" = some (.type "super") := (hb2 _ (by decide)).trans (by first | rfl | decide +kernel)
    obtain ⟨hp, gg, dr, tk, os⟩ := s1
    refine wpAny_call (PySem.XV.made1 (mb := mb) T F i1 I1.kIn hlim (I1.mod.glob.keeps I1.bk) (hb1.keeps I1.bk) hbS (by have := hr.dp; omega) (hbind u) (by rw [sizeLine_eq]; exact (by decide : 1 ≤ 16777216)) hps hcell hco hgen fun h' tk' t1 dx kp hdx ndx e hn => ?_)
    exact mk_fin I1 (raises_own T.exC T.tyC) kp hdx ndx e hn (relO_put (fs := []) ry fun g => True.intro) (q1 dx (I1.hok.fresh hdx))
theorem pmv2 {f1 f2 p1 p2 : Str} {e e' : Expr} (T : PySem.XV.VTxt X.prog X.K X.mg C fI cc cda B newId initId nmC qual params first [s1, s2] scope) (F : PySem.XV.FTxt X.K C [f1, f2]) (i1 : PySem.BX.IsF qual scope fI cda cc s1 f1 p1) (i2 : PySem.BX.IsF qual scope fI cda cc s2 f2 p2) (hr : Room k X.A) (hg : Gl X nmC)
    (hbind : ∀ (u1 u2 : Value) (x : Addr) (s : Shared) (kV doc pm : Value) (an : Option Addr) (ct : Value), BindsTo s (PySem.W.ksFn "__init__" qual params [first, s1, s2] scope .none kV doc pm an (.ref cda) ct cc) ⟨[.ref x, u1, u2], []⟩ [("self", .ref x), (p1, u1), (p2, u2)])
    (hps : p1 ≠ "self" ∧ p2 ≠ "self" ∧ p1 ≠ p2) (hcell : ∀ z ∈ scope.names, z.2 ≠ .cell) (hco : scope.isCoroutine = false) (hgen : scope.isGenerator = false) (ha : PA X [e, e'] ta) (hdb : (nmC == ("__debug__" : Str)) = false := by decide)
    (he : starEach [e, e'] X.env = (false, eval e X.env) :: starEach [e'] X.env := by rfl) (hpl : (backTo pos (starEach [e'] X.env)).any (·.1) = false := by rfl) :
    PMk X (.Call (.Name nmC p) [e, e'] [] pos) (tMk2 C f1 f2 ta) := by
  intro pins s σ H Q I h
  refine wpAny_Call_Name_kw (ld_glob I hg T.gC ?_ hdb)
  refine PySem.W.callWith_K (h₀ := X.base) I.ok.mod.kin T.kC (thn (ha.run pos pins s σ H _ I h) fun us s1 ⟨vs, H1, I1, r1, y1, y2, ev, q1⟩ => ⟨I1.kIn, ?_⟩) he hpl
  subst ev
  cases r1 with
  | @cons _ u _ ur ry rr =>
    cases rr with
    | @cons _ u2 _ ur2 ry2 rr2 =>
      cases rr2
      show wpAny _ _ (call (.ref C) [u, u2]) _ _ _
      have hlim := I1.nolimit
      obtain ⟨mb, hb1, hb2⟩ := I1.mod.blt
      have hbS : mb "super" = some (.type "super") := (hb2 _ (by decide)).trans (by first | rfl | decide +kernel)
      obtain ⟨hp, gg, dr, tk, os⟩ := s1
      refine wpAny_call (PySem.XV.made2 (mb := mb) T F i1 i2 I1.kIn hlim (I1.mod.glob.keeps I1.bk) (hb1.keeps I1.bk) hbS (by have := hr.dp; omega) (hbind u u2) (by rw [sizeLine_eq]; exact (by decide : 2 ≤ 16777216)) hps hcell hco hgen fun h' tk' t1 dx kp hdx ndx e hn => ?_)
      exact mk_fin I1 (raises_own T.exC T.tyC) kp hdx ndx e hn (relO_put ry2 (relO_put (fs := []) ry fun g => True.intro)) (q1 dx (I1.hok.fresh hdx))
/-- C(n = e) -/
theorem pmk1 {f pn : Str} {e : Expr} (T : PySem.XV.VTxt X.prog X.K X.mg C fI cc cda B newId initId nmC qual params first [s1] scope) (F : PySem.XV.FTxt X.K C [f]) (i1 : PySem.BX.IsF qual scope fI cda cc s1 f pn) (hr : Room k X.A) (hg : Gl X nmC)
    (hbind : ∀ (u : Value) (x : Addr) (s : Shared) (kV doc pm : Value) (an : Option Addr) (ct : Value), BindsTo s (PySem.W.ksFn "__init__" qual params [first, s1] scope .none kV doc pm an (.ref cda) ct cc) ⟨[.ref x], [(pn, u)]⟩ [("self", .ref x), (pn, u)])
    (hps : pn ≠ "self") (hcell : ∀ z ∈ scope.names, z.2 ≠ .cell) (hco : scope.isCoroutine = false) (hgen : scope.isGenerator = false) (ha : PK X [⟨some pn, e, kp1⟩] ta) (hdb : (nmC == ("__debug__" : Str)) = false := by decide) :
    PMk X (.Call (.Name nmC p) [] [⟨some pn, e, kp1⟩] pos) (tMk1 C f ta) := by
  intro pins s σ H Q I h
  refine wpAny_Call_Name_kw (ld_glob I hg T.gC ?_ hdb)
  refine PySem.W.callWith_KW0 (h₀ := X.base) I.ok.mod.kin T.kC rfl (thn (ha.run pos pins s σ H _ I h) fun us s1 ⟨vs, H1, I1, r1, y, ev, q1⟩ => ⟨I1.kIn, ?_⟩) rfl
  subst ev
  cases r1 with
  | @cons _ u _ ur ry rr =>
    cases rr
    show wpAny _ _ (call (.ref C) [] [(pn, u)]) _ _ _
    have hlim := I1.nolimit
    obtain ⟨mb, hb1, hb2⟩ := I1.mod.blt
    have hbS : mb "super" = some (.type "super") := (hb2 _ (by decide)).trans (by first | rfl | decide +kernel)
    obtain ⟨hp, gg, dr, tk, os⟩ := s1
    refine wpAny_call (PySem.XV.made1 (mb := mb) T F i1 I1.kIn hlim (I1.mod.glob.keeps I1.bk) (hb1.keeps I1.bk) hbS (by have := hr.dp; omega) (hbind u) (by rw [sizeLine_eq]; exact (by decide : 0 ≤ 16777216)) hps hcell hco hgen fun h' tk' t1 dx kp hdx ndx e hn => ?_)
    exact mk_fin I1 (raises_own T.exC T.tyC) kp hdx ndx e hn (relO_put (fs := []) ry fun g => True.intro) (q1 dx (I1.hok.fresh hdx))
/-- C(n1 = e, n2 = e') in any order: the fields told are those that the order binds -/
def tMk2r (C : Addr) (f1 f2 : Str) (ta : TA) : St → Hp → XK → Prop := fun σ H Q => ta σ H fun vs H1 => ∃ y1 y2, vs = [y2, y1] ∧ ∀ dx, H1 dx = none → Q (.ref C) (some dx) (upd H1 dx (.xd [(f2, y2), (f1, y1)]))
theorem pmk2 {f1 f2 p1 p2 : Str} {e e' : Expr} (T : PySem.XV.VTxt X.prog X.K X.mg C fI cc cda B newId initId nmC qual params first [s1, s2] scope) (F : PySem.XV.FTxt X.K C [f1, f2]) (i1 : PySem.BX.IsF qual scope fI cda cc s1 f1 p1) (i2 : PySem.BX.IsF qual scope fI cda cc s2 f2 p2) (hr : Room k X.A) (hg : Gl X nmC)
    (hbind : ∀ (u1 u2 : Value) (x : Addr) (s : Shared) (kV doc pm : Value) (an : Option Addr) (ct : Value), BindsTo s (PySem.W.ksFn "__init__" qual params [first, s1, s2] scope .none kV doc pm an (.ref cda) ct cc) ⟨[.ref x], [(p1, u1), (p2, u2)]⟩ [("self", .ref x), (p1, u1), (p2, u2)])
    (hps : p1 ≠ "self" ∧ p2 ≠ "self" ∧ p1 ≠ p2) (hcell : ∀ z ∈ scope.names, z.2 ≠ .cell) (hco : scope.isCoroutine = false) (hgen : scope.isGenerator = false) (ha : PK X [⟨some p1, e, kp1⟩, ⟨some p2, e', kp2⟩] ta) (hdb : (nmC == ("__debug__" : Str)) = false := by decide) :
    PMk X (.Call (.Name nmC p) [] [⟨some p1, e, kp1⟩, ⟨some p2, e', kp2⟩] pos) (tMk2 C f1 f2 ta) := by
  intro pins s σ H Q I h
  refine wpAny_Call_Name_kw (ld_glob I hg T.gC ?_ hdb)
  refine PySem.W.callWith_KW0 (h₀ := X.base) I.ok.mod.kin T.kC rfl (thn (ha.run pos pins s σ H _ I h) fun us s1 ⟨vs, H1, I1, r1, y1, y2, ev, q1⟩ => ⟨I1.kIn, ?_⟩) rfl
  subst ev
  cases r1 with
  | @cons _ u _ ur ry rr =>
    cases rr with
    | @cons _ u2 _ ur2 ry2 rr2 =>
      cases rr2
      show wpAny _ _ (call (.ref C) [] [(p1, u), (p2, u2)]) _ _ _
      have hlim := I1.nolimit
      obtain ⟨mb, hb1, hb2⟩ := I1.mod.blt
      have hbS : mb "super" = some (.type "super") := (hb2 _ (by decide)).trans (by first | rfl | decide +kernel)
      obtain ⟨hp, gg, dr, tk, os⟩ := s1
      refine wpAny_call (PySem.XV.made2 (mb := mb) T F i1 i2 I1.kIn hlim (I1.mod.glob.keeps I1.bk) (hb1.keeps I1.bk) hbS (by have := hr.dp; omega) (hbind u u2) (by rw [sizeLine_eq]; exact (by decide : 0 ≤ 16777216)) hps hcell hco hgen fun h' tk' t1 dx kp hdx ndx e hn => ?_)
      exact mk_fin I1 (raises_own T.exC T.tyC) kp hdx ndx e hn (relO_put ry2 (relO_put (fs := []) ry fun g => True.intro)) (q1 dx (I1.hok.fresh hdx))
theorem pmk2r {f1 f2 p1 p2 : Str} {e e' : Expr} (T : PySem.XV.VTxt X.prog X.K X.mg C fI cc cda B newId initId nmC qual params first [s1, s2] scope) (F : PySem.XV.FTxt X.K C [f1, f2]) (i1 : PySem.BX.IsF qual scope fI cda cc s1 f1 p1) (i2 : PySem.BX.IsF qual scope fI cda cc s2 f2 p2) (hr : Room k X.A) (hg : Gl X nmC)
    (hbind : ∀ (u1 u2 : Value) (x : Addr) (s : Shared) (kV doc pm : Value) (an : Option Addr) (ct : Value), BindsTo s (PySem.W.ksFn "__init__" qual params [first, s1, s2] scope .none kV doc pm an (.ref cda) ct cc) ⟨[.ref x], [(p2, u2), (p1, u1)]⟩ [("self", .ref x), (p1, u1), (p2, u2)])
    (hps : p1 ≠ "self" ∧ p2 ≠ "self" ∧ p1 ≠ p2) (hcell : ∀ z ∈ scope.names, z.2 ≠ .cell) (hco : scope.isCoroutine = false) (hgen : scope.isGenerator = false) (ha : PK X [⟨some p2, e, kp1⟩, ⟨some p1, e', kp2⟩] ta) (hdb : (nmC == ("__debug__" : Str)) = false := by decide) :
    PMk X (.Call (.Name nmC p) [] [⟨some p2, e, kp1⟩, ⟨some p1, e', kp2⟩] pos) (tMk2r C f1 f2 ta) := by
  intro pins s σ H Q I h
  refine wpAny_Call_Name_kw (ld_glob I hg T.gC ?_ hdb)
  refine PySem.W.callWith_KW0 (h₀ := X.base) I.ok.mod.kin T.kC rfl (thn (ha.run pos pins s σ H _ I h) fun us s1 ⟨vs, H1, I1, r1, y1, y2, ev, q1⟩ => ⟨I1.kIn, ?_⟩) rfl
  subst ev
  cases r1 with
  | @cons _ u2 _ ur2 ry2 rr2 =>
    cases rr2 with
    | @cons _ u _ ur ry rr =>
      cases rr
      show wpAny _ _ (call (.ref C) [] [(p2, u2), (p1, u)]) _ _ _
      have hlim := I1.nolimit
      obtain ⟨mb, hb1, hb2⟩ := I1.mod.blt
      have hbS : mb "super" = some (.type "super") := (hb2 _ (by decide)).trans (by first | rfl | decide +kernel)
      obtain ⟨hp, gg, dr, tk, os⟩ := s1
      refine wpAny_call (PySem.XV.made2 (mb := mb) T F i1 i2 I1.kIn hlim (I1.mod.glob.keeps I1.bk) (hb1.keeps I1.bk) hbS (by have := hr.dp; omega) (hbind u u2) (by rw [sizeLine_eq]; exact (by decide : 0 ≤ 16777216)) hps hcell hco hgen fun h' tk' t1 dx kp hdx ndx e hn => ?_)
      exact mk_fin I1 (raises_own T.exC T.tyC) kp hdx ndx e hn (relO_put ry2 (relO_put (fs := []) ry fun g => True.intro)) (q1 dx (I1.hok.fresh hdx))
end
end L2
set_option Elab.async false
set_option linter.all false
set_option maxRecDepth 100000
set_option maxHeartbeats 2000000
namespace B05
open PySem PySem.Spec PyProof.Rows L2
def topS (i : Nat) : Stmt := PySem.Challenge.pw_boughkept_k05_refusals.main.body.getD i (.Pass ⟨0, 0, 0, 0⟩)
abbrev st_box : Stmt := topS 17
theorem sc_box : FnScope ["_law_script", "_law_k", "_law_cell", "_law_seed"] ["_law_script", "_law_k"] (defScope st_box) := ⟨rfl, rfl, rfl, by decide +kernel, rfl, by decide +kernel, by decide +kernel⟩
abbrev st_take : Stmt := topS 18
theorem sc_take : FnScope ["_law_draw", "_law_many", "_law_digit", "_law_one"] ["_law_draw", "_law_many"] (defScope st_take) := ⟨rfl, rfl, rfl, by decide +kernel, rfl, by decide +kernel, by decide +kernel⟩
abbrev st_made : Stmt := topS 19
theorem sc_made : FnScope ["_law_k", "_law_one", "_law_other", "_law_some"] ["_law_k", "_law_one", "_law_other"] (defScope st_made) := ⟨rfl, rfl, rfl, by decide +kernel, rfl, by decide +kernel, by decide +kernel⟩
abbrev st_named : Stmt := topS 20
theorem sc_named : FnScope ["_law_k", "_law_one", "_law_other", "_law_some"] ["_law_k", "_law_one", "_law_other"] (defScope st_named) := ⟨rfl, rfl, rfl, by decide +kernel, rfl, by decide +kernel, by decide +kernel⟩
abbrev st_kinds : Stmt := topS 21
theorem sc_kinds : FnScope ["_law_e", "_law_some"] ["_law_e"] (defScope st_kinds) := ⟨rfl, rfl, rfl, by decide +kernel, rfl, by decide +kernel, by decide +kernel⟩
abbrev st_fields : Stmt := topS 22
theorem sc_fields : FnScope ["_law_some", "_law_one", "_law_other", "_law_found"] ["_law_some", "_law_one", "_law_other"] (defScope st_fields) := ⟨rfl, rfl, rfl, by decide +kernel, rfl, by decide +kernel, by decide +kernel⟩
abbrev st_taken : Stmt := topS 23
theorem sc_taken : FnScope ["_law_one", "_law_other", "_law_found", "_law_e"] ["_law_one", "_law_other"] (defScope st_taken) := ⟨rfl, rfl, rfl, by decide +kernel, rfl, by decide +kernel, by decide +kernel⟩
abbrev st_law : Stmt := topS 24
theorem sc_law : FnScope ["_law_script", "_law_draw", "_law_things", "_law_made_here", "_law_one", "_law_other", "_law_k", "_law_some", "_law_e", "_law_low", "_law_sorts", "_law_j"] ["_law_script"] (defScope st_law) := ⟨rfl, rfl, rfl, by decide +kernel, rfl, by decide +kernel, by decide +kernel⟩
abbrev st_Tx : Stmt := inClass (topS 2) 0
abbrev fs_Tx : Stmt := (defBody st_Tx).getD 0 (.Pass ⟨0, 0, 0, 0⟩)
abbrev fs_Tx1 : Stmt := (defBody st_Tx).getD 1 (.Pass ⟨0, 0, 0, 0⟩)
abbrev st_Wd : Stmt := inClass (topS 3) 0
abbrev fs_Wd : Stmt := (defBody st_Wd).getD 0 (.Pass ⟨0, 0, 0, 0⟩)
abbrev fs_Wd1 : Stmt := (defBody st_Wd).getD 1 (.Pass ⟨0, 0, 0, 0⟩)
abbrev fs_Wd2 : Stmt := (defBody st_Wd).getD 2 (.Pass ⟨0, 0, 0, 0⟩)
abbrev st_Tr : Stmt := inClass (topS 4) 0
abbrev fs_Tr : Stmt := (defBody st_Tr).getD 0 (.Pass ⟨0, 0, 0, 0⟩)
abbrev fs_Tr1 : Stmt := (defBody st_Tr).getD 1 (.Pass ⟨0, 0, 0, 0⟩)
abbrev st_Wo : Stmt := inClass (topS 5) 0
abbrev fs_Wo : Stmt := (defBody st_Wo).getD 0 (.Pass ⟨0, 0, 0, 0⟩)
abbrev fs_Wo1 : Stmt := (defBody st_Wo).getD 1 (.Pass ⟨0, 0, 0, 0⟩)
abbrev st_Lo : Stmt := inClass (topS 6) 0
abbrev fs_Lo : Stmt := (defBody st_Lo).getD 0 (.Pass ⟨0, 0, 0, 0⟩)
abbrev fs_Lo1 : Stmt := (defBody st_Lo).getD 1 (.Pass ⟨0, 0, 0, 0⟩)
abbrev st_Rd : Stmt := inClass (topS 7) 0
abbrev fs_Rd : Stmt := (defBody st_Rd).getD 0 (.Pass ⟨0, 0, 0, 0⟩)
abbrev fs_Rd1 : Stmt := (defBody st_Rd).getD 1 (.Pass ⟨0, 0, 0, 0⟩)
abbrev fs_Rd2 : Stmt := (defBody st_Rd).getD 2 (.Pass ⟨0, 0, 0, 0⟩)
abbrev st_Ft : Stmt := inClass (topS 8) 0
abbrev fs_Ft : Stmt := (defBody st_Ft).getD 0 (.Pass ⟨0, 0, 0, 0⟩)
abbrev fs_Ft1 : Stmt := (defBody st_Ft).getD 1 (.Pass ⟨0, 0, 0, 0⟩)
abbrev st_Pr : Stmt := inClass (topS 9) 0
abbrev fs_Pr : Stmt := (defBody st_Pr).getD 0 (.Pass ⟨0, 0, 0, 0⟩)
abbrev fs_Pr1 : Stmt := (defBody st_Pr).getD 1 (.Pass ⟨0, 0, 0, 0⟩)
abbrev fs_Pr2 : Stmt := (defBody st_Pr).getD 2 (.Pass ⟨0, 0, 0, 0⟩)
abbrev st_Tu : Stmt := inClass (topS 10) 0
abbrev fs_Tu : Stmt := (defBody st_Tu).getD 0 (.Pass ⟨0, 0, 0, 0⟩)
abbrev fs_Tu1 : Stmt := (defBody st_Tu).getD 1 (.Pass ⟨0, 0, 0, 0⟩)
abbrev fs_Tu2 : Stmt := (defBody st_Tu).getD 2 (.Pass ⟨0, 0, 0, 0⟩)
abbrev st_Wi : Stmt := inClass (topS 11) 0
abbrev fs_Wi : Stmt := (defBody st_Wi).getD 0 (.Pass ⟨0, 0, 0, 0⟩)
abbrev fs_Wi1 : Stmt := (defBody st_Wi).getD 1 (.Pass ⟨0, 0, 0, 0⟩)
abbrev st_Ro : Stmt := inClass (topS 12) 0
abbrev fs_Ro : Stmt := (defBody st_Ro).getD 0 (.Pass ⟨0, 0, 0, 0⟩)
abbrev st_Nu : Stmt := inClass (topS 13) 0
abbrev fs_Nu : Stmt := (defBody st_Nu).getD 0 (.Pass ⟨0, 0, 0, 0⟩)
abbrev st_Ke : Stmt := inClass (topS 14) 0
abbrev fs_Ke : Stmt := (defBody st_Ke).getD 0 (.Pass ⟨0, 0, 0, 0⟩)
abbrev fs_Ke1 : Stmt := (defBody st_Ke).getD 1 (.Pass ⟨0, 0, 0, 0⟩)
abbrev st_Bo : Stmt := inClass (topS 15) 0
abbrev fs_Bo : Stmt := (defBody st_Bo).getD 0 (.Pass ⟨0, 0, 0, 0⟩)
abbrev fs_Bo1 : Stmt := (defBody st_Bo).getD 1 (.Pass ⟨0, 0, 0, 0⟩)

structure Tx (P : Program) (K : PySem.W.Frag) (mg : Str → Option Value) : Type where
  f_box : Addr
  fd_box : FuncData
  F_box : Fun K "_law_box" "_law_box" st_box f_box fd_box
  g_box : mg "_law_box" = some (.ref f_box)
  b_box : Binds K fd_box ["_law_script", "_law_k"] []
  f_take : Addr
  fd_take : FuncData
  F_take : Fun K "_law_take" "_law_take" st_take f_take fd_take
  g_take : mg "_law_take" = some (.ref f_take)
  b_take : Binds K fd_take ["_law_draw", "_law_many"] []
  f_made : Addr
  fd_made : FuncData
  F_made : Fun K "_law_made" "_law_made" st_made f_made fd_made
  g_made : mg "_law_made" = some (.ref f_made)
  b_made : Binds K fd_made ["_law_k", "_law_one", "_law_other"] []
  f_named : Addr
  fd_named : FuncData
  F_named : Fun K "_law_named" "_law_named" st_named f_named fd_named
  g_named : mg "_law_named" = some (.ref f_named)
  b_named : Binds K fd_named ["_law_k", "_law_one", "_law_other"] []
  f_kinds : Addr
  fd_kinds : FuncData
  F_kinds : Fun K "_law_kinds" "_law_kinds" st_kinds f_kinds fd_kinds
  g_kinds : mg "_law_kinds" = some (.ref f_kinds)
  b_kinds : Binds K fd_kinds ["_law_e"] []
  f_fields : Addr
  fd_fields : FuncData
  F_fields : Fun K "_law_fields" "_law_fields" st_fields f_fields fd_fields
  g_fields : mg "_law_fields" = some (.ref f_fields)
  b_fields : Binds K fd_fields ["_law_some", "_law_one", "_law_other"] []
  f_taken : Addr
  fd_taken : FuncData
  F_taken : Fun K "_law_taken" "_law_taken" st_taken f_taken fd_taken
  g_taken : mg "_law_taken" = some (.ref f_taken)
  b_taken : Binds K fd_taken ["_law_one", "_law_other"] []
  m_len : mg "len" = none
  m_int : mg "int" = none
  m_zip : mg "zip" = none
  m_isinstance : mg "isinstance" = none
  m_range : mg "range" = none
  m_enumerate : mg "enumerate" = none
  m_ValueError : mg "ValueError" = none
  m_ZeroDivisionError : mg "ZeroDivisionError" = none
  m_KeyError : mg "KeyError" = none
  m_IndexError : mg "IndexError" = none
  m_super : mg "super" = none
  CB : Addr
  g_BoughError : mg "BoughError" = some (.ref CB)
  CTx : Addr
  fITx : Addr
  ccTx : Addr
  cdaTx : Addr
  excTx : PySem.XV.VTxt P K mg CTx fITx ccTx cdaTx "ValueError" "ValueError.__new__" "ValueError.__init__" "NoText" "NoText.__init__" (defArgs st_Tx) fs_Tx [fs_Tx1] (defScope st_Tx)
  fldTx : PySem.XV.FTxt K CTx ["row"]
  exITx : ExcC K CTx
  xfcTx : XfC K CTx
  is1Tx : PySem.BX.IsF "NoText.__init__" (defScope st_Tx) fITx cdaTx ccTx fs_Tx1 "row" "row"
  noTxRow : PySem.W.findIn K (.ref CTx) "row" = some none
  CWd : Addr
  fIWd : Addr
  ccWd : Addr
  cdaWd : Addr
  excWd : PySem.XV.VTxt P K mg CWd fIWd ccWd cdaWd "ValueError" "ValueError.__new__" "ValueError.__init__" "NoWood" "NoWood.__init__" (defArgs st_Wd) fs_Wd [fs_Wd1, fs_Wd2] (defScope st_Wd)
  fldWd : PySem.XV.FTxt K CWd ["word", "name"]
  exIWd : ExcC K CWd
  xfcWd : XfC K CWd
  is1Wd : PySem.BX.IsF "NoWood.__init__" (defScope st_Wd) fIWd cdaWd ccWd fs_Wd1 "word" "word"
  is2Wd : PySem.BX.IsF "NoWood.__init__" (defScope st_Wd) fIWd cdaWd ccWd fs_Wd2 "name" "name"
  noWdWord : PySem.W.findIn K (.ref CWd) "word" = some none
  noWdName : PySem.W.findIn K (.ref CWd) "name" = some none
  CTr : Addr
  fITr : Addr
  ccTr : Addr
  cdaTr : Addr
  excTr : PySem.XV.VTxt P K mg CTr fITr ccTr cdaTr "ValueError" "ValueError.__new__" "ValueError.__init__" "NoTree" "NoTree.__init__" (defArgs st_Tr) fs_Tr [fs_Tr1] (defScope st_Tr)
  fldTr : PySem.XV.FTxt K CTr ["at"]
  exITr : ExcC K CTr
  xfcTr : XfC K CTr
  is1Tr : PySem.BX.IsF "NoTree.__init__" (defScope st_Tr) fITr cdaTr ccTr fs_Tr1 "at" "at"
  noTrAt : PySem.W.findIn K (.ref CTr) "at" = some none
  CWo : Addr
  fIWo : Addr
  ccWo : Addr
  cdaWo : Addr
  excWo : PySem.XV.VTxt P K mg CWo fIWo ccWo cdaWo "ValueError" "ValueError.__new__" "ValueError.__init__" "NoWord" "NoWord.__init__" (defArgs st_Wo) fs_Wo [fs_Wo1] (defScope st_Wo)
  fldWo : PySem.XV.FTxt K CWo ["at"]
  exIWo : ExcC K CWo
  xfcWo : XfC K CWo
  is1Wo : PySem.BX.IsF "NoWord.__init__" (defScope st_Wo) fIWo cdaWo ccWo fs_Wo1 "at" "at"
  noWoAt : PySem.W.findIn K (.ref CWo) "at" = some none
  CLo : Addr
  fILo : Addr
  ccLo : Addr
  cdaLo : Addr
  excLo : PySem.XV.VTxt P K mg CLo fILo ccLo cdaLo "ValueError" "ValueError.__new__" "ValueError.__init__" "TooLong" "TooLong.__init__" (defArgs st_Lo) fs_Lo [fs_Lo1] (defScope st_Lo)
  fldLo : PySem.XV.FTxt K CLo ["most"]
  exILo : ExcC K CLo
  xfcLo : XfC K CLo
  is1Lo : PySem.BX.IsF "TooLong.__init__" (defScope st_Lo) fILo cdaLo ccLo fs_Lo1 "most" "most"
  noLoMost : PySem.W.findIn K (.ref CLo) "most" = some none
  CRd : Addr
  fIRd : Addr
  ccRd : Addr
  cdaRd : Addr
  excRd : PySem.XV.VTxt P K mg CRd fIRd ccRd cdaRd "ValueError" "ValueError.__new__" "ValueError.__init__" "NoReader" "NoReader.__init__" (defArgs st_Rd) fs_Rd [fs_Rd1, fs_Rd2] (defScope st_Rd)
  fldRd : PySem.XV.FTxt K CRd ["word", "maker"]
  exIRd : ExcC K CRd
  xfcRd : XfC K CRd
  is1Rd : PySem.BX.IsF "NoReader.__init__" (defScope st_Rd) fIRd cdaRd ccRd fs_Rd1 "word" "word"
  is2Rd : PySem.BX.IsF "NoReader.__init__" (defScope st_Rd) fIRd cdaRd ccRd fs_Rd2 "maker" "maker"
  noRdWord : PySem.W.findIn K (.ref CRd) "word" = some none
  noRdMaker : PySem.W.findIn K (.ref CRd) "maker" = some none
  CFt : Addr
  fIFt : Addr
  ccFt : Addr
  cdaFt : Addr
  excFt : PySem.XV.VTxt P K mg CFt fIFt ccFt cdaFt "ValueError" "ValueError.__new__" "ValueError.__init__" "NoFit" "NoFit.__init__" (defArgs st_Ft) fs_Ft [fs_Ft1] (defScope st_Ft)
  fldFt : PySem.XV.FTxt K CFt ["at"]
  exIFt : ExcC K CFt
  xfcFt : XfC K CFt
  is1Ft : PySem.BX.IsF "NoFit.__init__" (defScope st_Ft) fIFt cdaFt ccFt fs_Ft1 "at" "at"
  noFtAt : PySem.W.findIn K (.ref CFt) "at" = some none
  CPr : Addr
  fIPr : Addr
  ccPr : Addr
  cdaPr : Addr
  excPr : PySem.XV.VTxt P K mg CPr fIPr ccPr cdaPr "ValueError" "ValueError.__new__" "ValueError.__init__" "NoPrinter" "NoPrinter.__init__" (defArgs st_Pr) fs_Pr [fs_Pr1, fs_Pr2] (defScope st_Pr)
  fldPr : PySem.XV.FTxt K CPr ["word", "maker"]
  exIPr : ExcC K CPr
  xfcPr : XfC K CPr
  is1Pr : PySem.BX.IsF "NoPrinter.__init__" (defScope st_Pr) fIPr cdaPr ccPr fs_Pr1 "word" "word"
  is2Pr : PySem.BX.IsF "NoPrinter.__init__" (defScope st_Pr) fIPr cdaPr ccPr fs_Pr2 "maker" "maker"
  noPrWord : PySem.W.findIn K (.ref CPr) "word" = some none
  noPrMaker : PySem.W.findIn K (.ref CPr) "maker" = some none
  CTu : Addr
  fITu : Addr
  ccTu : Addr
  cdaTu : Addr
  excTu : PySem.XV.VTxt P K mg CTu fITu ccTu cdaTu "ValueError" "ValueError.__new__" "ValueError.__init__" "NoTurner" "NoTurner.__init__" (defArgs st_Tu) fs_Tu [fs_Tu1, fs_Tu2] (defScope st_Tu)
  fldTu : PySem.XV.FTxt K CTu ["word", "maker"]
  exITu : ExcC K CTu
  xfcTu : XfC K CTu
  is1Tu : PySem.BX.IsF "NoTurner.__init__" (defScope st_Tu) fITu cdaTu ccTu fs_Tu1 "word" "word"
  is2Tu : PySem.BX.IsF "NoTurner.__init__" (defScope st_Tu) fITu cdaTu ccTu fs_Tu2 "maker" "maker"
  noTuWord : PySem.W.findIn K (.ref CTu) "word" = some none
  noTuMaker : PySem.W.findIn K (.ref CTu) "maker" = some none
  CWi : Addr
  fIWi : Addr
  ccWi : Addr
  cdaWi : Addr
  excWi : PySem.XV.VTxt P K mg CWi fIWi ccWi cdaWi "ValueError" "ValueError.__new__" "ValueError.__init__" "TooWide" "TooWide.__init__" (defArgs st_Wi) fs_Wi [fs_Wi1] (defScope st_Wi)
  fldWi : PySem.XV.FTxt K CWi ["rooms"]
  exIWi : ExcC K CWi
  xfcWi : XfC K CWi
  is1Wi : PySem.BX.IsF "TooWide.__init__" (defScope st_Wi) fIWi cdaWi ccWi fs_Wi1 "rooms" "rooms"
  noWiRooms : PySem.W.findIn K (.ref CWi) "rooms" = some none
  CRo : Addr
  fIRo : Addr
  ccRo : Addr
  cdaRo : Addr
  excRo : PySem.XV.VTxt P K mg CRo fIRo ccRo cdaRo "ValueError" "ValueError.__new__" "ValueError.__init__" "NoRow" "NoRow.__init__" (defArgs st_Ro) fs_Ro [] (defScope st_Ro)
  exIRo : ExcC K CRo
  xfcRo : XfC K CRo
  CNu : Addr
  fINu : Addr
  ccNu : Addr
  cdaNu : Addr
  excNu : PySem.XV.VTxt P K mg CNu fINu ccNu cdaNu "ZeroDivisionError" "ZeroDivisionError.__new__" "ZeroDivisionError.__init__" "Nought" "Nought.__init__" (defArgs st_Nu) fs_Nu [] (defScope st_Nu)
  exINu : ExcC K CNu
  xfcNu : XfC K CNu
  CKe : Addr
  fIKe : Addr
  ccKe : Addr
  cdaKe : Addr
  excKe : PySem.XV.VTxt P K mg CKe fIKe ccKe cdaKe "KeyError" "LookupError.__new__" "KeyError.__init__" "NotKept" "NotKept.__init__" (defArgs st_Ke) fs_Ke [fs_Ke1] (defScope st_Ke)
  fldKe : PySem.XV.FTxt K CKe ["name"]
  exIKe : ExcC K CKe
  xfcKe : XfC K CKe
  is1Ke : PySem.BX.IsF "NotKept.__init__" (defScope st_Ke) fIKe cdaKe ccKe fs_Ke1 "name" "name"
  noKeName : PySem.W.findIn K (.ref CKe) "name" = some none
  CBo : Addr
  fIBo : Addr
  ccBo : Addr
  cdaBo : Addr
  excBo : PySem.XV.VTxt P K mg CBo fIBo ccBo cdaBo "IndexError" "IndexError.__new__" "IndexError.__init__" "NoBox" "NoBox.__init__" (defArgs st_Bo) fs_Bo [fs_Bo1] (defScope st_Bo)
  fldBo : PySem.XV.FTxt K CBo ["box"]
  exIBo : ExcC K CBo
  xfcBo : XfC K CBo
  is1Bo : PySem.BX.IsF "NoBox.__init__" (defScope st_Bo) fIBo cdaBo ccBo fs_Bo1 "box" "box"
  noBoBox : PySem.W.findIn K (.ref CBo) "box" = some none
  ktTx : PySem.W.kitOne K (.ref CTx) (.ref CTx) = some true ∧ PySem.W.kitOne K (.ref CTx) (.ref CWd) = some false ∧ PySem.W.kitOne K (.ref CTx) (.ref CTr) = some false ∧ PySem.W.kitOne K (.ref CTx) (.ref CWo) = some false ∧ PySem.W.kitOne K (.ref CTx) (.ref CLo) = some false ∧ PySem.W.kitOne K (.ref CTx) (.ref CRd) = some false ∧ PySem.W.kitOne K (.ref CTx) (.ref CFt) = some false ∧ PySem.W.kitOne K (.ref CTx) (.ref CPr) = some false ∧ PySem.W.kitOne K (.ref CTx) (.ref CTu) = some false ∧ PySem.W.kitOne K (.ref CTx) (.ref CWi) = some false ∧ PySem.W.kitOne K (.ref CTx) (.ref CRo) = some false ∧ PySem.W.kitOne K (.ref CTx) (.ref CNu) = some false ∧ PySem.W.kitOne K (.ref CTx) (.ref CKe) = some false ∧ PySem.W.kitOne K (.ref CTx) (.ref CBo) = some false ∧ PySem.W.kitOne K (.ref CTx) (.ref CB) = some true ∧ PySem.W.kitOne K (.ref CTx) (.type "ValueError") = some true ∧ PySem.W.kitOne K (.ref CTx) (.type "ZeroDivisionError") = some false ∧ PySem.W.kitOne K (.ref CTx) (.type "KeyError") = some false ∧ PySem.W.kitOne K (.ref CTx) (.type "IndexError") = some false
  ktWd : PySem.W.kitOne K (.ref CWd) (.ref CTx) = some false ∧ PySem.W.kitOne K (.ref CWd) (.ref CWd) = some true ∧ PySem.W.kitOne K (.ref CWd) (.ref CTr) = some false ∧ PySem.W.kitOne K (.ref CWd) (.ref CWo) = some false ∧ PySem.W.kitOne K (.ref CWd) (.ref CLo) = some false ∧ PySem.W.kitOne K (.ref CWd) (.ref CRd) = some false ∧ PySem.W.kitOne K (.ref CWd) (.ref CFt) = some false ∧ PySem.W.kitOne K (.ref CWd) (.ref CPr) = some false ∧ PySem.W.kitOne K (.ref CWd) (.ref CTu) = some false ∧ PySem.W.kitOne K (.ref CWd) (.ref CWi) = some false ∧ PySem.W.kitOne K (.ref CWd) (.ref CRo) = some false ∧ PySem.W.kitOne K (.ref CWd) (.ref CNu) = some false ∧ PySem.W.kitOne K (.ref CWd) (.ref CKe) = some false ∧ PySem.W.kitOne K (.ref CWd) (.ref CBo) = some false ∧ PySem.W.kitOne K (.ref CWd) (.ref CB) = some true ∧ PySem.W.kitOne K (.ref CWd) (.type "ValueError") = some true ∧ PySem.W.kitOne K (.ref CWd) (.type "ZeroDivisionError") = some false ∧ PySem.W.kitOne K (.ref CWd) (.type "KeyError") = some false ∧ PySem.W.kitOne K (.ref CWd) (.type "IndexError") = some false
  ktTr : PySem.W.kitOne K (.ref CTr) (.ref CTx) = some false ∧ PySem.W.kitOne K (.ref CTr) (.ref CWd) = some false ∧ PySem.W.kitOne K (.ref CTr) (.ref CTr) = some true ∧ PySem.W.kitOne K (.ref CTr) (.ref CWo) = some false ∧ PySem.W.kitOne K (.ref CTr) (.ref CLo) = some false ∧ PySem.W.kitOne K (.ref CTr) (.ref CRd) = some false ∧ PySem.W.kitOne K (.ref CTr) (.ref CFt) = some false ∧ PySem.W.kitOne K (.ref CTr) (.ref CPr) = some false ∧ PySem.W.kitOne K (.ref CTr) (.ref CTu) = some false ∧ PySem.W.kitOne K (.ref CTr) (.ref CWi) = some false ∧ PySem.W.kitOne K (.ref CTr) (.ref CRo) = some false ∧ PySem.W.kitOne K (.ref CTr) (.ref CNu) = some false ∧ PySem.W.kitOne K (.ref CTr) (.ref CKe) = some false ∧ PySem.W.kitOne K (.ref CTr) (.ref CBo) = some false ∧ PySem.W.kitOne K (.ref CTr) (.ref CB) = some true ∧ PySem.W.kitOne K (.ref CTr) (.type "ValueError") = some true ∧ PySem.W.kitOne K (.ref CTr) (.type "ZeroDivisionError") = some false ∧ PySem.W.kitOne K (.ref CTr) (.type "KeyError") = some false ∧ PySem.W.kitOne K (.ref CTr) (.type "IndexError") = some false
  ktWo : PySem.W.kitOne K (.ref CWo) (.ref CTx) = some false ∧ PySem.W.kitOne K (.ref CWo) (.ref CWd) = some false ∧ PySem.W.kitOne K (.ref CWo) (.ref CTr) = some false ∧ PySem.W.kitOne K (.ref CWo) (.ref CWo) = some true ∧ PySem.W.kitOne K (.ref CWo) (.ref CLo) = some false ∧ PySem.W.kitOne K (.ref CWo) (.ref CRd) = some false ∧ PySem.W.kitOne K (.ref CWo) (.ref CFt) = some false ∧ PySem.W.kitOne K (.ref CWo) (.ref CPr) = some false ∧ PySem.W.kitOne K (.ref CWo) (.ref CTu) = some false ∧ PySem.W.kitOne K (.ref CWo) (.ref CWi) = some false ∧ PySem.W.kitOne K (.ref CWo) (.ref CRo) = some false ∧ PySem.W.kitOne K (.ref CWo) (.ref CNu) = some false ∧ PySem.W.kitOne K (.ref CWo) (.ref CKe) = some false ∧ PySem.W.kitOne K (.ref CWo) (.ref CBo) = some false ∧ PySem.W.kitOne K (.ref CWo) (.ref CB) = some true ∧ PySem.W.kitOne K (.ref CWo) (.type "ValueError") = some true ∧ PySem.W.kitOne K (.ref CWo) (.type "ZeroDivisionError") = some false ∧ PySem.W.kitOne K (.ref CWo) (.type "KeyError") = some false ∧ PySem.W.kitOne K (.ref CWo) (.type "IndexError") = some false
  ktLo : PySem.W.kitOne K (.ref CLo) (.ref CTx) = some false ∧ PySem.W.kitOne K (.ref CLo) (.ref CWd) = some false ∧ PySem.W.kitOne K (.ref CLo) (.ref CTr) = some false ∧ PySem.W.kitOne K (.ref CLo) (.ref CWo) = some false ∧ PySem.W.kitOne K (.ref CLo) (.ref CLo) = some true ∧ PySem.W.kitOne K (.ref CLo) (.ref CRd) = some false ∧ PySem.W.kitOne K (.ref CLo) (.ref CFt) = some false ∧ PySem.W.kitOne K (.ref CLo) (.ref CPr) = some false ∧ PySem.W.kitOne K (.ref CLo) (.ref CTu) = some false ∧ PySem.W.kitOne K (.ref CLo) (.ref CWi) = some false ∧ PySem.W.kitOne K (.ref CLo) (.ref CRo) = some false ∧ PySem.W.kitOne K (.ref CLo) (.ref CNu) = some false ∧ PySem.W.kitOne K (.ref CLo) (.ref CKe) = some false ∧ PySem.W.kitOne K (.ref CLo) (.ref CBo) = some false ∧ PySem.W.kitOne K (.ref CLo) (.ref CB) = some true ∧ PySem.W.kitOne K (.ref CLo) (.type "ValueError") = some true ∧ PySem.W.kitOne K (.ref CLo) (.type "ZeroDivisionError") = some false ∧ PySem.W.kitOne K (.ref CLo) (.type "KeyError") = some false ∧ PySem.W.kitOne K (.ref CLo) (.type "IndexError") = some false
  ktRd : PySem.W.kitOne K (.ref CRd) (.ref CTx) = some false ∧ PySem.W.kitOne K (.ref CRd) (.ref CWd) = some false ∧ PySem.W.kitOne K (.ref CRd) (.ref CTr) = some false ∧ PySem.W.kitOne K (.ref CRd) (.ref CWo) = some false ∧ PySem.W.kitOne K (.ref CRd) (.ref CLo) = some false ∧ PySem.W.kitOne K (.ref CRd) (.ref CRd) = some true ∧ PySem.W.kitOne K (.ref CRd) (.ref CFt) = some false ∧ PySem.W.kitOne K (.ref CRd) (.ref CPr) = some false ∧ PySem.W.kitOne K (.ref CRd) (.ref CTu) = some false ∧ PySem.W.kitOne K (.ref CRd) (.ref CWi) = some false ∧ PySem.W.kitOne K (.ref CRd) (.ref CRo) = some false ∧ PySem.W.kitOne K (.ref CRd) (.ref CNu) = some false ∧ PySem.W.kitOne K (.ref CRd) (.ref CKe) = some false ∧ PySem.W.kitOne K (.ref CRd) (.ref CBo) = some false ∧ PySem.W.kitOne K (.ref CRd) (.ref CB) = some true ∧ PySem.W.kitOne K (.ref CRd) (.type "ValueError") = some true ∧ PySem.W.kitOne K (.ref CRd) (.type "ZeroDivisionError") = some false ∧ PySem.W.kitOne K (.ref CRd) (.type "KeyError") = some false ∧ PySem.W.kitOne K (.ref CRd) (.type "IndexError") = some false
  ktFt : PySem.W.kitOne K (.ref CFt) (.ref CTx) = some false ∧ PySem.W.kitOne K (.ref CFt) (.ref CWd) = some false ∧ PySem.W.kitOne K (.ref CFt) (.ref CTr) = some false ∧ PySem.W.kitOne K (.ref CFt) (.ref CWo) = some false ∧ PySem.W.kitOne K (.ref CFt) (.ref CLo) = some false ∧ PySem.W.kitOne K (.ref CFt) (.ref CRd) = some false ∧ PySem.W.kitOne K (.ref CFt) (.ref CFt) = some true ∧ PySem.W.kitOne K (.ref CFt) (.ref CPr) = some false ∧ PySem.W.kitOne K (.ref CFt) (.ref CTu) = some false ∧ PySem.W.kitOne K (.ref CFt) (.ref CWi) = some false ∧ PySem.W.kitOne K (.ref CFt) (.ref CRo) = some false ∧ PySem.W.kitOne K (.ref CFt) (.ref CNu) = some false ∧ PySem.W.kitOne K (.ref CFt) (.ref CKe) = some false ∧ PySem.W.kitOne K (.ref CFt) (.ref CBo) = some false ∧ PySem.W.kitOne K (.ref CFt) (.ref CB) = some true ∧ PySem.W.kitOne K (.ref CFt) (.type "ValueError") = some true ∧ PySem.W.kitOne K (.ref CFt) (.type "ZeroDivisionError") = some false ∧ PySem.W.kitOne K (.ref CFt) (.type "KeyError") = some false ∧ PySem.W.kitOne K (.ref CFt) (.type "IndexError") = some false
  ktPr : PySem.W.kitOne K (.ref CPr) (.ref CTx) = some false ∧ PySem.W.kitOne K (.ref CPr) (.ref CWd) = some false ∧ PySem.W.kitOne K (.ref CPr) (.ref CTr) = some false ∧ PySem.W.kitOne K (.ref CPr) (.ref CWo) = some false ∧ PySem.W.kitOne K (.ref CPr) (.ref CLo) = some false ∧ PySem.W.kitOne K (.ref CPr) (.ref CRd) = some false ∧ PySem.W.kitOne K (.ref CPr) (.ref CFt) = some false ∧ PySem.W.kitOne K (.ref CPr) (.ref CPr) = some true ∧ PySem.W.kitOne K (.ref CPr) (.ref CTu) = some false ∧ PySem.W.kitOne K (.ref CPr) (.ref CWi) = some false ∧ PySem.W.kitOne K (.ref CPr) (.ref CRo) = some false ∧ PySem.W.kitOne K (.ref CPr) (.ref CNu) = some false ∧ PySem.W.kitOne K (.ref CPr) (.ref CKe) = some false ∧ PySem.W.kitOne K (.ref CPr) (.ref CBo) = some false ∧ PySem.W.kitOne K (.ref CPr) (.ref CB) = some true ∧ PySem.W.kitOne K (.ref CPr) (.type "ValueError") = some true ∧ PySem.W.kitOne K (.ref CPr) (.type "ZeroDivisionError") = some false ∧ PySem.W.kitOne K (.ref CPr) (.type "KeyError") = some false ∧ PySem.W.kitOne K (.ref CPr) (.type "IndexError") = some false
  ktTu : PySem.W.kitOne K (.ref CTu) (.ref CTx) = some false ∧ PySem.W.kitOne K (.ref CTu) (.ref CWd) = some false ∧ PySem.W.kitOne K (.ref CTu) (.ref CTr) = some false ∧ PySem.W.kitOne K (.ref CTu) (.ref CWo) = some false ∧ PySem.W.kitOne K (.ref CTu) (.ref CLo) = some false ∧ PySem.W.kitOne K (.ref CTu) (.ref CRd) = some false ∧ PySem.W.kitOne K (.ref CTu) (.ref CFt) = some false ∧ PySem.W.kitOne K (.ref CTu) (.ref CPr) = some false ∧ PySem.W.kitOne K (.ref CTu) (.ref CTu) = some true ∧ PySem.W.kitOne K (.ref CTu) (.ref CWi) = some false ∧ PySem.W.kitOne K (.ref CTu) (.ref CRo) = some false ∧ PySem.W.kitOne K (.ref CTu) (.ref CNu) = some false ∧ PySem.W.kitOne K (.ref CTu) (.ref CKe) = some false ∧ PySem.W.kitOne K (.ref CTu) (.ref CBo) = some false ∧ PySem.W.kitOne K (.ref CTu) (.ref CB) = some true ∧ PySem.W.kitOne K (.ref CTu) (.type "ValueError") = some true ∧ PySem.W.kitOne K (.ref CTu) (.type "ZeroDivisionError") = some false ∧ PySem.W.kitOne K (.ref CTu) (.type "KeyError") = some false ∧ PySem.W.kitOne K (.ref CTu) (.type "IndexError") = some false
  ktWi : PySem.W.kitOne K (.ref CWi) (.ref CTx) = some false ∧ PySem.W.kitOne K (.ref CWi) (.ref CWd) = some false ∧ PySem.W.kitOne K (.ref CWi) (.ref CTr) = some false ∧ PySem.W.kitOne K (.ref CWi) (.ref CWo) = some false ∧ PySem.W.kitOne K (.ref CWi) (.ref CLo) = some false ∧ PySem.W.kitOne K (.ref CWi) (.ref CRd) = some false ∧ PySem.W.kitOne K (.ref CWi) (.ref CFt) = some false ∧ PySem.W.kitOne K (.ref CWi) (.ref CPr) = some false ∧ PySem.W.kitOne K (.ref CWi) (.ref CTu) = some false ∧ PySem.W.kitOne K (.ref CWi) (.ref CWi) = some true ∧ PySem.W.kitOne K (.ref CWi) (.ref CRo) = some false ∧ PySem.W.kitOne K (.ref CWi) (.ref CNu) = some false ∧ PySem.W.kitOne K (.ref CWi) (.ref CKe) = some false ∧ PySem.W.kitOne K (.ref CWi) (.ref CBo) = some false ∧ PySem.W.kitOne K (.ref CWi) (.ref CB) = some true ∧ PySem.W.kitOne K (.ref CWi) (.type "ValueError") = some true ∧ PySem.W.kitOne K (.ref CWi) (.type "ZeroDivisionError") = some false ∧ PySem.W.kitOne K (.ref CWi) (.type "KeyError") = some false ∧ PySem.W.kitOne K (.ref CWi) (.type "IndexError") = some false
  ktRo : PySem.W.kitOne K (.ref CRo) (.ref CTx) = some false ∧ PySem.W.kitOne K (.ref CRo) (.ref CWd) = some false ∧ PySem.W.kitOne K (.ref CRo) (.ref CTr) = some false ∧ PySem.W.kitOne K (.ref CRo) (.ref CWo) = some false ∧ PySem.W.kitOne K (.ref CRo) (.ref CLo) = some false ∧ PySem.W.kitOne K (.ref CRo) (.ref CRd) = some false ∧ PySem.W.kitOne K (.ref CRo) (.ref CFt) = some false ∧ PySem.W.kitOne K (.ref CRo) (.ref CPr) = some false ∧ PySem.W.kitOne K (.ref CRo) (.ref CTu) = some false ∧ PySem.W.kitOne K (.ref CRo) (.ref CWi) = some false ∧ PySem.W.kitOne K (.ref CRo) (.ref CRo) = some true ∧ PySem.W.kitOne K (.ref CRo) (.ref CNu) = some false ∧ PySem.W.kitOne K (.ref CRo) (.ref CKe) = some false ∧ PySem.W.kitOne K (.ref CRo) (.ref CBo) = some false ∧ PySem.W.kitOne K (.ref CRo) (.ref CB) = some true ∧ PySem.W.kitOne K (.ref CRo) (.type "ValueError") = some true ∧ PySem.W.kitOne K (.ref CRo) (.type "ZeroDivisionError") = some false ∧ PySem.W.kitOne K (.ref CRo) (.type "KeyError") = some false ∧ PySem.W.kitOne K (.ref CRo) (.type "IndexError") = some false
  ktNu : PySem.W.kitOne K (.ref CNu) (.ref CTx) = some false ∧ PySem.W.kitOne K (.ref CNu) (.ref CWd) = some false ∧ PySem.W.kitOne K (.ref CNu) (.ref CTr) = some false ∧ PySem.W.kitOne K (.ref CNu) (.ref CWo) = some false ∧ PySem.W.kitOne K (.ref CNu) (.ref CLo) = some false ∧ PySem.W.kitOne K (.ref CNu) (.ref CRd) = some false ∧ PySem.W.kitOne K (.ref CNu) (.ref CFt) = some false ∧ PySem.W.kitOne K (.ref CNu) (.ref CPr) = some false ∧ PySem.W.kitOne K (.ref CNu) (.ref CTu) = some false ∧ PySem.W.kitOne K (.ref CNu) (.ref CWi) = some false ∧ PySem.W.kitOne K (.ref CNu) (.ref CRo) = some false ∧ PySem.W.kitOne K (.ref CNu) (.ref CNu) = some true ∧ PySem.W.kitOne K (.ref CNu) (.ref CKe) = some false ∧ PySem.W.kitOne K (.ref CNu) (.ref CBo) = some false ∧ PySem.W.kitOne K (.ref CNu) (.ref CB) = some false ∧ PySem.W.kitOne K (.ref CNu) (.type "ValueError") = some false ∧ PySem.W.kitOne K (.ref CNu) (.type "ZeroDivisionError") = some true ∧ PySem.W.kitOne K (.ref CNu) (.type "KeyError") = some false ∧ PySem.W.kitOne K (.ref CNu) (.type "IndexError") = some false
  ktKe : PySem.W.kitOne K (.ref CKe) (.ref CTx) = some false ∧ PySem.W.kitOne K (.ref CKe) (.ref CWd) = some false ∧ PySem.W.kitOne K (.ref CKe) (.ref CTr) = some false ∧ PySem.W.kitOne K (.ref CKe) (.ref CWo) = some false ∧ PySem.W.kitOne K (.ref CKe) (.ref CLo) = some false ∧ PySem.W.kitOne K (.ref CKe) (.ref CRd) = some false ∧ PySem.W.kitOne K (.ref CKe) (.ref CFt) = some false ∧ PySem.W.kitOne K (.ref CKe) (.ref CPr) = some false ∧ PySem.W.kitOne K (.ref CKe) (.ref CTu) = some false ∧ PySem.W.kitOne K (.ref CKe) (.ref CWi) = some false ∧ PySem.W.kitOne K (.ref CKe) (.ref CRo) = some false ∧ PySem.W.kitOne K (.ref CKe) (.ref CNu) = some false ∧ PySem.W.kitOne K (.ref CKe) (.ref CKe) = some true ∧ PySem.W.kitOne K (.ref CKe) (.ref CBo) = some false ∧ PySem.W.kitOne K (.ref CKe) (.ref CB) = some false ∧ PySem.W.kitOne K (.ref CKe) (.type "ValueError") = some false ∧ PySem.W.kitOne K (.ref CKe) (.type "ZeroDivisionError") = some false ∧ PySem.W.kitOne K (.ref CKe) (.type "KeyError") = some true ∧ PySem.W.kitOne K (.ref CKe) (.type "IndexError") = some false
  ktBo : PySem.W.kitOne K (.ref CBo) (.ref CTx) = some false ∧ PySem.W.kitOne K (.ref CBo) (.ref CWd) = some false ∧ PySem.W.kitOne K (.ref CBo) (.ref CTr) = some false ∧ PySem.W.kitOne K (.ref CBo) (.ref CWo) = some false ∧ PySem.W.kitOne K (.ref CBo) (.ref CLo) = some false ∧ PySem.W.kitOne K (.ref CBo) (.ref CRd) = some false ∧ PySem.W.kitOne K (.ref CBo) (.ref CFt) = some false ∧ PySem.W.kitOne K (.ref CBo) (.ref CPr) = some false ∧ PySem.W.kitOne K (.ref CBo) (.ref CTu) = some false ∧ PySem.W.kitOne K (.ref CBo) (.ref CWi) = some false ∧ PySem.W.kitOne K (.ref CBo) (.ref CRo) = some false ∧ PySem.W.kitOne K (.ref CBo) (.ref CNu) = some false ∧ PySem.W.kitOne K (.ref CBo) (.ref CKe) = some false ∧ PySem.W.kitOne K (.ref CBo) (.ref CBo) = some true ∧ PySem.W.kitOne K (.ref CBo) (.ref CB) = some false ∧ PySem.W.kitOne K (.ref CBo) (.type "ValueError") = some false ∧ PySem.W.kitOne K (.ref CBo) (.type "ZeroDivisionError") = some false ∧ PySem.W.kitOne K (.ref CBo) (.type "KeyError") = some false ∧ PySem.W.kitOne K (.ref CBo) (.type "IndexError") = some true
  exmT : PySem.W.exmOne K (.ref CTx) (.ref CB) = some true
  exmK : PySem.W.exmOne K (.ref CKe) (.type "KeyError") = some true
/-! ### heaps -/
theorem same_new {H : Hp} {p : Addr} {o : HO} (h : H p = none) : Same H (upd H p o) := fun b x e => by
  rw [upd_ne (ne_of_none e h)]
  exact e
/-- three ints at a: the law's draw -/
def Drw (H : Hp) (a : Addr) : Prop := ∃ x y z : Int, H a = some (.lst [.int x, .int y, .int z])
theorem Drw.ne {H : Hp} {a p : Addr} (d : Drw H a) (n : H p = none) : a ≠ p := by
  obtain ⟨x, y, z, e⟩ := d
  exact ne_of_none e n
theorem Drw.mono {H H' : Hp} {a : Addr} (d : Drw H a) (s : Same H H') : Drw H' a := by
  obtain ⟨x, y, z, e⟩ := d
  exact ⟨x, y, z, s _ _ e⟩
/-- all but the draw at a is as it was, and a draw stands there -/
def Gr (a : Addr) (H H' : Hp) : Prop := (∀ b o, b ≠ a → H b = some o → H' b = some o) ∧ Drw H' a
theorem Gr.trans {a : Addr} {H H1 H2 : Hp} (x : Gr a H H1) (y : Gr a H1 H2) : Gr a H H2 := ⟨fun b o n e => y.1 b o n (x.1 b o n e), y.2⟩
theorem Gr.of {a : Addr} {H H' : Hp} (s : Same H H') (d : Drw H a) : Gr a H H' := ⟨fun b o _ e => s b o e, by
  obtain ⟨x, y, z, e⟩ := d
  exact ⟨x, y, z, s _ _ e⟩⟩
theorem Gr.set {a : Addr} {H : Hp} {x y z : Int} : Gr a H (upd H a (.lst [.int x, .int y, .int z])) := ⟨fun b o n e => by
  rw [upd_ne n]
  exact e, ⟨x, y, z, upd_same⟩⟩
theorem Gr.same {a : Addr} {H0 H H' : Hp} (n : H0 a = none) (s : Same H0 H) (g : Gr a H H') : Same H0 H' := fun b o e => g.1 b o (ne_of_none e n) (s b o e)
/-! ### mathematics -/
theorem nz {j : Int} (h : (j == 0) = false) : j ≠ 0 := by simpa using h
theorem fmod_pos {i j : Int} (h : 0 < j) : 0 ≤ i.fmod j ∧ i.fmod j < j := by
  rw [Int.fmod_eq_emod_of_nonneg i (Int.le_of_lt h)]
  exact ⟨Int.emod_nonneg i (by omega), Int.emod_lt_of_pos i h⟩
/-- a comprehension that changes nothing that stood before, its list told -/
theorem lc_pure {J : It} {n : Nat} {G : Hp → Prop} {Y : Nat → Hp → V → Hp → Prop} (wk : Walk J n G Y) {g : TG} {tt : TT} {te : TE} {vs : List Nat} {σ : L2.St} {H1 : Hp} {D : Addr} {Qd : Hp → Prop} (nD : H1 D = none) (ys : List V) (hn : ys.length = n) (h1000 : n ≤ 100000)
    (hG : ∀ H, Same H1 H → G H)
    (hs : ∀ i x y H H', ys[i]? = some y → Same H1 H → Y i H x H' → g x (wipe σ vs) H' fun σ2 H2 => wipe σ2 vs = wipe σ vs ∧ tt σ2 H2 fun b H3 => b = true ∧ te σ2 H3 fun y' H4 => y' = y ∧ Same H H4)
    (mg : ∀ x σ H Q Q', (∀ σ2 H2, Q σ2 H2 → Q' σ2 H2) → g x σ H Q → g x σ H Q') (mt : ∀ σ H Q Q', (∀ b H2, Q b H2 → Q' b H2) → tt σ H Q → tt σ H Q') (me : ∀ σ H Q Q', (∀ v H2, Q v H2 → Q' v H2) → te σ H Q → te σ H Q')
    (hd : ∀ H, Same H1 H → H D = some (.lst ys) → Qd H) :
    ∃ W : Nat → Nat → Hp → Prop, (∃ m, W 0 m (upd H1 D (.lst []))) ∧ ∀ i m H, W i m H →
      (J.stop i H ∧ Qd H) ∨ (J.go i H ∧ ∃ Nx : Hp → Prop, (∀ H', Nx H' → ∃ m', m' < m ∧ W (i + 1) m' H') ∧ ∀ x H', J.yld i H x H' → g x (wipe σ vs) H' fun σ2 H2 => wipe σ2 vs = wipe σ vs ∧ tt σ2 H2 fun b H3 =>
        if b = true then te σ2 H3 fun y H4 => ∃ acc, H4 D = some (.lst acc) ∧ acc.length < sizeLine ∧ Nx (upd H4 D (.lst (acc ++ [y]))) else Nx H3) := by
  refine lc_it wk (fun i H => Same H1 H ∧ H D = some (.lst (ys.take i))) ⟨same_new nD, upd_same⟩ (fun i H hi p => hG H p.1) (fun i x H H' hi p y => ?_) (fun H p => hd H p.1 (by rw [p.2, ← hn, List.take_length]))
  have hi' : i < ys.length := by omega
  have gy : ys[i]? = some ys[i] := List.getElem?_eq_getElem hi'
  refine mg _ _ _ _ _ (fun σ2 H2 q => ⟨q.1, mt _ _ _ _ (fun b H3 q => ?_) q.2⟩) (hs i x ys[i] H H' gy p.1 y)
  obtain ⟨rfl, q⟩ := q
  refine iteT (me _ _ _ _ (fun v H4 q => ?_) q)
  obtain ⟨rfl, s4⟩ := q
  refine ⟨_, s4 _ _ p.2, Nat.lt_of_le_of_lt (show _ ≤ 100000 by rw [List.length_take]; omega) (by decide), ?_, ?_⟩
  · exact fun b o e => by
      rw [upd_ne (ne_of_none e nD)]
      exact s4 _ _ (p.1 _ _ e)
  · rw [upd_same, List.take_add_one, gy]
    rfl
section
variable {P : Program} {w : World} {K : PySem.W.Frag} {mg : Str → Option Value} {base : Heap}
/-! ### the draw -/
def spTake : Sp := fun vs H Q _ => ∃ (a : Addr) (many : Int), vs = [.ref a, .int many] ∧ Drw H a ∧ 0 < many ∧ many.natAbs < 2 ^ 8000 ∧ ∀ (d : Int) (H' : Hp), 0 ≤ d → d < many → Gr a H H' → Q (.int d) H'
theorem ok_take (T : Tx P K mg) : FnOk P w K mg base CX0 1 T.f_take T.fd_take ["_law_draw", "_law_many"] spTake := by
  refine T.F_take.ok sc_take (fun vs H Q E h => ?_) (fun cdv A outer s H vs Q E hr h => ?_)
  · obtain ⟨a, b, rfl, _⟩ := h
    rfl
  · obtain ⟨a, many, rfl, ⟨x, y, z, ea⟩, hm, hb, q⟩ := h
    refine ⟨_, (pss_cons (ps_if (pt_cmpR op_gt (pe_ix ix_list (pv 0) pe_int (fun _ _ => rfl)) pe_int (nomark _)) (pss_cons (ps_set (i := 2) sc_take.nd rfl (.inl rfl) (pe_op op_modN (pe_ix ix_list (pv 0) pe_int (fun _ _ => rfl)) (pv 1))) (pss_cons (ps_asg (pe_op op_fdivW (pe_ix ix_list (pv 0) pe_int (fun _ _ => rfl)) (pv 1)) (pg_sub (pv 0) pe_int set_list)) (pss_one (ps_ret (pv 2))))) pss_nil) (pss_cons (ps_asg (pe_op op_add (pe_ix ix_list (pv 0) pe_int (fun _ _ => rfl)) pe_int) (pg_sub (pv 0) pe_int set_list)) (pss_cons (ps_set (i := 3) sc_take.nd rfl (.inl rfl) (pe_op op_modN (pe_op op_mul (pe_op op_add (pe_ix ix_list (pv 0) pe_int (fun _ _ => rfl)) (pe_op op_mul pe_int (pe_ix ix_list (pv 0) pe_int (fun _ _ => rfl)))) pe_int) pe_int)) (pss_cons (ps_asg (pe_op op_add (pe_op op_modN (pe_op op_add (pe_op op_mul (pv 3) pe_int) pe_int) pe_int) pe_int) (pg_sub (pv 0) pe_int set_list)) (pss_one (ps_ret (pe_op op_modN (pe_op op_fdivW (pe_op op_add (pe_op op_mul (pv 3) pe_int) (pe_ix ix_list (pv 0) pe_int (fun _ _ => rfl))) pe_int) (pv 1)))))))), ?_⟩
    have at0 : ∀ {u v t : V}, atI [u, v, t] 0 = some u := fun {u v t} => rfl
    have at1 : ∀ {u v t : V}, atI [u, v, t] 1 = some v := fun {u v t} => rfl
    have at2 : ∀ {u v t : V}, atI [u, v, t] 2 = some t := fun {u v t} => rfl
    refine ⟨.ref a, rfl, a, _, 0, .int x, rfl, rfl, SqL.of ea, at0, _, _, rfl, rfl, _, rfl, ite2 (fun c => ?_) (fun c => ?_)⟩
    · refine ⟨.ref a, rfl, a, _, 0, .int x, rfl, rfl, SqL.of ea, at0, .int many, rfl, _, _, rfl, rfl, by omega, ?_⟩
      refine ⟨.ref a, rfl, a, _, 0, .int x, rfl, rfl, SqL.of ea, at0, .int many, rfl, _, _, rfl, rfl, wide_div hm hb (by decide) (by decide), .ref a, rfl, a, _, 0, 0, rfl, rfl, ea, rfl, ?_⟩
      have f := fmod_pos (i := x) hm
      exact ⟨_, rfl, q _ _ f.1 f.2 Gr.set⟩
    · refine ⟨.ref a, rfl, a, _, 2, .int z, rfl, rfl, SqL.of ea, at2, _, _, rfl, rfl, .ref a, rfl, a, _, 2, 2, rfl, rfl, ea, rfl, ?_⟩
      have e1 : upd H a (.lst ([V.int x, .int y, .int z].set 2 (.int (z + 1)))) a = some (.lst [.int x, .int y, .int (z + 1)]) := upd_same
      refine ⟨.ref a, rfl, a, _, 1, .int y, rfl, rfl, SqL.of e1, at1, .ref a, rfl, a, _, 2, .int (z + 1), rfl, rfl, SqL.of e1, at2, _, _, rfl, rfl, .inl ⟨by decide, by decide⟩, _, _, rfl, rfl, _, _, rfl, rfl, .inr ⟨by decide, by decide⟩, _, _, rfl, rfl, nz rfl, ?_⟩
      refine ⟨_, rfl, _, _, rfl, rfl, .inr ⟨by decide, by decide⟩, _, _, rfl, rfl, _, _, rfl, rfl, nz rfl, _, _, rfl, rfl, .ref a, rfl, a, _, 1, 1, rfl, rfl, e1, rfl, ?_⟩
      refine ⟨_, rfl, _, _, rfl, rfl, .inr ⟨by decide, by decide⟩, .ref a, rfl, a, _, 1, _, rfl, rfl, SqL.of upd_same, at1, _, _, rfl, rfl, _, _, rfl, rfl, ⟨by decide, by decide⟩, .int many, rfl, _, _, rfl, rfl, by omega, ?_⟩
      have f := fun i => fmod_pos (i := i) hm
      refine q _ _ (f _).1 (f _).2 (Gr.trans Gr.set Gr.set)
/-! ### a fresh draw -/
def spBox (K : PySem.W.Frag) : Sp := fun vs H Q _ => ∃ (a : Addr) (ns : List Int) (k : Int), vs = [.ref a, .int k] ∧ SqL K H a (ns.map V.int) ∧ 0 ≤ k ∧ k ≤ 1000 ∧ ∀ (p : Addr) (H' : Hp), H p = none → Same H H' → Drw H' p → Q (.ref p) H'
theorem at_int {ns : List Int} {k : Int} (h0 : 0 ≤ k) (h1 : k < ns.length) : ∃ v, atI (ns.map V.int) k = some (.int v) := by
  have l : k.toNat < ns.length := by omega
  refine ⟨ns[k.toNat], at_of (j := k.toNat) (by omega) ?_⟩
  rw [List.getElem?_map, List.getElem?_eq_getElem l]
  rfl
theorem s0 : 0 ≤ sizeLine := by decide
theorem s1 : 1 ≤ sizeLine := by decide
theorem s2 : 2 ≤ sizeLine := by decide
theorem s3 : 3 ≤ sizeLine := by decide
theorem s4 : 4 ≤ sizeLine := by decide
theorem ix01 {c : Int} {b : Bool} : ∃ v, atI [V.int 0, V.int c] (if b = true then 1 else 0) = some (.int v) := by
  cases b
  · exact ⟨0, rfl⟩
  · exact ⟨c, rfl⟩
theorem new2 {H : Hp} {p p2 : Addr} {o : HO} (h : H p = none) (h2 : upd H p o p2 = none) : H p2 = none := Same.free (same_new h) h2
theorem ok_box (T : Tx P K mg) : FnOk P w K mg base CX0 1 T.f_box T.fd_box ["_law_script", "_law_k"] (spBox K) := by
  refine T.F_box.ok sc_box (fun vs H Q E h => ?_) (fun cdv A outer s H vs Q E hr h => ?_)
  · obtain ⟨a, b, k, rfl, _⟩ := h
    rfl
  · obtain ⟨a, ns, k, rfl, hS, h0, h1, q⟩ := h
    refine ⟨_, (pss_cons (ps_set (i := 2) sc_box.nd rfl (.inl rfl) (pe_op op_add (pe_op op_mul pe_int (pv 1)) pe_int)) (pss_cons (ps_if (pt_cmpR op_lt (pv 1) (pe_callB call_len_seq (by rfl) T.m_len PySem.boot_len (pa_cons (pv 0) pa_nil)) (nomark _)) (pss_one (ps_set (i := 2) sc_box.nd rfl (.inl rfl) (pe_ix ix_list (pv 0) (pv 1) (fun _ _ => rfl)))) (pss_one (ps_if (pt_cmpR op_gt (pe_callB call_len_seq (by rfl) T.m_len PySem.boot_len (pa_cons (pv 0) pa_nil)) pe_int (nomark _)) (pss_one (ps_set (i := 2) sc_box.nd rfl (.inl rfl) (pe_op op_add (pv 2) (pe_op op_mul (pe_op op_modN (pe_ix ix_list (pv 0) (pe_op op_modN (pv 1) (pe_callB call_len_seq (by rfl) T.m_len PySem.boot_len (pa_cons (pv 0) pa_nil))) (fun _ _ => rfl)) pe_int) pe_int)))) pss_nil))) (pss_cons (ps_set (i := 3) sc_box.nd rfl (.inl rfl) (pe_op op_add (pe_op op_modN (pe_op op_add (pe_op op_mul (pe_op op_modN (pv 2) pe_int) pe_int) (pe_op op_mul pe_int (pv 1))) pe_int) pe_int)) (pss_one (ps_ret (pe_lst (pa_cons (pe_ix ix_list (pe_lst (pa_cons pe_int (pa_cons (pv 2) pa_nil))) (pe_callTy call_int1 (by rfl) T.m_int (by decide +kernel) (pa_cons (pe_cmpR op_ge (pv 2) (pe_op op_pow pe_int pe_int) (nomark _)) pa_nil)) (fun _ _ => rfl)) (pa_cons (pv 3) (pa_cons pe_int pa_nil))))))))), ?_⟩
    refine ⟨_, rfl, _, _, rfl, rfl, .inl ⟨by decide, by decide⟩, _, _, rfl, rfl, ?_⟩
    refine ⟨_, rfl, .ref a, rfl, a, _, rfl, .inl hS, _, _, rfl, rfl, _, rfl, ite2 (fun c => ?_) (fun c => ?_)⟩
    rotate_left
    · refine ⟨.ref a, rfl, a, _, rfl, .inl hS, _, _, rfl, rfl, _, rfl, ite2 (fun c2 => ?_) (fun c2 => ?_)⟩
      · have l0 : (0 : Int) < ((ns.map V.int).length : Int) := of_decide_eq_true c2
        have f := fmod_pos (i := k) l0
        obtain ⟨v, hv⟩ := at_int (ns := ns) (k := k.fmod ((ns.map V.int).length : Int)) f.1 (by rw [List.length_map] at f ⊢; exact f.2)
        refine ⟨_, rfl, .ref a, rfl, _, rfl, .ref a, rfl, a, _, rfl, .inl hS, _, _, rfl, rfl, by omega, a, _, _, _, rfl, rfl, hS, hv, _, _, rfl, rfl, nz rfl, _, _, rfl, rfl, .inr ⟨by decide, by decide⟩, _, _, rfl, rfl, ?_⟩
        refine ⟨_, rfl, _, _, rfl, rfl, nz rfl, _, _, rfl, rfl, .inr ⟨by decide, by decide⟩, _, rfl, _, _, rfl, rfl, .inl ⟨by decide, by decide⟩, _, _, rfl, rfl, _, _, rfl, rfl, nz rfl, _, _, rfl, rfl, ?_⟩
        refine ⟨_, rfl, s2, fun p hp => ⟨_, rfl, _, _, rfl, rfl, ⟨by decide, by decide, by decide⟩, _, _, rfl, rfl, .inr ⟨_, rfl, ?_⟩⟩⟩
        obtain ⟨v, hv⟩ := ix01 (c := _) (b := _)
        refine ⟨p, _, _, _, rfl, rfl, SqL.of upd_same, hv, _, rfl, s3, fun p2 hp2 => ?_⟩
        exact q p2 _ (new2 hp hp2) ((same_new hp).trans (same_new hp2)) ⟨_, _, _, upd_same⟩
      · refine ⟨_, rfl, _, _, rfl, rfl, nz rfl, _, _, rfl, rfl, .inr ⟨by decide, by decide⟩, _, rfl, _, _, rfl, rfl, .inl ⟨by decide, by decide⟩, _, _, rfl, rfl, _, _, rfl, rfl, nz rfl, _, _, rfl, rfl, ?_⟩
        refine ⟨_, rfl, s2, fun p hp => ⟨_, rfl, _, _, rfl, rfl, ⟨by decide, by decide, by decide⟩, _, _, rfl, rfl, .inr ⟨_, rfl, ?_⟩⟩⟩
        obtain ⟨v, hv⟩ := ix01 (c := _) (b := _)
        refine ⟨p, _, _, _, rfl, rfl, SqL.of upd_same, hv, _, rfl, s3, fun p2 hp2 => ?_⟩
        exact q p2 _ (new2 hp hp2) ((same_new hp).trans (same_new hp2)) ⟨_, _, _, upd_same⟩
    · have l0 : k < ((ns.map V.int).length : Int) := of_decide_eq_true c
      obtain ⟨v, hv⟩ := at_int (ns := ns) h0 (by rw [List.length_map] at l0; exact l0)
      refine ⟨.ref a, rfl, _, rfl, a, _, _, _, rfl, rfl, hS, hv, ?_⟩
      refine ⟨_, rfl, _, _, rfl, rfl, nz rfl, _, _, rfl, rfl, .inr ⟨by decide, by decide⟩, _, rfl, _, _, rfl, rfl, .inl ⟨by decide, by decide⟩, _, _, rfl, rfl, _, _, rfl, rfl, nz rfl, _, _, rfl, rfl, ?_⟩
      refine ⟨_, rfl, s2, fun p hp => ⟨_, rfl, _, _, rfl, rfl, ⟨by decide, by decide, by decide⟩, _, _, rfl, rfl, .inr ⟨_, rfl, ?_⟩⟩⟩
      obtain ⟨v, hv⟩ := ix01 (c := _) (b := _)
      refine ⟨p, _, _, _, rfl, rfl, SqL.of upd_same, hv, _, rfl, s3, fun p2 hp2 => ?_⟩
      exact q p2 _ (new2 hp hp2) ((same_new hp).trans (same_new hp2)) ⟨_, _, _, upd_same⟩
end

/-! ### exceptions as values -/
section
variable {P : Program} {w : World} {K : PySem.W.Frag} {mg : Str → Option Value} {base : Heap}
def cl (T : Tx P K mg) (k : Nat) : Addr := [T.CTx, T.CWd, T.CTr, T.CWo, T.CLo, T.CRd, T.CFt, T.CPr, T.CTu, T.CWi, T.CRo, T.CNu, T.CKe, T.CBo].getD k 0
/-- the fields of the k-th kind -/
def fl (x y : V) : Nat → List (Str × V)
  | 0 => [("row", x)]
  | 1 => [("name", y), ("word", x)]
  | 2 => [("at", x)]
  | 3 => [("at", x)]
  | 4 => [("most", x)]
  | 5 => [("maker", y), ("word", x)]
  | 6 => [("at", x)]
  | 7 => [("maker", y), ("word", x)]
  | 8 => [("maker", y), ("word", x)]
  | 9 => [("rooms", x)]
  | 12 => [("name", x)]
  | 13 => [("box", x)]
  | _ => []
def bare (k : Nat) : Bool := k == 10 || k == 11
def Ex (T : Tx P K mg) (H : Hp) (k : Nat) (x y : V) (a : Addr) : Prop := ∃ d, H a = some (exw a (cl T k) d) ∧ if bare k then d = none else ∃ dd, d = some dd ∧ H dd = some (.xd (fl x y k))
theorem Ex.mono {T : Tx P K mg} {H H' : Hp} {k : Nat} {x y : V} {a : Addr} (e : Ex T H k x y a) (s : Same H H') : Ex T H' k x y a := by
  obtain ⟨d, h, r⟩ := e
  refine ⟨d, s _ _ h, ?_⟩
  cases hb : bare k with
  | true =>
    rw [hb] at r
    exact r
  | false =>
    rw [hb] at r
    obtain ⟨dd, e, z⟩ := r
    exact ⟨dd, e, s _ _ z⟩
/-- what making leaves -/
structure Mk (T : Tx P K mg) (H H' : Hp) (k : Nat) (x y : V) (a : Addr) : Prop where
  ex : Ex T H' k x y a
  sm : Same H H'
  nw : H a = none
theorem Mk.of1 {T : Tx P K mg} {H : Hp} {k : Nat} {x y : V} {a d : Addr} (n : H d = none) (m : upd H d (.xd (fl x y k)) a = none) (b : bare k = false) : Mk T H (upd (upd H d (.xd (fl x y k))) a (exw a (cl T k) (some d))) k x y a := by
  have ad : a ≠ d := fun z => by
    rw [z, upd_same] at m
    cases m
  refine ⟨⟨some d, upd_same, ?_⟩, (same_new n).trans (same_new m), new2 n m⟩
  rw [b]
  exact ⟨d, rfl, by rw [upd_ne (Ne.symm ad), upd_same]⟩
theorem Mk.of0 {T : Tx P K mg} {H : Hp} {k : Nat} {x y : V} {a : Addr} (m : H a = none) (b : bare k = true) : Mk T H (upd H a (exw a (cl T k) none)) k x y a := by
  refine ⟨⟨none, upd_same, ?_⟩, same_new m, m⟩
  rw [b]
  rfl
/-! ### one of each kind -/
def spMade (T : Tx P K mg) : Sp := fun vs H Q _ => ∃ (k : Nat) (x y : V), vs = [.int k, x, y] ∧ k < 14 ∧ ∀ (a : Addr) (H' : Hp), H a = none → Same H H' → Ex T H' k x y a → Q (.ref a) H'
abbrev heapOf {H H' : Hp} (_ : Same H H') : Hp := H'
theorem ok_made (T : Tx P K mg) : FnOk P w K mg base CX0 2 T.f_made T.fd_made ["_law_k", "_law_one", "_law_other"] (spMade T) := by
  refine T.F_made.ok sc_made (fun vs H Q E h => ?_) (fun cdv A outer s H vs Q E hr h => ?_)
  · obtain ⟨k, x, y, rfl, _⟩ := h
    rfl
  · obtain ⟨k, x, y, rfl, hk, q⟩ := h
    refine ⟨_, (pss_cons (ps_if (pt_cmpR op_lt (pv 0) pe_int (nomark _)) (pss_cons (ps_set (i := 3) sc_made.nd rfl (.inl rfl) (pe_lst (pa_cons (pe_mk (pmv1 T.excTx T.fldTx T.is1Tx hr (by rfl) (fun _ _ _ _ _ _ _ _ => .of_eq rfl) (by decide) (by decide +kernel) rfl rfl (pa_cons (pv 1) pa_nil))) (pa_cons (pe_mk (pmv2 T.excWd T.fldWd T.is1Wd T.is2Wd hr (by rfl) (fun _ _ _ _ _ _ _ _ _ => .of_eq rfl) ⟨by decide, by decide, by decide⟩ (by decide +kernel) rfl rfl (pa_cons (pv 1) (pa_cons (pv 2) pa_nil)))) (pa_cons (pe_mk (pmv1 T.excTr T.fldTr T.is1Tr hr (by rfl) (fun _ _ _ _ _ _ _ _ => .of_eq rfl) (by decide) (by decide +kernel) rfl rfl (pa_cons (pv 1) pa_nil))) (pa_cons (pe_mk (pmv1 T.excWo T.fldWo T.is1Wo hr (by rfl) (fun _ _ _ _ _ _ _ _ => .of_eq rfl) (by decide) (by decide +kernel) rfl rfl (pa_cons (pv 1) pa_nil))) (pa_cons (pe_mk (pmv1 T.excLo T.fldLo T.is1Lo hr (by rfl) (fun _ _ _ _ _ _ _ _ => .of_eq rfl) (by decide) (by decide +kernel) rfl rfl (pa_cons (pv 1) pa_nil))) (pa_cons (pe_mk (pmv2 T.excRd T.fldRd T.is1Rd T.is2Rd hr (by rfl) (fun _ _ _ _ _ _ _ _ _ => .of_eq rfl) ⟨by decide, by decide, by decide⟩ (by decide +kernel) rfl rfl (pa_cons (pv 1) (pa_cons (pv 2) pa_nil)))) pa_nil)))))))) (pss_one (ps_ret (pe_ix ix_list (pe_op op_cat (pv 3) (pe_lst (pa_cons (pe_mk (pmv1 T.excFt T.fldFt T.is1Ft hr (by rfl) (fun _ _ _ _ _ _ _ _ => .of_eq rfl) (by decide) (by decide +kernel) rfl rfl (pa_cons (pv 1) pa_nil))) pa_nil))) (pv 0) (fun _ _ => rfl))))) pss_nil) (pss_cons (ps_set (i := 3) sc_made.nd rfl (.inl rfl) (pe_lst (pa_cons (pe_mk (pmv2 T.excPr T.fldPr T.is1Pr T.is2Pr hr (by rfl) (fun _ _ _ _ _ _ _ _ _ => .of_eq rfl) ⟨by decide, by decide, by decide⟩ (by decide +kernel) rfl rfl (pa_cons (pv 1) (pa_cons (pv 2) pa_nil)))) (pa_cons (pe_mk (pmv2 T.excTu T.fldTu T.is1Tu T.is2Tu hr (by rfl) (fun _ _ _ _ _ _ _ _ _ => .of_eq rfl) ⟨by decide, by decide, by decide⟩ (by decide +kernel) rfl rfl (pa_cons (pv 1) (pa_cons (pv 2) pa_nil)))) (pa_cons (pe_mk (pmv1 T.excWi T.fldWi T.is1Wi hr (by rfl) (fun _ _ _ _ _ _ _ _ => .of_eq rfl) (by decide) (by decide +kernel) rfl rfl (pa_cons (pv 1) pa_nil))) (pa_cons (pe_mk (pmv0 T.excRo hr (by rfl) (fun _ _ _ _ _ _ _ => .of_eq rfl) (by decide +kernel) rfl rfl)) (pa_cons (pe_mk (pmv0 T.excNu hr (by rfl) (fun _ _ _ _ _ _ _ => .of_eq rfl) (by decide +kernel) rfl rfl)) (pa_cons (pe_mk (pmv1 T.excKe T.fldKe T.is1Ke hr (by rfl) (fun _ _ _ _ _ _ _ _ => .of_eq rfl) (by decide) (by decide +kernel) rfl rfl (pa_cons (pv 1) pa_nil))) (pa_cons (pe_mk (pmv1 T.excBo T.fldBo T.is1Bo hr (by rfl) (fun _ _ _ _ _ _ _ _ => .of_eq rfl) (by decide) (by decide +kernel) rfl rfl (pa_cons (pv 1) pa_nil))) pa_nil))))))))) (pss_one (ps_ret (pe_ix ix_list (pv 3) (pe_op op_sub (pv 0) pe_int) (fun _ _ => rfl)))))), ?_⟩
    refine ⟨_, rfl, _, _, rfl, rfl, _, rfl, ite2 (fun c => ?_) (fun c => ?_)⟩
    have c7 : k < 7 := by have := of_decide_eq_true c; omega
    refine ⟨_, rfl, _, rfl, fun d0 n0 => ⟨_, rfl, fun a0 m0 => ?_⟩⟩
    have M0 := Mk.of1 (T := T) (k := 0) (x := x) (y := y) n0 m0 rfl
    refine ⟨_, rfl, _, rfl, _, _, rfl, fun d1 n1 => ⟨_, rfl, fun a1 m1 => ?_⟩⟩
    have M1 := Mk.of1 (T := T) (k := 1) (x := x) (y := y) n1 m1 rfl
    refine ⟨_, rfl, _, rfl, fun d2 n2 => ⟨_, rfl, fun a2 m2 => ?_⟩⟩
    have M2 := Mk.of1 (T := T) (k := 2) (x := x) (y := y) n2 m2 rfl
    refine ⟨_, rfl, _, rfl, fun d3 n3 => ⟨_, rfl, fun a3 m3 => ?_⟩⟩
    have M3 := Mk.of1 (T := T) (k := 3) (x := x) (y := y) n3 m3 rfl
    refine ⟨_, rfl, _, rfl, fun d4 n4 => ⟨_, rfl, fun a4 m4 => ?_⟩⟩
    have M4 := Mk.of1 (T := T) (k := 4) (x := x) (y := y) n4 m4 rfl
    refine ⟨_, rfl, _, rfl, _, _, rfl, fun d5 n5 => ⟨_, rfl, fun a5 m5 => ?_⟩⟩
    have M5 := Mk.of1 (T := T) (k := 5) (x := x) (y := y) n5 m5 rfl
    refine ⟨(by rw [sizeLine_eq]; exact (by decide : 6 ≤ 16777216)), fun p hp => ?_⟩
    refine ⟨_, rfl, _, rfl, _, rfl, fun d6 n6 => ⟨_, rfl, fun a6 m6 => ?_⟩⟩
    have M6 := Mk.of1 (T := T) (k := 6) (x := x) (y := y) n6 m6 rfl
    refine ⟨(by rw [sizeLine_eq]; exact (by decide : 1 ≤ 16777216)), fun p2 hp2 => ⟨p, p2, _, _, rfl, rfl, (same_new hp2) _ _ ((M6.sm) _ _ upd_same), upd_same, (by rw [sizeLine_eq]; exact (by decide : 7 ≤ 16777216)), fun p3 hp3 => ?_⟩⟩
    have S6 := (same_new hp2 (o := .lst [.ref a6])).trans (same_new hp3 (o := .lst [.ref a0, .ref a1, .ref a2, .ref a3, .ref a4, .ref a5, .ref a6]))
    have S5 := (same_new hp (o := .lst [.ref a0, .ref a1, .ref a2, .ref a3, .ref a4, .ref a5])).trans (M6.sm.trans S6)
    have S4 := M5.sm.trans S5
    have S3 := M4.sm.trans S4
    have S2 := M3.sm.trans S3
    have S1 := M2.sm.trans S2
    have S0 := M1.sm.trans S1
    have P0 := M0.sm
    have P1 := P0.trans M1.sm
    have P2 := P1.trans M2.sm
    have P3 := P2.trans M3.sm
    have P4 := P3.trans M4.sm
    have P5 := P4.trans M5.sm
    have P6 := (P5.trans (same_new hp (o := .lst [.ref a0, .ref a1, .ref a2, .ref a3, .ref a4, .ref a5]))).trans M6.sm
    have fin : ∃ a, atI [V.ref a0, V.ref a1, V.ref a2, V.ref a3, V.ref a4, V.ref a5, V.ref a6] (k : Int) = some (.ref a) ∧ H a = none ∧ Ex T (heapOf S0) k x y a := by
      rcases (by omega : k = 0 ∨ k = 1 ∨ k = 2 ∨ k = 3 ∨ k = 4 ∨ k = 5 ∨ k = 6) with rfl | rfl | rfl | rfl | rfl | rfl | rfl
      · exact ⟨a0, rfl, M0.nw, M0.ex.mono S0⟩
      · exact ⟨a1, rfl, (Same.free P0 M1.nw), M1.ex.mono S1⟩
      · exact ⟨a2, rfl, (Same.free P1 M2.nw), M2.ex.mono S2⟩
      · exact ⟨a3, rfl, (Same.free P2 M3.nw), M3.ex.mono S3⟩
      · exact ⟨a4, rfl, (Same.free P3 M4.nw), M4.ex.mono S4⟩
      · exact ⟨a5, rfl, (Same.free P4 M5.nw), M5.ex.mono S5⟩
      · exact ⟨a6, rfl, (Same.free (P5.trans (same_new hp (o := .lst [.ref a0, .ref a1, .ref a2, .ref a3, .ref a4, .ref a5]))) M6.nw), M6.ex.mono S6⟩
    obtain ⟨a, at1, na, ea⟩ := fin
    refine ⟨_, rfl, p3, _, _, _, rfl, rfl, SqL.of upd_same, at1, ?_⟩
    exact q a _ na (P6.trans S6) ea
    have c7 : ¬ k < 7 := by simp at c; omega
    refine ⟨_, rfl, _, rfl, _, _, rfl, fun d7 n7 => ⟨_, rfl, fun a7 m7 => ?_⟩⟩
    have M7 := Mk.of1 (T := T) (k := 7) (x := x) (y := y) n7 m7 rfl
    refine ⟨_, rfl, _, rfl, _, _, rfl, fun d8 n8 => ⟨_, rfl, fun a8 m8 => ?_⟩⟩
    have M8 := Mk.of1 (T := T) (k := 8) (x := x) (y := y) n8 m8 rfl
    refine ⟨_, rfl, _, rfl, fun d9 n9 => ⟨_, rfl, fun a9 m9 => ?_⟩⟩
    have M9 := Mk.of1 (T := T) (k := 9) (x := x) (y := y) n9 m9 rfl
    refine ⟨_, rfl, fun a10 m10 => ?_⟩
    have M10 := Mk.of0 (T := T) (k := 10) (x := x) (y := y) m10 rfl
    refine ⟨_, rfl, fun a11 m11 => ?_⟩
    have M11 := Mk.of0 (T := T) (k := 11) (x := x) (y := y) m11 rfl
    refine ⟨_, rfl, _, rfl, fun d12 n12 => ⟨_, rfl, fun a12 m12 => ?_⟩⟩
    have M12 := Mk.of1 (T := T) (k := 12) (x := x) (y := y) n12 m12 rfl
    refine ⟨_, rfl, _, rfl, fun d13 n13 => ⟨_, rfl, fun a13 m13 => ?_⟩⟩
    have M13 := Mk.of1 (T := T) (k := 13) (x := x) (y := y) n13 m13 rfl
    refine ⟨(by rw [sizeLine_eq]; exact (by decide : 7 ≤ 16777216)), fun p hp => ?_⟩
    have S13 := same_new hp (o := .lst [.ref a7, .ref a8, .ref a9, .ref a10, .ref a11, .ref a12, .ref a13])
    have S12 := M13.sm.trans S13
    have S11 := M12.sm.trans S12
    have S10 := M11.sm.trans S11
    have S9 := M10.sm.trans S10
    have S8 := M9.sm.trans S9
    have S7 := M8.sm.trans S8
    have P7 := M7.sm
    have P8 := P7.trans M8.sm
    have P9 := P8.trans M9.sm
    have P10 := P9.trans M10.sm
    have P11 := P10.trans M11.sm
    have P12 := P11.trans M12.sm
    have P13 := P12.trans M13.sm
    have fin : ∃ a, atI [V.ref a7, V.ref a8, V.ref a9, V.ref a10, V.ref a11, V.ref a12, V.ref a13] ((k : Int) - 7) = some (.ref a) ∧ H a = none ∧ Ex T (heapOf S7) k x y a := by
      rcases (by omega : k = 7 ∨ k = 8 ∨ k = 9 ∨ k = 10 ∨ k = 11 ∨ k = 12 ∨ k = 13) with rfl | rfl | rfl | rfl | rfl | rfl | rfl
      · exact ⟨a7, rfl, M7.nw, M7.ex.mono S7⟩
      · exact ⟨a8, rfl, (Same.free P7 M8.nw), M8.ex.mono S8⟩
      · exact ⟨a9, rfl, (Same.free P8 M9.nw), M9.ex.mono S9⟩
      · exact ⟨a10, rfl, (Same.free P9 M10.nw), M10.ex.mono S10⟩
      · exact ⟨a11, rfl, (Same.free P10 M11.nw), M11.ex.mono S11⟩
      · exact ⟨a12, rfl, (Same.free P11 M12.nw), M12.ex.mono S12⟩
      · exact ⟨a13, rfl, (Same.free P12 M13.nw), M13.ex.mono S13⟩
    obtain ⟨a, at1, na, ea⟩ := fin
    refine ⟨_, rfl, _, rfl, _, _, rfl, rfl, p, _, _, _, rfl, rfl, SqL.of upd_same, at1, ?_⟩
    exact q a _ na (P13.trans S13) ea
theorem ok_named (T : Tx P K mg) : FnOk P w K mg base CX0 2 T.f_named T.fd_named ["_law_k", "_law_one", "_law_other"] (spMade T) := by
  refine T.F_named.ok sc_named (fun vs H Q E h => ?_) (fun cdv A outer s H vs Q E hr h => ?_)
  · obtain ⟨k, x, y, rfl, _⟩ := h
    rfl
  · obtain ⟨k, x, y, rfl, hk, q⟩ := h
    refine ⟨_, (pss_cons (ps_if (pt_cmpR op_lt (pv 0) pe_int (nomark _)) (pss_cons (ps_set (i := 3) sc_named.nd rfl (.inl rfl) (pe_lst (pa_cons (pe_mk (pmk1 T.excTx T.fldTx T.is1Tx hr (by rfl) (fun _ _ _ _ _ _ _ _ => .of_eq rfl) (by decide) (by decide +kernel) rfl rfl (pk_cons (pv 1) pk_nil))) (pa_cons (pe_mk (pmk2r T.excWd T.fldWd T.is1Wd T.is2Wd hr (by rfl) (fun _ _ _ _ _ _ _ _ _ => .of_eq rfl) ⟨by decide, by decide, by decide⟩ (by decide +kernel) rfl rfl (pk_cons (pv 2) (pk_cons (pv 1) pk_nil)))) (pa_cons (pe_mk (pmk1 T.excTr T.fldTr T.is1Tr hr (by rfl) (fun _ _ _ _ _ _ _ _ => .of_eq rfl) (by decide) (by decide +kernel) rfl rfl (pk_cons (pv 1) pk_nil))) (pa_cons (pe_mk (pmk1 T.excWo T.fldWo T.is1Wo hr (by rfl) (fun _ _ _ _ _ _ _ _ => .of_eq rfl) (by decide) (by decide +kernel) rfl rfl (pk_cons (pv 1) pk_nil))) (pa_cons (pe_mk (pmk1 T.excLo T.fldLo T.is1Lo hr (by rfl) (fun _ _ _ _ _ _ _ _ => .of_eq rfl) (by decide) (by decide +kernel) rfl rfl (pk_cons (pv 1) pk_nil))) pa_nil))))))) (pss_one (ps_ret (pe_ix ix_list (pe_op op_cat (pv 3) (pe_lst (pa_cons (pe_mk (pmk2r T.excRd T.fldRd T.is1Rd T.is2Rd hr (by rfl) (fun _ _ _ _ _ _ _ _ _ => .of_eq rfl) ⟨by decide, by decide, by decide⟩ (by decide +kernel) rfl rfl (pk_cons (pv 2) (pk_cons (pv 1) pk_nil)))) (pa_cons (pe_mk (pmk1 T.excFt T.fldFt T.is1Ft hr (by rfl) (fun _ _ _ _ _ _ _ _ => .of_eq rfl) (by decide) (by decide +kernel) rfl rfl (pk_cons (pv 1) pk_nil))) pa_nil)))) (pv 0) (fun _ _ => rfl))))) pss_nil) (pss_cons (ps_set (i := 3) sc_named.nd rfl (.inl rfl) (pe_lst (pa_cons (pe_mk (pmk2r T.excPr T.fldPr T.is1Pr T.is2Pr hr (by rfl) (fun _ _ _ _ _ _ _ _ _ => .of_eq rfl) ⟨by decide, by decide, by decide⟩ (by decide +kernel) rfl rfl (pk_cons (pv 2) (pk_cons (pv 1) pk_nil)))) (pa_cons (pe_mk (pmk2 T.excTu T.fldTu T.is1Tu T.is2Tu hr (by rfl) (fun _ _ _ _ _ _ _ _ _ => .of_eq rfl) ⟨by decide, by decide, by decide⟩ (by decide +kernel) rfl rfl (pk_cons (pv 1) (pk_cons (pv 2) pk_nil)))) (pa_cons (pe_mk (pmk1 T.excWi T.fldWi T.is1Wi hr (by rfl) (fun _ _ _ _ _ _ _ _ => .of_eq rfl) (by decide) (by decide +kernel) rfl rfl (pk_cons (pv 1) pk_nil))) (pa_cons (pe_mk (pmv0 T.excRo hr (by rfl) (fun _ _ _ _ _ _ _ => .of_eq rfl) (by decide +kernel) rfl rfl)) (pa_cons (pe_mk (pmv0 T.excNu hr (by rfl) (fun _ _ _ _ _ _ _ => .of_eq rfl) (by decide +kernel) rfl rfl)) pa_nil))))))) (pss_one (ps_ret (pe_ix ix_list (pe_op op_cat (pv 3) (pe_lst (pa_cons (pe_mk (pmk1 T.excKe T.fldKe T.is1Ke hr (by rfl) (fun _ _ _ _ _ _ _ _ => .of_eq rfl) (by decide) (by decide +kernel) rfl rfl (pk_cons (pv 1) pk_nil))) (pa_cons (pe_mk (pmk1 T.excBo T.fldBo T.is1Bo hr (by rfl) (fun _ _ _ _ _ _ _ _ => .of_eq rfl) (by decide) (by decide +kernel) rfl rfl (pk_cons (pv 1) pk_nil))) pa_nil)))) (pe_op op_sub (pv 0) pe_int) (fun _ _ => rfl)))))), ?_⟩
    refine ⟨_, rfl, _, _, rfl, rfl, _, rfl, ite2 (fun c => ?_) (fun c => ?_)⟩
    have c7 : k < 7 := by have := of_decide_eq_true c; omega
    refine ⟨_, rfl, _, rfl, fun d0 n0 => ⟨_, rfl, fun a0 m0 => ?_⟩⟩
    have M0 := Mk.of1 (T := T) (k := 0) (x := x) (y := y) n0 m0 rfl
    refine ⟨_, rfl, _, rfl, _, _, rfl, fun d1 n1 => ⟨_, rfl, fun a1 m1 => ?_⟩⟩
    have M1 := Mk.of1 (T := T) (k := 1) (x := x) (y := y) n1 m1 rfl
    refine ⟨_, rfl, _, rfl, fun d2 n2 => ⟨_, rfl, fun a2 m2 => ?_⟩⟩
    have M2 := Mk.of1 (T := T) (k := 2) (x := x) (y := y) n2 m2 rfl
    refine ⟨_, rfl, _, rfl, fun d3 n3 => ⟨_, rfl, fun a3 m3 => ?_⟩⟩
    have M3 := Mk.of1 (T := T) (k := 3) (x := x) (y := y) n3 m3 rfl
    refine ⟨_, rfl, _, rfl, fun d4 n4 => ⟨_, rfl, fun a4 m4 => ?_⟩⟩
    have M4 := Mk.of1 (T := T) (k := 4) (x := x) (y := y) n4 m4 rfl
    refine ⟨(by rw [sizeLine_eq]; exact (by decide : 5 ≤ 16777216)), fun p hp => ?_⟩
    refine ⟨_, rfl, _, rfl, _, rfl, _, _, rfl, fun d5 n5 => ⟨_, rfl, fun a5 m5 => ?_⟩⟩
    have M5 := Mk.of1 (T := T) (k := 5) (x := x) (y := y) n5 m5 rfl
    refine ⟨_, rfl, _, rfl, fun d6 n6 => ⟨_, rfl, fun a6 m6 => ?_⟩⟩
    have M6 := Mk.of1 (T := T) (k := 6) (x := x) (y := y) n6 m6 rfl
    refine ⟨(by rw [sizeLine_eq]; exact (by decide : 2 ≤ 16777216)), fun p2 hp2 => ⟨p, p2, _, _, rfl, rfl, (same_new hp2) _ _ (((M5.sm).trans M6.sm) _ _ upd_same), upd_same, (by rw [sizeLine_eq]; exact (by decide : 7 ≤ 16777216)), fun p3 hp3 => ?_⟩⟩
    have S6 := (same_new hp2 (o := .lst [.ref a5, .ref a6])).trans (same_new hp3 (o := .lst [.ref a0, .ref a1, .ref a2, .ref a3, .ref a4, .ref a5, .ref a6]))
    have S5 := M6.sm.trans S6
    have S4 := (same_new hp (o := .lst [.ref a0, .ref a1, .ref a2, .ref a3, .ref a4])).trans (M5.sm.trans S5)
    have S3 := M4.sm.trans S4
    have S2 := M3.sm.trans S3
    have S1 := M2.sm.trans S2
    have S0 := M1.sm.trans S1
    have P0 := M0.sm
    have P1 := P0.trans M1.sm
    have P2 := P1.trans M2.sm
    have P3 := P2.trans M3.sm
    have P4 := P3.trans M4.sm
    have P5 := (P4.trans (same_new hp (o := .lst [.ref a0, .ref a1, .ref a2, .ref a3, .ref a4]))).trans M5.sm
    have P6 := P5.trans M6.sm
    have fin : ∃ a, atI [V.ref a0, V.ref a1, V.ref a2, V.ref a3, V.ref a4, V.ref a5, V.ref a6] (k : Int) = some (.ref a) ∧ H a = none ∧ Ex T (heapOf S0) k x y a := by
      rcases (by omega : k = 0 ∨ k = 1 ∨ k = 2 ∨ k = 3 ∨ k = 4 ∨ k = 5 ∨ k = 6) with rfl | rfl | rfl | rfl | rfl | rfl | rfl
      · exact ⟨a0, rfl, M0.nw, M0.ex.mono S0⟩
      · exact ⟨a1, rfl, (Same.free P0 M1.nw), M1.ex.mono S1⟩
      · exact ⟨a2, rfl, (Same.free P1 M2.nw), M2.ex.mono S2⟩
      · exact ⟨a3, rfl, (Same.free P2 M3.nw), M3.ex.mono S3⟩
      · exact ⟨a4, rfl, (Same.free P3 M4.nw), M4.ex.mono S4⟩
      · exact ⟨a5, rfl, (Same.free (P4.trans (same_new hp (o := .lst [.ref a0, .ref a1, .ref a2, .ref a3, .ref a4]))) M5.nw), M5.ex.mono S5⟩
      · exact ⟨a6, rfl, (Same.free P5 M6.nw), M6.ex.mono S6⟩
    obtain ⟨a, at1, na, ea⟩ := fin
    refine ⟨_, rfl, p3, _, _, _, rfl, rfl, SqL.of upd_same, at1, ?_⟩
    exact q a _ na (P6.trans S6) ea
    have c7 : ¬ k < 7 := by simp at c; omega
    refine ⟨_, rfl, _, rfl, _, _, rfl, fun d7 n7 => ⟨_, rfl, fun a7 m7 => ?_⟩⟩
    have M7 := Mk.of1 (T := T) (k := 7) (x := x) (y := y) n7 m7 rfl
    refine ⟨_, rfl, _, rfl, _, _, rfl, fun d8 n8 => ⟨_, rfl, fun a8 m8 => ?_⟩⟩
    have M8 := Mk.of1 (T := T) (k := 8) (x := x) (y := y) n8 m8 rfl
    refine ⟨_, rfl, _, rfl, fun d9 n9 => ⟨_, rfl, fun a9 m9 => ?_⟩⟩
    have M9 := Mk.of1 (T := T) (k := 9) (x := x) (y := y) n9 m9 rfl
    refine ⟨_, rfl, fun a10 m10 => ?_⟩
    have M10 := Mk.of0 (T := T) (k := 10) (x := x) (y := y) m10 rfl
    refine ⟨_, rfl, fun a11 m11 => ?_⟩
    have M11 := Mk.of0 (T := T) (k := 11) (x := x) (y := y) m11 rfl
    refine ⟨(by rw [sizeLine_eq]; exact (by decide : 5 ≤ 16777216)), fun p hp => ?_⟩
    refine ⟨_, rfl, _, rfl, _, rfl, fun d12 n12 => ⟨_, rfl, fun a12 m12 => ?_⟩⟩
    have M12 := Mk.of1 (T := T) (k := 12) (x := x) (y := y) n12 m12 rfl
    refine ⟨_, rfl, _, rfl, fun d13 n13 => ⟨_, rfl, fun a13 m13 => ?_⟩⟩
    have M13 := Mk.of1 (T := T) (k := 13) (x := x) (y := y) n13 m13 rfl
    refine ⟨(by rw [sizeLine_eq]; exact (by decide : 2 ≤ 16777216)), fun p2 hp2 => ⟨p, p2, _, _, rfl, rfl, (same_new hp2) _ _ (((M12.sm).trans M13.sm) _ _ upd_same), upd_same, (by rw [sizeLine_eq]; exact (by decide : 7 ≤ 16777216)), fun p3 hp3 => ?_⟩⟩
    have S13 := (same_new hp2 (o := .lst [.ref a12, .ref a13])).trans (same_new hp3 (o := .lst [.ref a7, .ref a8, .ref a9, .ref a10, .ref a11, .ref a12, .ref a13]))
    have S12 := M13.sm.trans S13
    have S11 := (same_new hp (o := .lst [.ref a7, .ref a8, .ref a9, .ref a10, .ref a11])).trans (M12.sm.trans S12)
    have S10 := M11.sm.trans S11
    have S9 := M10.sm.trans S10
    have S8 := M9.sm.trans S9
    have S7 := M8.sm.trans S8
    have P7 := M7.sm
    have P8 := P7.trans M8.sm
    have P9 := P8.trans M9.sm
    have P10 := P9.trans M10.sm
    have P11 := P10.trans M11.sm
    have P12 := (P11.trans (same_new hp (o := .lst [.ref a7, .ref a8, .ref a9, .ref a10, .ref a11]))).trans M12.sm
    have P13 := P12.trans M13.sm
    have fin : ∃ a, atI [V.ref a7, V.ref a8, V.ref a9, V.ref a10, V.ref a11, V.ref a12, V.ref a13] ((k : Int) - 7) = some (.ref a) ∧ H a = none ∧ Ex T (heapOf S7) k x y a := by
      rcases (by omega : k = 7 ∨ k = 8 ∨ k = 9 ∨ k = 10 ∨ k = 11 ∨ k = 12 ∨ k = 13) with rfl | rfl | rfl | rfl | rfl | rfl | rfl
      · exact ⟨a7, rfl, M7.nw, M7.ex.mono S7⟩
      · exact ⟨a8, rfl, (Same.free P7 M8.nw), M8.ex.mono S8⟩
      · exact ⟨a9, rfl, (Same.free P8 M9.nw), M9.ex.mono S9⟩
      · exact ⟨a10, rfl, (Same.free P9 M10.nw), M10.ex.mono S10⟩
      · exact ⟨a11, rfl, (Same.free P10 M11.nw), M11.ex.mono S11⟩
      · exact ⟨a12, rfl, (Same.free (P11.trans (same_new hp (o := .lst [.ref a7, .ref a8, .ref a9, .ref a10, .ref a11]))) M12.nw), M12.ex.mono S12⟩
      · exact ⟨a13, rfl, (Same.free P12 M13.nw), M13.ex.mono S13⟩
    obtain ⟨a, at1, na, ea⟩ := fin
    refine ⟨_, rfl, _, _, rfl, rfl, p3, _, _, _, rfl, rfl, SqL.of upd_same, at1, ?_⟩
    exact q a _ na (P13.trans S13) ea
end

/-! ### what the kinds are told apart by -/
section
variable {P : Program} {w : World} {K : PySem.W.Frag} {mg : Str → Option Value} {base : Heap}
theorem kitTx (T : Tx P K mg) (j : Nat) (hj : j < 14) : PySem.W.kitOne K (.ref T.CTx) (.ref (cl T j)) = some (j == 0) := by
  obtain ⟨h0, h1, h2, h3, h4, h5, h6, h7, h8, h9, h10, h11, h12, h13, h14, h15, h16, h17, h18⟩ := T.ktTx
  rcases (by omega : j = 0 ∨ j = 1 ∨ j = 2 ∨ j = 3 ∨ j = 4 ∨ j = 5 ∨ j = 6 ∨ j = 7 ∨ j = 8 ∨ j = 9 ∨ j = 10 ∨ j = 11 ∨ j = 12 ∨ j = 13) with rfl | rfl | rfl | rfl | rfl | rfl | rfl | rfl | rfl | rfl | rfl | rfl | rfl | rfl
  · exact h0
  · exact h1
  · exact h2
  · exact h3
  · exact h4
  · exact h5
  · exact h6
  · exact h7
  · exact h8
  · exact h9
  · exact h10
  · exact h11
  · exact h12
  · exact h13
theorem kitWd (T : Tx P K mg) (j : Nat) (hj : j < 14) : PySem.W.kitOne K (.ref T.CWd) (.ref (cl T j)) = some (j == 1) := by
  obtain ⟨h0, h1, h2, h3, h4, h5, h6, h7, h8, h9, h10, h11, h12, h13, h14, h15, h16, h17, h18⟩ := T.ktWd
  rcases (by omega : j = 0 ∨ j = 1 ∨ j = 2 ∨ j = 3 ∨ j = 4 ∨ j = 5 ∨ j = 6 ∨ j = 7 ∨ j = 8 ∨ j = 9 ∨ j = 10 ∨ j = 11 ∨ j = 12 ∨ j = 13) with rfl | rfl | rfl | rfl | rfl | rfl | rfl | rfl | rfl | rfl | rfl | rfl | rfl | rfl
  · exact h0
  · exact h1
  · exact h2
  · exact h3
  · exact h4
  · exact h5
  · exact h6
  · exact h7
  · exact h8
  · exact h9
  · exact h10
  · exact h11
  · exact h12
  · exact h13
theorem kitTr (T : Tx P K mg) (j : Nat) (hj : j < 14) : PySem.W.kitOne K (.ref T.CTr) (.ref (cl T j)) = some (j == 2) := by
  obtain ⟨h0, h1, h2, h3, h4, h5, h6, h7, h8, h9, h10, h11, h12, h13, h14, h15, h16, h17, h18⟩ := T.ktTr
  rcases (by omega : j = 0 ∨ j = 1 ∨ j = 2 ∨ j = 3 ∨ j = 4 ∨ j = 5 ∨ j = 6 ∨ j = 7 ∨ j = 8 ∨ j = 9 ∨ j = 10 ∨ j = 11 ∨ j = 12 ∨ j = 13) with rfl | rfl | rfl | rfl | rfl | rfl | rfl | rfl | rfl | rfl | rfl | rfl | rfl | rfl
  · exact h0
  · exact h1
  · exact h2
  · exact h3
  · exact h4
  · exact h5
  · exact h6
  · exact h7
  · exact h8
  · exact h9
  · exact h10
  · exact h11
  · exact h12
  · exact h13
theorem kitWo (T : Tx P K mg) (j : Nat) (hj : j < 14) : PySem.W.kitOne K (.ref T.CWo) (.ref (cl T j)) = some (j == 3) := by
  obtain ⟨h0, h1, h2, h3, h4, h5, h6, h7, h8, h9, h10, h11, h12, h13, h14, h15, h16, h17, h18⟩ := T.ktWo
  rcases (by omega : j = 0 ∨ j = 1 ∨ j = 2 ∨ j = 3 ∨ j = 4 ∨ j = 5 ∨ j = 6 ∨ j = 7 ∨ j = 8 ∨ j = 9 ∨ j = 10 ∨ j = 11 ∨ j = 12 ∨ j = 13) with rfl | rfl | rfl | rfl | rfl | rfl | rfl | rfl | rfl | rfl | rfl | rfl | rfl | rfl
  · exact h0
  · exact h1
  · exact h2
  · exact h3
  · exact h4
  · exact h5
  · exact h6
  · exact h7
  · exact h8
  · exact h9
  · exact h10
  · exact h11
  · exact h12
  · exact h13
theorem kitLo (T : Tx P K mg) (j : Nat) (hj : j < 14) : PySem.W.kitOne K (.ref T.CLo) (.ref (cl T j)) = some (j == 4) := by
  obtain ⟨h0, h1, h2, h3, h4, h5, h6, h7, h8, h9, h10, h11, h12, h13, h14, h15, h16, h17, h18⟩ := T.ktLo
  rcases (by omega : j = 0 ∨ j = 1 ∨ j = 2 ∨ j = 3 ∨ j = 4 ∨ j = 5 ∨ j = 6 ∨ j = 7 ∨ j = 8 ∨ j = 9 ∨ j = 10 ∨ j = 11 ∨ j = 12 ∨ j = 13) with rfl | rfl | rfl | rfl | rfl | rfl | rfl | rfl | rfl | rfl | rfl | rfl | rfl | rfl
  · exact h0
  · exact h1
  · exact h2
  · exact h3
  · exact h4
  · exact h5
  · exact h6
  · exact h7
  · exact h8
  · exact h9
  · exact h10
  · exact h11
  · exact h12
  · exact h13
theorem kitRd (T : Tx P K mg) (j : Nat) (hj : j < 14) : PySem.W.kitOne K (.ref T.CRd) (.ref (cl T j)) = some (j == 5) := by
  obtain ⟨h0, h1, h2, h3, h4, h5, h6, h7, h8, h9, h10, h11, h12, h13, h14, h15, h16, h17, h18⟩ := T.ktRd
  rcases (by omega : j = 0 ∨ j = 1 ∨ j = 2 ∨ j = 3 ∨ j = 4 ∨ j = 5 ∨ j = 6 ∨ j = 7 ∨ j = 8 ∨ j = 9 ∨ j = 10 ∨ j = 11 ∨ j = 12 ∨ j = 13) with rfl | rfl | rfl | rfl | rfl | rfl | rfl | rfl | rfl | rfl | rfl | rfl | rfl | rfl
  · exact h0
  · exact h1
  · exact h2
  · exact h3
  · exact h4
  · exact h5
  · exact h6
  · exact h7
  · exact h8
  · exact h9
  · exact h10
  · exact h11
  · exact h12
  · exact h13
theorem kitFt (T : Tx P K mg) (j : Nat) (hj : j < 14) : PySem.W.kitOne K (.ref T.CFt) (.ref (cl T j)) = some (j == 6) := by
  obtain ⟨h0, h1, h2, h3, h4, h5, h6, h7, h8, h9, h10, h11, h12, h13, h14, h15, h16, h17, h18⟩ := T.ktFt
  rcases (by omega : j = 0 ∨ j = 1 ∨ j = 2 ∨ j = 3 ∨ j = 4 ∨ j = 5 ∨ j = 6 ∨ j = 7 ∨ j = 8 ∨ j = 9 ∨ j = 10 ∨ j = 11 ∨ j = 12 ∨ j = 13) with rfl | rfl | rfl | rfl | rfl | rfl | rfl | rfl | rfl | rfl | rfl | rfl | rfl | rfl
  · exact h0
  · exact h1
  · exact h2
  · exact h3
  · exact h4
  · exact h5
  · exact h6
  · exact h7
  · exact h8
  · exact h9
  · exact h10
  · exact h11
  · exact h12
  · exact h13
theorem kitPr (T : Tx P K mg) (j : Nat) (hj : j < 14) : PySem.W.kitOne K (.ref T.CPr) (.ref (cl T j)) = some (j == 7) := by
  obtain ⟨h0, h1, h2, h3, h4, h5, h6, h7, h8, h9, h10, h11, h12, h13, h14, h15, h16, h17, h18⟩ := T.ktPr
  rcases (by omega : j = 0 ∨ j = 1 ∨ j = 2 ∨ j = 3 ∨ j = 4 ∨ j = 5 ∨ j = 6 ∨ j = 7 ∨ j = 8 ∨ j = 9 ∨ j = 10 ∨ j = 11 ∨ j = 12 ∨ j = 13) with rfl | rfl | rfl | rfl | rfl | rfl | rfl | rfl | rfl | rfl | rfl | rfl | rfl | rfl
  · exact h0
  · exact h1
  · exact h2
  · exact h3
  · exact h4
  · exact h5
  · exact h6
  · exact h7
  · exact h8
  · exact h9
  · exact h10
  · exact h11
  · exact h12
  · exact h13
theorem kitTu (T : Tx P K mg) (j : Nat) (hj : j < 14) : PySem.W.kitOne K (.ref T.CTu) (.ref (cl T j)) = some (j == 8) := by
  obtain ⟨h0, h1, h2, h3, h4, h5, h6, h7, h8, h9, h10, h11, h12, h13, h14, h15, h16, h17, h18⟩ := T.ktTu
  rcases (by omega : j = 0 ∨ j = 1 ∨ j = 2 ∨ j = 3 ∨ j = 4 ∨ j = 5 ∨ j = 6 ∨ j = 7 ∨ j = 8 ∨ j = 9 ∨ j = 10 ∨ j = 11 ∨ j = 12 ∨ j = 13) with rfl | rfl | rfl | rfl | rfl | rfl | rfl | rfl | rfl | rfl | rfl | rfl | rfl | rfl
  · exact h0
  · exact h1
  · exact h2
  · exact h3
  · exact h4
  · exact h5
  · exact h6
  · exact h7
  · exact h8
  · exact h9
  · exact h10
  · exact h11
  · exact h12
  · exact h13
theorem kitWi (T : Tx P K mg) (j : Nat) (hj : j < 14) : PySem.W.kitOne K (.ref T.CWi) (.ref (cl T j)) = some (j == 9) := by
  obtain ⟨h0, h1, h2, h3, h4, h5, h6, h7, h8, h9, h10, h11, h12, h13, h14, h15, h16, h17, h18⟩ := T.ktWi
  rcases (by omega : j = 0 ∨ j = 1 ∨ j = 2 ∨ j = 3 ∨ j = 4 ∨ j = 5 ∨ j = 6 ∨ j = 7 ∨ j = 8 ∨ j = 9 ∨ j = 10 ∨ j = 11 ∨ j = 12 ∨ j = 13) with rfl | rfl | rfl | rfl | rfl | rfl | rfl | rfl | rfl | rfl | rfl | rfl | rfl | rfl
  · exact h0
  · exact h1
  · exact h2
  · exact h3
  · exact h4
  · exact h5
  · exact h6
  · exact h7
  · exact h8
  · exact h9
  · exact h10
  · exact h11
  · exact h12
  · exact h13
theorem kitRo (T : Tx P K mg) (j : Nat) (hj : j < 14) : PySem.W.kitOne K (.ref T.CRo) (.ref (cl T j)) = some (j == 10) := by
  obtain ⟨h0, h1, h2, h3, h4, h5, h6, h7, h8, h9, h10, h11, h12, h13, h14, h15, h16, h17, h18⟩ := T.ktRo
  rcases (by omega : j = 0 ∨ j = 1 ∨ j = 2 ∨ j = 3 ∨ j = 4 ∨ j = 5 ∨ j = 6 ∨ j = 7 ∨ j = 8 ∨ j = 9 ∨ j = 10 ∨ j = 11 ∨ j = 12 ∨ j = 13) with rfl | rfl | rfl | rfl | rfl | rfl | rfl | rfl | rfl | rfl | rfl | rfl | rfl | rfl
  · exact h0
  · exact h1
  · exact h2
  · exact h3
  · exact h4
  · exact h5
  · exact h6
  · exact h7
  · exact h8
  · exact h9
  · exact h10
  · exact h11
  · exact h12
  · exact h13
theorem kitNu (T : Tx P K mg) (j : Nat) (hj : j < 14) : PySem.W.kitOne K (.ref T.CNu) (.ref (cl T j)) = some (j == 11) := by
  obtain ⟨h0, h1, h2, h3, h4, h5, h6, h7, h8, h9, h10, h11, h12, h13, h14, h15, h16, h17, h18⟩ := T.ktNu
  rcases (by omega : j = 0 ∨ j = 1 ∨ j = 2 ∨ j = 3 ∨ j = 4 ∨ j = 5 ∨ j = 6 ∨ j = 7 ∨ j = 8 ∨ j = 9 ∨ j = 10 ∨ j = 11 ∨ j = 12 ∨ j = 13) with rfl | rfl | rfl | rfl | rfl | rfl | rfl | rfl | rfl | rfl | rfl | rfl | rfl | rfl
  · exact h0
  · exact h1
  · exact h2
  · exact h3
  · exact h4
  · exact h5
  · exact h6
  · exact h7
  · exact h8
  · exact h9
  · exact h10
  · exact h11
  · exact h12
  · exact h13
theorem kitKe (T : Tx P K mg) (j : Nat) (hj : j < 14) : PySem.W.kitOne K (.ref T.CKe) (.ref (cl T j)) = some (j == 12) := by
  obtain ⟨h0, h1, h2, h3, h4, h5, h6, h7, h8, h9, h10, h11, h12, h13, h14, h15, h16, h17, h18⟩ := T.ktKe
  rcases (by omega : j = 0 ∨ j = 1 ∨ j = 2 ∨ j = 3 ∨ j = 4 ∨ j = 5 ∨ j = 6 ∨ j = 7 ∨ j = 8 ∨ j = 9 ∨ j = 10 ∨ j = 11 ∨ j = 12 ∨ j = 13) with rfl | rfl | rfl | rfl | rfl | rfl | rfl | rfl | rfl | rfl | rfl | rfl | rfl | rfl
  · exact h0
  · exact h1
  · exact h2
  · exact h3
  · exact h4
  · exact h5
  · exact h6
  · exact h7
  · exact h8
  · exact h9
  · exact h10
  · exact h11
  · exact h12
  · exact h13
theorem kitBo (T : Tx P K mg) (j : Nat) (hj : j < 14) : PySem.W.kitOne K (.ref T.CBo) (.ref (cl T j)) = some (j == 13) := by
  obtain ⟨h0, h1, h2, h3, h4, h5, h6, h7, h8, h9, h10, h11, h12, h13, h14, h15, h16, h17, h18⟩ := T.ktBo
  rcases (by omega : j = 0 ∨ j = 1 ∨ j = 2 ∨ j = 3 ∨ j = 4 ∨ j = 5 ∨ j = 6 ∨ j = 7 ∨ j = 8 ∨ j = 9 ∨ j = 10 ∨ j = 11 ∨ j = 12 ∨ j = 13) with rfl | rfl | rfl | rfl | rfl | rfl | rfl | rfl | rfl | rfl | rfl | rfl | rfl | rfl
  · exact h0
  · exact h1
  · exact h2
  · exact h3
  · exact h4
  · exact h5
  · exact h6
  · exact h7
  · exact h8
  · exact h9
  · exact h10
  · exact h11
  · exact h12
  · exact h13
theorem kit (T : Tx P K mg) {k : Nat} (hk : k < 14) (j : Nat) (hj : j < 14) : PySem.W.kitOne K (.ref (cl T k)) (.ref (cl T j)) = some (j == k) := by
  rcases (by omega : k = 0 ∨ k = 1 ∨ k = 2 ∨ k = 3 ∨ k = 4 ∨ k = 5 ∨ k = 6 ∨ k = 7 ∨ k = 8 ∨ k = 9 ∨ k = 10 ∨ k = 11 ∨ k = 12 ∨ k = 13) with rfl | rfl | rfl | rfl | rfl | rfl | rfl | rfl | rfl | rfl | rfl | rfl | rfl | rfl
  · exact kitTx T j hj
  · exact kitWd T j hj
  · exact kitTr T j hj
  · exact kitWo T j hj
  · exact kitLo T j hj
  · exact kitRd T j hj
  · exact kitFt T j hj
  · exact kitPr T j hj
  · exact kitTu T j hj
  · exact kitWi T j hj
  · exact kitRo T j hj
  · exact kitNu T j hj
  · exact kitKe T j hj
  · exact kitBo T j hj
theorem kitB (T : Tx P K mg) {k : Nat} (hk : k < 14) : PySem.W.kitOne K (.ref (cl T k)) (.ref T.CB) = some (decide (k < 11)) ∧ PySem.W.kitOne K (.ref (cl T k)) (.type "ValueError") = some (decide (k < 11)) ∧ PySem.W.kitOne K (.ref (cl T k)) (.type "ZeroDivisionError") = some (decide (k = 11)) ∧ PySem.W.kitOne K (.ref (cl T k)) (.type "KeyError") = some (decide (k = 12)) ∧ PySem.W.kitOne K (.ref (cl T k)) (.type "IndexError") = some (decide (k = 13)) := by
  rcases (by omega : k = 0 ∨ k = 1 ∨ k = 2 ∨ k = 3 ∨ k = 4 ∨ k = 5 ∨ k = 6 ∨ k = 7 ∨ k = 8 ∨ k = 9 ∨ k = 10 ∨ k = 11 ∨ k = 12 ∨ k = 13) with rfl | rfl | rfl | rfl | rfl | rfl | rfl | rfl | rfl | rfl | rfl | rfl | rfl | rfl
  · obtain ⟨h0, h1, h2, h3, h4, h5, h6, h7, h8, h9, h10, h11, h12, h13, h14, h15, h16, h17, h18⟩ := T.ktTx
    exact ⟨h14, h15, h16, h17, h18⟩
  · obtain ⟨h0, h1, h2, h3, h4, h5, h6, h7, h8, h9, h10, h11, h12, h13, h14, h15, h16, h17, h18⟩ := T.ktWd
    exact ⟨h14, h15, h16, h17, h18⟩
  · obtain ⟨h0, h1, h2, h3, h4, h5, h6, h7, h8, h9, h10, h11, h12, h13, h14, h15, h16, h17, h18⟩ := T.ktTr
    exact ⟨h14, h15, h16, h17, h18⟩
  · obtain ⟨h0, h1, h2, h3, h4, h5, h6, h7, h8, h9, h10, h11, h12, h13, h14, h15, h16, h17, h18⟩ := T.ktWo
    exact ⟨h14, h15, h16, h17, h18⟩
  · obtain ⟨h0, h1, h2, h3, h4, h5, h6, h7, h8, h9, h10, h11, h12, h13, h14, h15, h16, h17, h18⟩ := T.ktLo
    exact ⟨h14, h15, h16, h17, h18⟩
  · obtain ⟨h0, h1, h2, h3, h4, h5, h6, h7, h8, h9, h10, h11, h12, h13, h14, h15, h16, h17, h18⟩ := T.ktRd
    exact ⟨h14, h15, h16, h17, h18⟩
  · obtain ⟨h0, h1, h2, h3, h4, h5, h6, h7, h8, h9, h10, h11, h12, h13, h14, h15, h16, h17, h18⟩ := T.ktFt
    exact ⟨h14, h15, h16, h17, h18⟩
  · obtain ⟨h0, h1, h2, h3, h4, h5, h6, h7, h8, h9, h10, h11, h12, h13, h14, h15, h16, h17, h18⟩ := T.ktPr
    exact ⟨h14, h15, h16, h17, h18⟩
  · obtain ⟨h0, h1, h2, h3, h4, h5, h6, h7, h8, h9, h10, h11, h12, h13, h14, h15, h16, h17, h18⟩ := T.ktTu
    exact ⟨h14, h15, h16, h17, h18⟩
  · obtain ⟨h0, h1, h2, h3, h4, h5, h6, h7, h8, h9, h10, h11, h12, h13, h14, h15, h16, h17, h18⟩ := T.ktWi
    exact ⟨h14, h15, h16, h17, h18⟩
  · obtain ⟨h0, h1, h2, h3, h4, h5, h6, h7, h8, h9, h10, h11, h12, h13, h14, h15, h16, h17, h18⟩ := T.ktRo
    exact ⟨h14, h15, h16, h17, h18⟩
  · obtain ⟨h0, h1, h2, h3, h4, h5, h6, h7, h8, h9, h10, h11, h12, h13, h14, h15, h16, h17, h18⟩ := T.ktNu
    exact ⟨h14, h15, h16, h17, h18⟩
  · obtain ⟨h0, h1, h2, h3, h4, h5, h6, h7, h8, h9, h10, h11, h12, h13, h14, h15, h16, h17, h18⟩ := T.ktKe
    exact ⟨h14, h15, h16, h17, h18⟩
  · obtain ⟨h0, h1, h2, h3, h4, h5, h6, h7, h8, h9, h10, h11, h12, h13, h14, h15, h16, h17, h18⟩ := T.ktBo
    exact ⟨h14, h15, h16, h17, h18⟩
theorem exi (T : Tx P K mg) {k : Nat} (hk : k < 14) : ExcC K (cl T k) := by
  rcases (by omega : k = 0 ∨ k = 1 ∨ k = 2 ∨ k = 3 ∨ k = 4 ∨ k = 5 ∨ k = 6 ∨ k = 7 ∨ k = 8 ∨ k = 9 ∨ k = 10 ∨ k = 11 ∨ k = 12 ∨ k = 13) with rfl | rfl | rfl | rfl | rfl | rfl | rfl | rfl | rfl | rfl | rfl | rfl | rfl | rfl
  · exact T.exITx
  · exact T.exIWd
  · exact T.exITr
  · exact T.exIWo
  · exact T.exILo
  · exact T.exIRd
  · exact T.exIFt
  · exact T.exIPr
  · exact T.exITu
  · exact T.exIWi
  · exact T.exIRo
  · exact T.exINu
  · exact T.exIKe
  · exact T.exIBo
theorem Ex.dict {T : Tx P K mg} {H : Hp} {k : Nat} {x y : V} {a : Addr} (e : Ex T H k x y a) : ∃ d, H a = some (exw a (cl T k) d) ∧ ∀ dd, d = some dd → ∃ fs, H dd = some (.xd fs) := by
  obtain ⟨d, h, r⟩ := e
  refine ⟨d, h, fun dd z => ?_⟩
  cases hb : bare k with
  | true =>
    rw [hb] at r
    have r' : d = none := r
    rw [r'] at z
    cases z
  | false =>
    rw [hb] at r
    obtain ⟨dd', e, q⟩ := r
    rw [z] at e
    cases e
    exact ⟨_, q⟩
theorem is_k (T : Tx P K mg) {H : Hp} {k : Nat} {x y : V} {a : Addr} {Q : VK} (hk : k < 14) (e : Ex T H k x y a) (j : Nat) (hj : j < 14) (q : Q (.bl (j == k)) H) : rIsV K [.ref a, .ref (cl T j)] H Q := by
  obtain ⟨d, h, hd⟩ := e.dict
  exact ⟨a, cl T k, d, .ref (cl T j), .ref (cl T j), _, rfl, h, hd, exi T hk, fun u r => r, kit T hk j hj, q⟩
theorem is_B (T : Tx P K mg) {H : Hp} {k : Nat} {x y : V} {a : Addr} {Q : VK} (hk : k < 14) (e : Ex T H k x y a) (q : Q (.bl (decide (k < 11))) H) : rIsV K [.ref a, .ref T.CB] H Q := by
  obtain ⟨d, h, hd⟩ := e.dict
  exact ⟨a, cl T k, d, .ref T.CB, .ref T.CB, _, rfl, h, hd, exi T hk, fun u r => r, (kitB T hk).1, q⟩
theorem is_V (T : Tx P K mg) {H : Hp} {k : Nat} {x y : V} {a : Addr} {Q : VK} (hk : k < 14) (e : Ex T H k x y a) (q : Q (.bl (decide (k < 11))) H) : rIsV K [.ref a, .ty "ValueError"] H Q := by
  obtain ⟨d, h, hd⟩ := e.dict
  exact ⟨a, cl T k, d, .ty "ValueError", .type "ValueError", _, rfl, h, hd, exi T hk, fun u r => r, (kitB T hk).2.1, q⟩
theorem is_Z (T : Tx P K mg) {H : Hp} {k : Nat} {x y : V} {a : Addr} {Q : VK} (hk : k < 14) (e : Ex T H k x y a) (q : Q (.bl (decide (k = 11))) H) : rIsV K [.ref a, .ty "ZeroDivisionError"] H Q := by
  obtain ⟨d, h, hd⟩ := e.dict
  exact ⟨a, cl T k, d, .ty "ZeroDivisionError", .type "ZeroDivisionError", _, rfl, h, hd, exi T hk, fun u r => r, (kitB T hk).2.2.1, q⟩
theorem is_K (T : Tx P K mg) {H : Hp} {k : Nat} {x y : V} {a : Addr} {Q : VK} (hk : k < 14) (e : Ex T H k x y a) (q : Q (.bl (decide (k = 12))) H) : rIsV K [.ref a, .ty "KeyError"] H Q := by
  obtain ⟨d, h, hd⟩ := e.dict
  exact ⟨a, cl T k, d, .ty "KeyError", .type "KeyError", _, rfl, h, hd, exi T hk, fun u r => r, (kitB T hk).2.2.2.1, q⟩
theorem is_I (T : Tx P K mg) {H : Hp} {k : Nat} {x y : V} {a : Addr} {Q : VK} (hk : k < 14) (e : Ex T H k x y a) (q : Q (.bl (decide (k = 13))) H) : rIsV K [.ref a, .ty "IndexError"] H Q := by
  obtain ⟨d, h, hd⟩ := e.dict
  exact ⟨a, cl T k, d, .ty "IndexError", .type "IndexError", _, rfl, h, hd, exi T hk, fun u r => r, (kitB T hk).2.2.2.2, q⟩
/-! ### which kind -/
def spKinds (T : Tx P K mg) : Sp := fun vs H Q _ => ∃ (a : Addr) (k : Nat) (x y : V), vs = [.ref a] ∧ k < 14 ∧ Ex T H k x y a ∧ ∀ (p : Addr) (H' : Hp), H p = none → Same H H' → H' p = some (.lst ((List.range 14).map fun j => .bl (j == k))) → Q (.ref p) H'
theorem ok_kinds (T : Tx P K mg) : FnOk P w K mg base CX0 1 T.f_kinds T.fd_kinds ["_law_e"] (spKinds T) := by
  refine T.F_kinds.ok sc_kinds (fun vs H Q E h => ?_) (fun cdv A outer s H vs Q E hr h => ?_)
  · obtain ⟨a, k, x, y, rfl, _⟩ := h
    rfl
  · obtain ⟨a, k, x, y, rfl, hk, e, q⟩ := h
    refine ⟨_, (pss_cons (ps_set (i := 1) sc_kinds.nd rfl (.inl rfl) (pe_lst (pa_cons (pe_callB call_isV (by rfl) T.m_isinstance (by decide +kernel) (pa_cons (pv 0) (pa_cons (pe_glob (v := .ref T.CTx) (by rfl) T.excTx.gC rfl) pa_nil))) (pa_cons (pe_callB call_isV (by rfl) T.m_isinstance (by decide +kernel) (pa_cons (pv 0) (pa_cons (pe_glob (v := .ref T.CWd) (by rfl) T.excWd.gC rfl) pa_nil))) (pa_cons (pe_callB call_isV (by rfl) T.m_isinstance (by decide +kernel) (pa_cons (pv 0) (pa_cons (pe_glob (v := .ref T.CTr) (by rfl) T.excTr.gC rfl) pa_nil))) (pa_cons (pe_callB call_isV (by rfl) T.m_isinstance (by decide +kernel) (pa_cons (pv 0) (pa_cons (pe_glob (v := .ref T.CWo) (by rfl) T.excWo.gC rfl) pa_nil))) pa_nil)))))) (pss_cons (ps_set (i := 1) sc_kinds.nd rfl (.inl rfl) (pe_op op_cat (pv 1) (pe_lst (pa_cons (pe_callB call_isV (by rfl) T.m_isinstance (by decide +kernel) (pa_cons (pv 0) (pa_cons (pe_glob (v := .ref T.CLo) (by rfl) T.excLo.gC rfl) pa_nil))) (pa_cons (pe_callB call_isV (by rfl) T.m_isinstance (by decide +kernel) (pa_cons (pv 0) (pa_cons (pe_glob (v := .ref T.CRd) (by rfl) T.excRd.gC rfl) pa_nil))) (pa_cons (pe_callB call_isV (by rfl) T.m_isinstance (by decide +kernel) (pa_cons (pv 0) (pa_cons (pe_glob (v := .ref T.CFt) (by rfl) T.excFt.gC rfl) pa_nil))) (pa_cons (pe_callB call_isV (by rfl) T.m_isinstance (by decide +kernel) (pa_cons (pv 0) (pa_cons (pe_glob (v := .ref T.CPr) (by rfl) T.excPr.gC rfl) pa_nil))) pa_nil))))))) (pss_cons (ps_set (i := 1) sc_kinds.nd rfl (.inl rfl) (pe_op op_cat (pv 1) (pe_lst (pa_cons (pe_callB call_isV (by rfl) T.m_isinstance (by decide +kernel) (pa_cons (pv 0) (pa_cons (pe_glob (v := .ref T.CTu) (by rfl) T.excTu.gC rfl) pa_nil))) (pa_cons (pe_callB call_isV (by rfl) T.m_isinstance (by decide +kernel) (pa_cons (pv 0) (pa_cons (pe_glob (v := .ref T.CWi) (by rfl) T.excWi.gC rfl) pa_nil))) (pa_cons (pe_callB call_isV (by rfl) T.m_isinstance (by decide +kernel) (pa_cons (pv 0) (pa_cons (pe_glob (v := .ref T.CRo) (by rfl) T.excRo.gC rfl) pa_nil))) (pa_cons (pe_callB call_isV (by rfl) T.m_isinstance (by decide +kernel) (pa_cons (pv 0) (pa_cons (pe_glob (v := .ref T.CNu) (by rfl) T.excNu.gC rfl) pa_nil))) pa_nil))))))) (pss_one (ps_ret (pe_op op_cat (pv 1) (pe_lst (pa_cons (pe_callB call_isV (by rfl) T.m_isinstance (by decide +kernel) (pa_cons (pv 0) (pa_cons (pe_glob (v := .ref T.CKe) (by rfl) T.excKe.gC rfl) pa_nil))) (pa_cons (pe_callB call_isV (by rfl) T.m_isinstance (by decide +kernel) (pa_cons (pv 0) (pa_cons (pe_glob (v := .ref T.CBo) (by rfl) T.excBo.gC rfl) pa_nil))) pa_nil))))))))), ?_⟩
    obtain ⟨d0, h0, hd0⟩ := e.dict
    refine ⟨_, rfl, a, cl T k, d0, _, _, _, rfl, h0, hd0, exi T hk, fun u r => r, kit T hk 0 (by decide), _, rfl, a, cl T k, d0, _, _, _, rfl, h0, hd0, exi T hk, fun u r => r, kit T hk 1 (by decide), _, rfl, a, cl T k, d0, _, _, _, rfl, h0, hd0, exi T hk, fun u r => r, kit T hk 2 (by decide), _, rfl, a, cl T k, d0, _, _, _, rfl, h0, hd0, exi T hk, fun u r => r, kit T hk 3 (by decide), (by rw [sizeLine_eq]; exact (by decide : 4 ≤ 16777216)), fun p0 n0 => ?_⟩
    have s0 := same_new n0 (o := .lst [.bl (0 == k), .bl (1 == k), .bl (2 == k), .bl (3 == k)])
    obtain ⟨d1, h1, hd1⟩ := (e.mono s0).dict
    refine ⟨_, rfl, _, rfl, a, cl T k, d1, _, _, _, rfl, h1, hd1, exi T hk, fun u r => r, kit T hk 4 (by decide), _, rfl, a, cl T k, d1, _, _, _, rfl, h1, hd1, exi T hk, fun u r => r, kit T hk 5 (by decide), _, rfl, a, cl T k, d1, _, _, _, rfl, h1, hd1, exi T hk, fun u r => r, kit T hk 6 (by decide), _, rfl, a, cl T k, d1, _, _, _, rfl, h1, hd1, exi T hk, fun u r => r, kit T hk 7 (by decide), (by rw [sizeLine_eq]; exact (by decide : 4 ≤ 16777216)), fun p1 n1 => ⟨p0, p1, _, _, rfl, rfl, same_new n1 _ _ upd_same, upd_same, (by rw [sizeLine_eq]; exact (by decide : 8 ≤ 16777216)), fun p2 n2 => ?_⟩⟩
    have s1 := (s0.trans (same_new n1 (o := .lst [.bl (4 == k), .bl (5 == k), .bl (6 == k), .bl (7 == k)]))).trans (same_new n2 (o := .lst [.bl (0 == k), .bl (1 == k), .bl (2 == k), .bl (3 == k), .bl (4 == k), .bl (5 == k), .bl (6 == k), .bl (7 == k)]))
    obtain ⟨d2, h2, hd2⟩ := (e.mono s1).dict
    refine ⟨_, rfl, _, rfl, a, cl T k, d2, _, _, _, rfl, h2, hd2, exi T hk, fun u r => r, kit T hk 8 (by decide), _, rfl, a, cl T k, d2, _, _, _, rfl, h2, hd2, exi T hk, fun u r => r, kit T hk 9 (by decide), _, rfl, a, cl T k, d2, _, _, _, rfl, h2, hd2, exi T hk, fun u r => r, kit T hk 10 (by decide), _, rfl, a, cl T k, d2, _, _, _, rfl, h2, hd2, exi T hk, fun u r => r, kit T hk 11 (by decide), (by rw [sizeLine_eq]; exact (by decide : 4 ≤ 16777216)), fun p3 n3 => ⟨p2, p3, _, _, rfl, rfl, same_new n3 _ _ upd_same, upd_same, (by rw [sizeLine_eq]; exact (by decide : 12 ≤ 16777216)), fun p4 n4 => ?_⟩⟩
    have s2 := (s1.trans (same_new n3 (o := .lst [.bl (8 == k), .bl (9 == k), .bl (10 == k), .bl (11 == k)]))).trans (same_new n4 (o := .lst [.bl (0 == k), .bl (1 == k), .bl (2 == k), .bl (3 == k), .bl (4 == k), .bl (5 == k), .bl (6 == k), .bl (7 == k), .bl (8 == k), .bl (9 == k), .bl (10 == k), .bl (11 == k)]))
    obtain ⟨d3, h3, hd3⟩ := (e.mono s2).dict
    refine ⟨_, rfl, _, rfl, a, cl T k, d3, _, _, _, rfl, h3, hd3, exi T hk, fun u r => r, kit T hk 12 (by decide), _, rfl, a, cl T k, d3, _, _, _, rfl, h3, hd3, exi T hk, fun u r => r, kit T hk 13 (by decide), (by rw [sizeLine_eq]; exact (by decide : 2 ≤ 16777216)), fun p5 n5 => ⟨p4, p5, _, _, rfl, rfl, same_new n5 _ _ upd_same, upd_same, (by rw [sizeLine_eq]; exact (by decide : 14 ≤ 16777216)), fun p6 n6 => ?_⟩⟩
    have s3 := s2.trans (same_new n5 (o := .lst [.bl (12 == k), .bl (13 == k)]))
    exact q p6 _ (Same.free s3 n6) (s3.trans (same_new n6 (o := .lst [.bl (0 == k), .bl (1 == k), .bl (2 == k), .bl (3 == k), .bl (4 == k), .bl (5 == k), .bl (6 == k), .bl (7 == k), .bl (8 == k), .bl (9 == k), .bl (10 == k), .bl (11 == k), .bl (12 == k), .bl (13 == k)]))) upd_same
end

/-! ### what the law gives: plain data -/
def Yt : Str := Str.ofString "y"
def Da (H : Hp) (v : V) (d : PyData) : Prop := (v = .non ∧ d = .none) ∨ (∃ b, v = .bl b ∧ d = .bool b) ∨ (∃ i, v = .int i ∧ d = .int i) ∨ (∃ s, v = .str s ∧ d = .str s ∧ PyData.strOk s = true) ∨ (∃ a, v = .ref a ∧ H a = some (.tup []) ∧ d = .tuple []) ∨ ∃ a i, v = .ref a ∧ H a = some (.tup [.int i, .str Yt]) ∧ d = .tuple [.int i, .str Yt]
theorem Da.mono {H H' : Hp} {v : V} {d : PyData} (h : Da H v d) (s : Same H H') : Da H' v d := by
  rcases h with h | h | h | h | ⟨a, h1, h2, h3⟩ | ⟨a, i, h1, h2, h3⟩
  · exact .inl h
  · exact .inr (.inl h)
  · exact .inr (.inr (.inl h))
  · exact .inr (.inr (.inr (.inl h)))
  · exact .inr (.inr (.inr (.inr (.inl ⟨a, h1, s _ _ h2, h3⟩))))
  · exact .inr (.inr (.inr (.inr (.inr ⟨a, i, h1, s _ _ h2, h3⟩))))
theorem Da.dp {K : PySem.W.Frag} {H : Hp} {v : V} {d : PyData} (h : Da H v d) : Dp K H v d := by
  rcases h with ⟨rfl, rfl⟩ | ⟨b, rfl, rfl⟩ | ⟨i, rfl, rfl⟩ | ⟨s, rfl, rfl, _⟩ | ⟨a, rfl, h2, rfl⟩ | ⟨a, i, rfl, h2, rfl⟩
  · exact .non
  · exact .bl _
  · exact .int _
  · exact .str _
  · exact .tup (SqT.of h2) .nil
  · exact .tup (SqT.of h2) (.cons (.int _) (.cons (.str _) .nil))
theorem Da.ok {H : Hp} {v : V} {d : PyData} (h : Da H v d) : d.canLay0 = true ∧ d.depth ≤ 1 := by
  rcases h with ⟨rfl, rfl⟩ | ⟨b, rfl, rfl⟩ | ⟨i, rfl, rfl⟩ | ⟨s, rfl, rfl, hs⟩ | ⟨a, rfl, h2, rfl⟩ | ⟨a, i, rfl, h2, rfl⟩
  · exact ⟨rfl, by decide⟩
  · exact ⟨rfl, by simp [PyData.depth]⟩
  · exact ⟨rfl, by simp [PyData.depth]⟩
  · exact ⟨hs, by simp [PyData.depth]⟩
  · exact ⟨rfl, by decide⟩
  · exact ⟨by simp [PyData.canLay0, PyData.canLayAll0]; decide +kernel, by simp [PyData.depth, PyData.depthAll]⟩
theorem shp {d : PyData} (h : d.canLay0 = true) (k : d.depth ≤ 3) : SeqAt.shaped d = true := by
  unfold SeqAt.shaped
  rw [h]
  have : d.depth ≤ 64 := by omega
  simp [this]
/-! ### the fields -/
section
variable {P : Program} {w : World} {K : PySem.W.Frag} {mg : Str → Option Value} {base : Heap}
theorem Ex.parts {T : Tx P K mg} {H : Hp} {k : Nat} {x y : V} {a : Addr} (e : Ex T H k x y a) (b : bare k = false) : ∃ dd, H a = some (exw a (cl T k) (some dd)) ∧ H dd = some (.xd (fl x y k)) := by
  obtain ⟨d, h, r⟩ := e
  rw [b] at r
  obtain ⟨dd, rfl, q⟩ := r
  exact ⟨dd, h, q⟩
/-- a list of one of each kind at l -/
def Ls (T : Tx P K mg) (H : Hp) (l : Addr) (x y : V) : Prop := ∃ as : Nat → Addr, H l = some (.lst ((List.range 14).map fun k => .ref (as k))) ∧ ∀ k, k < 14 → Ex T H k x y (as k)
theorem Ls.mono {T : Tx P K mg} {H H' : Hp} {l : Addr} {x y : V} (h : Ls T H l x y) (s : Same H H') : Ls T H' l x y := by
  obtain ⟨as, e, m⟩ := h
  exact ⟨as, s _ _ e, fun k hk => (m k hk).mono s⟩
def spFields (T : Tx P K mg) : Sp := fun vs H Q _ => ∃ (l : Addr) (x y : V) (d e : PyData), vs = [.ref l, x, y] ∧ Ls T H l x y ∧ Da H x d ∧ Da H y e ∧ ∀ H', Same H H' → Q (.bl true) H'
theorem ok_fields (T : Tx P K mg) : FnOk P w K mg base CX0 1 T.f_fields T.fd_fields ["_law_some", "_law_one", "_law_other"] (spFields T) := by
  refine T.F_fields.ok sc_fields (fun vs H Q E h => ?_) (fun cdv A outer s H vs Q E hr h => ?_)
  · obtain ⟨l, x, y, d, e, rfl, _⟩ := h
    rfl
  · obtain ⟨l, x, y, d, e, rfl, ⟨as, hl, hm⟩, dx, dy, q⟩ := h
    have dk := dx.ok
    have ek := dy.ok
    refine ⟨_, (pss_cons (ps_set (i := 3) sc_fields.nd rfl (.inl rfl) (pe_lst (pa_cons (pe_xw (pe_ix ix_list (pv 0) pe_int (fun _ _ => rfl))) (pa_cons (pe_xw (pe_ix ix_list (pv 0) pe_int (fun _ _ => rfl))) (pa_cons (pe_xw (pe_ix ix_list (pv 0) pe_int (fun _ _ => rfl))) (pa_cons (pe_xw (pe_ix ix_list (pv 0) pe_int (fun _ _ => rfl))) (pa_cons (pe_xw (pe_ix ix_list (pv 0) pe_int (fun _ _ => rfl))) (pa_cons (pe_xw (pe_ix ix_list (pv 0) pe_int (fun _ _ => rfl))) (pa_cons (pe_xw (pe_ix ix_list (pv 0) pe_int (fun _ _ => rfl))) (pa_cons (pe_xw (pe_ix ix_list (pv 0) pe_int (fun _ _ => rfl))) pa_nil)))))))))) (pss_cons (ps_if (pt_cmpR (op_neD hr.units) (pv 3) (pe_op op_rep (pe_lst (pa_cons (pv 1) pa_nil)) pe_int) (nomark _)) (pss_one (ps_ret pe_bl)) pss_nil) (pss_cons (ps_set (i := 3) sc_fields.nd rfl (.inl rfl) (pe_lst (pa_cons (pe_tup (pa_cons (pe_xw (pe_ix ix_list (pv 0) pe_int (fun _ _ => rfl))) (pa_cons (pe_xw (pe_ix ix_list (pv 0) pe_int (fun _ _ => rfl))) pa_nil))) (pa_cons (pe_tup (pa_cons (pe_xw (pe_ix ix_list (pv 0) pe_int (fun _ _ => rfl))) (pa_cons (pe_xw (pe_ix ix_list (pv 0) pe_int (fun _ _ => rfl))) pa_nil))) (pa_cons (pe_tup (pa_cons (pe_xw (pe_ix ix_list (pv 0) pe_int (fun _ _ => rfl))) (pa_cons (pe_xw (pe_ix ix_list (pv 0) pe_int (fun _ _ => rfl))) pa_nil))) pa_nil))))) (pss_one (ps_ret (pe_cmpR (op_eqD hr.units) (pe_op op_cat (pv 3) (pe_lst (pa_cons (pe_tup (pa_cons (pe_xw (pe_ix ix_list (pv 0) pe_int (fun _ _ => rfl))) (pa_cons (pe_xw (pe_ix ix_list (pv 0) pe_int (fun _ _ => rfl))) pa_nil))) pa_nil))) (pe_op op_rep (pe_lst (pa_cons (pe_tup (pa_cons (pv 1) (pa_cons (pv 2) pa_nil))) pa_nil)) pe_int) (nomark _))))))), ?_⟩
    obtain ⟨d0, g0, f0⟩ := (hm 0 (by decide)).parts rfl
    obtain ⟨d1, g1, f1⟩ := (hm 1 (by decide)).parts rfl
    obtain ⟨d2, g2, f2⟩ := (hm 2 (by decide)).parts rfl
    obtain ⟨d3, g3, f3⟩ := (hm 3 (by decide)).parts rfl
    obtain ⟨d4, g4, f4⟩ := (hm 4 (by decide)).parts rfl
    obtain ⟨d5, g5, f5⟩ := (hm 5 (by decide)).parts rfl
    obtain ⟨d6, g6, f6⟩ := (hm 6 (by decide)).parts rfl
    obtain ⟨d7, g7, f7⟩ := (hm 7 (by decide)).parts rfl
    obtain ⟨d8, g8, f8⟩ := (hm 8 (by decide)).parts rfl
    obtain ⟨d9, g9, f9⟩ := (hm 9 (by decide)).parts rfl
    obtain ⟨d12, g12, f12⟩ := (hm 12 (by decide)).parts rfl
    obtain ⟨d13, g13, f13⟩ := (hm 13 (by decide)).parts rfl
    refine ⟨_, rfl, l, _, _, _, rfl, rfl, SqL.of ( hl), rfl, as 0, cl T 0, d0, _, _, rfl,  g0, T.xfcTx, T.noTxRow,  f0, rfl, _, rfl, l, _, _, _, rfl, rfl, SqL.of ( hl), rfl, as 2, cl T 2, d2, _, _, rfl,  g2, T.xfcTr, T.noTrAt,  f2, rfl, _, rfl, l, _, _, _, rfl, rfl, SqL.of ( hl), rfl, as 3, cl T 3, d3, _, _, rfl,  g3, T.xfcWo, T.noWoAt,  f3, rfl, _, rfl, l, _, _, _, rfl, rfl, SqL.of ( hl), rfl, as 4, cl T 4, d4, _, _, rfl,  g4, T.xfcLo, T.noLoMost,  f4, rfl, _, rfl, l, _, _, _, rfl, rfl, SqL.of ( hl), rfl, as 6, cl T 6, d6, _, _, rfl,  g6, T.xfcFt, T.noFtAt,  f6, rfl, _, rfl, l, _, _, _, rfl, rfl, SqL.of ( hl), rfl, as 9, cl T 9, d9, _, _, rfl,  g9, T.xfcWi, T.noWiRooms,  f9, rfl, _, rfl, l, _, _, _, rfl, rfl, SqL.of ( hl), rfl, as 12, cl T 12, d12, _, _, rfl,  g12, T.xfcKe, T.noKeName,  f12, rfl, _, rfl, l, _, _, _, rfl, rfl, SqL.of ( hl), rfl, as 13, cl T 13, d13, _, _, rfl,  g13, T.xfcBo, T.noBoBox,  f13, rfl, (by rw [sizeLine_eq]; exact (by decide : 8 ≤ 16777216)), fun p n0 => ?_⟩
    have s0 := same_new n0 (o := .lst [x, x, x, x, x, x, x, x])
    have a8 : ∀ {G : Hp}, Same H G → DpAll K G [x, x, x, x, x, x, x, x] [d, d, d, d, d, d, d, d] := fun s => by
      have z := (dx.mono s).dp (K := K)
      exact .cons z (.cons z (.cons z (.cons z (.cons z (.cons z (.cons z (.cons z .nil)))))))
    have k8 : SeqAt.shaped (.list [d, d, d, d, d, d, d, d]) = true := shp (by simp [PyData.canLay0, PyData.canLayAll0, dk.1]) (by simp [PyData.depth, PyData.depthAll]; omega)
    refine ⟨_, rfl, _, rfl, (by rw [sizeLine_eq]; exact (by decide : 1 ≤ 16777216)), fun p2 n2 => ⟨p2, _, _, rfl, rfl, upd_same, by decide, by decide, (by rw [sizeLine_eq]; exact (by decide : 8 ≤ 16777216)), fun p3 n3 => ?_⟩⟩
    have s2 := s0.trans (same_new n2 (o := .lst [x]))
    have s3 := s2.trans (same_new n3 (o := .lst [x, x, x, x, x, x, x, x]))
    refine ⟨.list [d, d, d, d, d, d, d, d], .list [d, d, d, d, d, d, d, d], .lst (SqL.of (same_new n3 _ _ (same_new n2 _ _ upd_same))) (a8 s3), .lst (SqL.of upd_same) (a8 s3), k8, k8, _, rfl, ite2 (fun c => absurd c (by rw [SeqAt.eqv_refl _ (SeqAt.canLay_of_shaped k8)]; decide)) (fun c => ?_)⟩
    refine ⟨_, rfl, l, _, _, _, rfl, rfl, SqL.of (s3 _ _ hl), rfl, as 1, cl T 1, d1, _, _, rfl, s3 _ _ g1, T.xfcWd, T.noWdWord, s3 _ _ f1, rfl, _, rfl, l, _, _, _, rfl, rfl, SqL.of (s3 _ _ hl), rfl, as 1, cl T 1, d1, _, _, rfl, s3 _ _ g1, T.xfcWd, T.noWdName, s3 _ _ f1, rfl, (by rw [sizeLine_eq]; exact (by decide : 2 ≤ 16777216)), fun t0 m0 => ?_⟩
    have c0 := s3.trans (same_new m0 (o := .tup [x, y]))
    refine ⟨_, rfl, l, _, _, _, rfl, rfl, SqL.of (c0 _ _ hl), rfl, as 5, cl T 5, d5, _, _, rfl, c0 _ _ g5, T.xfcRd, T.noRdWord, c0 _ _ f5, rfl, _, rfl, l, _, _, _, rfl, rfl, SqL.of (c0 _ _ hl), rfl, as 5, cl T 5, d5, _, _, rfl, c0 _ _ g5, T.xfcRd, T.noRdMaker, c0 _ _ f5, rfl, (by rw [sizeLine_eq]; exact (by decide : 2 ≤ 16777216)), fun t1 m1 => ?_⟩
    have c1 := c0.trans (same_new m1 (o := .tup [x, y]))
    refine ⟨_, rfl, l, _, _, _, rfl, rfl, SqL.of (c1 _ _ hl), rfl, as 7, cl T 7, d7, _, _, rfl, c1 _ _ g7, T.xfcPr, T.noPrWord, c1 _ _ f7, rfl, _, rfl, l, _, _, _, rfl, rfl, SqL.of (c1 _ _ hl), rfl, as 7, cl T 7, d7, _, _, rfl, c1 _ _ g7, T.xfcPr, T.noPrMaker, c1 _ _ f7, rfl, (by rw [sizeLine_eq]; exact (by decide : 2 ≤ 16777216)), fun t2 m2 => ?_⟩
    have c2 := c1.trans (same_new m2 (o := .tup [x, y]))
    refine ⟨(by rw [sizeLine_eq]; exact (by decide : 3 ≤ 16777216)), fun p4 n4 => ?_⟩
    have s4 := c2.trans (same_new n4 (o := .lst [.ref t0, .ref t1, .ref t2]))
    refine ⟨_, rfl, _, rfl, l, _, _, _, rfl, rfl, SqL.of (s4 _ _ hl), rfl, as 8, cl T 8, d8, _, _, rfl, s4 _ _ g8, T.xfcTu, T.noTuWord, s4 _ _ f8, rfl, _, rfl, l, _, _, _, rfl, rfl, SqL.of (s4 _ _ hl), rfl, as 8, cl T 8, d8, _, _, rfl, s4 _ _ g8, T.xfcTu, T.noTuMaker, s4 _ _ f8, rfl, (by rw [sizeLine_eq]; exact (by decide : 2 ≤ 16777216)), fun t3 m3 => ?_⟩
    have s5 := s4.trans (same_new m3 (o := .tup [x, y]))
    refine ⟨(by rw [sizeLine_eq]; exact (by decide : 1 ≤ 16777216)), fun p5 n5 => ⟨p4, p5, _, _, rfl, rfl, same_new n5 _ _ (same_new m3 _ _ upd_same), upd_same, (by rw [sizeLine_eq]; exact (by decide : 4 ≤ 16777216)), fun p6 n6 => ?_⟩⟩
    have s6 := (s5.trans (same_new n5 (o := .lst [.ref t3]))).trans (same_new n6 (o := .lst [.ref t0, .ref t1, .ref t2, .ref t3]))
    refine ⟨_, rfl, _, rfl, (by rw [sizeLine_eq]; exact (by decide : 2 ≤ 16777216)), fun t4 m4 => ⟨(by rw [sizeLine_eq]; exact (by decide : 1 ≤ 16777216)), fun p7 n7 => ⟨p7, _, _, rfl, rfl, upd_same, by decide, by decide, (by rw [sizeLine_eq]; exact (by decide : 4 ≤ 16777216)), fun p8 n8 => ?_⟩⟩⟩
    have s7 := ((s6.trans (same_new m4 (o := .tup [x, y]))).trans (same_new n7 (o := .lst [.ref t4]))).trans (same_new n8 (o := .lst [.ref t4, .ref t4, .ref t4, .ref t4]))
    have u8 := ((same_new m4 (o := .tup [x, y])).trans (same_new n7 (o := .lst [.ref t4]))).trans (same_new n8 (o := .lst [.ref t4, .ref t4, .ref t4, .ref t4]))
    have u6 := ((same_new n5 (o := .lst [.ref t3])).trans (same_new n6 (o := .lst [.ref t0, .ref t1, .ref t2, .ref t3]))).trans u8
    have u4 := (same_new n4 (o := .lst [.ref t0, .ref t1, .ref t2])).trans ((same_new m3 (o := .tup [x, y])).trans u6)
    have zx := (dx.mono s7).dp (K := K)
    have zy := (dy.mono s7).dp (K := K)
    have z2 := DpAll.cons zx (.cons zy .nil)
    have k4 : SeqAt.shaped (.list [.tuple [d, e], .tuple [d, e], .tuple [d, e], .tuple [d, e]]) = true := shp (by simp [PyData.canLay0, PyData.canLayAll0, dk.1, ek.1]) (by simp [PyData.depth, PyData.depthAll]; omega)
    have e3 : Dp K _ (.ref t4) (.tuple [d, e]) := .tup (SqT.of ((same_new n7 (o := .lst [.ref t4])).trans (same_new n8 (o := .lst [.ref t4, .ref t4, .ref t4, .ref t4])) _ _ upd_same)) z2
    have b3 : Dp K _ (.ref t3) (.tuple [d, e]) := .tup (SqT.of (u6 _ _ upd_same)) z2
    have b2 : Dp K _ (.ref t2) (.tuple [d, e]) := .tup (SqT.of (u4 _ _ upd_same)) z2
    have b1 : Dp K _ (.ref t1) (.tuple [d, e]) := .tup (SqT.of (((same_new m2 (o := .tup [x, y])).trans u4) _ _ upd_same)) z2
    have b0 : Dp K _ (.ref t0) (.tuple [d, e]) := .tup (SqT.of (((same_new m1 (o := .tup [x, y])).trans ((same_new m2 (o := .tup [x, y])).trans u4)) _ _ upd_same)) z2
    refine ⟨.list [.tuple [d, e], .tuple [d, e], .tuple [d, e], .tuple [d, e]], .list [.tuple [d, e], .tuple [d, e], .tuple [d, e], .tuple [d, e]], .lst (SqL.of (u8 _ _ upd_same)) (.cons b0 (.cons b1 (.cons b2 (.cons b3 .nil)))), .lst (SqL.of upd_same) (.cons e3 (.cons e3 (.cons e3 (.cons e3 .nil)))), k4, k4, ?_⟩
    rw [SeqAt.eqv_refl _ (SeqAt.canLay_of_shaped k4)]
    exact q _ s7
end

/-! ### an exception caught -/
section
variable {P : Program} {w : World} {K : PySem.W.Frag} {mg : Str → Option Value} {base : Heap}
def spTaken : Sp := fun vs H Q _ => ∃ (x y : V) (d e : PyData), vs = [x, y] ∧ Da H x d ∧ Da H y e ∧ ∀ H', Same H H' → Q (.bl true) H'
theorem Same.put {H G : Hp} {p : Addr} {o : HO} (s : Same H G) (n : H p = none) : Same H (upd G p o) := fun b u e => by
  rw [upd_ne (ne_of_none e n)]
  exact s _ _ e
theorem ok_taken (T : Tx P K mg) : FnOk P w K mg base CX0 2 T.f_taken T.fd_taken ["_law_one", "_law_other"] spTaken := by
  refine T.F_taken.ok sc_taken (fun vs H Q E h => ?_) (fun cdv A outer s H vs Q E hr h => ?_)
  · obtain ⟨x, y, d, e, rfl, _⟩ := h
    rfl
  · obtain ⟨x, y, d, e, rfl, dx, dy, q⟩ := h
    refine ⟨_, (pss_cons (ps_set (i := 2) sc_taken.nd rfl (.inl rfl) (pe_lst pa_nil)) (pss_cons (ps_try_as (i := 3) (Wout := fun _ _ _ _ => False) rfl rfl sc_taken.nd rfl rfl ⟨rfl, by decide, .inl T.g_BoughError⟩ takes0 (fun W pn xe tk _ => (pss_one (ps_raise (by rfl) tk (pmv1 T.excTx T.fldTx T.is1Tx hr (by rfl) (fun _ _ _ _ _ _ _ _ => .of_eq rfl) (by decide) (by decide +kernel) rfl rfl (pa_cons (pv 0) pa_nil))))) (fun a oe cls d pn hz hf => (pss_one (ps_expr (KX.pe_bmK K PySem.F.plainAttrs_list PySem.F.slot_list_append PySem.F.type_list_append mt_append (pv 2) (pa_cons (pe_cmpR (show OpR _ _ (rEqD K) from op_eqD (by exact hr.units)) (pe_xf T.xfcTx T.noTxRow hz hf (pv 3)) (pv 0) (nomark _)) pa_nil)))))) (pss_cons (ps_try_only (c := .type "KeyError") (Wout := fun _ _ _ _ => False) rfl rfl ⟨rfl, by decide, .inr ⟨T.m_KeyError, by decide +kernel, by decide⟩⟩ takes0 (fun W pn xe tk _ => (pss_one (ps_raise (by rfl) tk (pmv1 T.excKe T.fldKe T.is1Ke hr (by rfl) (fun _ _ _ _ _ _ _ _ => .of_eq rfl) (by decide) (by decide +kernel) rfl rfl (pa_cons (pv 1) pa_nil))))) (fun a oe cls d pn hz hf => (pss_one (ps_expr (KX.pe_bmK K PySem.F.plainAttrs_list PySem.F.slot_list_append PySem.F.type_list_append mt_append (pv 2) (pa_cons pe_bl pa_nil)))))) (pss_one (ps_ret (pe_cmpR (op_eqD hr.units) (pv 2) (pe_lst (pa_cons pe_bl (pa_cons pe_bl pa_nil))) (nomark _))))))), ?_⟩
    refine ⟨(by rw [sizeLine_eq]; exact (by decide : 0 ≤ 16777216)), fun p n0 => ?_⟩
    have s0 := same_new n0 (o := .lst [])
    refine ⟨_, rfl, _, rfl, fun d1 n1 => ?_⟩
    have s1 := s0.trans (same_new n1 (o := .xd [("row", x)]))
    refine ⟨true, T.exmT, fun _ a na => ?_, fun z => Bool.noConfusion z⟩
    have kx : SeqAt.shaped d = true := shp dx.ok.1 (by have := dx.ok.2; omega)
    have e1 : upd (upd H p (.lst [])) d1 (.xd [("row", x)]) p = some (.lst []) := same_new n1 _ _ upd_same
    refine ⟨_, rfl, .inl ⟨rfl, _, SqL.of e1⟩, _, rfl, rfl, rfl, d1, _, x, rfl, upd_same, rfl, _, rfl, d, d, (dx.mono s1).dp, (dx.mono s1).dp, kx, kx, ?_⟩
    rw [SeqAt.eqv_refl _ dx.ok.1]
    refine ⟨p, _, _, rfl, rfl, e1, by rw [sizeLine_eq]; exact (by decide : 0 < 16777216), ?_⟩
    refine ⟨_, rfl, _, rfl, fun d2 n2 => ?_⟩
    have e2 : upd (upd (upd H p (.lst [])) d1 (.xd [("row", x)])) p (.lst [.bl true]) p = some (.lst [.bl true]) := upd_same
    refine ⟨true, T.exmK, fun _ a2 na2 => ?_, fun z => Bool.noConfusion z⟩
    have e3 := same_new n2 (o := .xd [("name", y)]) _ _ e2
    refine ⟨_, rfl, .inl ⟨rfl, _, SqL.of e3⟩, p, _, _, rfl, rfl, e3, by rw [sizeLine_eq]; exact (by decide : 1 < 16777216), ?_⟩
    have s2 := Same.put s1 n0 (o := .lst [.bl true])
    have s3 := s2.trans (same_new n2 (o := .xd [("name", y)]))
    have s4 := Same.put s3 n0 (o := .lst [.bl true, .bl true])
    refine ⟨_, rfl, by rw [sizeLine_eq]; exact (by decide : 2 ≤ 16777216), fun p9 n9 => ?_⟩
    have s5 := s4.trans (same_new n9 (o := .lst [.bl true, .bl true]))
    refine ⟨.list [.bool true, .bool true], .list [.bool true, .bool true], .lst (SqL.of (same_new n9 _ _ upd_same)) (.cons (.bl _) (.cons (.bl _) .nil)), .lst (SqL.of upd_same) (.cons (.bl _) (.cons (.bl _) .nil)), by decide +kernel, by decide +kernel, ?_⟩
    exact q _ s5
end

/-! ### a list of one of each kind -/
section
variable {P : Program} {w : World} {K : PySem.W.Frag} {mg : Str → Option Value} {base : Heap}
theorem ne_lst {H : Hp} {a D : Addr} {o : HO} {zs : List V} (h : H a = some o) (e : H D = some (.lst zs)) (n : o ≠ .lst zs) : a ≠ D := fun z => by
  rw [z, e] at h
  exact n (Option.some.inj h).symm
theorem exw_lst {a C : Addr} {d : Option Addr} {zs : List V} : exw a C d ≠ .lst zs := fun z => by
  have z' : HO.ext _ = HO.lst zs := z
  cases z'
/-- all but the list at D is as it was -/
def But (D : Addr) (H H' : Hp) : Prop := ∀ b o, b ≠ D → H b = some o → H' b = some o
theorem But.of {D : Addr} {H H' : Hp} (s : Same H H') : But D H H' := fun b o _ e => s b o e
theorem But.upd {D : Addr} {H : Hp} {o : HO} : But D H (upd H D o) := fun b u n e => by
  rw [upd_ne n]
  exact e
theorem But.trans {D : Addr} {H H1 H2 : Hp} (x : But D H H1) (y : But D H1 H2) : But D H H2 := fun b o n e => y b o n (x b o n e)
theorem Ex.but {T : Tx P K mg} {H H' : Hp} {k : Nat} {x y : V} {a D : Addr} {zs : List V} (e : Ex T H k x y a) (s : But D H H') (l : H D = some (.lst zs)) : Ex T H' k x y a := by
  obtain ⟨d, h, r⟩ := e
  refine ⟨d, s _ _ (ne_lst h l exw_lst) h, ?_⟩
  cases hb : bare k with
  | true =>
    rw [hb] at r
    exact r
  | false =>
    rw [hb] at r
    obtain ⟨dd, e, z⟩ := r
    exact ⟨dd, e, s _ _ (ne_lst z l (fun q => by cases q)) z⟩
theorem Da.but {H H' : Hp} {v : V} {d : PyData} {D : Addr} {zs : List V} (h : Da H v d) (s : But D H H') (l : H D = some (.lst zs)) : Da H' v d := by
  rcases h with h | h | h | h | ⟨a, h1, h2, h3⟩ | ⟨a, i, h1, h2, h3⟩
  · exact .inl h
  · exact .inr (.inl h)
  · exact .inr (.inr (.inl h))
  · exact .inr (.inr (.inr (.inl h)))
  · exact .inr (.inr (.inr (.inr (.inl ⟨a, h1, s _ _ (ne_lst h2 l (fun q => by cases q)) h2, h3⟩))))
  · exact .inr (.inr (.inr (.inr (.inr ⟨a, i, h1, s _ _ (ne_lst h2 l (fun q => by cases q)) h2, h3⟩))))
theorem Ls.but {T : Tx P K mg} {H H' : Hp} {l D : Addr} {x y : V} {zs : List V} (h : Ls T H l x y) (n : l ≠ D) (s : But D H H') (e : H D = some (.lst zs)) : Ls T H' l x y := by
  obtain ⟨as, h1, m⟩ := h
  exact ⟨as, s _ _ n h1, fun k hk => (m k hk).but s e⟩
theorem lc_ex (T : Tx P K mg) {x y : V} {σ : L2.St} {H1 : Hp} {D : Addr} {Qd : Hp → Prop} {g : TG} {te : TE} {vs : List Nat} (nD : H1 D = none)
    (hs : ∀ (i : Nat) (H : Hp) (Qk : VK), i < 14 → Same H1 H → (∀ a H', H a = none → Same H H' → Ex T H' i x y a → Qk (.ref a) H') → g (.int (0 + (i : Int))) (wipe σ vs) H fun σ2 H2 => wipe σ2 vs = wipe σ vs ∧ te σ2 H2 Qk)
    (hd : ∀ H, Same H1 H → Ls T H D x y → Qd H) :
    ∃ W : Nat → Nat → Hp → Prop, (∃ m, W 0 m (upd H1 D (.lst []))) ∧ ∀ i m H, W i m H →
      ((Itr 0 14).stop i H ∧ Qd H) ∨ ((Itr 0 14).go i H ∧ ∃ Nx : Hp → Prop, (∀ H', Nx H' → ∃ m', m' < m ∧ W (i + 1) m' H') ∧ ∀ x H', (Itr 0 14).yld i H x H' → g x (wipe σ vs) H' fun σ2 H2 => wipe σ2 vs = wipe σ vs ∧ tYes σ2 H2 fun b H3 =>
        if b = true then te σ2 H3 fun y H4 => ∃ acc, H4 D = some (.lst acc) ∧ acc.length < sizeLine ∧ Nx (upd H4 D (.lst (acc ++ [y]))) else Nx H3) := by
  refine lc_it walk_range (fun i H => Same H1 H ∧ ∃ as : Nat → Addr, H D = some (.lst ((List.range i).map fun k => .ref (as k))) ∧ ∀ k, k < i → Ex T H k x y (as k)) ⟨same_new nD, fun _ => 0, upd_same, fun k hk => absurd hk (Nat.not_lt_zero k)⟩ (fun _ _ _ _ => trivial) (fun i v H H' hi p yv => ?_) (fun H p => hd H p.1 p.2)
  obtain ⟨s1, as, e, m⟩ := p
  obtain ⟨rfl, rfl⟩ := yv
  refine hs i _ _ hi s1 fun a H4 na s4 ex => ?_
  refine ⟨_, s4 _ _ e, Nat.lt_of_le_of_lt (show _ ≤ 14 by rw [List.length_map, List.length_range]; omega) (by rw [sizeLine_eq]; decide), ?_⟩
  have e4 := s4 _ _ e
  have bt : But D H4 (upd H4 D (.lst ((List.range i).map (fun k => V.ref (as k)) ++ [.ref a]))) := But.upd
  refine ⟨fun b o q => by rw [upd_ne (ne_of_none q nD)]; exact s4 _ _ (s1 _ _ q), fun k => if k = i then a else as k, ?_, fun k hk => ?_⟩
  · have e1 : (List.range i).map (fun k => V.ref (if k = i then a else as k)) = (List.range i).map fun k => V.ref (as k) := List.map_congr_left fun k hk => by rw [if_neg (Nat.ne_of_lt (List.mem_range.mp hk))]
    rw [upd_same, List.range_succ, List.map_append, e1]
    simp
  · dsimp only
    by_cases hki : k = i
    · subst hki
      rw [if_pos rfl]
      exact ex.but bt e4
    · rw [if_neg hki]
      exact ((m k (by omega)).mono s4).but bt e4
end

/-! ### the law -/
theorem cut_from (xs : List V) : cutV xs (some 1) none = xs.drop 1 := by
  unfold cutV
  rw [show HT.sIx xs.length 0 (some 1) = min 1 xs.length from HT.sIx_nat xs.length 0 1, HT.sIx_none]
  cases xs with
  | nil => rfl
  | cons x r =>
    rw [show min 1 (x :: r).length = 1 by rw [List.length_cons]; omega]
    show (List.take ((x :: r).length - 1) r) = r
    rw [List.length_cons, Nat.add_sub_cancel]
    exact List.take_length
theorem cut_to (xs : List V) : cutV xs none (some 1) = xs.take 1 := by
  unfold cutV
  rw [show HT.sIx xs.length xs.length (some 1) = min 1 xs.length from HT.sIx_nat xs.length xs.length 1, HT.sIx_none]
  show List.take (min 1 xs.length - 0) (xs.drop 0) = xs.take 1
  rw [List.drop_zero, Nat.sub_zero]
  cases xs with
  | nil => rfl
  | cons x r => rw [show min 1 (x :: r).length = 1 by rw [List.length_cons]; omega]
section
variable {P : Program} {w : World} {K : PySem.W.Frag} {mg : Str → Option Value} {base : Heap}
def spLaw (K : PySem.W.Frag) : Sp := fun vs H Q _ => ∃ (a : Addr) (ns : List Int), vs = [.ref a] ∧ SqL K H a (ns.map V.int) ∧ ns.length ≤ 63 ∧ ∀ H', Q (.bl true) H'
/-- the rows made so far: items of the list at ml -/
def Good (T : Tx P K mg) (H : Hp) (ml : Addr) (items : List V) : Prop := ∀ v ∈ items, ∃ (t l : Addr) (x y : V) (d e : PyData), v = .ref t ∧ H t = some (.tup [.ref l, x, y]) ∧ l ≠ ml ∧ Ls T H l x y ∧ Da H x d ∧ Da H y e
theorem Good.but {T : Tx P K mg} {H H' : Hp} {ml : Addr} {items zs : List V} (h : Good T H ml items) (s : But ml H H') (e : H ml = some (.lst zs)) : Good T H' ml items := fun v hv => by
  obtain ⟨t, l, x, y, d, d', rfl, ht, nl, ls, dx, dy⟩ := h v hv
  exact ⟨t, l, x, y, d, d', rfl, s _ _ (ne_lst ht e (fun q => by cases q)) ht, nl, ls.but nl s e, dx.but s e, dy.but s e⟩
theorem dp_bls {H : Hp} (f : Nat → Bool) : ∀ l : List Nat, DpAll K H (l.map fun j => .bl (f j)) (l.map fun j => .bool (f j))
  | [] => .nil
  | _ :: r => .cons (.bl _) (dp_bls f r)
theorem layA_bls (f : Nat → Bool) : ∀ l : List Nat, PyData.canLayAll0 (l.map fun j => .bool (f j)) = true
  | [] => rfl
  | _ :: r => by simp [PyData.canLayAll0, PyData.canLay0, layA_bls f r]
theorem lay_bls (f : Nat → Bool) (l : List Nat) : PyData.canLay0 (.list (l.map fun j => .bool (f j))) = true := by
  simp [PyData.canLay0, layA_bls f l]
theorem depA_bls (f : Nat → Bool) : ∀ l : List Nat, PyData.depthAll (l.map fun j => .bool (f j)) = 0
  | [] => rfl
  | _ :: r => by simp [PyData.depthAll, PyData.depth, depA_bls f r]
theorem dep_bls (f : Nat → Bool) (l : List Nat) : PyData.depth (.list (l.map fun j => .bool (f j))) ≤ 3 := by
  simp [PyData.depth, depA_bls f l]
theorem ok_law (T : Tx P K mg) {f : Addr} {fd : FuncData} (F : Fun K "law" "law" st_law f fd) : FnOk P w K mg base CX0 3 f fd ["_law_script"] (spLaw K) := by
  refine F.ok sc_law (fun vs H Q E h => ?_) (fun cdv A outer s H vs Q E hr h => ?_)
  · obtain ⟨a, ns, rfl, _⟩ := h
    rfl
  · obtain ⟨a, ns, rfl, hS, hlen63, q⟩ := h
    refine ⟨_, (pss_cons (ps_set (i := 1) sc_law.nd rfl (.inl rfl) (pe_call (ok_box T) (hr.mono (by decide) : Room 1 _) (by rfl) T.g_box T.F_box.kp T.b_box .nil pass0 (pa_cons (pv 0) (pa_cons pe_int pa_nil)))) (pss_cons (ps_set (i := 2) sc_law.nd rfl (.inl rfl) (pe_lst (pa_cons (pe_call (ok_take T) (hr.mono (by decide) : Room 1 _) (by rfl) T.g_take T.F_take.kp T.b_take .nil pass0 (pa_cons (pv 1) (pa_cons pe_int pa_nil))) (pa_cons (pe_op op_sub (pe_op op_sub pe_int pe_int) (pe_call (ok_take T) (hr.mono (by decide) : Room 1 _) (by rfl) T.g_take T.F_take.kp T.b_take .nil pass0 (pa_cons (pv 1) (pa_cons (pe_op op_pow pe_int pe_int) pa_nil)))) (pa_cons (pe_op BO.op_repG pe_str (pe_call (ok_take T) (hr.mono (by decide) : Room 1 _) (by rfl) T.g_take T.F_take.kp T.b_take .nil pass0 (pa_cons (pv 1) (pa_cons pe_int pa_nil)))) (pa_cons pe_non (pa_cons (pe_tup pa_nil) (pa_cons pe_bl pa_nil)))))))) (pss_cons (ps_expr (pe_bm PySem.F.plainAttrs_list PySem.F.slot_list_append PySem.F.type_list_append mt_append (pv 2) (pa_cons (pe_tup (pa_cons (pe_ix ix_list (pv 2) pe_int (fun _ _ => rfl)) (pa_cons pe_str pa_nil))) pa_nil))) (pss_cons (ps_set (i := 3) sc_law.nd rfl (.inl rfl) (pe_lst pa_nil)) (pss_cons (ps_for PassesOwn.never rfl (pi_zip (by rfl) T.m_zip (pa_cons (pv 2) (pa_cons (pe_op op_cat (pe_slice sl_list (pv 2) (po_some pe_int) po_none) (pe_slice sl_list (pv 2) po_none (po_some pe_int))) pa_nil))) (pg_tup rfl (pgs_cons (pg_name (i := 4) sc_law.nd rfl (.inr rfl)) (pgs_cons (pg_name (i := 5) sc_law.nd rfl (.inr rfl)) pgs_nil))) (pss_cons (ps_for PassesOwn.never rfl (pi_tup (pe_tup (pa_cons (pe_lc (own := [("_law_k", 6)]) (by rfl) sc_law.nd (pi_range1 (by rfl) T.m_range (pa_cons pe_int pa_nil)) (blkOk_by (own := [("_law_k", 6)]) (N := ["_law_script", "_law_draw", "_law_things", "_law_made_here", "_law_one", "_law_other", "_law_k", "_law_some", "_law_e", "_law_low", "_law_sorts", "_law_j"]) (sc := defScope st_law) (by decide +kernel)) (fun _ _ _ _ _ => (pg_name (i := 6) sc_law.nd rfl (.inl rfl))) (fun _ _ _ _ _ => pts_nil) (fun _ _ _ _ _ => (pe_call (ok_made T) (hr.mono (by decide) : Room 2 _) (by rfl) T.g_made T.F_made.kp T.b_made .nil pass0 (pa_cons (pv 6) (pa_cons (pv 4) (pa_cons (pv 5) pa_nil)))))) (pa_cons (pe_lc (own := [("_law_k", 6)]) (by rfl) sc_law.nd (pi_range1 (by rfl) T.m_range (pa_cons pe_int pa_nil)) (blkOk_by (own := [("_law_k", 6)]) (N := ["_law_script", "_law_draw", "_law_things", "_law_made_here", "_law_one", "_law_other", "_law_k", "_law_some", "_law_e", "_law_low", "_law_sorts", "_law_j"]) (sc := defScope st_law) (by decide +kernel)) (fun _ _ _ _ _ => (pg_name (i := 6) sc_law.nd rfl (.inl rfl))) (fun _ _ _ _ _ => pts_nil) (fun _ _ _ _ _ => (pe_call (ok_named T) (hr.mono (by decide) : Room 2 _) (by rfl) T.g_named T.F_named.kp T.b_named .nil pass0 (pa_cons (pv 6) (pa_cons (pv 4) (pa_cons (pv 5) pa_nil)))))) pa_nil)))) (pg_name (i := 7) sc_law.nd rfl (.inl rfl)) (pss_one (ps_expr (pe_bm PySem.F.plainAttrs_list PySem.F.slot_list_append PySem.F.type_list_append mt_append (pv 3) (pa_cons (pe_tup (pa_cons (pv 7) (pa_cons (pv 4) (pa_cons (pv 5) pa_nil)))) pa_nil))))) (pss_one (ps_if (pt_not (pt_val (pe_call (ok_taken T) (hr.mono (by decide) : Room 2 _) (by rfl) T.g_taken T.F_taken.kp T.b_taken .nil pass0 (pa_cons (pv 4) (pa_cons (pv 5) pa_nil))))) (pss_one (ps_ret pe_bl)) pss_nil)))) (pss_cons (ps_for PassesOwn.never rfl (pi_list (pv 3)) (pg_tup rfl (pgs_cons (pg_name (i := 7) sc_law.nd rfl (.inl rfl)) (pgs_cons (pg_name (i := 4) sc_law.nd rfl (.inr rfl)) (pgs_cons (pg_name (i := 5) sc_law.nd rfl (.inr rfl)) pgs_nil)))) (pss_cons (ps_if (pt_not (pt_val (pe_call (ok_fields T) (hr.mono (by decide) : Room 1 _) (by rfl) T.g_fields T.F_fields.kp T.b_fields .nil pass0 (pa_cons (pv 7) (pa_cons (pv 4) (pa_cons (pv 5) pa_nil)))))) (pss_one (ps_ret pe_bl)) pss_nil) (pss_one (ps_for PassesOwn.never rfl (pi_enum (by rfl) T.m_enumerate (pa_cons (pv 7) pa_nil)) (pg_tup rfl (pgs_cons (pg_name (i := 6) sc_law.nd rfl (.inr rfl)) (pgs_cons (pg_name (i := 8) sc_law.nd rfl (.inl rfl)) pgs_nil))) (pss_cons (ps_if (pt_cmpR (op_neD hr.units) (pe_call (ok_kinds T) (hr.mono (by decide) : Room 1 _) (by rfl) T.g_kinds T.F_kinds.kp T.b_kinds .nil pass0 (pa_cons (pv 8) pa_nil)) (pe_lc (own := [("_law_j", 11)]) (by rfl) sc_law.nd (pi_range1 (by rfl) T.m_range (pa_cons pe_int pa_nil)) (blkOk_by (own := [("_law_j", 11)]) (N := ["_law_script", "_law_draw", "_law_things", "_law_made_here", "_law_one", "_law_other", "_law_k", "_law_some", "_law_e", "_law_low", "_law_sorts", "_law_j"]) (sc := defScope st_law) (by decide +kernel)) (fun _ _ _ _ _ => (pg_name (i := 11) sc_law.nd rfl (.inl rfl))) (fun _ _ _ _ _ => pts_nil) (fun _ _ _ _ _ => (pe_cmpR op_eq (pv 11) (pv 6) (nomark _)))) (nomark _)) (pss_one (ps_ret pe_bl)) pss_nil) (pss_cons (ps_set (i := 9) sc_law.nd rfl (.inl rfl) (pe_and (pe_callB call_isV (by rfl) T.m_isinstance (by decide +kernel) (pa_cons (pv 8) (pa_cons (pe_glob (v := .ref T.CB) (by rfl) T.g_BoughError rfl) pa_nil))) (pe_one (pe_callB call_isV (by rfl) T.m_isinstance (by decide +kernel) (pa_cons (pv 8) (pa_cons (pe_bltn (v := .ty "ValueError") (by rfl) T.m_ValueError (by decide +kernel) rfl) pa_nil)))))) (pss_cons (ps_set (i := 10) sc_law.nd rfl (.inl rfl) (pe_lst (pa_cons (pv 9) (pa_cons (pe_callB call_isV (by rfl) T.m_isinstance (by decide +kernel) (pa_cons (pv 8) (pa_cons (pe_bltn (v := .ty "ZeroDivisionError") (by rfl) T.m_ZeroDivisionError (by decide +kernel) rfl) pa_nil))) (pa_cons (pe_callB call_isV (by rfl) T.m_isinstance (by decide +kernel) (pa_cons (pv 8) (pa_cons (pe_bltn (v := .ty "KeyError") (by rfl) T.m_KeyError (by decide +kernel) rfl) pa_nil))) (pa_cons (pe_callB call_isV (by rfl) T.m_isinstance (by decide +kernel) (pa_cons (pv 8) (pa_cons (pe_bltn (v := .ty "IndexError") (by rfl) T.m_IndexError (by decide +kernel) rfl) pa_nil))) pa_nil)))))) (pss_one (ps_if (pt_cmpR (op_neD hr.units) (pv 10) (pe_lst (pa_cons (pe_cmpR op_lt (pv 6) pe_int (nomark _)) (pa_cons (pe_cmpR op_eq (pv 6) pe_int (nomark _)) (pa_cons (pe_cmpR op_eq (pv 6) pe_int (nomark _)) (pa_cons (pe_cmpR op_eq (pv 6) pe_int (nomark _)) pa_nil))))) (nomark _)) (pss_one (ps_ret pe_bl)) pss_nil))))))))) (pss_one (ps_ret pe_bl)))))))), ?_⟩
    refine ⟨.ref a, rfl, a, ns, 0, rfl, hS, by decide, by decide, fun b H1 nb s1 db => ?_⟩
    refine ⟨_, rfl, b, 9, rfl, db, by decide, by decide +kernel, fun n H2 n0 n9 g2 => ?_⟩
    refine ⟨_, _, rfl, rfl, _, rfl, _, _, rfl, rfl, ⟨by decide, by decide, by decide⟩, b, _, rfl, g2.2, by decide, by decide +kernel, fun m H3 m0 m9 g3 => ?_⟩
    refine ⟨_, _, rfl, rfl, _, rfl, b, 9, rfl, g3.2, by decide, by decide +kernel, fun t H4 t0 t9 g4 => ?_⟩
    obtain ⟨tn, rfl⟩ : ∃ tn : Nat, t = (tn : Int) := ⟨t.toNat, by omega⟩
    refine ⟨[120], tn, rfl, rfl, by decide, by decide, by omega, ?_⟩
    refine ⟨by rw [sizeLine_eq]; exact (by decide : 0 ≤ 16777216), fun e ne => ?_⟩
    refine ⟨by rw [sizeLine_eq]; exact (by decide : 6 ≤ 16777216), fun tp ntp => ?_⟩
    have etp : upd (upd H4 e (.tup [])) tp (.lst [.int n, .int (0 - 1 - m), .str ⟨((List.replicate tn [120]).flatten).toArray⟩, .non, .ref e, .bl true]) tp = some (.lst [.int n, .int (0 - 1 - m), .str ⟨((List.replicate tn [120]).flatten).toArray⟩, .non, .ref e, .bl true]) := upd_same
    refine ⟨_, rfl, .inl ⟨rfl, _, SqL.of etp⟩, _, rfl, tp, _, _, _, rfl, rfl, SqL.of etp, rfl, by rw [sizeLine_eq]; exact (by decide : 2 ≤ 16777216), fun q0 nq => ?_⟩
    have etp2 := same_new nq (o := .tup [.int n, .str (Str.ofString "y")]) _ _ etp
    refine ⟨tp, _, _, rfl, rfl, etp2, by rw [sizeLine_eq]; exact (by decide : 6 < 16777216), ?_⟩
    have eH9 : ∃ H9, H9 = upd (upd (upd (upd H4 e (.tup [])) tp (.lst [.int n, .int (0 - 1 - m), .str ⟨((List.replicate tn [120]).flatten).toArray⟩, .non, .ref e, .bl true])) q0 (.tup [.int n, .str (Str.ofString "y")])) tp (.lst ([.int n, .int (0 - 1 - m), .str ⟨((List.replicate tn [120]).flatten).toArray⟩, .non, .ref e, .bl true] ++ [.ref q0])) := ⟨_, rfl⟩
    obtain ⟨H9, eH9⟩ := eH9
    rw [← eH9]
    have ntpe : e ≠ tp := ne_of_none (H := upd H4 e (.tup [])) upd_same ntp
    have nqe : q0 ≠ tp := fun z => by
      rw [z, etp] at nq
      cases nq
    obtain ⟨VS, eVS⟩ : ∃ VS : List V, VS = [.int n, .int (0 - 1 - m), .str ⟨((List.replicate tn [120]).flatten).toArray⟩, .non, .ref e, .bl true] ++ [.ref q0] := ⟨_, rfl⟩
    have e9 : H9 tp = some (.lst VS) := by
      rw [eH9, eVS]
      exact upd_same
    have ee : H9 e = some (.tup []) := by
      rw [eH9, upd_ne ntpe]
      exact same_new nq _ _ (same_new ntp _ _ upd_same)
    have eq : H9 q0 = some (.tup [.int n, .str Yt]) := by
      rw [eH9, upd_ne nqe]
      exact upd_same
    have l9 : VS.length = 7 := by rw [eVS]; rfl
    have d9 : ∀ v ∈ VS, ∃ d, Da H9 v d := fun v hv => by
      rw [eVS] at hv
      have hv' : v = .int n ∨ v = .int (0 - 1 - m) ∨ v = .str ⟨((List.replicate tn [120]).flatten).toArray⟩ ∨ v = .non ∨ v = .ref e ∨ v = .bl true ∨ v = .ref q0 := by simpa using hv
      rcases hv' with rfl | rfl | rfl | rfl | rfl | rfl | rfl
      · exact ⟨_, .inr (.inr (.inl ⟨_, rfl, rfl⟩))⟩
      · exact ⟨_, .inr (.inr (.inl ⟨_, rfl, rfl⟩))⟩
      · refine ⟨_, .inr (.inr (.inr (.inl ⟨_, rfl, rfl, ?_⟩)))⟩
        unfold PyData.strOk
        simp
      · exact ⟨_, .inl ⟨rfl, rfl⟩⟩
      · exact ⟨_, .inr (.inr (.inr (.inr (.inl ⟨e, rfl, ee, rfl⟩))))⟩
      · exact ⟨_, .inr (.inl ⟨_, rfl, rfl⟩)⟩
      · exact ⟨_, .inr (.inr (.inr (.inr (.inr ⟨q0, n, rfl, eq, rfl⟩))))⟩
    refine ⟨by rw [sizeLine_eq]; exact (by decide : 0 ≤ 16777216), fun ml nml => ?_⟩
    have e10 := same_new nml (o := .lst []) _ _ e9
    have nmt : ml ≠ tp := fun z => by
      rw [z, e9] at nml
      cases nml
    refine ⟨_, rfl, _, rfl, 1, rfl, tp, _, rfl, SqL.of e10, fun c1 n1 => ?_⟩
    have e11 := same_new n1 (o := .lst (cutV VS (some 1) none)) _ _ e10
    refine ⟨_, rfl, 1, rfl, tp, _, rfl, SqL.of e11, fun c2 n2 => ?_⟩
    have hcl : (cutV VS (some 1) none).length + (cutV VS none (some 1)).length ≤ sizeLine := by
      have a1 := cutV_length VS (some 1) none
      have a2 := cutV_length VS none (some 1)
      rw [sizeLine_eq]
      omega
    refine ⟨c1, c2, _, _, rfl, rfl, same_new n2 _ _ upd_same, upd_same, hcl, fun c3 n3 => ?_⟩
    obtain ⟨HC, hHC⟩ : ∃ HC, HC = upd (upd (upd (upd H9 ml (.lst [])) c1 (.lst (cutV VS (some 1) none))) c2 (.lst (cutV VS none (some 1)))) c3 (.lst (cutV VS (some 1) none ++ cutV VS none (some 1))) := ⟨_, rfl⟩
    have sC : Same (upd H9 ml (.lst [])) HC := by
      rw [hHC]
      exact (same_new n1).trans ((same_new n2).trans (same_new n3))
    have eC : HC c3 = some (.lst (VS.drop 1 ++ VS.take 1)) := by
      rw [hHC, cut_from, cut_to]
      exact upd_same
    rw [← hHC]
    have nc3 : c3 ≠ ml := fun z => by
      have q2 := ((same_new n1 (o := .lst (cutV VS (some 1) none))).trans (same_new n2 (o := .lst (cutV VS none (some 1))))) ml _ upd_same
      rw [z, q2] at n3
      cases n3
    have etC := sC _ _ e10
    have emC := sC ml _ upd_same
    have dC : ∀ v ∈ VS, ∃ d, Da HC v d := fun v hv => by
      obtain ⟨d, hd⟩ := d9 v hv
      exact ⟨d, hd.mono ((same_new nml).trans sC)⟩
    refine ⟨tp, c3, _, _, rfl, SqL.of etC, SqL.of eC, RZ.for_zipL (xs := VS) (ys := VS.drop 1 ++ VS.take 1) (by rw [List.length_append, List.length_drop, List.length_take]; omega) (fun i σ Hi => ∃ (y4 y5 y7 : Option V) (items : List V), σ = [some (.ref a), some (.ref b), some (.ref tp), some (.ref ml), y4, y5, none, y7, none, none, none, none] ∧ But ml HC Hi ∧ Hi ml = some (.lst items) ∧ items.length ≤ 2 * i ∧ Good T Hi ml items)
      ⟨none, none, none, [], rfl, fun b o _ e => e, emC, Nat.zero_le _, fun v hv => nomatch hv⟩ (fun i σ Hi hP => ?_) (fun i x y TT σ Hi hx hy hP hT => ?_) (fun σ Hi hP => ?_)⟩
    · obtain ⟨y4, y5, y7, items, _, bt, _⟩ := hP
      exact ⟨SqL.of (bt _ _ (Ne.symm nmt) etC), SqL.of (bt _ _ nc3 eC)⟩
    · obtain ⟨y4, y5, y7, items, rfl, bt, em, li, gd⟩ := hP
      have hi : i < 7 := by
        rw [← l9]
        exact (List.getElem?_eq_some_iff.mp hx).1
      have mx : x ∈ VS := List.mem_of_getElem? hx
      have my : y ∈ VS := by
        rcases List.mem_append.mp (List.mem_of_getElem? hy) with h | h
        · exact List.mem_of_mem_drop h
        · exact List.mem_of_mem_take h
      obtain ⟨dx, hdx⟩ := dC x mx
      obtain ⟨dy, hdy⟩ := dC y my
      have hdx := hdx.but bt emC
      have hdy := hdy.but bt emC
      refine ⟨TT, _, rfl, .inl (.inl upd_same), rfl, _, _, rfl, _, _, rfl, rfl, ?_⟩
      refine ⟨14, rfl, by decide, by decide, fun D1 nD1 => lc_ex T (x := x) (y := y) nD1 (fun k H Qk hk s q => ?_) (fun HA sA LA => ?_)⟩
      · exact ⟨rfl, _, rfl, _, rfl, _, rfl, k, x, y, by simp, hk, q⟩
      refine ⟨14, rfl, by decide, by decide, fun D2 nD2 => lc_ex T (x := x) (y := y) nD2 (fun k H Qk hk s q => ?_) (fun HB sB LB => ?_)⟩
      · exact ⟨rfl, _, rfl, _, rfl, _, rfl, k, x, y, by simp, hk, q⟩
      refine ⟨by rw [sizeLine_eq]; exact (by decide : 2 ≤ 16777216), fun tt ntt => ?_⟩
      have sT := ((same_new hT (o := .tup [x, y])).trans sA).trans (sB.trans (same_new ntt (o := .tup [.ref D1, .ref D2])))
      have emT := sT _ _ em
      have nd1 : D1 ≠ ml := fun z => by
        have q2 := ((same_new hT (o := .tup [x, y])) _ _ em)
        rw [← z, nD1] at q2
        cases q2
      have nd2 : D2 ≠ ml := fun z => by
        have q2 := ((same_new hT (o := .tup [x, y])).trans sA) _ _ em
        rw [← z, nD2] at q2
        cases q2
      have L1 : Ls T (upd HB tt (.tup [.ref D1, .ref D2])) D1 x y := (LA.mono sB).mono (same_new ntt)
      have L2 : Ls T (upd HB tt (.tup [.ref D1, .ref D2])) D2 x y := LB.mono (same_new ntt)
      have hdx2 := hdx.mono sT
      have hdy2 := hdy.mono sT
      have gd2 : Good T (upd HB tt (.tup [.ref D1, .ref D2])) ml items := gd.but (But.of sT) em
      have bt2 : But ml HC (upd HB tt (.tup [.ref D1, .ref D2])) := bt.trans (But.of sT)
      obtain ⟨HT, eHT⟩ : ∃ HT, HT = upd HB tt (.tup [.ref D1, .ref D2]) := ⟨_, rfl⟩
      have ett : HT tt = some (.tup [.ref D1, .ref D2]) := by
        rw [eHT]
        exact upd_same
      rw [← eHT] at L1 L2 hdx2 hdy2 gd2 bt2 emT ⊢
      have ntm : tt ≠ ml := ne_lst ett emT (fun q => by cases q)
      refine ⟨tt, rfl, ⟨_, SqT.of ett⟩, for_it (walk_tup (xs := [.ref D1, .ref D2])) (fun j σ Hk => ∃ (y7 : Option V) (its : List V), σ = [some (.ref a), some (.ref b), some (.ref tp), some (.ref ml), some x, some y, none, y7, none, none, none, none] ∧ But ml HT Hk ∧ Hk ml = some (.lst its) ∧ its.length ≤ 2 * i + j ∧ Good T Hk ml its)
        ⟨y7, items, rfl, fun b o _ e => e, emT, by omega, gd2⟩ (fun j σ Hk hj hP => ?_) (fun j v σ Hk Hk' hj hP hv => ?_) (fun σ Hk hP => ?_)⟩
      · obtain ⟨_, _, _, bk, _⟩ := hP
        exact SqT.of (bk _ _ ntm ett)
      · obtain ⟨y7, its, rfl, bk, ek, lk, gk⟩ := hP
        obtain ⟨rfl, hv⟩ := hv
        obtain ⟨l, rfl, nl, Ll⟩ : ∃ l, v = .ref l ∧ l ≠ ml ∧ Ls T HT l x y := by
          have hj' : j < 2 := hj
          rcases (by omega : j = 0 ∨ j = 1) with rfl | rfl
          · exact ⟨D1, (Option.some.inj hv).symm, nd1, L1⟩
          · exact ⟨D2, (Option.some.inj hv).symm, nd2, L2⟩
        refine ⟨_, rfl, .inl ⟨rfl, _, SqL.of ek⟩, _, rfl, _, rfl, _, rfl, by rw [sizeLine_eq]; exact (by decide : 3 ≤ 16777216), fun t nt => ?_⟩
        have ek2 := same_new nt (o := .tup [.ref l, x, y]) _ _ ek
        refine ⟨ml, _, _, rfl, rfl, ek2, Nat.lt_of_le_of_lt (show its.length ≤ 100 by have : j < 2 := hj; omega) (by rw [sizeLine_eq]; decide), ?_⟩
        have bu : But ml Hk' (upd (upd Hk' t (.tup [.ref l, x, y])) ml (.lst (its ++ [.ref t]))) := (But.of (same_new nt)).trans But.upd
        have ntl : t ≠ ml := fun z => by
          rw [z, ek] at nt
          cases nt
        refine ⟨_, _, rfl, bk.trans bu, upd_same, by rw [List.length_append, List.length_singleton]; omega, fun v hv => ?_⟩
        rcases List.mem_append.mp hv with hv | hv
        · exact gk.but bu ek v hv
        · rw [List.mem_singleton.mp hv]
          exact ⟨t, l, x, y, _, _, rfl, by rw [upd_ne ntl]; exact upd_same, nl, (Ll.but nl bk emT).but nl bu ek, (hdx2.but bk emT).but bu ek, (hdy2.but bk emT).but bu ek⟩
      · obtain ⟨y7, its, rfl, bk, ek, lk, gk⟩ := hP
        refine ⟨_, rfl, _, rfl, x, y, _, _, rfl, hdx2.but bk emT, hdy2.but bk emT, fun H' s' => ⟨_, rfl, iteF ?_⟩⟩
        exact ⟨_, _, _, its, rfl, (bt2.trans bk).trans (But.of s'), s' _ _ ek, by have : [V.ref D1, V.ref D2].length = 2 := rfl; omega, gk.but (But.of s') ek⟩
    · obtain ⟨y4, y5, y7, items, rfl, bt, em, li, gd⟩ := hP
      refine ⟨_, rfl, ml, rfl, ⟨_, SqL.of em⟩, for_it (walk_list (xs := items)) (fun j σ Hk => ∃ (z4 z5 z6 z7 z8 z9 z10 : Option V), σ = [some (.ref a), some (.ref b), some (.ref tp), some (.ref ml), z4, z5, z6, z7, z8, z9, z10, none] ∧ Same Hi Hk)
        ⟨_, _, _, _, _, _, _, rfl, Same.refl _⟩ (fun j σ Hk hj hP => ?_) (fun j v σ Hk Hk' hj hP hv => ?_) (fun σ Hk hP => ?_)⟩
      · obtain ⟨_, _, _, _, _, _, _, _, sk⟩ := hP
        exact SqL.of (sk _ _ em)
      · obtain ⟨z4, z5, z6, z7, z8, z9, z10, rfl, sk⟩ := hP
        obtain ⟨rfl, hv⟩ := hv
        obtain ⟨t, l, x, y, d, d', rfl, ht, nl, ls, dx, dy⟩ := gd v (List.mem_of_getElem? hv)
        refine ⟨t, _, rfl, .inl (.inl (sk _ _ ht)), rfl, _, _, rfl, _, _, rfl, _, _, rfl, rfl, ?_⟩
        refine ⟨_, rfl, _, rfl, _, rfl, l, x, y, d, d', rfl, ls.mono sk, dx.mono sk, dy.mono sk, fun H' s' => ⟨_, rfl, iteF ?_⟩⟩
        have ls' := (ls.mono sk).mono s'
        obtain ⟨as, el, me⟩ := ls'
        refine ⟨_, rfl, l, _, rfl, SqL.of el, for_it (walk_enum (xs := (List.range 14).map fun k => .ref (as k))) (fun k σ Hm => ∃ (z6 z8 z9 z10 : Option V), σ = [some (.ref a), some (.ref b), some (.ref tp), some (.ref ml), some x, some y, z6, some (.ref l), z8, z9, z10, none] ∧ Same H' Hm)
          ⟨_, _, _, _, rfl, Same.refl _⟩ (fun k σ Hm hk hP => ?_) (fun k v σ Hm Hm' hk hP hv => ?_) (fun σ Hm hP => ?_)⟩
        · obtain ⟨_, _, _, _, _, sm⟩ := hP
          exact SqL.of (sm _ _ el)
        · obtain ⟨z6, z8, z9, z10, rfl, sm⟩ := hP
          have hk14 : k < 14 := by simpa using hk
          obtain ⟨TT, kx, ek, rfl, nT, rfl, hkx, hek⟩ := hv
          cases hkx
          obtain rfl : ek = .ref (as k) := by
            have hek2 : ((List.range 14).map fun k => V.ref (as k))[k]? = some ek := hek
            rw [List.getElem?_map, List.getElem?_range hk14] at hek2
            exact (Option.some.inj hek2).symm
          refine ⟨TT, _, rfl, .inl (.inl upd_same), rfl, _, _, rfl, _, _, rfl, rfl, ?_⟩
          have sn := sm.trans (same_new nT (o := .tup [.int k, .ref (as k)]))
          have ex := (me k hk14).mono sn
          refine ⟨_, rfl, as k, k, x, y, rfl, hk14, ex, fun p H5 np s5 ep => ?_⟩
          refine ⟨14, rfl, by decide, by decide, fun D nD => lc_it walk_range (fun i H => Same H5 H ∧ H D = some (.lst ((List.range i).map fun j => .bl (j == k)))) ⟨same_new nD, upd_same⟩ (fun _ _ _ _ => trivial) (fun i v H H' hi pv yv => ?_) (fun H6 pv => ?_)⟩
          · obtain ⟨rfl, rfl⟩ := yv
            refine ⟨rfl, ?_⟩
            change tOp rEq (tVar 11) (tVar 6) _ H' _
            have e1 : decide (V.int (0 + (i : Int)) = V.int (k : Int)) = (i == k) := by
              rw [dec_int, Int.zero_add, Bool.eq_iff_iff]
              simp
              omega
            refine ⟨_, rfl, _, rfl, rfl, _, pv.2, Nat.lt_of_le_of_lt (show _ ≤ 14 by rw [List.length_map, List.length_range]; have : i < 14 := hi; omega) (by rw [sizeLine_eq]; decide), fun b o q => by rw [upd_ne (ne_of_none q nD)]; exact pv.1 _ _ q, ?_⟩
            rw [upd_same, e1, List.range_succ, List.map_append]
            rfl
          · have kB : SeqAt.shaped (.list ((List.range 14).map fun j => PyData.bool (j == k))) = true := shp (lay_bls _ _) (dep_bls _ _)
            refine ⟨.list ((List.range 14).map fun j => .bool (j == k)), .list ((List.range 14).map fun j => .bool (j == k)), .lst (SqL.of (pv.1 _ _ ep)) (dp_bls _ _), .lst (SqL.of pv.2) (dp_bls _ _), kB, kB, _, rfl, ite2 (fun c => absurd c (by rw [SeqAt.eqv_refl _ (SeqAt.canLay_of_shaped kB)]; decide)) (fun c => ?_)⟩
            have s7 := sn.trans (s5.trans pv.1)
            obtain ⟨dd2, hh2, hd2⟩ := ((me k hk14).mono s7).dict
            refine ⟨_, rfl, as k, cl T k, dd2, _, _, _, rfl, hh2, hd2, exi T hk14, fun u r => r, (kitB T hk14).1, _, rfl, ite2 (fun c2 => ?_) (fun c2 => ?_)⟩
            refine ⟨_, rfl, as k, cl T k, dd2, _, _, _, rfl, hh2, hd2, exi T hk14, fun u r => r, (kitB T hk14).2.1, ?_⟩
            refine ⟨_, rfl, _, rfl, as k, cl T k, dd2, _, _, _, rfl, hh2, hd2, exi T hk14, fun u r => r, (kitB T hk14).2.2.1, _, rfl, as k, cl T k, dd2, _, _, _, rfl, hh2, hd2, exi T hk14, fun u r => r, (kitB T hk14).2.2.2.1, _, rfl, as k, cl T k, dd2, _, _, _, rfl, hh2, hd2, exi T hk14, fun u r => r, (kitB T hk14).2.2.2.2, (by rw [sizeLine_eq]; exact (by decide : 4 ≤ 16777216)), fun p2 np2 => ?_⟩
            have s8 := s7.trans (same_new np2 (o := .lst [.bl (decide (k < 11)), .bl (decide (k = 11)), .bl (decide (k = 12)), .bl (decide (k = 13))]))
            refine ⟨_, rfl, _, rfl, _, _, rfl, rfl, _, rfl, rfl, _, rfl, rfl, _, rfl, rfl, (by rw [sizeLine_eq]; exact (by decide : 4 ≤ 16777216)), fun p3 np3 => ?_⟩
            have s9 := s8.trans (same_new np3 (o := .lst [.bl (decide ((k : Int) < 11)), .bl (decide (V.int (k : Int) = V.int 11)), .bl (decide (V.int (k : Int) = V.int 12)), .bl (decide (V.int (k : Int) = V.int 13))]))
            have b0 : decide ((k : Int) < 11) = decide (k < 11) := by rw [Bool.eq_iff_iff]; simp; omega
            have b1 : decide (V.int (k : Int) = V.int 11) = decide (k = 11) := by rw [dec_int, Bool.eq_iff_iff]; simp; omega
            have b2 : decide (V.int (k : Int) = V.int 12) = decide (k = 12) := by rw [dec_int, Bool.eq_iff_iff]; simp; omega
            have b3 : decide (V.int (k : Int) = V.int 13) = decide (k = 13) := by rw [dec_int, Bool.eq_iff_iff]; simp; omega
            refine ⟨.list [.bool (decide (k < 11)), .bool (decide (k = 11)), .bool (decide (k = 12)), .bool (decide (k = 13))], .list [.bool (decide ((k : Int) < 11)), .bool (decide (V.int (k : Int) = V.int 11)), .bool (decide (V.int (k : Int) = V.int 12)), .bool (decide (V.int (k : Int) = V.int 13))], .lst (SqL.of (same_new np3 _ _ upd_same)) (.cons (.bl _) (.cons (.bl _) (.cons (.bl _) (.cons (.bl _) .nil)))), .lst (SqL.of upd_same) (.cons (.bl _) (.cons (.bl _) (.cons (.bl _) (.cons (.bl _) .nil)))), shp rfl (by simp [PyData.depth, PyData.depthAll]), shp rfl (by simp [PyData.depth, PyData.depthAll]), _, rfl, ite2 (fun c => absurd c (by rw [b0, b1, b2, b3, SeqAt.eqv_refl _ rfl]; decide)) (fun c => ?_)⟩
            exact ⟨_, _, _, _, rfl, s9⟩
            rw [show false = decide (k < 11) from (Bool.eq_false_iff.mpr c2).symm]
            refine ⟨_, rfl, _, rfl, as k, cl T k, dd2, _, _, _, rfl, hh2, hd2, exi T hk14, fun u r => r, (kitB T hk14).2.2.1, _, rfl, as k, cl T k, dd2, _, _, _, rfl, hh2, hd2, exi T hk14, fun u r => r, (kitB T hk14).2.2.2.1, _, rfl, as k, cl T k, dd2, _, _, _, rfl, hh2, hd2, exi T hk14, fun u r => r, (kitB T hk14).2.2.2.2, (by rw [sizeLine_eq]; exact (by decide : 4 ≤ 16777216)), fun p2 np2 => ?_⟩
            have s8 := s7.trans (same_new np2 (o := .lst [.bl (decide (k < 11)), .bl (decide (k = 11)), .bl (decide (k = 12)), .bl (decide (k = 13))]))
            refine ⟨_, rfl, _, rfl, _, _, rfl, rfl, _, rfl, rfl, _, rfl, rfl, _, rfl, rfl, (by rw [sizeLine_eq]; exact (by decide : 4 ≤ 16777216)), fun p3 np3 => ?_⟩
            have s9 := s8.trans (same_new np3 (o := .lst [.bl (decide ((k : Int) < 11)), .bl (decide (V.int (k : Int) = V.int 11)), .bl (decide (V.int (k : Int) = V.int 12)), .bl (decide (V.int (k : Int) = V.int 13))]))
            have b0 : decide ((k : Int) < 11) = decide (k < 11) := by rw [Bool.eq_iff_iff]; simp; omega
            have b1 : decide (V.int (k : Int) = V.int 11) = decide (k = 11) := by rw [dec_int, Bool.eq_iff_iff]; simp; omega
            have b2 : decide (V.int (k : Int) = V.int 12) = decide (k = 12) := by rw [dec_int, Bool.eq_iff_iff]; simp; omega
            have b3 : decide (V.int (k : Int) = V.int 13) = decide (k = 13) := by rw [dec_int, Bool.eq_iff_iff]; simp; omega
            refine ⟨.list [.bool (decide (k < 11)), .bool (decide (k = 11)), .bool (decide (k = 12)), .bool (decide (k = 13))], .list [.bool (decide ((k : Int) < 11)), .bool (decide (V.int (k : Int) = V.int 11)), .bool (decide (V.int (k : Int) = V.int 12)), .bool (decide (V.int (k : Int) = V.int 13))], .lst (SqL.of (same_new np3 _ _ upd_same)) (.cons (.bl _) (.cons (.bl _) (.cons (.bl _) (.cons (.bl _) .nil)))), .lst (SqL.of upd_same) (.cons (.bl _) (.cons (.bl _) (.cons (.bl _) (.cons (.bl _) .nil)))), shp rfl (by simp [PyData.depth, PyData.depthAll]), shp rfl (by simp [PyData.depth, PyData.depthAll]), _, rfl, ite2 (fun c => absurd c (by rw [b0, b1, b2, b3, SeqAt.eqv_refl _ rfl]; decide)) (fun c => ?_)⟩
            exact ⟨_, _, _, _, rfl, s9⟩
        · obtain ⟨z6, z8, z9, z10, rfl, sm⟩ := hP
          exact ⟨_, _, _, _, _, _, _, rfl, (sk.trans s').trans sm⟩
      · exact q Hk
end

theorem all_mk {l : PySem.W.OpenLaw} {w : World} {K : PySem.W.Frag} {h : Heap} {mg : Str → Option Value} {fa : Addr} (X : K.In h) (G : h.Ns mainGlobals mg) (hfa : mg "law" = some (.ref fa))
    {f_box : Addr} {od_box an_box : Option Addr} {sl_box : Array (Option Value)} {oc_box kV_box dc_box pm_box cd_box ct_box : Value}
    (a_box : PySem.W.nsIn K mainGlobals "_law_box" = some (some (.ref f_box))) (l_box : K.lookup f_box = some ⟨oc_box, od_box, .func (PySem.W.fnOf "_law_box" "_law_box" (defArgs st_box) (defBody st_box) (defScope st_box) .none kV_box dc_box pm_box an_box cd_box ct_box), sl_box⟩) (c_box : PySem.W.codeIn K cd_box "_law_box" = true) (k_box : PySem.W.keepIn K (.ref f_box) = true)
    {f_take : Addr} {od_take an_take : Option Addr} {sl_take : Array (Option Value)} {oc_take kV_take dc_take pm_take cd_take ct_take : Value}
    (a_take : PySem.W.nsIn K mainGlobals "_law_take" = some (some (.ref f_take))) (l_take : K.lookup f_take = some ⟨oc_take, od_take, .func (PySem.W.fnOf "_law_take" "_law_take" (defArgs st_take) (defBody st_take) (defScope st_take) .none kV_take dc_take pm_take an_take cd_take ct_take), sl_take⟩) (c_take : PySem.W.codeIn K cd_take "_law_take" = true) (k_take : PySem.W.keepIn K (.ref f_take) = true)
    {f_made : Addr} {od_made an_made : Option Addr} {sl_made : Array (Option Value)} {oc_made kV_made dc_made pm_made cd_made ct_made : Value}
    (a_made : PySem.W.nsIn K mainGlobals "_law_made" = some (some (.ref f_made))) (l_made : K.lookup f_made = some ⟨oc_made, od_made, .func (PySem.W.fnOf "_law_made" "_law_made" (defArgs st_made) (defBody st_made) (defScope st_made) .none kV_made dc_made pm_made an_made cd_made ct_made), sl_made⟩) (c_made : PySem.W.codeIn K cd_made "_law_made" = true) (k_made : PySem.W.keepIn K (.ref f_made) = true)
    {f_named : Addr} {od_named an_named : Option Addr} {sl_named : Array (Option Value)} {oc_named kV_named dc_named pm_named cd_named ct_named : Value}
    (a_named : PySem.W.nsIn K mainGlobals "_law_named" = some (some (.ref f_named))) (l_named : K.lookup f_named = some ⟨oc_named, od_named, .func (PySem.W.fnOf "_law_named" "_law_named" (defArgs st_named) (defBody st_named) (defScope st_named) .none kV_named dc_named pm_named an_named cd_named ct_named), sl_named⟩) (c_named : PySem.W.codeIn K cd_named "_law_named" = true) (k_named : PySem.W.keepIn K (.ref f_named) = true)
    {f_kinds : Addr} {od_kinds an_kinds : Option Addr} {sl_kinds : Array (Option Value)} {oc_kinds kV_kinds dc_kinds pm_kinds cd_kinds ct_kinds : Value}
    (a_kinds : PySem.W.nsIn K mainGlobals "_law_kinds" = some (some (.ref f_kinds))) (l_kinds : K.lookup f_kinds = some ⟨oc_kinds, od_kinds, .func (PySem.W.fnOf "_law_kinds" "_law_kinds" (defArgs st_kinds) (defBody st_kinds) (defScope st_kinds) .none kV_kinds dc_kinds pm_kinds an_kinds cd_kinds ct_kinds), sl_kinds⟩) (c_kinds : PySem.W.codeIn K cd_kinds "_law_kinds" = true) (k_kinds : PySem.W.keepIn K (.ref f_kinds) = true)
    {f_fields : Addr} {od_fields an_fields : Option Addr} {sl_fields : Array (Option Value)} {oc_fields kV_fields dc_fields pm_fields cd_fields ct_fields : Value}
    (a_fields : PySem.W.nsIn K mainGlobals "_law_fields" = some (some (.ref f_fields))) (l_fields : K.lookup f_fields = some ⟨oc_fields, od_fields, .func (PySem.W.fnOf "_law_fields" "_law_fields" (defArgs st_fields) (defBody st_fields) (defScope st_fields) .none kV_fields dc_fields pm_fields an_fields cd_fields ct_fields), sl_fields⟩) (c_fields : PySem.W.codeIn K cd_fields "_law_fields" = true) (k_fields : PySem.W.keepIn K (.ref f_fields) = true)
    {f_taken : Addr} {od_taken an_taken : Option Addr} {sl_taken : Array (Option Value)} {oc_taken kV_taken dc_taken pm_taken cd_taken ct_taken : Value}
    (a_taken : PySem.W.nsIn K mainGlobals "_law_taken" = some (some (.ref f_taken))) (l_taken : K.lookup f_taken = some ⟨oc_taken, od_taken, .func (PySem.W.fnOf "_law_taken" "_law_taken" (defArgs st_taken) (defBody st_taken) (defScope st_taken) .none kV_taken dc_taken pm_taken an_taken cd_taken ct_taken), sl_taken⟩) (c_taken : PySem.W.codeIn K cd_taken "_law_taken" = true) (k_taken : PySem.W.keepIn K (.ref f_taken) = true)
    {f_law : Addr} {od_law an_law : Option Addr} {sl_law : Array (Option Value)} {oc_law kV_law dc_law pm_law cd_law ct_law : Value}
    (a_law : PySem.W.nsIn K mainGlobals "law" = some (some (.ref f_law))) (l_law : K.lookup f_law = some ⟨oc_law, od_law, .func (PySem.W.fnOf "law" "law" (defArgs st_law) (defBody st_law) (defScope st_law) .none kV_law dc_law pm_law an_law cd_law ct_law), sl_law⟩) (c_law : PySem.W.codeIn K cd_law "law" = true) (k_law : PySem.W.keepIn K (.ref f_law) = true)
    (z_len : PySem.W.nsIn K mainGlobals "len" = some none)
    (z_int : PySem.W.nsIn K mainGlobals "int" = some none)
    (z_zip : PySem.W.nsIn K mainGlobals "zip" = some none)
    (z_isinstance : PySem.W.nsIn K mainGlobals "isinstance" = some none)
    (z_range : PySem.W.nsIn K mainGlobals "range" = some none)
    (z_enumerate : PySem.W.nsIn K mainGlobals "enumerate" = some none)
    (z_ValueError : PySem.W.nsIn K mainGlobals "ValueError" = some none)
    (z_ZeroDivisionError : PySem.W.nsIn K mainGlobals "ZeroDivisionError" = some none)
    (z_KeyError : PySem.W.nsIn K mainGlobals "KeyError" = some none)
    (z_IndexError : PySem.W.nsIn K mainGlobals "IndexError" = some none)
    (z_super : PySem.W.nsIn K mainGlobals "super" = some none)
    {CB : Addr}
    (aB : PySem.W.nsIn K mainGlobals "BoughError" = some (some (.ref CB))) (exB : PySem.W.subIn K (.ref CB) (.type "BaseException") = some true) (hdB : PySem.W.hasDictIn K CB = true) (tyB : PySem.W.typeIn K (.ref CB) = some (.type "type")) (opq : PySem.W.nsIn K cStatics "thirdparty.any" = some none) (topN : (l.prog.main.scope.names.lookup ("super" : Str)).isSome = false)
    (snC : PySem.W.specialIn K (.builtin "object.__class__") "__get__" = some (some (.builtin "getset_descriptor.__get__"))) (tkC : PySem.W.takesIn K (.builtin "object.__class__") = some true)
    {CTx fITx ccTx cdaTx : Addr} {nmXTx qXTx : Str} {NTx : Addr} {bsTx : List Value} {snTx : List Str} {subTx : List Value} {abTx : Bool} {colTx : Option Bool} {ddTx : Option Addr} {m0Tx m1Tx m2Tx m3Tx m5Tx : Option Value}
    (aCTx : PySem.W.nsIn K mainGlobals "NoText" = some (some (.ref CTx)))
    (xLTx : K.lookup CTx = some (excClassObj nmXTx qXTx CTx NTx bsTx [.ref CB, .type "ValueError", .type "Exception", .type "BaseException", .type "object"] true snTx subTx abTx colTx ddTx m0Tx m1Tx m2Tx m3Tx m5Tx "ValueError.__new__"))
    (iCTx : PySem.W.findIn K (.ref CTx) "__init__" = some (some (.ref fITx))) (tITx : PySem.W.typeIn K (.ref fITx) = some (.type "function"))
    {ocITx kVITx dcITx pmITx ctITx : Value} {odITx anITx : Option Addr} {slITx : Array (Option Value)} (lITx : K.lookup fITx = some ⟨ocITx, odITx, .func (PySem.W.ksFn "__init__" "NoText.__init__" (defArgs st_Tx) (defBody st_Tx) (defScope st_Tx) .none kVITx dcITx pmITx anITx (.ref cdaTx) ctITx ccTx), slITx⟩) (cITx : PySem.W.codeIn K (.ref cdaTx) "NoText.__init__" = true)
    {cclXTx : Value} {cddXTx : Option Addr} {vsXTx : Array Value} {ccsXTx : Array (Option Value)} (lcdTx : K.lookup cdaTx = some ⟨cclXTx, cddXTx, .fields vsXTx, ccsXTx⟩) {fileXTx : Str} {tfXTx : Tok} (vs2Tx : vsXTx[2]? = some (.str fileXTx tfXTx)) (fileETx : ((l.prog.main.file : Str) == fileXTx) = true)
    {clXTx : Value} {cldXTx : Option Addr} {cslXTx : Array (Option Value)} (lccTx : K.lookup ccTx = some ⟨clXTx, cldXTx, .cell (some (.ref CTx)), cslXTx⟩)
    (supCTx : PySem.W.ks_superIn K CTx CTx "__init__" = some (some (.builtin "ValueError.__init__")))
    (subBTx : PySem.W.subIn K (.ref CTx) (.type "ValueError") = some true) (subCTx : PySem.W.mroIn K CTx (.ref CTx) = some true) (kCTx : PySem.W.keepIn K (.ref CTx) = true) (exCTx : PySem.W.subIn K (.ref CTx) (.type "BaseException") = some true) (tyCTx : PySem.W.typeIn K (.ref CTx) = some (.type "type"))
    (gaCTx : PySem.W.findIn K (.ref CTx) "__getattribute__" = some (some (.builtin "BaseException.__getattribute__"))) (ggCTx : PySem.W.findIn K (.ref CTx) "__getattr__" = some none) (hdCTx : PySem.W.hasDictIn K CTx = true) (clCTx : PySem.W.findIn K (.ref CTx) "__class__" = some (some (.builtin "object.__class__"))) (mrCTx : PySem.W.mroIn K CTx (.type "object") = some true)
    (saCTx : PySem.W.findIn K (.ref CTx) "__setattr__" = some (some (.builtin "object.__setattr__"))) (nTx_row : PySem.W.findIn K (.ref CTx) "row" = some none)
    {CWd fIWd ccWd cdaWd : Addr} {nmXWd qXWd : Str} {NWd : Addr} {bsWd : List Value} {snWd : List Str} {subWd : List Value} {abWd : Bool} {colWd : Option Bool} {ddWd : Option Addr} {m0Wd m1Wd m2Wd m3Wd m5Wd : Option Value}
    (aCWd : PySem.W.nsIn K mainGlobals "NoWood" = some (some (.ref CWd)))
    (xLWd : K.lookup CWd = some (excClassObj nmXWd qXWd CWd NWd bsWd [.ref CB, .type "ValueError", .type "Exception", .type "BaseException", .type "object"] true snWd subWd abWd colWd ddWd m0Wd m1Wd m2Wd m3Wd m5Wd "ValueError.__new__"))
    (iCWd : PySem.W.findIn K (.ref CWd) "__init__" = some (some (.ref fIWd))) (tIWd : PySem.W.typeIn K (.ref fIWd) = some (.type "function"))
    {ocIWd kVIWd dcIWd pmIWd ctIWd : Value} {odIWd anIWd : Option Addr} {slIWd : Array (Option Value)} (lIWd : K.lookup fIWd = some ⟨ocIWd, odIWd, .func (PySem.W.ksFn "__init__" "NoWood.__init__" (defArgs st_Wd) (defBody st_Wd) (defScope st_Wd) .none kVIWd dcIWd pmIWd anIWd (.ref cdaWd) ctIWd ccWd), slIWd⟩) (cIWd : PySem.W.codeIn K (.ref cdaWd) "NoWood.__init__" = true)
    {cclXWd : Value} {cddXWd : Option Addr} {vsXWd : Array Value} {ccsXWd : Array (Option Value)} (lcdWd : K.lookup cdaWd = some ⟨cclXWd, cddXWd, .fields vsXWd, ccsXWd⟩) {fileXWd : Str} {tfXWd : Tok} (vs2Wd : vsXWd[2]? = some (.str fileXWd tfXWd)) (fileEWd : ((l.prog.main.file : Str) == fileXWd) = true)
    {clXWd : Value} {cldXWd : Option Addr} {cslXWd : Array (Option Value)} (lccWd : K.lookup ccWd = some ⟨clXWd, cldXWd, .cell (some (.ref CWd)), cslXWd⟩)
    (supCWd : PySem.W.ks_superIn K CWd CWd "__init__" = some (some (.builtin "ValueError.__init__")))
    (subBWd : PySem.W.subIn K (.ref CWd) (.type "ValueError") = some true) (subCWd : PySem.W.mroIn K CWd (.ref CWd) = some true) (kCWd : PySem.W.keepIn K (.ref CWd) = true) (exCWd : PySem.W.subIn K (.ref CWd) (.type "BaseException") = some true) (tyCWd : PySem.W.typeIn K (.ref CWd) = some (.type "type"))
    (gaCWd : PySem.W.findIn K (.ref CWd) "__getattribute__" = some (some (.builtin "BaseException.__getattribute__"))) (ggCWd : PySem.W.findIn K (.ref CWd) "__getattr__" = some none) (hdCWd : PySem.W.hasDictIn K CWd = true) (clCWd : PySem.W.findIn K (.ref CWd) "__class__" = some (some (.builtin "object.__class__"))) (mrCWd : PySem.W.mroIn K CWd (.type "object") = some true)
    (saCWd : PySem.W.findIn K (.ref CWd) "__setattr__" = some (some (.builtin "object.__setattr__"))) (nWd_word : PySem.W.findIn K (.ref CWd) "word" = some none) (nWd_name : PySem.W.findIn K (.ref CWd) "name" = some none)
    {CTr fITr ccTr cdaTr : Addr} {nmXTr qXTr : Str} {NTr : Addr} {bsTr : List Value} {snTr : List Str} {subTr : List Value} {abTr : Bool} {colTr : Option Bool} {ddTr : Option Addr} {m0Tr m1Tr m2Tr m3Tr m5Tr : Option Value}
    (aCTr : PySem.W.nsIn K mainGlobals "NoTree" = some (some (.ref CTr)))
    (xLTr : K.lookup CTr = some (excClassObj nmXTr qXTr CTr NTr bsTr [.ref CB, .type "ValueError", .type "Exception", .type "BaseException", .type "object"] true snTr subTr abTr colTr ddTr m0Tr m1Tr m2Tr m3Tr m5Tr "ValueError.__new__"))
    (iCTr : PySem.W.findIn K (.ref CTr) "__init__" = some (some (.ref fITr))) (tITr : PySem.W.typeIn K (.ref fITr) = some (.type "function"))
    {ocITr kVITr dcITr pmITr ctITr : Value} {odITr anITr : Option Addr} {slITr : Array (Option Value)} (lITr : K.lookup fITr = some ⟨ocITr, odITr, .func (PySem.W.ksFn "__init__" "NoTree.__init__" (defArgs st_Tr) (defBody st_Tr) (defScope st_Tr) .none kVITr dcITr pmITr anITr (.ref cdaTr) ctITr ccTr), slITr⟩) (cITr : PySem.W.codeIn K (.ref cdaTr) "NoTree.__init__" = true)
    {cclXTr : Value} {cddXTr : Option Addr} {vsXTr : Array Value} {ccsXTr : Array (Option Value)} (lcdTr : K.lookup cdaTr = some ⟨cclXTr, cddXTr, .fields vsXTr, ccsXTr⟩) {fileXTr : Str} {tfXTr : Tok} (vs2Tr : vsXTr[2]? = some (.str fileXTr tfXTr)) (fileETr : ((l.prog.main.file : Str) == fileXTr) = true)
    {clXTr : Value} {cldXTr : Option Addr} {cslXTr : Array (Option Value)} (lccTr : K.lookup ccTr = some ⟨clXTr, cldXTr, .cell (some (.ref CTr)), cslXTr⟩)
    (supCTr : PySem.W.ks_superIn K CTr CTr "__init__" = some (some (.builtin "ValueError.__init__")))
    (subBTr : PySem.W.subIn K (.ref CTr) (.type "ValueError") = some true) (subCTr : PySem.W.mroIn K CTr (.ref CTr) = some true) (kCTr : PySem.W.keepIn K (.ref CTr) = true) (exCTr : PySem.W.subIn K (.ref CTr) (.type "BaseException") = some true) (tyCTr : PySem.W.typeIn K (.ref CTr) = some (.type "type"))
    (gaCTr : PySem.W.findIn K (.ref CTr) "__getattribute__" = some (some (.builtin "BaseException.__getattribute__"))) (ggCTr : PySem.W.findIn K (.ref CTr) "__getattr__" = some none) (hdCTr : PySem.W.hasDictIn K CTr = true) (clCTr : PySem.W.findIn K (.ref CTr) "__class__" = some (some (.builtin "object.__class__"))) (mrCTr : PySem.W.mroIn K CTr (.type "object") = some true)
    (saCTr : PySem.W.findIn K (.ref CTr) "__setattr__" = some (some (.builtin "object.__setattr__"))) (nTr_at : PySem.W.findIn K (.ref CTr) "at" = some none)
    {CWo fIWo ccWo cdaWo : Addr} {nmXWo qXWo : Str} {NWo : Addr} {bsWo : List Value} {snWo : List Str} {subWo : List Value} {abWo : Bool} {colWo : Option Bool} {ddWo : Option Addr} {m0Wo m1Wo m2Wo m3Wo m5Wo : Option Value}
    (aCWo : PySem.W.nsIn K mainGlobals "NoWord" = some (some (.ref CWo)))
    (xLWo : K.lookup CWo = some (excClassObj nmXWo qXWo CWo NWo bsWo [.ref CB, .type "ValueError", .type "Exception", .type "BaseException", .type "object"] true snWo subWo abWo colWo ddWo m0Wo m1Wo m2Wo m3Wo m5Wo "ValueError.__new__"))
    (iCWo : PySem.W.findIn K (.ref CWo) "__init__" = some (some (.ref fIWo))) (tIWo : PySem.W.typeIn K (.ref fIWo) = some (.type "function"))
    {ocIWo kVIWo dcIWo pmIWo ctIWo : Value} {odIWo anIWo : Option Addr} {slIWo : Array (Option Value)} (lIWo : K.lookup fIWo = some ⟨ocIWo, odIWo, .func (PySem.W.ksFn "__init__" "NoWord.__init__" (defArgs st_Wo) (defBody st_Wo) (defScope st_Wo) .none kVIWo dcIWo pmIWo anIWo (.ref cdaWo) ctIWo ccWo), slIWo⟩) (cIWo : PySem.W.codeIn K (.ref cdaWo) "NoWord.__init__" = true)
    {cclXWo : Value} {cddXWo : Option Addr} {vsXWo : Array Value} {ccsXWo : Array (Option Value)} (lcdWo : K.lookup cdaWo = some ⟨cclXWo, cddXWo, .fields vsXWo, ccsXWo⟩) {fileXWo : Str} {tfXWo : Tok} (vs2Wo : vsXWo[2]? = some (.str fileXWo tfXWo)) (fileEWo : ((l.prog.main.file : Str) == fileXWo) = true)
    {clXWo : Value} {cldXWo : Option Addr} {cslXWo : Array (Option Value)} (lccWo : K.lookup ccWo = some ⟨clXWo, cldXWo, .cell (some (.ref CWo)), cslXWo⟩)
    (supCWo : PySem.W.ks_superIn K CWo CWo "__init__" = some (some (.builtin "ValueError.__init__")))
    (subBWo : PySem.W.subIn K (.ref CWo) (.type "ValueError") = some true) (subCWo : PySem.W.mroIn K CWo (.ref CWo) = some true) (kCWo : PySem.W.keepIn K (.ref CWo) = true) (exCWo : PySem.W.subIn K (.ref CWo) (.type "BaseException") = some true) (tyCWo : PySem.W.typeIn K (.ref CWo) = some (.type "type"))
    (gaCWo : PySem.W.findIn K (.ref CWo) "__getattribute__" = some (some (.builtin "BaseException.__getattribute__"))) (ggCWo : PySem.W.findIn K (.ref CWo) "__getattr__" = some none) (hdCWo : PySem.W.hasDictIn K CWo = true) (clCWo : PySem.W.findIn K (.ref CWo) "__class__" = some (some (.builtin "object.__class__"))) (mrCWo : PySem.W.mroIn K CWo (.type "object") = some true)
    (saCWo : PySem.W.findIn K (.ref CWo) "__setattr__" = some (some (.builtin "object.__setattr__"))) (nWo_at : PySem.W.findIn K (.ref CWo) "at" = some none)
    {CLo fILo ccLo cdaLo : Addr} {nmXLo qXLo : Str} {NLo : Addr} {bsLo : List Value} {snLo : List Str} {subLo : List Value} {abLo : Bool} {colLo : Option Bool} {ddLo : Option Addr} {m0Lo m1Lo m2Lo m3Lo m5Lo : Option Value}
    (aCLo : PySem.W.nsIn K mainGlobals "TooLong" = some (some (.ref CLo)))
    (xLLo : K.lookup CLo = some (excClassObj nmXLo qXLo CLo NLo bsLo [.ref CB, .type "ValueError", .type "Exception", .type "BaseException", .type "object"] true snLo subLo abLo colLo ddLo m0Lo m1Lo m2Lo m3Lo m5Lo "ValueError.__new__"))
    (iCLo : PySem.W.findIn K (.ref CLo) "__init__" = some (some (.ref fILo))) (tILo : PySem.W.typeIn K (.ref fILo) = some (.type "function"))
    {ocILo kVILo dcILo pmILo ctILo : Value} {odILo anILo : Option Addr} {slILo : Array (Option Value)} (lILo : K.lookup fILo = some ⟨ocILo, odILo, .func (PySem.W.ksFn "__init__" "TooLong.__init__" (defArgs st_Lo) (defBody st_Lo) (defScope st_Lo) .none kVILo dcILo pmILo anILo (.ref cdaLo) ctILo ccLo), slILo⟩) (cILo : PySem.W.codeIn K (.ref cdaLo) "TooLong.__init__" = true)
    {cclXLo : Value} {cddXLo : Option Addr} {vsXLo : Array Value} {ccsXLo : Array (Option Value)} (lcdLo : K.lookup cdaLo = some ⟨cclXLo, cddXLo, .fields vsXLo, ccsXLo⟩) {fileXLo : Str} {tfXLo : Tok} (vs2Lo : vsXLo[2]? = some (.str fileXLo tfXLo)) (fileELo : ((l.prog.main.file : Str) == fileXLo) = true)
    {clXLo : Value} {cldXLo : Option Addr} {cslXLo : Array (Option Value)} (lccLo : K.lookup ccLo = some ⟨clXLo, cldXLo, .cell (some (.ref CLo)), cslXLo⟩)
    (supCLo : PySem.W.ks_superIn K CLo CLo "__init__" = some (some (.builtin "ValueError.__init__")))
    (subBLo : PySem.W.subIn K (.ref CLo) (.type "ValueError") = some true) (subCLo : PySem.W.mroIn K CLo (.ref CLo) = some true) (kCLo : PySem.W.keepIn K (.ref CLo) = true) (exCLo : PySem.W.subIn K (.ref CLo) (.type "BaseException") = some true) (tyCLo : PySem.W.typeIn K (.ref CLo) = some (.type "type"))
    (gaCLo : PySem.W.findIn K (.ref CLo) "__getattribute__" = some (some (.builtin "BaseException.__getattribute__"))) (ggCLo : PySem.W.findIn K (.ref CLo) "__getattr__" = some none) (hdCLo : PySem.W.hasDictIn K CLo = true) (clCLo : PySem.W.findIn K (.ref CLo) "__class__" = some (some (.builtin "object.__class__"))) (mrCLo : PySem.W.mroIn K CLo (.type "object") = some true)
    (saCLo : PySem.W.findIn K (.ref CLo) "__setattr__" = some (some (.builtin "object.__setattr__"))) (nLo_most : PySem.W.findIn K (.ref CLo) "most" = some none)
    {CRd fIRd ccRd cdaRd : Addr} {nmXRd qXRd : Str} {NRd : Addr} {bsRd : List Value} {snRd : List Str} {subRd : List Value} {abRd : Bool} {colRd : Option Bool} {ddRd : Option Addr} {m0Rd m1Rd m2Rd m3Rd m5Rd : Option Value}
    (aCRd : PySem.W.nsIn K mainGlobals "NoReader" = some (some (.ref CRd)))
    (xLRd : K.lookup CRd = some (excClassObj nmXRd qXRd CRd NRd bsRd [.ref CB, .type "ValueError", .type "Exception", .type "BaseException", .type "object"] true snRd subRd abRd colRd ddRd m0Rd m1Rd m2Rd m3Rd m5Rd "ValueError.__new__"))
    (iCRd : PySem.W.findIn K (.ref CRd) "__init__" = some (some (.ref fIRd))) (tIRd : PySem.W.typeIn K (.ref fIRd) = some (.type "function"))
    {ocIRd kVIRd dcIRd pmIRd ctIRd : Value} {odIRd anIRd : Option Addr} {slIRd : Array (Option Value)} (lIRd : K.lookup fIRd = some ⟨ocIRd, odIRd, .func (PySem.W.ksFn "__init__" "NoReader.__init__" (defArgs st_Rd) (defBody st_Rd) (defScope st_Rd) .none kVIRd dcIRd pmIRd anIRd (.ref cdaRd) ctIRd ccRd), slIRd⟩) (cIRd : PySem.W.codeIn K (.ref cdaRd) "NoReader.__init__" = true)
    {cclXRd : Value} {cddXRd : Option Addr} {vsXRd : Array Value} {ccsXRd : Array (Option Value)} (lcdRd : K.lookup cdaRd = some ⟨cclXRd, cddXRd, .fields vsXRd, ccsXRd⟩) {fileXRd : Str} {tfXRd : Tok} (vs2Rd : vsXRd[2]? = some (.str fileXRd tfXRd)) (fileERd : ((l.prog.main.file : Str) == fileXRd) = true)
    {clXRd : Value} {cldXRd : Option Addr} {cslXRd : Array (Option Value)} (lccRd : K.lookup ccRd = some ⟨clXRd, cldXRd, .cell (some (.ref CRd)), cslXRd⟩)
    (supCRd : PySem.W.ks_superIn K CRd CRd "__init__" = some (some (.builtin "ValueError.__init__")))
    (subBRd : PySem.W.subIn K (.ref CRd) (.type "ValueError") = some true) (subCRd : PySem.W.mroIn K CRd (.ref CRd) = some true) (kCRd : PySem.W.keepIn K (.ref CRd) = true) (exCRd : PySem.W.subIn K (.ref CRd) (.type "BaseException") = some true) (tyCRd : PySem.W.typeIn K (.ref CRd) = some (.type "type"))
    (gaCRd : PySem.W.findIn K (.ref CRd) "__getattribute__" = some (some (.builtin "BaseException.__getattribute__"))) (ggCRd : PySem.W.findIn K (.ref CRd) "__getattr__" = some none) (hdCRd : PySem.W.hasDictIn K CRd = true) (clCRd : PySem.W.findIn K (.ref CRd) "__class__" = some (some (.builtin "object.__class__"))) (mrCRd : PySem.W.mroIn K CRd (.type "object") = some true)
    (saCRd : PySem.W.findIn K (.ref CRd) "__setattr__" = some (some (.builtin "object.__setattr__"))) (nRd_word : PySem.W.findIn K (.ref CRd) "word" = some none) (nRd_maker : PySem.W.findIn K (.ref CRd) "maker" = some none)
    {CFt fIFt ccFt cdaFt : Addr} {nmXFt qXFt : Str} {NFt : Addr} {bsFt : List Value} {snFt : List Str} {subFt : List Value} {abFt : Bool} {colFt : Option Bool} {ddFt : Option Addr} {m0Ft m1Ft m2Ft m3Ft m5Ft : Option Value}
    (aCFt : PySem.W.nsIn K mainGlobals "NoFit" = some (some (.ref CFt)))
    (xLFt : K.lookup CFt = some (excClassObj nmXFt qXFt CFt NFt bsFt [.ref CB, .type "ValueError", .type "Exception", .type "BaseException", .type "object"] true snFt subFt abFt colFt ddFt m0Ft m1Ft m2Ft m3Ft m5Ft "ValueError.__new__"))
    (iCFt : PySem.W.findIn K (.ref CFt) "__init__" = some (some (.ref fIFt))) (tIFt : PySem.W.typeIn K (.ref fIFt) = some (.type "function"))
    {ocIFt kVIFt dcIFt pmIFt ctIFt : Value} {odIFt anIFt : Option Addr} {slIFt : Array (Option Value)} (lIFt : K.lookup fIFt = some ⟨ocIFt, odIFt, .func (PySem.W.ksFn "__init__" "NoFit.__init__" (defArgs st_Ft) (defBody st_Ft) (defScope st_Ft) .none kVIFt dcIFt pmIFt anIFt (.ref cdaFt) ctIFt ccFt), slIFt⟩) (cIFt : PySem.W.codeIn K (.ref cdaFt) "NoFit.__init__" = true)
    {cclXFt : Value} {cddXFt : Option Addr} {vsXFt : Array Value} {ccsXFt : Array (Option Value)} (lcdFt : K.lookup cdaFt = some ⟨cclXFt, cddXFt, .fields vsXFt, ccsXFt⟩) {fileXFt : Str} {tfXFt : Tok} (vs2Ft : vsXFt[2]? = some (.str fileXFt tfXFt)) (fileEFt : ((l.prog.main.file : Str) == fileXFt) = true)
    {clXFt : Value} {cldXFt : Option Addr} {cslXFt : Array (Option Value)} (lccFt : K.lookup ccFt = some ⟨clXFt, cldXFt, .cell (some (.ref CFt)), cslXFt⟩)
    (supCFt : PySem.W.ks_superIn K CFt CFt "__init__" = some (some (.builtin "ValueError.__init__")))
    (subBFt : PySem.W.subIn K (.ref CFt) (.type "ValueError") = some true) (subCFt : PySem.W.mroIn K CFt (.ref CFt) = some true) (kCFt : PySem.W.keepIn K (.ref CFt) = true) (exCFt : PySem.W.subIn K (.ref CFt) (.type "BaseException") = some true) (tyCFt : PySem.W.typeIn K (.ref CFt) = some (.type "type"))
    (gaCFt : PySem.W.findIn K (.ref CFt) "__getattribute__" = some (some (.builtin "BaseException.__getattribute__"))) (ggCFt : PySem.W.findIn K (.ref CFt) "__getattr__" = some none) (hdCFt : PySem.W.hasDictIn K CFt = true) (clCFt : PySem.W.findIn K (.ref CFt) "__class__" = some (some (.builtin "object.__class__"))) (mrCFt : PySem.W.mroIn K CFt (.type "object") = some true)
    (saCFt : PySem.W.findIn K (.ref CFt) "__setattr__" = some (some (.builtin "object.__setattr__"))) (nFt_at : PySem.W.findIn K (.ref CFt) "at" = some none)
    {CPr fIPr ccPr cdaPr : Addr} {nmXPr qXPr : Str} {NPr : Addr} {bsPr : List Value} {snPr : List Str} {subPr : List Value} {abPr : Bool} {colPr : Option Bool} {ddPr : Option Addr} {m0Pr m1Pr m2Pr m3Pr m5Pr : Option Value}
    (aCPr : PySem.W.nsIn K mainGlobals "NoPrinter" = some (some (.ref CPr)))
    (xLPr : K.lookup CPr = some (excClassObj nmXPr qXPr CPr NPr bsPr [.ref CB, .type "ValueError", .type "Exception", .type "BaseException", .type "object"] true snPr subPr abPr colPr ddPr m0Pr m1Pr m2Pr m3Pr m5Pr "ValueError.__new__"))
    (iCPr : PySem.W.findIn K (.ref CPr) "__init__" = some (some (.ref fIPr))) (tIPr : PySem.W.typeIn K (.ref fIPr) = some (.type "function"))
    {ocIPr kVIPr dcIPr pmIPr ctIPr : Value} {odIPr anIPr : Option Addr} {slIPr : Array (Option Value)} (lIPr : K.lookup fIPr = some ⟨ocIPr, odIPr, .func (PySem.W.ksFn "__init__" "NoPrinter.__init__" (defArgs st_Pr) (defBody st_Pr) (defScope st_Pr) .none kVIPr dcIPr pmIPr anIPr (.ref cdaPr) ctIPr ccPr), slIPr⟩) (cIPr : PySem.W.codeIn K (.ref cdaPr) "NoPrinter.__init__" = true)
    {cclXPr : Value} {cddXPr : Option Addr} {vsXPr : Array Value} {ccsXPr : Array (Option Value)} (lcdPr : K.lookup cdaPr = some ⟨cclXPr, cddXPr, .fields vsXPr, ccsXPr⟩) {fileXPr : Str} {tfXPr : Tok} (vs2Pr : vsXPr[2]? = some (.str fileXPr tfXPr)) (fileEPr : ((l.prog.main.file : Str) == fileXPr) = true)
    {clXPr : Value} {cldXPr : Option Addr} {cslXPr : Array (Option Value)} (lccPr : K.lookup ccPr = some ⟨clXPr, cldXPr, .cell (some (.ref CPr)), cslXPr⟩)
    (supCPr : PySem.W.ks_superIn K CPr CPr "__init__" = some (some (.builtin "ValueError.__init__")))
    (subBPr : PySem.W.subIn K (.ref CPr) (.type "ValueError") = some true) (subCPr : PySem.W.mroIn K CPr (.ref CPr) = some true) (kCPr : PySem.W.keepIn K (.ref CPr) = true) (exCPr : PySem.W.subIn K (.ref CPr) (.type "BaseException") = some true) (tyCPr : PySem.W.typeIn K (.ref CPr) = some (.type "type"))
    (gaCPr : PySem.W.findIn K (.ref CPr) "__getattribute__" = some (some (.builtin "BaseException.__getattribute__"))) (ggCPr : PySem.W.findIn K (.ref CPr) "__getattr__" = some none) (hdCPr : PySem.W.hasDictIn K CPr = true) (clCPr : PySem.W.findIn K (.ref CPr) "__class__" = some (some (.builtin "object.__class__"))) (mrCPr : PySem.W.mroIn K CPr (.type "object") = some true)
    (saCPr : PySem.W.findIn K (.ref CPr) "__setattr__" = some (some (.builtin "object.__setattr__"))) (nPr_word : PySem.W.findIn K (.ref CPr) "word" = some none) (nPr_maker : PySem.W.findIn K (.ref CPr) "maker" = some none)
    {CTu fITu ccTu cdaTu : Addr} {nmXTu qXTu : Str} {NTu : Addr} {bsTu : List Value} {snTu : List Str} {subTu : List Value} {abTu : Bool} {colTu : Option Bool} {ddTu : Option Addr} {m0Tu m1Tu m2Tu m3Tu m5Tu : Option Value}
    (aCTu : PySem.W.nsIn K mainGlobals "NoTurner" = some (some (.ref CTu)))
    (xLTu : K.lookup CTu = some (excClassObj nmXTu qXTu CTu NTu bsTu [.ref CB, .type "ValueError", .type "Exception", .type "BaseException", .type "object"] true snTu subTu abTu colTu ddTu m0Tu m1Tu m2Tu m3Tu m5Tu "ValueError.__new__"))
    (iCTu : PySem.W.findIn K (.ref CTu) "__init__" = some (some (.ref fITu))) (tITu : PySem.W.typeIn K (.ref fITu) = some (.type "function"))
    {ocITu kVITu dcITu pmITu ctITu : Value} {odITu anITu : Option Addr} {slITu : Array (Option Value)} (lITu : K.lookup fITu = some ⟨ocITu, odITu, .func (PySem.W.ksFn "__init__" "NoTurner.__init__" (defArgs st_Tu) (defBody st_Tu) (defScope st_Tu) .none kVITu dcITu pmITu anITu (.ref cdaTu) ctITu ccTu), slITu⟩) (cITu : PySem.W.codeIn K (.ref cdaTu) "NoTurner.__init__" = true)
    {cclXTu : Value} {cddXTu : Option Addr} {vsXTu : Array Value} {ccsXTu : Array (Option Value)} (lcdTu : K.lookup cdaTu = some ⟨cclXTu, cddXTu, .fields vsXTu, ccsXTu⟩) {fileXTu : Str} {tfXTu : Tok} (vs2Tu : vsXTu[2]? = some (.str fileXTu tfXTu)) (fileETu : ((l.prog.main.file : Str) == fileXTu) = true)
    {clXTu : Value} {cldXTu : Option Addr} {cslXTu : Array (Option Value)} (lccTu : K.lookup ccTu = some ⟨clXTu, cldXTu, .cell (some (.ref CTu)), cslXTu⟩)
    (supCTu : PySem.W.ks_superIn K CTu CTu "__init__" = some (some (.builtin "ValueError.__init__")))
    (subBTu : PySem.W.subIn K (.ref CTu) (.type "ValueError") = some true) (subCTu : PySem.W.mroIn K CTu (.ref CTu) = some true) (kCTu : PySem.W.keepIn K (.ref CTu) = true) (exCTu : PySem.W.subIn K (.ref CTu) (.type "BaseException") = some true) (tyCTu : PySem.W.typeIn K (.ref CTu) = some (.type "type"))
    (gaCTu : PySem.W.findIn K (.ref CTu) "__getattribute__" = some (some (.builtin "BaseException.__getattribute__"))) (ggCTu : PySem.W.findIn K (.ref CTu) "__getattr__" = some none) (hdCTu : PySem.W.hasDictIn K CTu = true) (clCTu : PySem.W.findIn K (.ref CTu) "__class__" = some (some (.builtin "object.__class__"))) (mrCTu : PySem.W.mroIn K CTu (.type "object") = some true)
    (saCTu : PySem.W.findIn K (.ref CTu) "__setattr__" = some (some (.builtin "object.__setattr__"))) (nTu_word : PySem.W.findIn K (.ref CTu) "word" = some none) (nTu_maker : PySem.W.findIn K (.ref CTu) "maker" = some none)
    {CWi fIWi ccWi cdaWi : Addr} {nmXWi qXWi : Str} {NWi : Addr} {bsWi : List Value} {snWi : List Str} {subWi : List Value} {abWi : Bool} {colWi : Option Bool} {ddWi : Option Addr} {m0Wi m1Wi m2Wi m3Wi m5Wi : Option Value}
    (aCWi : PySem.W.nsIn K mainGlobals "TooWide" = some (some (.ref CWi)))
    (xLWi : K.lookup CWi = some (excClassObj nmXWi qXWi CWi NWi bsWi [.ref CB, .type "ValueError", .type "Exception", .type "BaseException", .type "object"] true snWi subWi abWi colWi ddWi m0Wi m1Wi m2Wi m3Wi m5Wi "ValueError.__new__"))
    (iCWi : PySem.W.findIn K (.ref CWi) "__init__" = some (some (.ref fIWi))) (tIWi : PySem.W.typeIn K (.ref fIWi) = some (.type "function"))
    {ocIWi kVIWi dcIWi pmIWi ctIWi : Value} {odIWi anIWi : Option Addr} {slIWi : Array (Option Value)} (lIWi : K.lookup fIWi = some ⟨ocIWi, odIWi, .func (PySem.W.ksFn "__init__" "TooWide.__init__" (defArgs st_Wi) (defBody st_Wi) (defScope st_Wi) .none kVIWi dcIWi pmIWi anIWi (.ref cdaWi) ctIWi ccWi), slIWi⟩) (cIWi : PySem.W.codeIn K (.ref cdaWi) "TooWide.__init__" = true)
    {cclXWi : Value} {cddXWi : Option Addr} {vsXWi : Array Value} {ccsXWi : Array (Option Value)} (lcdWi : K.lookup cdaWi = some ⟨cclXWi, cddXWi, .fields vsXWi, ccsXWi⟩) {fileXWi : Str} {tfXWi : Tok} (vs2Wi : vsXWi[2]? = some (.str fileXWi tfXWi)) (fileEWi : ((l.prog.main.file : Str) == fileXWi) = true)
    {clXWi : Value} {cldXWi : Option Addr} {cslXWi : Array (Option Value)} (lccWi : K.lookup ccWi = some ⟨clXWi, cldXWi, .cell (some (.ref CWi)), cslXWi⟩)
    (supCWi : PySem.W.ks_superIn K CWi CWi "__init__" = some (some (.builtin "ValueError.__init__")))
    (subBWi : PySem.W.subIn K (.ref CWi) (.type "ValueError") = some true) (subCWi : PySem.W.mroIn K CWi (.ref CWi) = some true) (kCWi : PySem.W.keepIn K (.ref CWi) = true) (exCWi : PySem.W.subIn K (.ref CWi) (.type "BaseException") = some true) (tyCWi : PySem.W.typeIn K (.ref CWi) = some (.type "type"))
    (gaCWi : PySem.W.findIn K (.ref CWi) "__getattribute__" = some (some (.builtin "BaseException.__getattribute__"))) (ggCWi : PySem.W.findIn K (.ref CWi) "__getattr__" = some none) (hdCWi : PySem.W.hasDictIn K CWi = true) (clCWi : PySem.W.findIn K (.ref CWi) "__class__" = some (some (.builtin "object.__class__"))) (mrCWi : PySem.W.mroIn K CWi (.type "object") = some true)
    (saCWi : PySem.W.findIn K (.ref CWi) "__setattr__" = some (some (.builtin "object.__setattr__"))) (nWi_rooms : PySem.W.findIn K (.ref CWi) "rooms" = some none)
    {CRo fIRo ccRo cdaRo : Addr} {nmXRo qXRo : Str} {NRo : Addr} {bsRo : List Value} {snRo : List Str} {subRo : List Value} {abRo : Bool} {colRo : Option Bool} {ddRo : Option Addr} {m0Ro m1Ro m2Ro m3Ro m5Ro : Option Value}
    (aCRo : PySem.W.nsIn K mainGlobals "NoRow" = some (some (.ref CRo)))
    (xLRo : K.lookup CRo = some (excClassObj nmXRo qXRo CRo NRo bsRo [.ref CB, .type "ValueError", .type "Exception", .type "BaseException", .type "object"] true snRo subRo abRo colRo ddRo m0Ro m1Ro m2Ro m3Ro m5Ro "ValueError.__new__"))
    (iCRo : PySem.W.findIn K (.ref CRo) "__init__" = some (some (.ref fIRo))) (tIRo : PySem.W.typeIn K (.ref fIRo) = some (.type "function"))
    {ocIRo kVIRo dcIRo pmIRo ctIRo : Value} {odIRo anIRo : Option Addr} {slIRo : Array (Option Value)} (lIRo : K.lookup fIRo = some ⟨ocIRo, odIRo, .func (PySem.W.ksFn "__init__" "NoRow.__init__" (defArgs st_Ro) (defBody st_Ro) (defScope st_Ro) .none kVIRo dcIRo pmIRo anIRo (.ref cdaRo) ctIRo ccRo), slIRo⟩) (cIRo : PySem.W.codeIn K (.ref cdaRo) "NoRow.__init__" = true)
    {cclXRo : Value} {cddXRo : Option Addr} {vsXRo : Array Value} {ccsXRo : Array (Option Value)} (lcdRo : K.lookup cdaRo = some ⟨cclXRo, cddXRo, .fields vsXRo, ccsXRo⟩) {fileXRo : Str} {tfXRo : Tok} (vs2Ro : vsXRo[2]? = some (.str fileXRo tfXRo)) (fileERo : ((l.prog.main.file : Str) == fileXRo) = true)
    {clXRo : Value} {cldXRo : Option Addr} {cslXRo : Array (Option Value)} (lccRo : K.lookup ccRo = some ⟨clXRo, cldXRo, .cell (some (.ref CRo)), cslXRo⟩)
    (supCRo : PySem.W.ks_superIn K CRo CRo "__init__" = some (some (.builtin "ValueError.__init__")))
    (subBRo : PySem.W.subIn K (.ref CRo) (.type "ValueError") = some true) (subCRo : PySem.W.mroIn K CRo (.ref CRo) = some true) (kCRo : PySem.W.keepIn K (.ref CRo) = true) (exCRo : PySem.W.subIn K (.ref CRo) (.type "BaseException") = some true) (tyCRo : PySem.W.typeIn K (.ref CRo) = some (.type "type"))
    (gaCRo : PySem.W.findIn K (.ref CRo) "__getattribute__" = some (some (.builtin "BaseException.__getattribute__"))) (ggCRo : PySem.W.findIn K (.ref CRo) "__getattr__" = some none) (hdCRo : PySem.W.hasDictIn K CRo = true) (clCRo : PySem.W.findIn K (.ref CRo) "__class__" = some (some (.builtin "object.__class__"))) (mrCRo : PySem.W.mroIn K CRo (.type "object") = some true)
    (saCRo : PySem.W.findIn K (.ref CRo) "__setattr__" = some (some (.builtin "object.__setattr__")))
    {CNu fINu ccNu cdaNu : Addr} {nmXNu qXNu : Str} {NNu : Addr} {bsNu : List Value} {snNu : List Str} {subNu : List Value} {abNu : Bool} {colNu : Option Bool} {ddNu : Option Addr} {m0Nu m1Nu m2Nu m3Nu m5Nu : Option Value}
    (aCNu : PySem.W.nsIn K mainGlobals "Nought" = some (some (.ref CNu)))
    (xLNu : K.lookup CNu = some (excClassObj nmXNu qXNu CNu NNu bsNu [.type "ZeroDivisionError", .type "ArithmeticError", .type "Exception", .type "BaseException", .type "object"] true snNu subNu abNu colNu ddNu m0Nu m1Nu m2Nu m3Nu m5Nu "ZeroDivisionError.__new__"))
    (iCNu : PySem.W.findIn K (.ref CNu) "__init__" = some (some (.ref fINu))) (tINu : PySem.W.typeIn K (.ref fINu) = some (.type "function"))
    {ocINu kVINu dcINu pmINu ctINu : Value} {odINu anINu : Option Addr} {slINu : Array (Option Value)} (lINu : K.lookup fINu = some ⟨ocINu, odINu, .func (PySem.W.ksFn "__init__" "Nought.__init__" (defArgs st_Nu) (defBody st_Nu) (defScope st_Nu) .none kVINu dcINu pmINu anINu (.ref cdaNu) ctINu ccNu), slINu⟩) (cINu : PySem.W.codeIn K (.ref cdaNu) "Nought.__init__" = true)
    {cclXNu : Value} {cddXNu : Option Addr} {vsXNu : Array Value} {ccsXNu : Array (Option Value)} (lcdNu : K.lookup cdaNu = some ⟨cclXNu, cddXNu, .fields vsXNu, ccsXNu⟩) {fileXNu : Str} {tfXNu : Tok} (vs2Nu : vsXNu[2]? = some (.str fileXNu tfXNu)) (fileENu : ((l.prog.main.file : Str) == fileXNu) = true)
    {clXNu : Value} {cldXNu : Option Addr} {cslXNu : Array (Option Value)} (lccNu : K.lookup ccNu = some ⟨clXNu, cldXNu, .cell (some (.ref CNu)), cslXNu⟩)
    (supCNu : PySem.W.ks_superIn K CNu CNu "__init__" = some (some (.builtin "ZeroDivisionError.__init__")))
    (subBNu : PySem.W.subIn K (.ref CNu) (.type "ZeroDivisionError") = some true) (subCNu : PySem.W.mroIn K CNu (.ref CNu) = some true) (kCNu : PySem.W.keepIn K (.ref CNu) = true) (exCNu : PySem.W.subIn K (.ref CNu) (.type "BaseException") = some true) (tyCNu : PySem.W.typeIn K (.ref CNu) = some (.type "type"))
    (gaCNu : PySem.W.findIn K (.ref CNu) "__getattribute__" = some (some (.builtin "BaseException.__getattribute__"))) (ggCNu : PySem.W.findIn K (.ref CNu) "__getattr__" = some none) (hdCNu : PySem.W.hasDictIn K CNu = true) (clCNu : PySem.W.findIn K (.ref CNu) "__class__" = some (some (.builtin "object.__class__"))) (mrCNu : PySem.W.mroIn K CNu (.type "object") = some true)
    (saCNu : PySem.W.findIn K (.ref CNu) "__setattr__" = some (some (.builtin "object.__setattr__")))
    {CKe fIKe ccKe cdaKe : Addr} {nmXKe qXKe : Str} {NKe : Addr} {bsKe : List Value} {snKe : List Str} {subKe : List Value} {abKe : Bool} {colKe : Option Bool} {ddKe : Option Addr} {m0Ke m1Ke m2Ke m3Ke m5Ke : Option Value}
    (aCKe : PySem.W.nsIn K mainGlobals "NotKept" = some (some (.ref CKe)))
    (xLKe : K.lookup CKe = some (excClassObj nmXKe qXKe CKe NKe bsKe [.type "KeyError", .type "LookupError", .type "Exception", .type "BaseException", .type "object"] true snKe subKe abKe colKe ddKe m0Ke m1Ke m2Ke m3Ke m5Ke "LookupError.__new__"))
    (iCKe : PySem.W.findIn K (.ref CKe) "__init__" = some (some (.ref fIKe))) (tIKe : PySem.W.typeIn K (.ref fIKe) = some (.type "function"))
    {ocIKe kVIKe dcIKe pmIKe ctIKe : Value} {odIKe anIKe : Option Addr} {slIKe : Array (Option Value)} (lIKe : K.lookup fIKe = some ⟨ocIKe, odIKe, .func (PySem.W.ksFn "__init__" "NotKept.__init__" (defArgs st_Ke) (defBody st_Ke) (defScope st_Ke) .none kVIKe dcIKe pmIKe anIKe (.ref cdaKe) ctIKe ccKe), slIKe⟩) (cIKe : PySem.W.codeIn K (.ref cdaKe) "NotKept.__init__" = true)
    {cclXKe : Value} {cddXKe : Option Addr} {vsXKe : Array Value} {ccsXKe : Array (Option Value)} (lcdKe : K.lookup cdaKe = some ⟨cclXKe, cddXKe, .fields vsXKe, ccsXKe⟩) {fileXKe : Str} {tfXKe : Tok} (vs2Ke : vsXKe[2]? = some (.str fileXKe tfXKe)) (fileEKe : ((l.prog.main.file : Str) == fileXKe) = true)
    {clXKe : Value} {cldXKe : Option Addr} {cslXKe : Array (Option Value)} (lccKe : K.lookup ccKe = some ⟨clXKe, cldXKe, .cell (some (.ref CKe)), cslXKe⟩)
    (supCKe : PySem.W.ks_superIn K CKe CKe "__init__" = some (some (.builtin "KeyError.__init__")))
    (subBKe : PySem.W.subIn K (.ref CKe) (.type "KeyError") = some true) (subCKe : PySem.W.mroIn K CKe (.ref CKe) = some true) (kCKe : PySem.W.keepIn K (.ref CKe) = true) (exCKe : PySem.W.subIn K (.ref CKe) (.type "BaseException") = some true) (tyCKe : PySem.W.typeIn K (.ref CKe) = some (.type "type"))
    (gaCKe : PySem.W.findIn K (.ref CKe) "__getattribute__" = some (some (.builtin "BaseException.__getattribute__"))) (ggCKe : PySem.W.findIn K (.ref CKe) "__getattr__" = some none) (hdCKe : PySem.W.hasDictIn K CKe = true) (clCKe : PySem.W.findIn K (.ref CKe) "__class__" = some (some (.builtin "object.__class__"))) (mrCKe : PySem.W.mroIn K CKe (.type "object") = some true)
    (saCKe : PySem.W.findIn K (.ref CKe) "__setattr__" = some (some (.builtin "object.__setattr__"))) (nKe_name : PySem.W.findIn K (.ref CKe) "name" = some none)
    {CBo fIBo ccBo cdaBo : Addr} {nmXBo qXBo : Str} {NBo : Addr} {bsBo : List Value} {snBo : List Str} {subBo : List Value} {abBo : Bool} {colBo : Option Bool} {ddBo : Option Addr} {m0Bo m1Bo m2Bo m3Bo m5Bo : Option Value}
    (aCBo : PySem.W.nsIn K mainGlobals "NoBox" = some (some (.ref CBo)))
    (xLBo : K.lookup CBo = some (excClassObj nmXBo qXBo CBo NBo bsBo [.type "IndexError", .type "LookupError", .type "Exception", .type "BaseException", .type "object"] true snBo subBo abBo colBo ddBo m0Bo m1Bo m2Bo m3Bo m5Bo "IndexError.__new__"))
    (iCBo : PySem.W.findIn K (.ref CBo) "__init__" = some (some (.ref fIBo))) (tIBo : PySem.W.typeIn K (.ref fIBo) = some (.type "function"))
    {ocIBo kVIBo dcIBo pmIBo ctIBo : Value} {odIBo anIBo : Option Addr} {slIBo : Array (Option Value)} (lIBo : K.lookup fIBo = some ⟨ocIBo, odIBo, .func (PySem.W.ksFn "__init__" "NoBox.__init__" (defArgs st_Bo) (defBody st_Bo) (defScope st_Bo) .none kVIBo dcIBo pmIBo anIBo (.ref cdaBo) ctIBo ccBo), slIBo⟩) (cIBo : PySem.W.codeIn K (.ref cdaBo) "NoBox.__init__" = true)
    {cclXBo : Value} {cddXBo : Option Addr} {vsXBo : Array Value} {ccsXBo : Array (Option Value)} (lcdBo : K.lookup cdaBo = some ⟨cclXBo, cddXBo, .fields vsXBo, ccsXBo⟩) {fileXBo : Str} {tfXBo : Tok} (vs2Bo : vsXBo[2]? = some (.str fileXBo tfXBo)) (fileEBo : ((l.prog.main.file : Str) == fileXBo) = true)
    {clXBo : Value} {cldXBo : Option Addr} {cslXBo : Array (Option Value)} (lccBo : K.lookup ccBo = some ⟨clXBo, cldXBo, .cell (some (.ref CBo)), cslXBo⟩)
    (supCBo : PySem.W.ks_superIn K CBo CBo "__init__" = some (some (.builtin "IndexError.__init__")))
    (subBBo : PySem.W.subIn K (.ref CBo) (.type "IndexError") = some true) (subCBo : PySem.W.mroIn K CBo (.ref CBo) = some true) (kCBo : PySem.W.keepIn K (.ref CBo) = true) (exCBo : PySem.W.subIn K (.ref CBo) (.type "BaseException") = some true) (tyCBo : PySem.W.typeIn K (.ref CBo) = some (.type "type"))
    (gaCBo : PySem.W.findIn K (.ref CBo) "__getattribute__" = some (some (.builtin "BaseException.__getattribute__"))) (ggCBo : PySem.W.findIn K (.ref CBo) "__getattr__" = some none) (hdCBo : PySem.W.hasDictIn K CBo = true) (clCBo : PySem.W.findIn K (.ref CBo) "__class__" = some (some (.builtin "object.__class__"))) (mrCBo : PySem.W.mroIn K CBo (.type "object") = some true)
    (saCBo : PySem.W.findIn K (.ref CBo) "__setattr__" = some (some (.builtin "object.__setattr__"))) (nBo_box : PySem.W.findIn K (.ref CBo) "box" = some none)
    (ktTx : PySem.W.kitOne K (.ref CTx) (.ref CTx) = some true ∧ PySem.W.kitOne K (.ref CTx) (.ref CWd) = some false ∧ PySem.W.kitOne K (.ref CTx) (.ref CTr) = some false ∧ PySem.W.kitOne K (.ref CTx) (.ref CWo) = some false ∧ PySem.W.kitOne K (.ref CTx) (.ref CLo) = some false ∧ PySem.W.kitOne K (.ref CTx) (.ref CRd) = some false ∧ PySem.W.kitOne K (.ref CTx) (.ref CFt) = some false ∧ PySem.W.kitOne K (.ref CTx) (.ref CPr) = some false ∧ PySem.W.kitOne K (.ref CTx) (.ref CTu) = some false ∧ PySem.W.kitOne K (.ref CTx) (.ref CWi) = some false ∧ PySem.W.kitOne K (.ref CTx) (.ref CRo) = some false ∧ PySem.W.kitOne K (.ref CTx) (.ref CNu) = some false ∧ PySem.W.kitOne K (.ref CTx) (.ref CKe) = some false ∧ PySem.W.kitOne K (.ref CTx) (.ref CBo) = some false ∧ PySem.W.kitOne K (.ref CTx) (.ref CB) = some true ∧ PySem.W.kitOne K (.ref CTx) (.type "ValueError") = some true ∧ PySem.W.kitOne K (.ref CTx) (.type "ZeroDivisionError") = some false ∧ PySem.W.kitOne K (.ref CTx) (.type "KeyError") = some false ∧ PySem.W.kitOne K (.ref CTx) (.type "IndexError") = some false)
    (ktWd : PySem.W.kitOne K (.ref CWd) (.ref CTx) = some false ∧ PySem.W.kitOne K (.ref CWd) (.ref CWd) = some true ∧ PySem.W.kitOne K (.ref CWd) (.ref CTr) = some false ∧ PySem.W.kitOne K (.ref CWd) (.ref CWo) = some false ∧ PySem.W.kitOne K (.ref CWd) (.ref CLo) = some false ∧ PySem.W.kitOne K (.ref CWd) (.ref CRd) = some false ∧ PySem.W.kitOne K (.ref CWd) (.ref CFt) = some false ∧ PySem.W.kitOne K (.ref CWd) (.ref CPr) = some false ∧ PySem.W.kitOne K (.ref CWd) (.ref CTu) = some false ∧ PySem.W.kitOne K (.ref CWd) (.ref CWi) = some false ∧ PySem.W.kitOne K (.ref CWd) (.ref CRo) = some false ∧ PySem.W.kitOne K (.ref CWd) (.ref CNu) = some false ∧ PySem.W.kitOne K (.ref CWd) (.ref CKe) = some false ∧ PySem.W.kitOne K (.ref CWd) (.ref CBo) = some false ∧ PySem.W.kitOne K (.ref CWd) (.ref CB) = some true ∧ PySem.W.kitOne K (.ref CWd) (.type "ValueError") = some true ∧ PySem.W.kitOne K (.ref CWd) (.type "ZeroDivisionError") = some false ∧ PySem.W.kitOne K (.ref CWd) (.type "KeyError") = some false ∧ PySem.W.kitOne K (.ref CWd) (.type "IndexError") = some false)
    (ktTr : PySem.W.kitOne K (.ref CTr) (.ref CTx) = some false ∧ PySem.W.kitOne K (.ref CTr) (.ref CWd) = some false ∧ PySem.W.kitOne K (.ref CTr) (.ref CTr) = some true ∧ PySem.W.kitOne K (.ref CTr) (.ref CWo) = some false ∧ PySem.W.kitOne K (.ref CTr) (.ref CLo) = some false ∧ PySem.W.kitOne K (.ref CTr) (.ref CRd) = some false ∧ PySem.W.kitOne K (.ref CTr) (.ref CFt) = some false ∧ PySem.W.kitOne K (.ref CTr) (.ref CPr) = some false ∧ PySem.W.kitOne K (.ref CTr) (.ref CTu) = some false ∧ PySem.W.kitOne K (.ref CTr) (.ref CWi) = some false ∧ PySem.W.kitOne K (.ref CTr) (.ref CRo) = some false ∧ PySem.W.kitOne K (.ref CTr) (.ref CNu) = some false ∧ PySem.W.kitOne K (.ref CTr) (.ref CKe) = some false ∧ PySem.W.kitOne K (.ref CTr) (.ref CBo) = some false ∧ PySem.W.kitOne K (.ref CTr) (.ref CB) = some true ∧ PySem.W.kitOne K (.ref CTr) (.type "ValueError") = some true ∧ PySem.W.kitOne K (.ref CTr) (.type "ZeroDivisionError") = some false ∧ PySem.W.kitOne K (.ref CTr) (.type "KeyError") = some false ∧ PySem.W.kitOne K (.ref CTr) (.type "IndexError") = some false)
    (ktWo : PySem.W.kitOne K (.ref CWo) (.ref CTx) = some false ∧ PySem.W.kitOne K (.ref CWo) (.ref CWd) = some false ∧ PySem.W.kitOne K (.ref CWo) (.ref CTr) = some false ∧ PySem.W.kitOne K (.ref CWo) (.ref CWo) = some true ∧ PySem.W.kitOne K (.ref CWo) (.ref CLo) = some false ∧ PySem.W.kitOne K (.ref CWo) (.ref CRd) = some false ∧ PySem.W.kitOne K (.ref CWo) (.ref CFt) = some false ∧ PySem.W.kitOne K (.ref CWo) (.ref CPr) = some false ∧ PySem.W.kitOne K (.ref CWo) (.ref CTu) = some false ∧ PySem.W.kitOne K (.ref CWo) (.ref CWi) = some false ∧ PySem.W.kitOne K (.ref CWo) (.ref CRo) = some false ∧ PySem.W.kitOne K (.ref CWo) (.ref CNu) = some false ∧ PySem.W.kitOne K (.ref CWo) (.ref CKe) = some false ∧ PySem.W.kitOne K (.ref CWo) (.ref CBo) = some false ∧ PySem.W.kitOne K (.ref CWo) (.ref CB) = some true ∧ PySem.W.kitOne K (.ref CWo) (.type "ValueError") = some true ∧ PySem.W.kitOne K (.ref CWo) (.type "ZeroDivisionError") = some false ∧ PySem.W.kitOne K (.ref CWo) (.type "KeyError") = some false ∧ PySem.W.kitOne K (.ref CWo) (.type "IndexError") = some false)
    (ktLo : PySem.W.kitOne K (.ref CLo) (.ref CTx) = some false ∧ PySem.W.kitOne K (.ref CLo) (.ref CWd) = some false ∧ PySem.W.kitOne K (.ref CLo) (.ref CTr) = some false ∧ PySem.W.kitOne K (.ref CLo) (.ref CWo) = some false ∧ PySem.W.kitOne K (.ref CLo) (.ref CLo) = some true ∧ PySem.W.kitOne K (.ref CLo) (.ref CRd) = some false ∧ PySem.W.kitOne K (.ref CLo) (.ref CFt) = some false ∧ PySem.W.kitOne K (.ref CLo) (.ref CPr) = some false ∧ PySem.W.kitOne K (.ref CLo) (.ref CTu) = some false ∧ PySem.W.kitOne K (.ref CLo) (.ref CWi) = some false ∧ PySem.W.kitOne K (.ref CLo) (.ref CRo) = some false ∧ PySem.W.kitOne K (.ref CLo) (.ref CNu) = some false ∧ PySem.W.kitOne K (.ref CLo) (.ref CKe) = some false ∧ PySem.W.kitOne K (.ref CLo) (.ref CBo) = some false ∧ PySem.W.kitOne K (.ref CLo) (.ref CB) = some true ∧ PySem.W.kitOne K (.ref CLo) (.type "ValueError") = some true ∧ PySem.W.kitOne K (.ref CLo) (.type "ZeroDivisionError") = some false ∧ PySem.W.kitOne K (.ref CLo) (.type "KeyError") = some false ∧ PySem.W.kitOne K (.ref CLo) (.type "IndexError") = some false)
    (ktRd : PySem.W.kitOne K (.ref CRd) (.ref CTx) = some false ∧ PySem.W.kitOne K (.ref CRd) (.ref CWd) = some false ∧ PySem.W.kitOne K (.ref CRd) (.ref CTr) = some false ∧ PySem.W.kitOne K (.ref CRd) (.ref CWo) = some false ∧ PySem.W.kitOne K (.ref CRd) (.ref CLo) = some false ∧ PySem.W.kitOne K (.ref CRd) (.ref CRd) = some true ∧ PySem.W.kitOne K (.ref CRd) (.ref CFt) = some false ∧ PySem.W.kitOne K (.ref CRd) (.ref CPr) = some false ∧ PySem.W.kitOne K (.ref CRd) (.ref CTu) = some false ∧ PySem.W.kitOne K (.ref CRd) (.ref CWi) = some false ∧ PySem.W.kitOne K (.ref CRd) (.ref CRo) = some false ∧ PySem.W.kitOne K (.ref CRd) (.ref CNu) = some false ∧ PySem.W.kitOne K (.ref CRd) (.ref CKe) = some false ∧ PySem.W.kitOne K (.ref CRd) (.ref CBo) = some false ∧ PySem.W.kitOne K (.ref CRd) (.ref CB) = some true ∧ PySem.W.kitOne K (.ref CRd) (.type "ValueError") = some true ∧ PySem.W.kitOne K (.ref CRd) (.type "ZeroDivisionError") = some false ∧ PySem.W.kitOne K (.ref CRd) (.type "KeyError") = some false ∧ PySem.W.kitOne K (.ref CRd) (.type "IndexError") = some false)
    (ktFt : PySem.W.kitOne K (.ref CFt) (.ref CTx) = some false ∧ PySem.W.kitOne K (.ref CFt) (.ref CWd) = some false ∧ PySem.W.kitOne K (.ref CFt) (.ref CTr) = some false ∧ PySem.W.kitOne K (.ref CFt) (.ref CWo) = some false ∧ PySem.W.kitOne K (.ref CFt) (.ref CLo) = some false ∧ PySem.W.kitOne K (.ref CFt) (.ref CRd) = some false ∧ PySem.W.kitOne K (.ref CFt) (.ref CFt) = some true ∧ PySem.W.kitOne K (.ref CFt) (.ref CPr) = some false ∧ PySem.W.kitOne K (.ref CFt) (.ref CTu) = some false ∧ PySem.W.kitOne K (.ref CFt) (.ref CWi) = some false ∧ PySem.W.kitOne K (.ref CFt) (.ref CRo) = some false ∧ PySem.W.kitOne K (.ref CFt) (.ref CNu) = some false ∧ PySem.W.kitOne K (.ref CFt) (.ref CKe) = some false ∧ PySem.W.kitOne K (.ref CFt) (.ref CBo) = some false ∧ PySem.W.kitOne K (.ref CFt) (.ref CB) = some true ∧ PySem.W.kitOne K (.ref CFt) (.type "ValueError") = some true ∧ PySem.W.kitOne K (.ref CFt) (.type "ZeroDivisionError") = some false ∧ PySem.W.kitOne K (.ref CFt) (.type "KeyError") = some false ∧ PySem.W.kitOne K (.ref CFt) (.type "IndexError") = some false)
    (ktPr : PySem.W.kitOne K (.ref CPr) (.ref CTx) = some false ∧ PySem.W.kitOne K (.ref CPr) (.ref CWd) = some false ∧ PySem.W.kitOne K (.ref CPr) (.ref CTr) = some false ∧ PySem.W.kitOne K (.ref CPr) (.ref CWo) = some false ∧ PySem.W.kitOne K (.ref CPr) (.ref CLo) = some false ∧ PySem.W.kitOne K (.ref CPr) (.ref CRd) = some false ∧ PySem.W.kitOne K (.ref CPr) (.ref CFt) = some false ∧ PySem.W.kitOne K (.ref CPr) (.ref CPr) = some true ∧ PySem.W.kitOne K (.ref CPr) (.ref CTu) = some false ∧ PySem.W.kitOne K (.ref CPr) (.ref CWi) = some false ∧ PySem.W.kitOne K (.ref CPr) (.ref CRo) = some false ∧ PySem.W.kitOne K (.ref CPr) (.ref CNu) = some false ∧ PySem.W.kitOne K (.ref CPr) (.ref CKe) = some false ∧ PySem.W.kitOne K (.ref CPr) (.ref CBo) = some false ∧ PySem.W.kitOne K (.ref CPr) (.ref CB) = some true ∧ PySem.W.kitOne K (.ref CPr) (.type "ValueError") = some true ∧ PySem.W.kitOne K (.ref CPr) (.type "ZeroDivisionError") = some false ∧ PySem.W.kitOne K (.ref CPr) (.type "KeyError") = some false ∧ PySem.W.kitOne K (.ref CPr) (.type "IndexError") = some false)
    (ktTu : PySem.W.kitOne K (.ref CTu) (.ref CTx) = some false ∧ PySem.W.kitOne K (.ref CTu) (.ref CWd) = some false ∧ PySem.W.kitOne K (.ref CTu) (.ref CTr) = some false ∧ PySem.W.kitOne K (.ref CTu) (.ref CWo) = some false ∧ PySem.W.kitOne K (.ref CTu) (.ref CLo) = some false ∧ PySem.W.kitOne K (.ref CTu) (.ref CRd) = some false ∧ PySem.W.kitOne K (.ref CTu) (.ref CFt) = some false ∧ PySem.W.kitOne K (.ref CTu) (.ref CPr) = some false ∧ PySem.W.kitOne K (.ref CTu) (.ref CTu) = some true ∧ PySem.W.kitOne K (.ref CTu) (.ref CWi) = some false ∧ PySem.W.kitOne K (.ref CTu) (.ref CRo) = some false ∧ PySem.W.kitOne K (.ref CTu) (.ref CNu) = some false ∧ PySem.W.kitOne K (.ref CTu) (.ref CKe) = some false ∧ PySem.W.kitOne K (.ref CTu) (.ref CBo) = some false ∧ PySem.W.kitOne K (.ref CTu) (.ref CB) = some true ∧ PySem.W.kitOne K (.ref CTu) (.type "ValueError") = some true ∧ PySem.W.kitOne K (.ref CTu) (.type "ZeroDivisionError") = some false ∧ PySem.W.kitOne K (.ref CTu) (.type "KeyError") = some false ∧ PySem.W.kitOne K (.ref CTu) (.type "IndexError") = some false)
    (ktWi : PySem.W.kitOne K (.ref CWi) (.ref CTx) = some false ∧ PySem.W.kitOne K (.ref CWi) (.ref CWd) = some false ∧ PySem.W.kitOne K (.ref CWi) (.ref CTr) = some false ∧ PySem.W.kitOne K (.ref CWi) (.ref CWo) = some false ∧ PySem.W.kitOne K (.ref CWi) (.ref CLo) = some false ∧ PySem.W.kitOne K (.ref CWi) (.ref CRd) = some false ∧ PySem.W.kitOne K (.ref CWi) (.ref CFt) = some false ∧ PySem.W.kitOne K (.ref CWi) (.ref CPr) = some false ∧ PySem.W.kitOne K (.ref CWi) (.ref CTu) = some false ∧ PySem.W.kitOne K (.ref CWi) (.ref CWi) = some true ∧ PySem.W.kitOne K (.ref CWi) (.ref CRo) = some false ∧ PySem.W.kitOne K (.ref CWi) (.ref CNu) = some false ∧ PySem.W.kitOne K (.ref CWi) (.ref CKe) = some false ∧ PySem.W.kitOne K (.ref CWi) (.ref CBo) = some false ∧ PySem.W.kitOne K (.ref CWi) (.ref CB) = some true ∧ PySem.W.kitOne K (.ref CWi) (.type "ValueError") = some true ∧ PySem.W.kitOne K (.ref CWi) (.type "ZeroDivisionError") = some false ∧ PySem.W.kitOne K (.ref CWi) (.type "KeyError") = some false ∧ PySem.W.kitOne K (.ref CWi) (.type "IndexError") = some false)
    (ktRo : PySem.W.kitOne K (.ref CRo) (.ref CTx) = some false ∧ PySem.W.kitOne K (.ref CRo) (.ref CWd) = some false ∧ PySem.W.kitOne K (.ref CRo) (.ref CTr) = some false ∧ PySem.W.kitOne K (.ref CRo) (.ref CWo) = some false ∧ PySem.W.kitOne K (.ref CRo) (.ref CLo) = some false ∧ PySem.W.kitOne K (.ref CRo) (.ref CRd) = some false ∧ PySem.W.kitOne K (.ref CRo) (.ref CFt) = some false ∧ PySem.W.kitOne K (.ref CRo) (.ref CPr) = some false ∧ PySem.W.kitOne K (.ref CRo) (.ref CTu) = some false ∧ PySem.W.kitOne K (.ref CRo) (.ref CWi) = some false ∧ PySem.W.kitOne K (.ref CRo) (.ref CRo) = some true ∧ PySem.W.kitOne K (.ref CRo) (.ref CNu) = some false ∧ PySem.W.kitOne K (.ref CRo) (.ref CKe) = some false ∧ PySem.W.kitOne K (.ref CRo) (.ref CBo) = some false ∧ PySem.W.kitOne K (.ref CRo) (.ref CB) = some true ∧ PySem.W.kitOne K (.ref CRo) (.type "ValueError") = some true ∧ PySem.W.kitOne K (.ref CRo) (.type "ZeroDivisionError") = some false ∧ PySem.W.kitOne K (.ref CRo) (.type "KeyError") = some false ∧ PySem.W.kitOne K (.ref CRo) (.type "IndexError") = some false)
    (ktNu : PySem.W.kitOne K (.ref CNu) (.ref CTx) = some false ∧ PySem.W.kitOne K (.ref CNu) (.ref CWd) = some false ∧ PySem.W.kitOne K (.ref CNu) (.ref CTr) = some false ∧ PySem.W.kitOne K (.ref CNu) (.ref CWo) = some false ∧ PySem.W.kitOne K (.ref CNu) (.ref CLo) = some false ∧ PySem.W.kitOne K (.ref CNu) (.ref CRd) = some false ∧ PySem.W.kitOne K (.ref CNu) (.ref CFt) = some false ∧ PySem.W.kitOne K (.ref CNu) (.ref CPr) = some false ∧ PySem.W.kitOne K (.ref CNu) (.ref CTu) = some false ∧ PySem.W.kitOne K (.ref CNu) (.ref CWi) = some false ∧ PySem.W.kitOne K (.ref CNu) (.ref CRo) = some false ∧ PySem.W.kitOne K (.ref CNu) (.ref CNu) = some true ∧ PySem.W.kitOne K (.ref CNu) (.ref CKe) = some false ∧ PySem.W.kitOne K (.ref CNu) (.ref CBo) = some false ∧ PySem.W.kitOne K (.ref CNu) (.ref CB) = some false ∧ PySem.W.kitOne K (.ref CNu) (.type "ValueError") = some false ∧ PySem.W.kitOne K (.ref CNu) (.type "ZeroDivisionError") = some true ∧ PySem.W.kitOne K (.ref CNu) (.type "KeyError") = some false ∧ PySem.W.kitOne K (.ref CNu) (.type "IndexError") = some false)
    (ktKe : PySem.W.kitOne K (.ref CKe) (.ref CTx) = some false ∧ PySem.W.kitOne K (.ref CKe) (.ref CWd) = some false ∧ PySem.W.kitOne K (.ref CKe) (.ref CTr) = some false ∧ PySem.W.kitOne K (.ref CKe) (.ref CWo) = some false ∧ PySem.W.kitOne K (.ref CKe) (.ref CLo) = some false ∧ PySem.W.kitOne K (.ref CKe) (.ref CRd) = some false ∧ PySem.W.kitOne K (.ref CKe) (.ref CFt) = some false ∧ PySem.W.kitOne K (.ref CKe) (.ref CPr) = some false ∧ PySem.W.kitOne K (.ref CKe) (.ref CTu) = some false ∧ PySem.W.kitOne K (.ref CKe) (.ref CWi) = some false ∧ PySem.W.kitOne K (.ref CKe) (.ref CRo) = some false ∧ PySem.W.kitOne K (.ref CKe) (.ref CNu) = some false ∧ PySem.W.kitOne K (.ref CKe) (.ref CKe) = some true ∧ PySem.W.kitOne K (.ref CKe) (.ref CBo) = some false ∧ PySem.W.kitOne K (.ref CKe) (.ref CB) = some false ∧ PySem.W.kitOne K (.ref CKe) (.type "ValueError") = some false ∧ PySem.W.kitOne K (.ref CKe) (.type "ZeroDivisionError") = some false ∧ PySem.W.kitOne K (.ref CKe) (.type "KeyError") = some true ∧ PySem.W.kitOne K (.ref CKe) (.type "IndexError") = some false)
    (ktBo : PySem.W.kitOne K (.ref CBo) (.ref CTx) = some false ∧ PySem.W.kitOne K (.ref CBo) (.ref CWd) = some false ∧ PySem.W.kitOne K (.ref CBo) (.ref CTr) = some false ∧ PySem.W.kitOne K (.ref CBo) (.ref CWo) = some false ∧ PySem.W.kitOne K (.ref CBo) (.ref CLo) = some false ∧ PySem.W.kitOne K (.ref CBo) (.ref CRd) = some false ∧ PySem.W.kitOne K (.ref CBo) (.ref CFt) = some false ∧ PySem.W.kitOne K (.ref CBo) (.ref CPr) = some false ∧ PySem.W.kitOne K (.ref CBo) (.ref CTu) = some false ∧ PySem.W.kitOne K (.ref CBo) (.ref CWi) = some false ∧ PySem.W.kitOne K (.ref CBo) (.ref CRo) = some false ∧ PySem.W.kitOne K (.ref CBo) (.ref CNu) = some false ∧ PySem.W.kitOne K (.ref CBo) (.ref CKe) = some false ∧ PySem.W.kitOne K (.ref CBo) (.ref CBo) = some true ∧ PySem.W.kitOne K (.ref CBo) (.ref CB) = some false ∧ PySem.W.kitOne K (.ref CBo) (.type "ValueError") = some false ∧ PySem.W.kitOne K (.ref CBo) (.type "ZeroDivisionError") = some false ∧ PySem.W.kitOne K (.ref CBo) (.type "KeyError") = some false ∧ PySem.W.kitOne K (.ref CBo) (.type "IndexError") = some true)
    (sBT : PySem.W.subIn K (.ref CTx) (.ref CB) = some true)
    (sKK : PySem.W.exmOne K (.ref CKe) (.type "KeyError") = some true)
    : ∃ fd : FuncData, (∀ (s : Shared) (v : Value), BindsTo s fd ⟨[v], []⟩ [("_law_script", v)]) ∧ ∀ base : Heap, K.In base → base.Ns mainGlobals mg → FnOk l.prog w K mg base CX0 3 fa fd ["_law_script"] (spLaw K) := by
  have e := hfa.symm.trans (PySem.W.mg_of X G a_law)
  cases e
  have F_box := fun_mk (st := st_box) l_box c_box k_box
  have b_box := F_box.binds (ps := ["_law_script", "_law_k"]) fun _ _ _ _ _ _ us hl => match us, hl with | [_, _], _ => rfl
  have F_take := fun_mk (st := st_take) l_take c_take k_take
  have b_take := F_take.binds (ps := ["_law_draw", "_law_many"]) fun _ _ _ _ _ _ us hl => match us, hl with | [_, _], _ => rfl
  have F_made := fun_mk (st := st_made) l_made c_made k_made
  have b_made := F_made.binds (ps := ["_law_k", "_law_one", "_law_other"]) fun _ _ _ _ _ _ us hl => match us, hl with | [_, _, _], _ => rfl
  have F_named := fun_mk (st := st_named) l_named c_named k_named
  have b_named := F_named.binds (ps := ["_law_k", "_law_one", "_law_other"]) fun _ _ _ _ _ _ us hl => match us, hl with | [_, _, _], _ => rfl
  have F_kinds := fun_mk (st := st_kinds) l_kinds c_kinds k_kinds
  have b_kinds := F_kinds.binds (ps := ["_law_e"]) fun _ _ _ _ _ _ us hl => match us, hl with | [_], _ => rfl
  have F_fields := fun_mk (st := st_fields) l_fields c_fields k_fields
  have b_fields := F_fields.binds (ps := ["_law_some", "_law_one", "_law_other"]) fun _ _ _ _ _ _ us hl => match us, hl with | [_, _, _], _ => rfl
  have F_taken := fun_mk (st := st_taken) l_taken c_taken k_taken
  have b_taken := F_taken.binds (ps := ["_law_one", "_law_other"]) fun _ _ _ _ _ _ us hl => match us, hl with | [_, _], _ => rfl
  have F_law := fun_mk (st := st_law) l_law c_law k_law
  have excTx : PySem.XV.VTxt l.prog K mg CTx fITx ccTx cdaTx "ValueError" "ValueError.__new__" "ValueError.__init__" "NoText" "NoText.__init__" (defArgs st_Tx) fs_Tx [fs_Tx1] (defScope st_Tx) := { gC := PySem.W.mg_of X G aCTx, cls := ⟨_, _, _, _, _, _, _, _, _, _, _, _, _, _, _, xLTx, _, _, _, F.excBase_ValueError, rfl, rfl, rfl⟩, base := (PySem.XV.InitF.of F.excBase_ValueError.toExcCallFacts), kxs := PySem.W.kxs_ValueError, iC := iCTx, tI := tITx, fn := ⟨_, _, _, _, _, _, _, _, lITx⟩, code := cITx, cdo := ⟨_, _, _, _, _, _, lcdTx, vs2Tx, fileETx⟩, cell := ⟨_, _, _, lccTx⟩, sup := supCTx, opq := opq, noS := PySem.W.mg_none_of X G z_super, topS := topN, subB := subBTx, subC := subCTx, kC := kCTx, exC := exCTx, tyC := tyCTx, kS := by decide +kernel, kCl := by decide +kernel, kSf := by decide +kernel, kF := rfl, st := ⟨_, _, _, _, _, _, _, _, rfl, fun L => ⟨rfl, rfl, _, rfl⟩⟩, hd := ⟨_, rfl, rfl⟩ }
  have excWd : PySem.XV.VTxt l.prog K mg CWd fIWd ccWd cdaWd "ValueError" "ValueError.__new__" "ValueError.__init__" "NoWood" "NoWood.__init__" (defArgs st_Wd) fs_Wd [fs_Wd1, fs_Wd2] (defScope st_Wd) := { gC := PySem.W.mg_of X G aCWd, cls := ⟨_, _, _, _, _, _, _, _, _, _, _, _, _, _, _, xLWd, _, _, _, F.excBase_ValueError, rfl, rfl, rfl⟩, base := (PySem.XV.InitF.of F.excBase_ValueError.toExcCallFacts), kxs := PySem.W.kxs_ValueError, iC := iCWd, tI := tIWd, fn := ⟨_, _, _, _, _, _, _, _, lIWd⟩, code := cIWd, cdo := ⟨_, _, _, _, _, _, lcdWd, vs2Wd, fileEWd⟩, cell := ⟨_, _, _, lccWd⟩, sup := supCWd, opq := opq, noS := PySem.W.mg_none_of X G z_super, topS := topN, subB := subBWd, subC := subCWd, kC := kCWd, exC := exCWd, tyC := tyCWd, kS := by decide +kernel, kCl := by decide +kernel, kSf := by decide +kernel, kF := rfl, st := ⟨_, _, _, _, _, _, _, _, rfl, fun L => ⟨rfl, rfl, _, rfl⟩⟩, hd := ⟨_, rfl, rfl⟩ }
  have excTr : PySem.XV.VTxt l.prog K mg CTr fITr ccTr cdaTr "ValueError" "ValueError.__new__" "ValueError.__init__" "NoTree" "NoTree.__init__" (defArgs st_Tr) fs_Tr [fs_Tr1] (defScope st_Tr) := { gC := PySem.W.mg_of X G aCTr, cls := ⟨_, _, _, _, _, _, _, _, _, _, _, _, _, _, _, xLTr, _, _, _, F.excBase_ValueError, rfl, rfl, rfl⟩, base := (PySem.XV.InitF.of F.excBase_ValueError.toExcCallFacts), kxs := PySem.W.kxs_ValueError, iC := iCTr, tI := tITr, fn := ⟨_, _, _, _, _, _, _, _, lITr⟩, code := cITr, cdo := ⟨_, _, _, _, _, _, lcdTr, vs2Tr, fileETr⟩, cell := ⟨_, _, _, lccTr⟩, sup := supCTr, opq := opq, noS := PySem.W.mg_none_of X G z_super, topS := topN, subB := subBTr, subC := subCTr, kC := kCTr, exC := exCTr, tyC := tyCTr, kS := by decide +kernel, kCl := by decide +kernel, kSf := by decide +kernel, kF := rfl, st := ⟨_, _, _, _, _, _, _, _, rfl, fun L => ⟨rfl, rfl, _, rfl⟩⟩, hd := ⟨_, rfl, rfl⟩ }
  have excWo : PySem.XV.VTxt l.prog K mg CWo fIWo ccWo cdaWo "ValueError" "ValueError.__new__" "ValueError.__init__" "NoWord" "NoWord.__init__" (defArgs st_Wo) fs_Wo [fs_Wo1] (defScope st_Wo) := { gC := PySem.W.mg_of X G aCWo, cls := ⟨_, _, _, _, _, _, _, _, _, _, _, _, _, _, _, xLWo, _, _, _, F.excBase_ValueError, rfl, rfl, rfl⟩, base := (PySem.XV.InitF.of F.excBase_ValueError.toExcCallFacts), kxs := PySem.W.kxs_ValueError, iC := iCWo, tI := tIWo, fn := ⟨_, _, _, _, _, _, _, _, lIWo⟩, code := cIWo, cdo := ⟨_, _, _, _, _, _, lcdWo, vs2Wo, fileEWo⟩, cell := ⟨_, _, _, lccWo⟩, sup := supCWo, opq := opq, noS := PySem.W.mg_none_of X G z_super, topS := topN, subB := subBWo, subC := subCWo, kC := kCWo, exC := exCWo, tyC := tyCWo, kS := by decide +kernel, kCl := by decide +kernel, kSf := by decide +kernel, kF := rfl, st := ⟨_, _, _, _, _, _, _, _, rfl, fun L => ⟨rfl, rfl, _, rfl⟩⟩, hd := ⟨_, rfl, rfl⟩ }
  have excLo : PySem.XV.VTxt l.prog K mg CLo fILo ccLo cdaLo "ValueError" "ValueError.__new__" "ValueError.__init__" "TooLong" "TooLong.__init__" (defArgs st_Lo) fs_Lo [fs_Lo1] (defScope st_Lo) := { gC := PySem.W.mg_of X G aCLo, cls := ⟨_, _, _, _, _, _, _, _, _, _, _, _, _, _, _, xLLo, _, _, _, F.excBase_ValueError, rfl, rfl, rfl⟩, base := (PySem.XV.InitF.of F.excBase_ValueError.toExcCallFacts), kxs := PySem.W.kxs_ValueError, iC := iCLo, tI := tILo, fn := ⟨_, _, _, _, _, _, _, _, lILo⟩, code := cILo, cdo := ⟨_, _, _, _, _, _, lcdLo, vs2Lo, fileELo⟩, cell := ⟨_, _, _, lccLo⟩, sup := supCLo, opq := opq, noS := PySem.W.mg_none_of X G z_super, topS := topN, subB := subBLo, subC := subCLo, kC := kCLo, exC := exCLo, tyC := tyCLo, kS := by decide +kernel, kCl := by decide +kernel, kSf := by decide +kernel, kF := rfl, st := ⟨_, _, _, _, _, _, _, _, rfl, fun L => ⟨rfl, rfl, _, rfl⟩⟩, hd := ⟨_, rfl, rfl⟩ }
  have excRd : PySem.XV.VTxt l.prog K mg CRd fIRd ccRd cdaRd "ValueError" "ValueError.__new__" "ValueError.__init__" "NoReader" "NoReader.__init__" (defArgs st_Rd) fs_Rd [fs_Rd1, fs_Rd2] (defScope st_Rd) := { gC := PySem.W.mg_of X G aCRd, cls := ⟨_, _, _, _, _, _, _, _, _, _, _, _, _, _, _, xLRd, _, _, _, F.excBase_ValueError, rfl, rfl, rfl⟩, base := (PySem.XV.InitF.of F.excBase_ValueError.toExcCallFacts), kxs := PySem.W.kxs_ValueError, iC := iCRd, tI := tIRd, fn := ⟨_, _, _, _, _, _, _, _, lIRd⟩, code := cIRd, cdo := ⟨_, _, _, _, _, _, lcdRd, vs2Rd, fileERd⟩, cell := ⟨_, _, _, lccRd⟩, sup := supCRd, opq := opq, noS := PySem.W.mg_none_of X G z_super, topS := topN, subB := subBRd, subC := subCRd, kC := kCRd, exC := exCRd, tyC := tyCRd, kS := by decide +kernel, kCl := by decide +kernel, kSf := by decide +kernel, kF := rfl, st := ⟨_, _, _, _, _, _, _, _, rfl, fun L => ⟨rfl, rfl, _, rfl⟩⟩, hd := ⟨_, rfl, rfl⟩ }
  have excFt : PySem.XV.VTxt l.prog K mg CFt fIFt ccFt cdaFt "ValueError" "ValueError.__new__" "ValueError.__init__" "NoFit" "NoFit.__init__" (defArgs st_Ft) fs_Ft [fs_Ft1] (defScope st_Ft) := { gC := PySem.W.mg_of X G aCFt, cls := ⟨_, _, _, _, _, _, _, _, _, _, _, _, _, _, _, xLFt, _, _, _, F.excBase_ValueError, rfl, rfl, rfl⟩, base := (PySem.XV.InitF.of F.excBase_ValueError.toExcCallFacts), kxs := PySem.W.kxs_ValueError, iC := iCFt, tI := tIFt, fn := ⟨_, _, _, _, _, _, _, _, lIFt⟩, code := cIFt, cdo := ⟨_, _, _, _, _, _, lcdFt, vs2Ft, fileEFt⟩, cell := ⟨_, _, _, lccFt⟩, sup := supCFt, opq := opq, noS := PySem.W.mg_none_of X G z_super, topS := topN, subB := subBFt, subC := subCFt, kC := kCFt, exC := exCFt, tyC := tyCFt, kS := by decide +kernel, kCl := by decide +kernel, kSf := by decide +kernel, kF := rfl, st := ⟨_, _, _, _, _, _, _, _, rfl, fun L => ⟨rfl, rfl, _, rfl⟩⟩, hd := ⟨_, rfl, rfl⟩ }
  have excPr : PySem.XV.VTxt l.prog K mg CPr fIPr ccPr cdaPr "ValueError" "ValueError.__new__" "ValueError.__init__" "NoPrinter" "NoPrinter.__init__" (defArgs st_Pr) fs_Pr [fs_Pr1, fs_Pr2] (defScope st_Pr) := { gC := PySem.W.mg_of X G aCPr, cls := ⟨_, _, _, _, _, _, _, _, _, _, _, _, _, _, _, xLPr, _, _, _, F.excBase_ValueError, rfl, rfl, rfl⟩, base := (PySem.XV.InitF.of F.excBase_ValueError.toExcCallFacts), kxs := PySem.W.kxs_ValueError, iC := iCPr, tI := tIPr, fn := ⟨_, _, _, _, _, _, _, _, lIPr⟩, code := cIPr, cdo := ⟨_, _, _, _, _, _, lcdPr, vs2Pr, fileEPr⟩, cell := ⟨_, _, _, lccPr⟩, sup := supCPr, opq := opq, noS := PySem.W.mg_none_of X G z_super, topS := topN, subB := subBPr, subC := subCPr, kC := kCPr, exC := exCPr, tyC := tyCPr, kS := by decide +kernel, kCl := by decide +kernel, kSf := by decide +kernel, kF := rfl, st := ⟨_, _, _, _, _, _, _, _, rfl, fun L => ⟨rfl, rfl, _, rfl⟩⟩, hd := ⟨_, rfl, rfl⟩ }
  have excTu : PySem.XV.VTxt l.prog K mg CTu fITu ccTu cdaTu "ValueError" "ValueError.__new__" "ValueError.__init__" "NoTurner" "NoTurner.__init__" (defArgs st_Tu) fs_Tu [fs_Tu1, fs_Tu2] (defScope st_Tu) := { gC := PySem.W.mg_of X G aCTu, cls := ⟨_, _, _, _, _, _, _, _, _, _, _, _, _, _, _, xLTu, _, _, _, F.excBase_ValueError, rfl, rfl, rfl⟩, base := (PySem.XV.InitF.of F.excBase_ValueError.toExcCallFacts), kxs := PySem.W.kxs_ValueError, iC := iCTu, tI := tITu, fn := ⟨_, _, _, _, _, _, _, _, lITu⟩, code := cITu, cdo := ⟨_, _, _, _, _, _, lcdTu, vs2Tu, fileETu⟩, cell := ⟨_, _, _, lccTu⟩, sup := supCTu, opq := opq, noS := PySem.W.mg_none_of X G z_super, topS := topN, subB := subBTu, subC := subCTu, kC := kCTu, exC := exCTu, tyC := tyCTu, kS := by decide +kernel, kCl := by decide +kernel, kSf := by decide +kernel, kF := rfl, st := ⟨_, _, _, _, _, _, _, _, rfl, fun L => ⟨rfl, rfl, _, rfl⟩⟩, hd := ⟨_, rfl, rfl⟩ }
  have excWi : PySem.XV.VTxt l.prog K mg CWi fIWi ccWi cdaWi "ValueError" "ValueError.__new__" "ValueError.__init__" "TooWide" "TooWide.__init__" (defArgs st_Wi) fs_Wi [fs_Wi1] (defScope st_Wi) := { gC := PySem.W.mg_of X G aCWi, cls := ⟨_, _, _, _, _, _, _, _, _, _, _, _, _, _, _, xLWi, _, _, _, F.excBase_ValueError, rfl, rfl, rfl⟩, base := (PySem.XV.InitF.of F.excBase_ValueError.toExcCallFacts), kxs := PySem.W.kxs_ValueError, iC := iCWi, tI := tIWi, fn := ⟨_, _, _, _, _, _, _, _, lIWi⟩, code := cIWi, cdo := ⟨_, _, _, _, _, _, lcdWi, vs2Wi, fileEWi⟩, cell := ⟨_, _, _, lccWi⟩, sup := supCWi, opq := opq, noS := PySem.W.mg_none_of X G z_super, topS := topN, subB := subBWi, subC := subCWi, kC := kCWi, exC := exCWi, tyC := tyCWi, kS := by decide +kernel, kCl := by decide +kernel, kSf := by decide +kernel, kF := rfl, st := ⟨_, _, _, _, _, _, _, _, rfl, fun L => ⟨rfl, rfl, _, rfl⟩⟩, hd := ⟨_, rfl, rfl⟩ }
  have excRo : PySem.XV.VTxt l.prog K mg CRo fIRo ccRo cdaRo "ValueError" "ValueError.__new__" "ValueError.__init__" "NoRow" "NoRow.__init__" (defArgs st_Ro) fs_Ro [] (defScope st_Ro) := { gC := PySem.W.mg_of X G aCRo, cls := ⟨_, _, _, _, _, _, _, _, _, _, _, _, _, _, _, xLRo, _, _, _, F.excBase_ValueError, rfl, rfl, rfl⟩, base := (PySem.XV.InitF.of F.excBase_ValueError.toExcCallFacts), kxs := PySem.W.kxs_ValueError, iC := iCRo, tI := tIRo, fn := ⟨_, _, _, _, _, _, _, _, lIRo⟩, code := cIRo, cdo := ⟨_, _, _, _, _, _, lcdRo, vs2Ro, fileERo⟩, cell := ⟨_, _, _, lccRo⟩, sup := supCRo, opq := opq, noS := PySem.W.mg_none_of X G z_super, topS := topN, subB := subBRo, subC := subCRo, kC := kCRo, exC := exCRo, tyC := tyCRo, kS := by decide +kernel, kCl := by decide +kernel, kSf := by decide +kernel, kF := rfl, st := ⟨_, _, _, _, _, _, _, _, rfl, fun L => ⟨rfl, rfl, _, rfl⟩⟩, hd := ⟨_, rfl, rfl⟩ }
  have excNu : PySem.XV.VTxt l.prog K mg CNu fINu ccNu cdaNu "ZeroDivisionError" "ZeroDivisionError.__new__" "ZeroDivisionError.__init__" "Nought" "Nought.__init__" (defArgs st_Nu) fs_Nu [] (defScope st_Nu) := { gC := PySem.W.mg_of X G aCNu, cls := ⟨_, _, _, _, _, _, _, _, _, _, _, _, _, _, _, xLNu, _, _, _, F.excBase_ZeroDivisionError, rfl, rfl, rfl⟩, base := (PySem.XV.InitF.of F.excBase_ZeroDivisionError.toExcCallFacts), kxs := PySem.W.kxs_ZeroDivisionError, iC := iCNu, tI := tINu, fn := ⟨_, _, _, _, _, _, _, _, lINu⟩, code := cINu, cdo := ⟨_, _, _, _, _, _, lcdNu, vs2Nu, fileENu⟩, cell := ⟨_, _, _, lccNu⟩, sup := supCNu, opq := opq, noS := PySem.W.mg_none_of X G z_super, topS := topN, subB := subBNu, subC := subCNu, kC := kCNu, exC := exCNu, tyC := tyCNu, kS := by decide +kernel, kCl := by decide +kernel, kSf := by decide +kernel, kF := rfl, st := ⟨_, _, _, _, _, _, _, _, rfl, fun L => ⟨rfl, rfl, _, rfl⟩⟩, hd := ⟨_, rfl, rfl⟩ }
  have excKe : PySem.XV.VTxt l.prog K mg CKe fIKe ccKe cdaKe "KeyError" "LookupError.__new__" "KeyError.__init__" "NotKept" "NotKept.__init__" (defArgs st_Ke) fs_Ke [fs_Ke1] (defScope st_Ke) := { gC := PySem.W.mg_of X G aCKe, cls := ⟨_, _, _, _, _, _, _, _, _, _, _, _, _, _, _, xLKe, _, _, _, F.excBase_LookupError, rfl, rfl, rfl⟩, base := PySem.XV.initF_KeyError, kxs := PySem.XV.kxs_KeyError, iC := iCKe, tI := tIKe, fn := ⟨_, _, _, _, _, _, _, _, lIKe⟩, code := cIKe, cdo := ⟨_, _, _, _, _, _, lcdKe, vs2Ke, fileEKe⟩, cell := ⟨_, _, _, lccKe⟩, sup := supCKe, opq := opq, noS := PySem.W.mg_none_of X G z_super, topS := topN, subB := subBKe, subC := subCKe, kC := kCKe, exC := exCKe, tyC := tyCKe, kS := by decide +kernel, kCl := by decide +kernel, kSf := by decide +kernel, kF := rfl, st := ⟨_, _, _, _, _, _, _, _, rfl, fun L => ⟨rfl, rfl, _, rfl⟩⟩, hd := ⟨_, rfl, rfl⟩ }
  have excBo : PySem.XV.VTxt l.prog K mg CBo fIBo ccBo cdaBo "IndexError" "IndexError.__new__" "IndexError.__init__" "NoBox" "NoBox.__init__" (defArgs st_Bo) fs_Bo [fs_Bo1] (defScope st_Bo) := { gC := PySem.W.mg_of X G aCBo, cls := ⟨_, _, _, _, _, _, _, _, _, _, _, _, _, _, _, xLBo, _, _, _, F.excBase_IndexError, rfl, rfl, rfl⟩, base := (PySem.XV.InitF.of F.excBase_IndexError.toExcCallFacts), kxs := PySem.W.kxs_IndexError, iC := iCBo, tI := tIBo, fn := ⟨_, _, _, _, _, _, _, _, lIBo⟩, code := cIBo, cdo := ⟨_, _, _, _, _, _, lcdBo, vs2Bo, fileEBo⟩, cell := ⟨_, _, _, lccBo⟩, sup := supCBo, opq := opq, noS := PySem.W.mg_none_of X G z_super, topS := topN, subB := subBBo, subC := subCBo, kC := kCBo, exC := exCBo, tyC := tyCBo, kS := by decide +kernel, kCl := by decide +kernel, kSf := by decide +kernel, kF := rfl, st := ⟨_, _, _, _, _, _, _, _, rfl, fun L => ⟨rfl, rfl, _, rfl⟩⟩, hd := ⟨_, rfl, rfl⟩ }
  have T : Tx l.prog K mg := { f_box := f_box, fd_box := _, F_box := F_box, g_box := PySem.W.mg_of X G a_box, b_box := b_box, f_take := f_take, fd_take := _, F_take := F_take, g_take := PySem.W.mg_of X G a_take, b_take := b_take, f_made := f_made, fd_made := _, F_made := F_made, g_made := PySem.W.mg_of X G a_made, b_made := b_made, f_named := f_named, fd_named := _, F_named := F_named, g_named := PySem.W.mg_of X G a_named, b_named := b_named, f_kinds := f_kinds, fd_kinds := _, F_kinds := F_kinds, g_kinds := PySem.W.mg_of X G a_kinds, b_kinds := b_kinds, f_fields := f_fields, fd_fields := _, F_fields := F_fields, g_fields := PySem.W.mg_of X G a_fields, b_fields := b_fields, f_taken := f_taken, fd_taken := _, F_taken := F_taken, g_taken := PySem.W.mg_of X G a_taken, b_taken := b_taken, m_len := PySem.W.mg_none_of X G z_len, m_int := PySem.W.mg_none_of X G z_int, m_zip := PySem.W.mg_none_of X G z_zip, m_isinstance := PySem.W.mg_none_of X G z_isinstance, m_range := PySem.W.mg_none_of X G z_range, m_enumerate := PySem.W.mg_none_of X G z_enumerate, m_ValueError := PySem.W.mg_none_of X G z_ValueError, m_ZeroDivisionError := PySem.W.mg_none_of X G z_ZeroDivisionError, m_KeyError := PySem.W.mg_none_of X G z_KeyError, m_IndexError := PySem.W.mg_none_of X G z_IndexError, m_super := PySem.W.mg_none_of X G z_super, CB := CB, g_BoughError := PySem.W.mg_of X G aB, CTx := CTx, fITx := fITx, ccTx := ccTx, cdaTx := cdaTx, excTx := excTx, fldTx := ⟨⟨_, (by unfold PySem.W.clsIn; rw [xLTx]), PySem.XV.MroOk.of rfl, rfl⟩, saCTx, fun f hf => by rw [List.mem_singleton.mp hf]; exact nTx_row⟩, exITx := ⟨gaCTx, ggCTx, exCTx, hdCTx, clCTx, snC, tkC, mrCTx⟩, xfcTx := ⟨gaCTx, ggCTx, exCTx, hdCTx⟩, is1Tx := ⟨_, _, _, _, rfl, by decide +kernel, by decide +kernel, fun L => rfl⟩, noTxRow := nTx_row, CWd := CWd, fIWd := fIWd, ccWd := ccWd, cdaWd := cdaWd, excWd := excWd, fldWd := ⟨⟨_, (by unfold PySem.W.clsIn; rw [xLWd]), PySem.XV.MroOk.of rfl, rfl⟩, saCWd, fun f hf => by rcases List.mem_cons.mp hf with rfl | hf; exact nWd_word; rw [List.mem_singleton.mp hf]; exact nWd_name⟩, exIWd := ⟨gaCWd, ggCWd, exCWd, hdCWd, clCWd, snC, tkC, mrCWd⟩, xfcWd := ⟨gaCWd, ggCWd, exCWd, hdCWd⟩, is1Wd := ⟨_, _, _, _, rfl, by decide +kernel, by decide +kernel, fun L => rfl⟩, is2Wd := ⟨_, _, _, _, rfl, by decide +kernel, by decide +kernel, fun L => rfl⟩, noWdWord := nWd_word, noWdName := nWd_name, CTr := CTr, fITr := fITr, ccTr := ccTr, cdaTr := cdaTr, excTr := excTr, fldTr := ⟨⟨_, (by unfold PySem.W.clsIn; rw [xLTr]), PySem.XV.MroOk.of rfl, rfl⟩, saCTr, fun f hf => by rw [List.mem_singleton.mp hf]; exact nTr_at⟩, exITr := ⟨gaCTr, ggCTr, exCTr, hdCTr, clCTr, snC, tkC, mrCTr⟩, xfcTr := ⟨gaCTr, ggCTr, exCTr, hdCTr⟩, is1Tr := ⟨_, _, _, _, rfl, by decide +kernel, by decide +kernel, fun L => rfl⟩, noTrAt := nTr_at, CWo := CWo, fIWo := fIWo, ccWo := ccWo, cdaWo := cdaWo, excWo := excWo, fldWo := ⟨⟨_, (by unfold PySem.W.clsIn; rw [xLWo]), PySem.XV.MroOk.of rfl, rfl⟩, saCWo, fun f hf => by rw [List.mem_singleton.mp hf]; exact nWo_at⟩, exIWo := ⟨gaCWo, ggCWo, exCWo, hdCWo, clCWo, snC, tkC, mrCWo⟩, xfcWo := ⟨gaCWo, ggCWo, exCWo, hdCWo⟩, is1Wo := ⟨_, _, _, _, rfl, by decide +kernel, by decide +kernel, fun L => rfl⟩, noWoAt := nWo_at, CLo := CLo, fILo := fILo, ccLo := ccLo, cdaLo := cdaLo, excLo := excLo, fldLo := ⟨⟨_, (by unfold PySem.W.clsIn; rw [xLLo]), PySem.XV.MroOk.of rfl, rfl⟩, saCLo, fun f hf => by rw [List.mem_singleton.mp hf]; exact nLo_most⟩, exILo := ⟨gaCLo, ggCLo, exCLo, hdCLo, clCLo, snC, tkC, mrCLo⟩, xfcLo := ⟨gaCLo, ggCLo, exCLo, hdCLo⟩, is1Lo := ⟨_, _, _, _, rfl, by decide +kernel, by decide +kernel, fun L => rfl⟩, noLoMost := nLo_most, CRd := CRd, fIRd := fIRd, ccRd := ccRd, cdaRd := cdaRd, excRd := excRd, fldRd := ⟨⟨_, (by unfold PySem.W.clsIn; rw [xLRd]), PySem.XV.MroOk.of rfl, rfl⟩, saCRd, fun f hf => by rcases List.mem_cons.mp hf with rfl | hf; exact nRd_word; rw [List.mem_singleton.mp hf]; exact nRd_maker⟩, exIRd := ⟨gaCRd, ggCRd, exCRd, hdCRd, clCRd, snC, tkC, mrCRd⟩, xfcRd := ⟨gaCRd, ggCRd, exCRd, hdCRd⟩, is1Rd := ⟨_, _, _, _, rfl, by decide +kernel, by decide +kernel, fun L => rfl⟩, is2Rd := ⟨_, _, _, _, rfl, by decide +kernel, by decide +kernel, fun L => rfl⟩, noRdWord := nRd_word, noRdMaker := nRd_maker, CFt := CFt, fIFt := fIFt, ccFt := ccFt, cdaFt := cdaFt, excFt := excFt, fldFt := ⟨⟨_, (by unfold PySem.W.clsIn; rw [xLFt]), PySem.XV.MroOk.of rfl, rfl⟩, saCFt, fun f hf => by rw [List.mem_singleton.mp hf]; exact nFt_at⟩, exIFt := ⟨gaCFt, ggCFt, exCFt, hdCFt, clCFt, snC, tkC, mrCFt⟩, xfcFt := ⟨gaCFt, ggCFt, exCFt, hdCFt⟩, is1Ft := ⟨_, _, _, _, rfl, by decide +kernel, by decide +kernel, fun L => rfl⟩, noFtAt := nFt_at, CPr := CPr, fIPr := fIPr, ccPr := ccPr, cdaPr := cdaPr, excPr := excPr, fldPr := ⟨⟨_, (by unfold PySem.W.clsIn; rw [xLPr]), PySem.XV.MroOk.of rfl, rfl⟩, saCPr, fun f hf => by rcases List.mem_cons.mp hf with rfl | hf; exact nPr_word; rw [List.mem_singleton.mp hf]; exact nPr_maker⟩, exIPr := ⟨gaCPr, ggCPr, exCPr, hdCPr, clCPr, snC, tkC, mrCPr⟩, xfcPr := ⟨gaCPr, ggCPr, exCPr, hdCPr⟩, is1Pr := ⟨_, _, _, _, rfl, by decide +kernel, by decide +kernel, fun L => rfl⟩, is2Pr := ⟨_, _, _, _, rfl, by decide +kernel, by decide +kernel, fun L => rfl⟩, noPrWord := nPr_word, noPrMaker := nPr_maker, CTu := CTu, fITu := fITu, ccTu := ccTu, cdaTu := cdaTu, excTu := excTu, fldTu := ⟨⟨_, (by unfold PySem.W.clsIn; rw [xLTu]), PySem.XV.MroOk.of rfl, rfl⟩, saCTu, fun f hf => by rcases List.mem_cons.mp hf with rfl | hf; exact nTu_word; rw [List.mem_singleton.mp hf]; exact nTu_maker⟩, exITu := ⟨gaCTu, ggCTu, exCTu, hdCTu, clCTu, snC, tkC, mrCTu⟩, xfcTu := ⟨gaCTu, ggCTu, exCTu, hdCTu⟩, is1Tu := ⟨_, _, _, _, rfl, by decide +kernel, by decide +kernel, fun L => rfl⟩, is2Tu := ⟨_, _, _, _, rfl, by decide +kernel, by decide +kernel, fun L => rfl⟩, noTuWord := nTu_word, noTuMaker := nTu_maker, CWi := CWi, fIWi := fIWi, ccWi := ccWi, cdaWi := cdaWi, excWi := excWi, fldWi := ⟨⟨_, (by unfold PySem.W.clsIn; rw [xLWi]), PySem.XV.MroOk.of rfl, rfl⟩, saCWi, fun f hf => by rw [List.mem_singleton.mp hf]; exact nWi_rooms⟩, exIWi := ⟨gaCWi, ggCWi, exCWi, hdCWi, clCWi, snC, tkC, mrCWi⟩, xfcWi := ⟨gaCWi, ggCWi, exCWi, hdCWi⟩, is1Wi := ⟨_, _, _, _, rfl, by decide +kernel, by decide +kernel, fun L => rfl⟩, noWiRooms := nWi_rooms, CRo := CRo, fIRo := fIRo, ccRo := ccRo, cdaRo := cdaRo, excRo := excRo, exIRo := ⟨gaCRo, ggCRo, exCRo, hdCRo, clCRo, snC, tkC, mrCRo⟩, xfcRo := ⟨gaCRo, ggCRo, exCRo, hdCRo⟩, CNu := CNu, fINu := fINu, ccNu := ccNu, cdaNu := cdaNu, excNu := excNu, exINu := ⟨gaCNu, ggCNu, exCNu, hdCNu, clCNu, snC, tkC, mrCNu⟩, xfcNu := ⟨gaCNu, ggCNu, exCNu, hdCNu⟩, CKe := CKe, fIKe := fIKe, ccKe := ccKe, cdaKe := cdaKe, excKe := excKe, fldKe := ⟨⟨_, (by unfold PySem.W.clsIn; rw [xLKe]), PySem.XV.mro_K, rfl⟩, saCKe, fun f hf => by rw [List.mem_singleton.mp hf]; exact nKe_name⟩, exIKe := ⟨gaCKe, ggCKe, exCKe, hdCKe, clCKe, snC, tkC, mrCKe⟩, xfcKe := ⟨gaCKe, ggCKe, exCKe, hdCKe⟩, is1Ke := ⟨_, _, _, _, rfl, by decide +kernel, by decide +kernel, fun L => rfl⟩, noKeName := nKe_name, CBo := CBo, fIBo := fIBo, ccBo := ccBo, cdaBo := cdaBo, excBo := excBo, fldBo := ⟨⟨_, (by unfold PySem.W.clsIn; rw [xLBo]), PySem.XV.mro_I, rfl⟩, saCBo, fun f hf => by rw [List.mem_singleton.mp hf]; exact nBo_box⟩, exIBo := ⟨gaCBo, ggCBo, exCBo, hdCBo, clCBo, snC, tkC, mrCBo⟩, xfcBo := ⟨gaCBo, ggCBo, exCBo, hdCBo⟩, is1Bo := ⟨_, _, _, _, rfl, by decide +kernel, by decide +kernel, fun L => rfl⟩, noBoBox := nBo_box, ktTx := ktTx, ktWd := ktWd, ktTr := ktTr, ktWo := ktWo, ktLo := ktLo, ktRd := ktRd, ktFt := ktFt, ktPr := ktPr, ktTu := ktTu, ktWi := ktWi, ktRo := ktRo, ktNu := ktNu, ktKe := ktKe, ktBo := ktBo, exmT := PySem.W.exm_ref exB hdB tyB sBT, exmK := sKK }
  exact ⟨PySem.W.fnOf "law" "law" (defArgs st_law) (defBody st_law) (defScope st_law) .none kV_law dc_law pm_law an_law cd_law ct_law, fun s v => .of_eq rfl, fun base _ _ => ok_law T F_law⟩
end B05
open PySem PySem.W PyProof.Rows
set_option maxRecDepth 100000 in
set_option maxHeartbeats 0 in
theorem PySem.Challenge.cw_boughkept_k05_refusals_holds : PySem.Challenge.rw_boughkept_k05_refusals.Holds := by
  w_on; o_law; k_head; (case hw => w_witness2)
  k_fill
  refine L2.walk_of (l := PySem.Challenge.rw_boughkept_k05_refusals) (n := 63) (k := 3) (x := "_law_script") (CX := fun _ => L2.CX0) (sp := fun w => B05.spLaw _) rfl (by decide) rfl ⟨rfl, by decide, by decide⟩ (fun w h Y => PySem.W.kIn_of Y) ?F (fun _ _ a ns hl _ hS => ⟨a, ns, rfl, hS, hl, fun _ => rfl⟩) (fun _ _ _ _ _ h => h)
  case F =>
    intro w mg fa h KX G hmg
    refine' B05.all_mk KX G hmg ?a_box ?l_box ?c_box ?k_box ?a_take ?l_take ?c_take ?k_take ?a_made ?l_made ?c_made ?k_made ?a_named ?l_named ?c_named ?k_named ?a_kinds ?l_kinds ?c_kinds ?k_kinds ?a_fields ?l_fields ?c_fields ?k_fields ?a_taken ?l_taken ?c_taken ?k_taken ?a_law ?l_law ?c_law ?k_law ?z_len ?z_int ?z_zip ?z_isinstance ?z_range ?z_enumerate ?z_ValueError ?z_ZeroDivisionError ?z_KeyError ?z_IndexError ?z_super ?aB ?exB ?hdB ?tyB ?opq ?topN ?snC ?tkC ?aCTx ?xLTx ?iCTx ?tITx ?lITx ?cITx ?lcdTx ?vs2Tx ?fileETx ?lccTx ?supCTx ?subBTx ?subCTx ?kCTx ?exCTx ?tyCTx ?gaCTx ?ggCTx ?hdCTx ?clCTx ?mrCTx ?saCTx ?nTx_row ?aCWd ?xLWd ?iCWd ?tIWd ?lIWd ?cIWd ?lcdWd ?vs2Wd ?fileEWd ?lccWd ?supCWd ?subBWd ?subCWd ?kCWd ?exCWd ?tyCWd ?gaCWd ?ggCWd ?hdCWd ?clCWd ?mrCWd ?saCWd ?nWd_word ?nWd_name ?aCTr ?xLTr ?iCTr ?tITr ?lITr ?cITr ?lcdTr ?vs2Tr ?fileETr ?lccTr ?supCTr ?subBTr ?subCTr ?kCTr ?exCTr ?tyCTr ?gaCTr ?ggCTr ?hdCTr ?clCTr ?mrCTr ?saCTr ?nTr_at ?aCWo ?xLWo ?iCWo ?tIWo ?lIWo ?cIWo ?lcdWo ?vs2Wo ?fileEWo ?lccWo ?supCWo ?subBWo ?subCWo ?kCWo ?exCWo ?tyCWo ?gaCWo ?ggCWo ?hdCWo ?clCWo ?mrCWo ?saCWo ?nWo_at ?aCLo ?xLLo ?iCLo ?tILo ?lILo ?cILo ?lcdLo ?vs2Lo ?fileELo ?lccLo ?supCLo ?subBLo ?subCLo ?kCLo ?exCLo ?tyCLo ?gaCLo ?ggCLo ?hdCLo ?clCLo ?mrCLo ?saCLo ?nLo_most ?aCRd ?xLRd ?iCRd ?tIRd ?lIRd ?cIRd ?lcdRd ?vs2Rd ?fileERd ?lccRd ?supCRd ?subBRd ?subCRd ?kCRd ?exCRd ?tyCRd ?gaCRd ?ggCRd ?hdCRd ?clCRd ?mrCRd ?saCRd ?nRd_word ?nRd_maker ?aCFt ?xLFt ?iCFt ?tIFt ?lIFt ?cIFt ?lcdFt ?vs2Ft ?fileEFt ?lccFt ?supCFt ?subBFt ?subCFt ?kCFt ?exCFt ?tyCFt ?gaCFt ?ggCFt ?hdCFt ?clCFt ?mrCFt ?saCFt ?nFt_at ?aCPr ?xLPr ?iCPr ?tIPr ?lIPr ?cIPr ?lcdPr ?vs2Pr ?fileEPr ?lccPr ?supCPr ?subBPr ?subCPr ?kCPr ?exCPr ?tyCPr ?gaCPr ?ggCPr ?hdCPr ?clCPr ?mrCPr ?saCPr ?nPr_word ?nPr_maker ?aCTu ?xLTu ?iCTu ?tITu ?lITu ?cITu ?lcdTu ?vs2Tu ?fileETu ?lccTu ?supCTu ?subBTu ?subCTu ?kCTu ?exCTu ?tyCTu ?gaCTu ?ggCTu ?hdCTu ?clCTu ?mrCTu ?saCTu ?nTu_word ?nTu_maker ?aCWi ?xLWi ?iCWi ?tIWi ?lIWi ?cIWi ?lcdWi ?vs2Wi ?fileEWi ?lccWi ?supCWi ?subBWi ?subCWi ?kCWi ?exCWi ?tyCWi ?gaCWi ?ggCWi ?hdCWi ?clCWi ?mrCWi ?saCWi ?nWi_rooms ?aCRo ?xLRo ?iCRo ?tIRo ?lIRo ?cIRo ?lcdRo ?vs2Ro ?fileERo ?lccRo ?supCRo ?subBRo ?subCRo ?kCRo ?exCRo ?tyCRo ?gaCRo ?ggCRo ?hdCRo ?clCRo ?mrCRo ?saCRo ?aCNu ?xLNu ?iCNu ?tINu ?lINu ?cINu ?lcdNu ?vs2Nu ?fileENu ?lccNu ?supCNu ?subBNu ?subCNu ?kCNu ?exCNu ?tyCNu ?gaCNu ?ggCNu ?hdCNu ?clCNu ?mrCNu ?saCNu ?aCKe ?xLKe ?iCKe ?tIKe ?lIKe ?cIKe ?lcdKe ?vs2Ke ?fileEKe ?lccKe ?supCKe ?subBKe ?subCKe ?kCKe ?exCKe ?tyCKe ?gaCKe ?ggCKe ?hdCKe ?clCKe ?mrCKe ?saCKe ?nKe_name ?aCBo ?xLBo ?iCBo ?tIBo ?lIBo ?cIBo ?lcdBo ?vs2Bo ?fileEBo ?lccBo ?supCBo ?subBBo ?subCBo ?kCBo ?exCBo ?tyCBo ?gaCBo ?ggCBo ?hdCBo ?clCBo ?mrCBo ?saCBo ?nBo_box ?ktTx ?ktWd ?ktTr ?ktWo ?ktLo ?ktRd ?ktFt ?ktPr ?ktTu ?ktWi ?ktRo ?ktNu ?ktKe ?ktBo ?sBT ?sKK
    (case a_box => k_is)
    (case l_box => k_is)
    (case c_box => k_is)
    (case k_box => k_is)
    (case a_take => k_is)
    (case l_take => k_is)
    (case c_take => k_is)
    (case k_take => k_is)
    (case a_made => k_is)
    (case l_made => k_is)
    (case c_made => k_is)
    (case k_made => k_is)
    (case a_named => k_is)
    (case l_named => k_is)
    (case c_named => k_is)
    (case k_named => k_is)
    (case a_kinds => k_is)
    (case l_kinds => k_is)
    (case c_kinds => k_is)
    (case k_kinds => k_is)
    (case a_fields => k_is)
    (case l_fields => k_is)
    (case c_fields => k_is)
    (case k_fields => k_is)
    (case a_taken => k_is)
    (case l_taken => k_is)
    (case c_taken => k_is)
    (case k_taken => k_is)
    (case a_law => k_is)
    (case l_law => k_is)
    (case c_law => k_is)
    (case k_law => k_is)
    (case z_len => k_is)
    (case z_int => k_is)
    (case z_zip => k_is)
    (case z_isinstance => k_is)
    (case z_range => k_is)
    (case z_enumerate => k_is)
    (case z_ValueError => k_is)
    (case z_ZeroDivisionError => k_is)
    (case z_KeyError => k_is)
    (case z_IndexError => k_is)
    (case z_super => k_is)
    (case aB => k_is)
    (case exB => k_is)
    (case hdB => k_is)
    (case tyB => k_is)
    (case opq => k_is)
    (case topN => first | rfl | decide +kernel)
    (case snC => k_is)
    (case tkC => k_is)
    (case aCTx => k_is)
    (case xLTx => k_is)
    (case iCTx => k_is)
    (case tITx => k_is)
    (case lITx => k_is)
    (case cITx => k_is)
    (case lcdTx => k_is)
    (case vs2Tx => rfl)
    (case fileETx => first | rfl | decide +kernel)
    (case lccTx => k_is)
    (case supCTx => ks_is)
    (case subBTx => k_is)
    (case subCTx => k_is)
    (case kCTx => k_is)
    (case exCTx => k_is)
    (case tyCTx => k_is)
    (case gaCTx => k_is)
    (case ggCTx => k_is)
    (case hdCTx => k_is)
    (case clCTx => k_is)
    (case mrCTx => k_is)
    (case saCTx => k_is)
    (case nTx_row => k_is)
    (case aCWd => k_is)
    (case xLWd => k_is)
    (case iCWd => k_is)
    (case tIWd => k_is)
    (case lIWd => k_is)
    (case cIWd => k_is)
    (case lcdWd => k_is)
    (case vs2Wd => rfl)
    (case fileEWd => first | rfl | decide +kernel)
    (case lccWd => k_is)
    (case supCWd => ks_is)
    (case subBWd => k_is)
    (case subCWd => k_is)
    (case kCWd => k_is)
    (case exCWd => k_is)
    (case tyCWd => k_is)
    (case gaCWd => k_is)
    (case ggCWd => k_is)
    (case hdCWd => k_is)
    (case clCWd => k_is)
    (case mrCWd => k_is)
    (case saCWd => k_is)
    (case nWd_word => k_is)
    (case nWd_name => k_is)
    (case aCTr => k_is)
    (case xLTr => k_is)
    (case iCTr => k_is)
    (case tITr => k_is)
    (case lITr => k_is)
    (case cITr => k_is)
    (case lcdTr => k_is)
    (case vs2Tr => rfl)
    (case fileETr => first | rfl | decide +kernel)
    (case lccTr => k_is)
    (case supCTr => ks_is)
    (case subBTr => k_is)
    (case subCTr => k_is)
    (case kCTr => k_is)
    (case exCTr => k_is)
    (case tyCTr => k_is)
    (case gaCTr => k_is)
    (case ggCTr => k_is)
    (case hdCTr => k_is)
    (case clCTr => k_is)
    (case mrCTr => k_is)
    (case saCTr => k_is)
    (case nTr_at => k_is)
    (case aCWo => k_is)
    (case xLWo => k_is)
    (case iCWo => k_is)
    (case tIWo => k_is)
    (case lIWo => k_is)
    (case cIWo => k_is)
    (case lcdWo => k_is)
    (case vs2Wo => rfl)
    (case fileEWo => first | rfl | decide +kernel)
    (case lccWo => k_is)
    (case supCWo => ks_is)
    (case subBWo => k_is)
    (case subCWo => k_is)
    (case kCWo => k_is)
    (case exCWo => k_is)
    (case tyCWo => k_is)
    (case gaCWo => k_is)
    (case ggCWo => k_is)
    (case hdCWo => k_is)
    (case clCWo => k_is)
    (case mrCWo => k_is)
    (case saCWo => k_is)
    (case nWo_at => k_is)
    (case aCLo => k_is)
    (case xLLo => k_is)
    (case iCLo => k_is)
    (case tILo => k_is)
    (case lILo => k_is)
    (case cILo => k_is)
    (case lcdLo => k_is)
    (case vs2Lo => rfl)
    (case fileELo => first | rfl | decide +kernel)
    (case lccLo => k_is)
    (case supCLo => ks_is)
    (case subBLo => k_is)
    (case subCLo => k_is)
    (case kCLo => k_is)
    (case exCLo => k_is)
    (case tyCLo => k_is)
    (case gaCLo => k_is)
    (case ggCLo => k_is)
    (case hdCLo => k_is)
    (case clCLo => k_is)
    (case mrCLo => k_is)
    (case saCLo => k_is)
    (case nLo_most => k_is)
    (case aCRd => k_is)
    (case xLRd => k_is)
    (case iCRd => k_is)
    (case tIRd => k_is)
    (case lIRd => k_is)
    (case cIRd => k_is)
    (case lcdRd => k_is)
    (case vs2Rd => rfl)
    (case fileERd => first | rfl | decide +kernel)
    (case lccRd => k_is)
    (case supCRd => ks_is)
    (case subBRd => k_is)
    (case subCRd => k_is)
    (case kCRd => k_is)
    (case exCRd => k_is)
    (case tyCRd => k_is)
    (case gaCRd => k_is)
    (case ggCRd => k_is)
    (case hdCRd => k_is)
    (case clCRd => k_is)
    (case mrCRd => k_is)
    (case saCRd => k_is)
    (case nRd_word => k_is)
    (case nRd_maker => k_is)
    (case aCFt => k_is)
    (case xLFt => k_is)
    (case iCFt => k_is)
    (case tIFt => k_is)
    (case lIFt => k_is)
    (case cIFt => k_is)
    (case lcdFt => k_is)
    (case vs2Ft => rfl)
    (case fileEFt => first | rfl | decide +kernel)
    (case lccFt => k_is)
    (case supCFt => ks_is)
    (case subBFt => k_is)
    (case subCFt => k_is)
    (case kCFt => k_is)
    (case exCFt => k_is)
    (case tyCFt => k_is)
    (case gaCFt => k_is)
    (case ggCFt => k_is)
    (case hdCFt => k_is)
    (case clCFt => k_is)
    (case mrCFt => k_is)
    (case saCFt => k_is)
    (case nFt_at => k_is)
    (case aCPr => k_is)
    (case xLPr => k_is)
    (case iCPr => k_is)
    (case tIPr => k_is)
    (case lIPr => k_is)
    (case cIPr => k_is)
    (case lcdPr => k_is)
    (case vs2Pr => rfl)
    (case fileEPr => first | rfl | decide +kernel)
    (case lccPr => k_is)
    (case supCPr => ks_is)
    (case subBPr => k_is)
    (case subCPr => k_is)
    (case kCPr => k_is)
    (case exCPr => k_is)
    (case tyCPr => k_is)
    (case gaCPr => k_is)
    (case ggCPr => k_is)
    (case hdCPr => k_is)
    (case clCPr => k_is)
    (case mrCPr => k_is)
    (case saCPr => k_is)
    (case nPr_word => k_is)
    (case nPr_maker => k_is)
    (case aCTu => k_is)
    (case xLTu => k_is)
    (case iCTu => k_is)
    (case tITu => k_is)
    (case lITu => k_is)
    (case cITu => k_is)
    (case lcdTu => k_is)
    (case vs2Tu => rfl)
    (case fileETu => first | rfl | decide +kernel)
    (case lccTu => k_is)
    (case supCTu => ks_is)
    (case subBTu => k_is)
    (case subCTu => k_is)
    (case kCTu => k_is)
    (case exCTu => k_is)
    (case tyCTu => k_is)
    (case gaCTu => k_is)
    (case ggCTu => k_is)
    (case hdCTu => k_is)
    (case clCTu => k_is)
    (case mrCTu => k_is)
    (case saCTu => k_is)
    (case nTu_word => k_is)
    (case nTu_maker => k_is)
    (case aCWi => k_is)
    (case xLWi => k_is)
    (case iCWi => k_is)
    (case tIWi => k_is)
    (case lIWi => k_is)
    (case cIWi => k_is)
    (case lcdWi => k_is)
    (case vs2Wi => rfl)
    (case fileEWi => first | rfl | decide +kernel)
    (case lccWi => k_is)
    (case supCWi => ks_is)
    (case subBWi => k_is)
    (case subCWi => k_is)
    (case kCWi => k_is)
    (case exCWi => k_is)
    (case tyCWi => k_is)
    (case gaCWi => k_is)
    (case ggCWi => k_is)
    (case hdCWi => k_is)
    (case clCWi => k_is)
    (case mrCWi => k_is)
    (case saCWi => k_is)
    (case nWi_rooms => k_is)
    (case aCRo => k_is)
    (case xLRo => k_is)
    (case iCRo => k_is)
    (case tIRo => k_is)
    (case lIRo => k_is)
    (case cIRo => k_is)
    (case lcdRo => k_is)
    (case vs2Ro => rfl)
    (case fileERo => first | rfl | decide +kernel)
    (case lccRo => k_is)
    (case supCRo => ks_is)
    (case subBRo => k_is)
    (case subCRo => k_is)
    (case kCRo => k_is)
    (case exCRo => k_is)
    (case tyCRo => k_is)
    (case gaCRo => k_is)
    (case ggCRo => k_is)
    (case hdCRo => k_is)
    (case clCRo => k_is)
    (case mrCRo => k_is)
    (case saCRo => k_is)
    (case aCNu => k_is)
    (case xLNu => k_is)
    (case iCNu => k_is)
    (case tINu => k_is)
    (case lINu => k_is)
    (case cINu => k_is)
    (case lcdNu => k_is)
    (case vs2Nu => rfl)
    (case fileENu => first | rfl | decide +kernel)
    (case lccNu => k_is)
    (case supCNu => ks_is)
    (case subBNu => k_is)
    (case subCNu => k_is)
    (case kCNu => k_is)
    (case exCNu => k_is)
    (case tyCNu => k_is)
    (case gaCNu => k_is)
    (case ggCNu => k_is)
    (case hdCNu => k_is)
    (case clCNu => k_is)
    (case mrCNu => k_is)
    (case saCNu => k_is)
    (case aCKe => k_is)
    (case xLKe => k_is)
    (case iCKe => k_is)
    (case tIKe => k_is)
    (case lIKe => k_is)
    (case cIKe => k_is)
    (case lcdKe => k_is)
    (case vs2Ke => rfl)
    (case fileEKe => first | rfl | decide +kernel)
    (case lccKe => k_is)
    (case supCKe => ks_is)
    (case subBKe => k_is)
    (case subCKe => k_is)
    (case kCKe => k_is)
    (case exCKe => k_is)
    (case tyCKe => k_is)
    (case gaCKe => k_is)
    (case ggCKe => k_is)
    (case hdCKe => k_is)
    (case clCKe => k_is)
    (case mrCKe => k_is)
    (case saCKe => k_is)
    (case nKe_name => k_is)
    (case aCBo => k_is)
    (case xLBo => k_is)
    (case iCBo => k_is)
    (case tIBo => k_is)
    (case lIBo => k_is)
    (case cIBo => k_is)
    (case lcdBo => k_is)
    (case vs2Bo => rfl)
    (case fileEBo => first | rfl | decide +kernel)
    (case lccBo => k_is)
    (case supCBo => ks_is)
    (case subBBo => k_is)
    (case subCBo => k_is)
    (case kCBo => k_is)
    (case exCBo => k_is)
    (case tyCBo => k_is)
    (case gaCBo => k_is)
    (case ggCBo => k_is)
    (case hdCBo => k_is)
    (case clCBo => k_is)
    (case mrCBo => k_is)
    (case saCBo => k_is)
    (case nBo_box => k_is)
    (case ktTx => refine ⟨?_, ?_, ?_, ?_, ?_, ?_, ?_, ?_, ?_, ?_, ?_, ?_, ?_, ?_, ?_, ?_, ?_, ?_, ?_⟩ <;> first | exact if_pos (beq_self_eq_true _) | kit_is)
    (case ktWd => refine ⟨?_, ?_, ?_, ?_, ?_, ?_, ?_, ?_, ?_, ?_, ?_, ?_, ?_, ?_, ?_, ?_, ?_, ?_, ?_⟩ <;> first | exact if_pos (beq_self_eq_true _) | kit_is)
    (case ktTr => refine ⟨?_, ?_, ?_, ?_, ?_, ?_, ?_, ?_, ?_, ?_, ?_, ?_, ?_, ?_, ?_, ?_, ?_, ?_, ?_⟩ <;> first | exact if_pos (beq_self_eq_true _) | kit_is)
    (case ktWo => refine ⟨?_, ?_, ?_, ?_, ?_, ?_, ?_, ?_, ?_, ?_, ?_, ?_, ?_, ?_, ?_, ?_, ?_, ?_, ?_⟩ <;> first | exact if_pos (beq_self_eq_true _) | kit_is)
    (case ktLo => refine ⟨?_, ?_, ?_, ?_, ?_, ?_, ?_, ?_, ?_, ?_, ?_, ?_, ?_, ?_, ?_, ?_, ?_, ?_, ?_⟩ <;> first | exact if_pos (beq_self_eq_true _) | kit_is)
    (case ktRd => refine ⟨?_, ?_, ?_, ?_, ?_, ?_, ?_, ?_, ?_, ?_, ?_, ?_, ?_, ?_, ?_, ?_, ?_, ?_, ?_⟩ <;> first | exact if_pos (beq_self_eq_true _) | kit_is)
    (case ktFt => refine ⟨?_, ?_, ?_, ?_, ?_, ?_, ?_, ?_, ?_, ?_, ?_, ?_, ?_, ?_, ?_, ?_, ?_, ?_, ?_⟩ <;> first | exact if_pos (beq_self_eq_true _) | kit_is)
    (case ktPr => refine ⟨?_, ?_, ?_, ?_, ?_, ?_, ?_, ?_, ?_, ?_, ?_, ?_, ?_, ?_, ?_, ?_, ?_, ?_, ?_⟩ <;> first | exact if_pos (beq_self_eq_true _) | kit_is)
    (case ktTu => refine ⟨?_, ?_, ?_, ?_, ?_, ?_, ?_, ?_, ?_, ?_, ?_, ?_, ?_, ?_, ?_, ?_, ?_, ?_, ?_⟩ <;> first | exact if_pos (beq_self_eq_true _) | kit_is)
    (case ktWi => refine ⟨?_, ?_, ?_, ?_, ?_, ?_, ?_, ?_, ?_, ?_, ?_, ?_, ?_, ?_, ?_, ?_, ?_, ?_, ?_⟩ <;> first | exact if_pos (beq_self_eq_true _) | kit_is)
    (case ktRo => refine ⟨?_, ?_, ?_, ?_, ?_, ?_, ?_, ?_, ?_, ?_, ?_, ?_, ?_, ?_, ?_, ?_, ?_, ?_, ?_⟩ <;> first | exact if_pos (beq_self_eq_true _) | kit_is)
    (case ktNu => refine ⟨?_, ?_, ?_, ?_, ?_, ?_, ?_, ?_, ?_, ?_, ?_, ?_, ?_, ?_, ?_, ?_, ?_, ?_, ?_⟩ <;> first | exact if_pos (beq_self_eq_true _) | kit_is)
    (case ktKe => refine ⟨?_, ?_, ?_, ?_, ?_, ?_, ?_, ?_, ?_, ?_, ?_, ?_, ?_, ?_, ?_, ?_, ?_, ?_, ?_⟩ <;> first | exact if_pos (beq_self_eq_true _) | kit_is)
    (case ktBo => refine ⟨?_, ?_, ?_, ?_, ?_, ?_, ?_, ?_, ?_, ?_, ?_, ?_, ?_, ?_, ?_, ?_, ?_, ?_, ?_⟩ <;> first | exact if_pos (beq_self_eq_true _) | kit_is)
    (case sBT => first | rfl | k_is)
    (case sKK => first | rfl | decide +kernel | k_is)
