import PyProof.Rows.All
import Wide.All
import OpenK.AllK
import Wide.FinOn
import KE.KExcSuper
import HandS.Exc
import HandS.ExcInit
import KE.KItemsList
import HandS.Zip
import PyProof.EqAt
import PyProof.EqKinds
import PyProof.TupleCall
import KE.RegKIsAll
import HandS.ForMost
import HandS.ForExc
import HandS.Wide
import HandS.IsInst
import HandS.ExcIs
import HandS.Defaults
import HandS.CallSlots
import PySem.Challenge.RW_boughkept_k01_fractions_reckoned
set_option Elab.async false
set_option linter.all false
set_option maxRecDepth 100000
set_option maxHeartbeats 2000000
namespace PySem
namespace BX
open PySem.W PySem.Calls PyProof.Rows PySem.HandSPX
/-- what the written part says of an own exception class at C whose __init__ (at fI) begins with super().__init__(text) -/
structure ETxt (P : Program) (K : Frag) (mg : Str → Option Value) (C fI cc cda : Addr) (B newId initId : String) (bmB : List Value) (nmC qual : Str) (params : Arguments) (first : Stmt) (rest : List Stmt) (scope : Scope) : Prop where
  gC : mg nmC = some (.ref C)
  cls : ∃ nm q N bs bm sn sub ab col dd k0 k1 k2 k3 k5, K.lookup C = some (excClassObj nm q C N bs bm true sn sub ab col dd k0 k1 k2 k3 k5 newId) ∧ (∀ X : String, bm.contains (.type X) = bmB.contains (.type X))
  base : ExcBaseFacts B newId initId bmB
  kxs : KxsFacts B initId
  iC : findIn K (.ref C) "__init__" = some (some (.ref fI))
  tI : typeIn K (.ref fI) = some (.type "function")
  fn : ∃ (oc : Value) (od : Option Addr) (kV doc pm : Value) (an : Option Addr) (ct : Value) (osl : Array (Option Value)), K.lookup fI = some ⟨oc, od, .func (ksFn "__init__" qual params (first :: rest) scope .none kV doc pm an (.ref cda) ct cc), osl⟩
  code : codeIn K (.ref cda) qual = true
  cdo : ∃ (ccl : Value) (cdd : Option Addr) (vs : Array Value) (ccs : Array (Option Value)) (file : Str) (tf : Tok), K.lookup cda = some ⟨ccl, cdd, .fields vs, ccs⟩ ∧ vs[2]? = some (.str file tf) ∧ ((P.main.file : Str) == file) = true
  cell : ∃ (cl : Value) (cld : Option Addr) (csl : Array (Option Value)), K.lookup cc = some ⟨cl, cld, .cell (some (.ref C)), csl⟩
  sup : ks_superIn K C C "__init__" = some (some (.builtin initId))
  opq : nsIn K cStatics "thirdparty.any" = some none
  noS : mg "super" = none
  topS : (P.main.scope.names.lookup ("super" : Str)).isSome = false
  subB : subIn K (.ref C) (.type B) = some true
  subC : mroIn K C (.ref C) = some true
  kC : keepIn K (.ref C) = true
  exC : subIn K (.ref C) (.type "BaseException") = some true
  tyC : typeIn K (.ref C) = some (.type "type")
  kS : scope.names.lookup ("super" : Str) = some .globalImplicit
  kCl : scope.names.lookup ("__class__" : Str) = some .free
  kSf : scope.names.lookup ("self" : Str) = some .local
  kF : scope.kind = .function
  st : ∃ (p0 p1 p2 p3 p4 p5 : Pos) (msg : Str) (j : Nat), first = .Expr (.Call (.Attribute (.Call (.Name "super" p0) [] [] p1) "__init__" p2) [.Constant (.str msg) j p3] [] p4) p5 ∧ ∀ L : Addr,
    interactive (ksEnv qual scope L fI (.ref cda) cc) = false ∧ swapsWith (.Call (.Attribute (.Call (.Name "super" p0) [] [] p1) "__init__" p2) [.Constant (.str msg) j p3] [] p4) none p5.line (ksEnv qual scope L fI (.ref cda) cc) = pure false ∧
    ∃ pl : Sem Bool, eval (.Call (.Attribute (.Call (.Name "super" p0) [] [] p1) "__init__" p2) [.Constant (.str msg) j p3] [] p4) (ksEnv qual scope L fI (.ref cda) cc) = (do
      let ov ← attributeBase (.Call (.Name "super" p0) [] [] p1) "__init__" (ksEnv qual scope L fI (.ref cda) cc) (eval (.Call (.Name "super" p0) [] [] p1) (ksEnv qual scope L fI (.ref cda) cc))
      standAt p2.atName
      let (f, fst) ← holding [ov] (getMethod ov "__init__" pl)
      callWith p4 f fst (backTo p4 (starEach [.Constant (.str msg) j p3] (ksEnv qual scope L fI (.ref cda) cc))) [])
  hd : ∃ ar : Arg, (params.posonlyargs ++ params.args).head? = some ar ∧ ar.arg = ("self" : Str)
section
variable {prog : Program} {w : World} {A : Around} {E : Value → Shared → Prop} {K : Frag} {mg mb : Str → Option Value} {C fI cc cda : Addr} {B newId initId : String} {bmB : List Value} {nmC qual : Str} {params : Arguments} {first : Stmt} {rest : List Stmt} {scope : Scope}
variable {h : Heap} {g : Array GenState} {d : Drawn} {t : Nat} {os : OsState}
/-- super().__init__(text): the args are laid anew -/
theorem call_mw (T : ETxt prog K mg C fI cc cda B newId initId bmB nmC qual params first rest scope) {u e t0 : Addr} {us : List Value} {Q : Value → Shared → Prop} (X : K.In h)
    (he : h.get? e = some (excO C t0)) (hu : h.get? u = some (kxs_mw initId e)) (hrest : us.length ≤ sizeLine)
    (hq : ∀ h' t1, (∀ b o, b ≠ e → h.get? b = some o → h'.get? b = some o) → h'.get? e = some (excO C t1) → Q .none ⟨h', g, d, t, os⟩) :
    wpAny (model prog w) A (call (.ref u) us) Q E ⟨h, g, d, t, os⟩ := by
  obtain ⟨nm, q, N, bs, bm, sn, sub, ab, col, dd, k0, k1, k2, k3, k5, hC, hbm⟩ := T.cls
  refine wpAny_call (codeAny_of_tree ?_)
  show wpAny _ A.in1 (callAny (.ref u) ⟨us, []⟩) _ _ _
  simp only [callAny]
  refine wpAny_bind (wpAny_load hu ?_)
  simp only [kxs_mw, show (Value.type "method-wrapper" == Value.type "method" || Value.type "method-wrapper" == Value.type "builtin_function_or_method" || Value.type "method-wrapper" == Value.type "method-wrapper") = true by decide, if_true]
  refine KFB.if_so (by decide) ?_
  refine wpAny_bind (check_bound_init T.base.toExcCallFacts (X _ _ hC) he rfl ?_)
  refine wpAny_bind (wpAny_pure (wpAny_pure ?_))
  refine ⟨plainId_quiet T.base.init.plain _, codeAny_builtin T.base.initEntry ?_⟩
  exact exc_init_tree (cls := .ref C) (t0 := t0) (dv := none) (c2 := .none) (c3 := .none) (b4 := .bool false) he hrest fun h' k e' _ => hq h' h.objs.size k e'

theorem super_stmt (T : ETxt prog K mg C fI cc cda B newId initId bmB nmC qual params first rest scope) {L x t0 : Addr} {m : Str → Option Value} {Q : Flow → Shared → Prop} (X : K.In h)
    (hg : h.Ns mainGlobals mg) (hb : h.Ns builtinsNs mb) (hS : mb "super" = some (.type "super")) (hL : h.Ns L m) (hself : m "self" = some (.ref x)) (hx : h.get? x = some (excO C t0)) (hxC : x ≠ C)
    (hq : ∀ h' tk t1, (∀ b o, b ≠ x → h.get? b = some o → h'.get? b = some o) → h'.get? x = some (excO C t1) → Q .next ⟨h', g, d, tk, os⟩) :
    _root_.PySem.wpAt (model prog w) A (.func (first :: rest) (ksEnv qual scope L fI (.ref cda) cc))
      (exec first (ksEnv qual scope L fI (.ref cda) cc)) Q E ⟨h, g, d, t, os⟩ := by
  obtain ⟨nm, q, N, bs, bm, sn, sub, ab, col, dd, k0, k1, k2, k3, k5, hC, hbm⟩ := T.cls
  obtain ⟨oc, od, kV, doc, pm, an, ct, osl, hf⟩ := T.fn
  obtain ⟨ccl, cdd, vs, ccs, file, tf, hcda, hvs, hfile⟩ := T.cdo
  obtain ⟨cl, cld, csl, hcc⟩ := T.cell
  obtain ⟨ar, har, harg⟩ := T.hd
  have hcd : clsIn K C = some { name := nm, bases := bs, mro := .ref C :: bm, ns := N, qualname := q, hasDict := true, slotNames := sn, subclasses := sub, abstract := ab, collection := col, hasDel := false } := by unfold clsIn; rw [hC] <;> rfl
  have hD := X _ _ hC
  obtain ⟨p0, p1, p2, p3, p4, p5, msg, j, rfl, hst⟩ := T.st
  obtain ⟨hi, hsw, pl, hev⟩ := hst L
  refine ks_wpAt_Expr_any (hi := hi) (hs := hsw) ?_
  refine ks_wpAt_MethodCall (pl := pl) (he := hev) ?_
  refine ks_wpAt_super_base (env := ksEnv qual scope L fI (.ref cda) cc) T.kS T.kCl (by decide) rfl (X _ _ hf) rfl har rfl (X _ _ hcda) rfl hvs hfile T.topS ?_
  refine ks_loadName_global T.kF T.kS (loadGlobal_builtin (env := ksEnv qual scope L fI (.ref cda) cc) hg T.noS hb hS ⟨rfl, ?_⟩)
  refine wpAny_loadName_free T.kF T.kCl rfl ⟨_, X _ _ hcc, rfl⟩ ?_
  rw [harg]
  refine wpAny_loadName_local T.kF T.kSf hL hself ?_
  refine ks_wpAny_isType_cls hD rfl ⟨rfl, ?_⟩
  refine ks_wpAny_call_super hD rfl hx rfl (fun c e => by cases e) (looks_mroIn X T.subC) (fun h1 e1 k1' => ?_)
  have X1 : K.In h1 := X.keeps k1'
  have hx1 := k1' _ _ hx
  have hsup : alongIn K "__init__" (((Value.ref C :: bm).dropWhile (· != .ref C)).drop 1) = some (some (.builtin initId)) := by
    have z := T.sup
    unfold ks_superIn at z
    rw [hcd] at z
    exact z
  have hI1 : InstAt h1 x (excO C t0) C none := ⟨hx1, rfl, rfl, trivial⟩
  have hmro : Looks (model prog w) h1 (mroOf (.ref C)) (Value.ref C :: bm) := (looks_clsIn X1 hcd).andThen .now
  refine kxs_getMethod T.kxs e1 (looks_opaque X1 T.opq) hmro rfl X1 hsup (hI1.type.andThen (looks_subIn X1 T.subB)) hxC (by decide) ?_
  have hx2 : (h1.push (kxs_mw initId x)).get? x = some (excO C t0) := Heap.get?_push_of_some _ hx1
  have hu2 : (h1.push (kxs_mw initId x)).get? h1.objs.size = some (kxs_mw initId x) := Heap.get?_push_size _ rfl
  have X2 : K.In (h1.push (kxs_mw initId x)) := X1.keeps fun b o e => Heap.get?_push_of_some _ e
  refine kxs_callWith (i := initId) (x := x) (by rfl) ?_
  refine evalArgs_plain ?_
  refine Calls.spliced_cons ?_
  show wpAny _ _ (eval (.Constant (.str msg) j p3) _) _ _ _
  refine Calls.Constant_str ?_
  refine Calls.spliced_nil ?_
  refine ⟨hu2, ?_⟩
  refine call_mw T X2 hx2 hu2 (by rw [sizeLine_eq]; exact (by decide : 1 ≤ 16777216)) fun h' t1 k e => ?_
  exact hq h' _ t1 (fun b o hb z => k b o hb (Heap.get?_push_of_some _ (k1' b o z))) e
/-- __init__ without fields of its own -/
theorem init0 (T : ETxt prog K mg C fI cc cda B newId initId bmB nmC qual params first [] scope) {R : Result → Shared → Prop} {s : Shared} {x t0 : Addr} (X : K.In s.heap) (hlim : s.heap.NoLimit)
    (hg : s.heap.Ns mainGlobals mg) (hb : s.heap.Ns builtinsNs mb) (hS : mb "super" = some (.type "super")) (hx : s.heap.get? x = some (excO C t0)) (hxC : x ≠ C) (hroom : A.depth < recursionLimit)
    (hbind : ∀ (kV doc pm : Value) (an : Option Addr) (ct : Value), BindsTo s (ksFn "__init__" qual params [first] scope .none kV doc pm an (.ref cda) ct cc) ⟨[.ref x], []⟩ [("self", .ref x)])
    (hcell : ∀ z ∈ scope.names, z.2 ≠ .cell) (hco : scope.isCoroutine = false) (hgen : scope.isGenerator = false)
    (hq : ∀ h' tk t1, (∀ b o, b ≠ x → s.heap.get? b = some o → h'.get? b = some o) → h'.get? x = some (excO C t1) → R (.ok (.ret .none)) { s with heap := h', toks := tk }) :
    codeAny (model prog w) A (.call (.ref fI) ⟨[.ref x], []⟩) R s := by
  obtain ⟨oc, od, kV, doc, pm, an, ct, osl, hf⟩ := T.fn
  refine ks_codeAny_call_defAt (fd := ksFn "__init__" qual params [first] scope .none kV doc pm an (.ref cda) ct cc) (body := [first]) (binds := [("self", .ref x)]) hroom (X _ _ hf) rfl hlim (codeRec_of X T.code) rfl (hbind kV doc pm an ct) hcell ?_ (fun h₁ hns hk => ?_) hco hgen T.kF
  · intro y hy
    rw [List.mem_singleton.mp hy]
    exact T.kSf
  obtain ⟨hp, g, d, t, os⟩ := s
  refine ks_wpAt_execs_cons ?_
  refine super_stmt (mb := mb) (m := fun x_1 => List.lookup x_1 [(("self" : Str), Value.ref x)].reverse) T (X.keeps hk) ?_ ?_ hS hns (by simp [List.lookup]) (hk _ _ hx) hxC (fun h' tk t1 k e => ?_)
  · exact hg.keeps hk
  · exact hb.keeps hk
  · refine wpAt_of_wpAny (wpAny_execs_nil ?_)
    exact hq h' tk t1 (fun b o hb z => k b o hb (hk b o z)) e
/-- C() -/
theorem made0 (T : ETxt prog K mg C fI cc cda B newId initId bmB nmC qual params first [] scope) {R : Result → Shared → Prop} {s : Shared} (X : K.In s.heap) (hlim : s.heap.NoLimit)
    (hg : s.heap.Ns mainGlobals mg) (hb : s.heap.Ns builtinsNs mb) (hS : mb "super" = some (.type "super")) (hroom : A.depth + 1 < recursionLimit)
    (hbind : ∀ (x : Addr) (s : Shared) (kV doc pm : Value) (an : Option Addr) (ct : Value), BindsTo s (ksFn "__init__" qual params [first] scope .none kV doc pm an (.ref cda) ct cc) ⟨[.ref x], []⟩ [("self", .ref x)])
    (hcell : ∀ z ∈ scope.names, z.2 ≠ .cell) (hco : scope.isCoroutine = false) (hgen : scope.isGenerator = false)
    (hq : ∀ h' tk t1, (∀ b o, s.heap.get? b = some o → h'.get? b = some o) → h'.get? (s.heap.objs.size + 1) = some (excO C t1) → R (.ok (.ret (.ref (s.heap.objs.size + 1)))) { s with heap := h', toks := tk }) :
    codeAny (model prog w) A (.call (.ref C) ⟨[], []⟩) R s := by
  obtain ⟨nm, q, N, bs, bm, sn, sub, ab, col, dd, k0, k1, k2, k3, k5, hC, hbm⟩ := T.cls
  obtain ⟨hp, g, dr, tk, os⟩ := s
  have k : ∀ b o, hp.get? b = some o → ((hp.push (kdv_tup [])).push (excO C hp.objs.size)).get? b = some o := fun b o e => Heap.get?_push_of_some _ (Heap.get?_push_of_some _ e)
  have hget : ((hp.push (kdv_tup [])).push (excO C hp.objs.size)).get? (hp.objs.size + 1) = some (excO C hp.objs.size) := by heap_get
  have hne : hp.objs.size + 1 ≠ C := fun z => by
    have := Heap.lt_size (X _ _ hC)
    rw [← z] at this
    exact absurd this (by show ¬ (hp.objs.size + 1 < hp.objs.size); omega)
  refine call_own T.base hbm (X _ _ hC) (looks_findIn X T.iC) (fun self => bind_fn X self T.tI) (by rw [sizeLine_eq]; exact (by decide : 0 ≤ 16777216)) ?_
  refine init0 (mb := mb) (s := ⟨(hp.push (kdv_tup [])).push (excO C hp.objs.size), g, dr, tk, os⟩) T (X.keeps k) (hlim.keeps k) (hg.keeps k) (hb.keeps k) hS hget hne ?_ (hbind _ _) hcell hco hgen fun h' tk' t1 k' e => ?_
  · show A.depth + 1 < recursionLimit
    exact hroom
  · refine ⟨rfl, hq h' tk' t1 (fun b o z => k' b o (Nat.ne_of_lt (Nat.lt_succ_of_lt (Heap.lt_size z))) (k b o z)) e⟩
end
end BX
end PySem
namespace L2
open PySem PySem.Spec PyProof.Rows
theorem pmk_e0 {X : Cx} {C fI cc cda : Addr} {B newId initId : String} {bmB : List Value} {nmC qual : Str} {params : Arguments} {first : Stmt} {scope : Scope} {p pos : Pos} {k : Nat}
    (T : PySem.BX.ETxt X.prog X.K X.mg C fI cc cda B newId initId bmB nmC qual params first [] scope) (hr : Room k X.A) (hg : Gl X nmC)
    (hbind : ∀ (x : Addr) (s : Shared) (kV doc pm : Value) (an : Option Addr) (ct : Value), BindsTo s (PySem.W.ksFn "__init__" qual params [first] scope .none kV doc pm an (.ref cda) ct cc) ⟨[.ref x], []⟩ [("self", .ref x)])
    (hcell : ∀ z ∈ scope.names, z.2 ≠ .cell) (hco : scope.isCoroutine = false) (hgen : scope.isGenerator = false) (hdb : (nmC == ("__debug__" : Str)) = false := by decide) :
    PMk X (.Call (.Name nmC p) [] [] pos) (fun _ H Q => Q (.ref C) none H) := by
  intro pins s σ H Q I h
  refine wpAny_Call_Name_kw (ld_glob I hg T.gC ?_ hdb)
  refine PySem.W.callWith_K0 I.kIn T.kC ?_
  show wpAny _ _ (call (.ref C) []) _ _ _
  have hlim := I.nolimit
  obtain ⟨mb, hb1, hb2⟩ := I.mod.blt
  have hbS : mb "super" = some (.type "super") := (hb2 _ (by decide)).trans (by first | rfl | decide +kernel)
  obtain ⟨hp, gg, dr, tk, os⟩ := s
  refine wpAny_call (PySem.BX.made0 (mb := mb) T I.kIn hlim (I.mod.glob.keeps I.bk) (hb1.keeps I.bk) hbS (by have := hr.dp; omega) hbind hcell hco hgen fun h' tk' t1 kp e => ?_)
  show MkP X pins σ Q (.ref (hp.objs.size + 1)) ⟨h', gg, dr, tk', os⟩
  obtain ⟨G', g1, g2⟩ := restrict h' fun b => decide (b ≠ hp.objs.size + 1)
  have gk : ∀ b, b ≠ hp.objs.size + 1 → G'.get? b = h'.get? b := fun b hb => g1 b (decide_eq_true hb)
  have ge : G'.get? (hp.objs.size + 1) = none := g2 _ (by simp)
  have old : ∀ b o, hp.get? b = some o → G'.get? b = some o := fun b o q => (gk b (Nat.ne_of_lt (Nat.lt_succ_of_lt (Heap.lt_size q)))).trans (kp b o q)
  have J : Inv X pins σ H ⟨G', gg, dr, tk', os⟩ := I.kept (t' := tk') old
  refine ⟨hp.objs.size + 1, _, _, ⟨G', gg, dr, tk', os⟩, H, .ref C, none, rfl, J, fun b o q => ?_, ge, e, ⟨rfl, rfl⟩, rfl, rfl, I.hok.fresh (Nat.le_succ _), rfl, I.bare, raises_own T.exC T.tyC, h⟩
  by_cases hb : b = hp.objs.size + 1
  · have q' : G'.get? b = some o := q
    rw [hb, ge] at q'; cases q'
  · exact (gk b hb).symm.trans q
end L2
set_option Elab.async false
set_option linter.all false
set_option maxRecDepth 100000
set_option maxHeartbeats 2000000
namespace ZL
open PySem RZ
section
variable {prog : Program} {w : World} {A : Around} {E : Value → Shared → Prop} {s : Shared}
abbrev ZOut (h : Heap) (z TI TO a : Addr) (f : Bool) : Prop := h.get? z = some { cls := .type "zip", data := .fields #[rawInt a, .bool f, .bool false, .ref TI, .ref TO] }
theorem own_out {z TI TO a : Addr} {f : Bool} {oa : Obj} {Q : Bool → Shared → Prop} (hz : ZOut s.heap z TI TO a f) (ha : s.heap.get? a = some oa)
    (hQ : ∀ h₀ : Heap, ZOut h₀ z TI TO a true → Heap.SameBut z s.heap h₀ → Q false { s with heap := h₀ }) : wpAny (model prog w) A (Builtin.SmallTypes.ownedTupleIsFree (.ref z)) Q E s := by
  unfold Builtin.SmallTypes.ownedTupleIsFree
  refine wpAny_bind (wpAny_field hz rfl (x := rawInt a) rfl ?_)
  show wpAny _ _ (loadIfAlive ((a : Int).toNat) >>= _) _ _ _
  rw [Int.toNat_natCast]
  refine wpAny_bind (PySem.W.kdx_alive ha ?_)
  simp only [Option.isNone_some, Bool.false_eq_true, if_false]
  refine wpAny_bind (wpAny_field hz rfl (x := .bool f) rfl ?_)
  cases f with
  | true =>
    rw [if_neg (show ¬ ((Value.bool true != Value.bool true) = true) from Bool.false_ne_true)]
    exact wpAny_pure (hQ _ hz (Heap.SameBut.refl _ _))
  | false =>
    rw [if_pos (show (Value.bool false != Value.bool true) = true from rfl)]
    refine wpAny_bind (wpAny_setField_rec hz (by simp) fun h₃ he₃ hs₃ => ?_)
    exact wpAny_pure (hQ h₃ he₃ hs₃)
theorem zipT_next_out {z TI TO i1 i2 l1 l2 a : Addr} {f : Bool} {oa : Obj} {k1 k2 : Nat} {xs ys : Array Value} {x y : Value} {Q : Value → Shared → Prop} (D : ZipApart z TI TO i1 i2 l1 l2)
    (hz : ZOut s.heap z TI TO a f) (ha : s.heap.get? a = some oa) (hTI : IsPair s.heap TI (.ref i1) (.ref i2))
    (h1 : s.heap.IsTupleIter i1 l1 k1) (h2 : s.heap.IsTupleIter i2 l2 k2) (hl1 : s.heap.IsTuple l1 xs) (hl2 : s.heap.IsTuple l2 ys) (hx : xs[k1]? = some x) (hy : ys[k2]? = some y)
    (hQ : ∀ h', ZOut h' z TI TO a true → h'.IsTupleIter i1 l1 (k1 + 1) → h'.IsTupleIter i2 l2 (k2 + 1) → IsPair h' s.heap.objs.size x y → h'.objs.size = s.heap.objs.size + 1 →
      (∀ c o, c ≠ z → c ≠ i1 → c ≠ i2 → s.heap.get? c = some o → h'.get? c = some o) → Q (.ref s.heap.objs.size) { s with heap := h' }) :
    wpAny (model prog w) A (Builtin.«zip.__next__» ⟨[.ref z], []⟩) (fun fin s' => ∃ v, fin = .done (.ret v) ∧ Q v s') E s := by
  show wpAny _ _ (field (.ref z) 2 >>= _) _ _ _
  refine wpAny_bind (wpAny_field hz rfl (x := .bool false) rfl ?_)
  show wpAny _ _ (field (.ref z) 3 >>= _) _ _ _
  refine wpAny_bind (wpAny_field hz rfl (x := .ref TI) rfl ?_)
  refine wpAny_bind (wpAny_seqItems hTI rfl ?_)
  show wpAny _ _ (Builtin.SmallTypes.ownedTupleIsFree (.ref z) >>= _) _ _ _
  refine wpAny_bind (own_out hz ha fun h₀ hz₀ hs₀ => ?_)
  simp only [Bool.false_eq_true, if_false]
  refine wpAny_bind ?_
  rw [show (#[Value.ref i1, Value.ref i2] : Array Value) = [Value.ref i1, Value.ref i2].toArray from rfl]
  simp only [List.forIn_toArray, List.forIn_cons, List.forIn_nil]
  refine wpAny_bind (wpAny_bind (wpAny_holding ?_))
  show wpAny _ _ (Builtin.SmallTypes.nextOf (.ref i1) >>= _) _ _ _
  refine wpAny_bind (nextOf_tuple_item (h1.extBut hs₀.extBut D.i1z) (hl1.extBut hs₀.extBut D.l1z) hx fun h₂ h1₂ hs₂ => wpAny_pure ?_)
  refine wpAny_pure ?_
  refine wpAny_bind (wpAny_bind (wpAny_holding ?_))
  show wpAny _ _ (Builtin.SmallTypes.nextOf (.ref i2) >>= _) _ _ _
  refine wpAny_bind (nextOf_tuple_item ((h2.extBut hs₀.extBut D.i2z).extBut hs₂.extBut D.i12.symm) ((hl2.extBut hs₀.extBut D.l2z).extBut hs₂.extBut D.l2i1) hy fun h₄ h2₄ hs₄ => wpAny_pure ?_)
  refine wpAny_pure (wpAny_pure ?_)
  refine wpAny_bind (wpAny_newTuple (hsz := by show 2 ≤ sizeLine; decide) ?_)
  have hsz : h₄.objs.size = s.heap.objs.size := by rw [hs₄.1, hs₂.1, hs₀.1]
  have e1 : h₄.get? z = _ := hs₄.extBut _ _ D.i2z.symm (hs₂.extBut _ _ D.i1z.symm hz₀)
  refine wpAny_pure ⟨_, rfl, ?_⟩
  show Q (.ref h₄.objs.size) _
  rw [hsz]
  refine hQ _ (Heap.get?_push_of_some _ e1) ?_ ?_ ?_ (by rw [Heap.size_push, hsz]) fun c o c1 c2 c3 e => Heap.get?_push_of_some _ (hs₄.extBut _ _ c3 (hs₂.extBut _ _ c2 (hs₀.extBut _ _ c1 e)))
  · exact (h1₂.extBut hs₄.extBut D.i12).at fun o e => Heap.get?_push_of_some _ e
  · exact h2₄.at fun o e => Heap.get?_push_of_some _ e
  · rw [← hsz]
    exact Heap.get?_push_size _ rfl
theorem zipT_end_out {z TI TO i1 i2 l1 l2 a : Addr} {f : Bool} {oa : Obj} {k1 k2 : Nat} {xs ys : Array Value} {Q : PySem.Fin → Shared → Prop} (hh : A.handled = none) (D : ZipApart z TI TO i1 i2 l1 l2)
    (hz : ZOut s.heap z TI TO a f) (ha : s.heap.get? a = some oa) (hTI : IsPair s.heap TI (.ref i1) (.ref i2))
    (h1 : s.heap.IsTupleIter i1 l1 k1) (h2 : s.heap.IsTupleIter i2 l2 k2) (hl1 : s.heap.IsTuple l1 xs) (hl2 : s.heap.IsTuple l2 ys) (hx : xs[k1]? = none)
    (hE : ∀ h' e, (∀ c o, c ≠ z → c ≠ i1 → c ≠ i2 → s.heap.get? c = some o → h'.get? c = some o) → (∃ o, h'.get? e = some o ∧ o.cls = .type "StopIteration") → E (.ref e) { s with heap := h' }) :
    wpAny (model prog w) A (Builtin.«zip.__next__» ⟨[.ref z], []⟩) Q E s := by
  show wpAny _ _ (field (.ref z) 2 >>= _) _ _ _
  refine wpAny_bind (wpAny_field hz rfl (x := .bool false) rfl ?_)
  show wpAny _ _ (field (.ref z) 3 >>= _) _ _ _
  refine wpAny_bind (wpAny_field hz rfl (x := .ref TI) rfl ?_)
  refine wpAny_bind (wpAny_seqItems hTI rfl ?_)
  show wpAny _ _ (Builtin.SmallTypes.ownedTupleIsFree (.ref z) >>= _) _ _ _
  refine wpAny_bind (own_out hz ha fun h₀ hz₀ hs₀ => ?_)
  simp only [Bool.false_eq_true, if_false]
  refine wpAny_bind ?_
  rw [show (#[Value.ref i1, Value.ref i2] : Array Value) = [Value.ref i1, Value.ref i2].toArray from rfl]
  simp only [List.forIn_toArray, List.forIn_cons, List.forIn_nil]
  refine wpAny_bind (wpAny_bind (wpAny_holding ?_))
  show wpAny _ _ (Builtin.SmallTypes.nextOf (.ref i1) >>= _) _ _ _
  refine wpAny_bind (nextOf_tuple_end hh (h1.extBut hs₀.extBut D.i1z) (hl1.extBut hs₀.extBut D.l1z) hx fun h₂ e hs₂ he => ?_)
  exact hE h₂ e (fun c o c1 c2 c3 x => hs₂ _ _ c2 (hs₀.extBut _ _ c1 x)) he
theorem pyNext_out {z TI TO i1 i2 l1 l2 a : Addr} {f : Bool} {oa : Obj} {k1 k2 : Nat} {xs ys : Array Value} {x y : Value} {Q : Option Value → Shared → Prop} (D : ZipApart z TI TO i1 i2 l1 l2)
    (hz : ZOut s.heap z TI TO a f) (ha : s.heap.get? a = some oa) (hTI : IsPair s.heap TI (.ref i1) (.ref i2))
    (h1 : s.heap.IsTupleIter i1 l1 k1) (h2 : s.heap.IsTupleIter i2 l2 k2) (hl1 : s.heap.IsTuple l1 xs) (hl2 : s.heap.IsTuple l2 ys) (hx : xs[k1]? = some x) (hy : ys[k2]? = some y)
    (hQ : ∀ h', ZOut h' z TI TO a true → h'.IsTupleIter i1 l1 (k1 + 1) → h'.IsTupleIter i2 l2 (k2 + 1) → IsPair h' s.heap.objs.size x y → h'.objs.size = s.heap.objs.size + 1 →
      (∀ c o, c ≠ z → c ≠ i1 → c ≠ i2 → s.heap.get? c = some o → h'.get? c = some o) → Q (some (.ref s.heap.objs.size)) { s with heap := h' }) :
    wpAny (model prog w) A (pyNext (.ref z)) Q E s := by
  have hT : s.TypeIs (.ref z) "zip" := ⟨_, hz, rfl⟩
  unfold pyNext
  exact wpAny_bind (wpAny_attempt (wpAny_callSpecial?_slot (name := Str.ofString "__next__") hT F.slot_zip_next
    (wpAny_call_entry F.slot_zip_next hT F.entry_zip_next
      (zipT_next_out D hz ha hTI h1 h2 hl1 hl2 hx hy fun h' a1 a3 a4 a5 a6 a7 => wpAny_pure (hQ h' a1 a3 a4 a5 a6 a7)) (F.args_zip_next_1 _))))
theorem pyNext_out_end {z TI TO i1 i2 l1 l2 a : Addr} {f : Bool} {oa : Obj} {k1 k2 : Nat} {xs ys : Array Value} {Q : Option Value → Shared → Prop} (hh : A.handled = none) (D : ZipApart z TI TO i1 i2 l1 l2)
    (hz : ZOut s.heap z TI TO a f) (ha : s.heap.get? a = some oa) (hTI : IsPair s.heap TI (.ref i1) (.ref i2))
    (h1 : s.heap.IsTupleIter i1 l1 k1) (h2 : s.heap.IsTupleIter i2 l2 k2) (hl1 : s.heap.IsTuple l1 xs) (hl2 : s.heap.IsTuple l2 ys) (hx : xs[k1]? = none)
    (hQ : ∀ h', (∀ c o, c ≠ z → c ≠ i1 → c ≠ i2 → s.heap.get? c = some o → h'.get? c = some o) → Q none { s with heap := h' }) : wpAny (model prog w) A (pyNext (.ref z)) Q E s := by
  have hT : s.TypeIs (.ref z) "zip" := ⟨_, hz, rfl⟩
  unfold pyNext
  refine wpAny_bind (wpAny_attempt (wpAny_callSpecial?_slot (name := Str.ofString "__next__") hT F.slot_zip_next
    (wpAny_call_entry F.slot_zip_next hT F.entry_zip_next (zipT_end_out hh D hz ha hTI h1 h2 hl1 hl2 hx fun h' e hk he => ?_) (F.args_zip_next_1 _))))
  obtain ⟨o, ho, hc⟩ := he
  refine wpAny_bind (wpAny_isInstance (T := "StopIteration") (b := true) ⟨o, ho, hc⟩ isSubtype_stop ?_)
  exact wpAny_pure (hQ _ hk)
end
/-! ### list(zip(t, u)): the loop -/
theorem off {a lo b : Addr} (h : a < lo) (h2 : lo ≤ b) : b ≠ a := Nat.ne_of_gt (Nat.lt_of_lt_of_le h h2)
/-- the zip object with what it holds, i pairs drawn, the first of which stands at a (S the list that holds them) -/
structure ZAt (h : Heap) (z TI TO i1 i2 l1 l2 S : Addr) (i : Nat) : Prop where
  zip : (i = 0 ∧ IsZip h z TI TO .none) ∨ ∃ a f oa, ZOut h z TI TO a f ∧ h.get? a = some oa ∧ a ≠ z ∧ a ≠ TO ∧ a ≠ i1 ∧ a ≠ i2 ∧ a ≠ S
  pair : IsPair h TI (.ref i1) (.ref i2)
  own : ∃ x y, IsPair h TO x y
  it1 : h.IsTupleIter i1 l1 i
  it2 : h.IsTupleIter i2 l2 i
theorem ZAt.keep {h h' : Heap} {z TI TO i1 i2 l1 l2 S : Addr} {i : Nat} (x : ZAt h z TI TO i1 i2 l1 l2 S i) (k : ∀ b o, b ≠ S → h.get? b = some o → h'.get? b = some o) (e1 : z ≠ S) (e2 : TI ≠ S) (e3 : TO ≠ S) (e4 : i1 ≠ S) (e5 : i2 ≠ S) : ZAt h' z TI TO i1 i2 l1 l2 S i := by
  obtain ⟨hz, hp, ⟨u, v, ho⟩, h1, h2⟩ := x
  refine ⟨?_, k _ _ e2 hp, ⟨u, v, k _ _ e3 ho⟩, h1.at fun o e => k _ o e4 e, h2.at fun o e => k _ o e5 e⟩
  rcases hz with ⟨e, hz⟩ | ⟨a, f, oa, hz, ha, n1, n2, n3, n4, n5⟩
  · exact .inl ⟨e, k _ _ e1 hz⟩
  · exact .inr ⟨a, f, oa, k _ _ e1 hz, k _ _ n5 ha, n1, n2, n3, n4, n5⟩
section
variable {prog : Program} {w : World} {A : Around} {E : Value → Shared → Prop} {s : Shared} {z TI TO i1 i2 l1 l2 S : Addr} {xs ys : Array Value}
theorem z_item {i : Nat} {x y : Value} {Q : Option Value → Shared → Prop} (D : ZipApart z TI TO i1 i2 l1 l2) (hst : ZAt s.heap z TI TO i1 i2 l1 l2 S i) (hl1 : s.heap.IsTuple l1 xs) (hl2 : s.heap.IsTuple l2 ys) (hx : xs[i]? = some x) (hy : ys[i]? = some y) (hS : S < s.heap.objs.size)
    (hQ : ∀ h', ZAt h' z TI TO i1 i2 l1 l2 S (i + 1) → IsPair h' s.heap.objs.size x y → h'.objs.size = s.heap.objs.size + 1 → (∀ c o, c ≠ z → c ≠ TO → c ≠ i1 → c ≠ i2 → s.heap.get? c = some o → h'.get? c = some o) → Q (some (.ref s.heap.objs.size)) { s with heap := h' }) :
    wpAny (model prog w) A (pyNext (.ref z)) Q E s := by
  obtain ⟨hz, hp, ⟨u, v, ho⟩, h1, h2⟩ := hst
  have lz : z < s.heap.objs.size := by
    rcases hz with ⟨_, hz⟩ | ⟨a, f, oa, hz, _⟩ <;> exact Heap.lt_size hz
  have lo : TO < s.heap.objs.size := Heap.lt_size ho
  have l1' : i1 < s.heap.objs.size := by obtain ⟨_, e, _⟩ := h1; exact Heap.lt_size e
  have l2' : i2 < s.heap.objs.size := by obtain ⟨_, e, _⟩ := h2; exact Heap.lt_size e
  rcases hz with ⟨rfl, hz⟩ | ⟨a, f, oa, hz, ha, n1, n2, n3, n4, n5⟩
  · refine pyNext_zipT_item D hz hp ho h1 h2 hl1 hl2 hx hy fun h' z' to' h1' h2' pr sz k => hQ h' ⟨.inr ⟨s.heap.objs.size, false, _, z', pr, Nat.ne_of_gt lz, Nat.ne_of_gt lo, Nat.ne_of_gt l1', Nat.ne_of_gt l2', Nat.ne_of_gt hS⟩, k _ _ D.TIz D.TITO D.TIi1 D.TIi2 hp, ⟨x, y, to'⟩, h1', h2'⟩ pr sz k
  · refine pyNext_out D hz ha hp h1 h2 hl1 hl2 hx hy fun h' z' h1' h2' pr sz k => hQ h' ⟨.inr ⟨a, true, oa, z', k _ _ n1 n3 n4 ha, n1, n2, n3, n4, n5⟩, k _ _ D.TIz D.TIi1 D.TIi2 hp, ⟨u, v, k _ _ D.TOz D.TOi1 D.TOi2 ho⟩, h1', h2'⟩ pr sz fun c o c1 _ c3 c4 e => k c o c1 c3 c4 e
theorem z_done {i : Nat} {Q : Option Value → Shared → Prop} (hh : A.handled = none) (D : ZipApart z TI TO i1 i2 l1 l2) (hst : ZAt s.heap z TI TO i1 i2 l1 l2 S i) (hl1 : s.heap.IsTuple l1 xs) (hl2 : s.heap.IsTuple l2 ys) (hx : xs[i]? = none)
    (hQ : ∀ h', (∀ c o, c ≠ z → c ≠ TO → c ≠ i1 → c ≠ i2 → s.heap.get? c = some o → h'.get? c = some o) → Q none { s with heap := h' }) : wpAny (model prog w) A (pyNext (.ref z)) Q E s := by
  obtain ⟨hz, hp, ⟨u, v, ho⟩, h1, h2⟩ := hst
  rcases hz with ⟨rfl, hz⟩ | ⟨a, f, oa, hz, ha, n1, n2, n3, n4, n5⟩
  · exact pyNext_zipT_end hh D hz hp ho h1 h2 hl1 hl2 (.inl hx) hQ
  · exact pyNext_out_end hh D hz ha hp h1 h2 hl1 hl2 hx fun h' k => hQ h' fun c o c1 _ c3 c4 e => k c o c1 c3 c4 e
/-- the new pairs -/
structure ZG (xs ys : Array Value) (lo : Addr) (h : Heap) (as : List Addr) : Prop where
  rise : as.Pairwise (· < ·)
  above : ∀ a ∈ as, lo ≤ a
  pairs : ∀ (j : Nat) (a : Addr), as[j]? = some a → ∃ x y, xs[j]? = some x ∧ ys[j]? = some y ∧ IsPair h a x y
theorem ZG.there {lo : Addr} {h : Heap} {as : List Addr} (g : ZG xs ys lo h as) {a : Addr} (ha : a ∈ as) : a < h.objs.size := by
  obtain ⟨j, hj⟩ := List.mem_iff_getElem?.mp ha
  obtain ⟨_, _, _, _, e⟩ := g.pairs j a hj
  exact Heap.lt_size e
theorem z_loop {R : Result → Shared → Prop} (hh : A.handled = none) (D : ZipApart z TI TO i1 i2 l1 l2) (lo : Addr) (bz : z < lo) (bI : TI < lo) (bO : TO < lo) (b1 : i1 < lo) (b2 : i2 < lo) (bS : S < lo) (ez : z ≠ S) (eI : TI ≠ S) (eO : TO ≠ S) (e1 : i1 ≠ S) (e2 : i2 ≠ S) (el1 : l1 ≠ S) (el2 : l2 ≠ S)
    (hxy : xs.size = ys.size) (hn : xs.size ≤ sizeLine) (res : Value) {h₁ : Heap}
    (hR : ∀ h' tk acc c as, (∀ b o, b ≠ S → b ≠ z → b ≠ TO → b ≠ i1 → b ≠ i2 → h₁.get? b = some o → h'.get? b = some o) → h'.get? S = some { cls := .type "list", dict := none, data := .seq acc c, slots := #[] } → as.length = xs.size → ZG xs ys lo h' as →
      acc.toList = as.map Value.ref → R (.ok (.ret res)) { s with heap := h', toks := tk }) :
    ∀ (k i : Nat) (h : Heap) (tk c : Nat) (acc : Array Value) (as : List Addr), xs.size - i = k → i ≤ xs.size → ZAt h z TI TO i1 i2 l1 l2 S i → h.IsTuple l1 xs → h.IsTuple l2 ys → (∀ b o, b ≠ S → b ≠ z → b ≠ TO → b ≠ i1 → b ≠ i2 → h₁.get? b = some o → h.get? b = some o) →
      h.get? S = some { cls := .type "list", dict := none, data := .seq acc c, slots := #[] } → acc.toList = as.map Value.ref → as.length = i → ZG xs ys lo h as → lo ≤ h.objs.size →
      codeAny (model prog w) A (.builtin "list.extend.loop" ⟨[.ref S, .ref z, res], []⟩) R { s with heap := h, toks := tk } := by
  intro k
  induction k with
  | zero =>
    intro i h tk c acc as hk hi hst hl1 hl2 hkeep hS hacc hal hG hIs
    have hin : i = xs.size := by omega
    refine codeAny_builtin PySem.F.entry_extend_loop ?_
    rw [Around.under_plainId PySem.F.plain_extend_loop _]
    show wpAny _ A.in1 (pyNext (.ref z) >>= _) _ _ _
    refine wpAny_bind (z_done (s := { s with heap := h, toks := tk }) (A := A.in1) hh D hst hl1 hl2 (Array.getElem?_eq_none (by omega)) fun h' he => ?_)
    refine wpAny_pure (hR h' tk acc c as (fun b o h1 h2 h3 h4 h5 e => he b o h2 h3 h4 h5 (hkeep b o h1 h2 h3 h4 h5 e)) (he S _ ez.symm eO.symm e1.symm e2.symm hS) (by omega) ⟨hG.rise, hG.above, fun j a hj => ?_⟩ hacc)
    obtain ⟨x, y, f1, f2, f3⟩ := hG.pairs j a hj
    have hb := hG.above a (List.mem_of_getElem? hj)
    exact ⟨x, y, f1, f2, he a _ (off bz hb) (off bO hb) (off b1 hb) (off b2 hb) f3⟩
  | succ k ih =>
    intro i h tk c acc as hk hi hst hl1 hl2 hkeep hS hacc hal hG hIs
    have hlt : i < xs.size := by omega
    have hx : xs[i]? = some xs[i] := Array.getElem?_eq_getElem hlt
    have hlt2 : i < ys.size := by omega
    have hy : ys[i]? = some ys[i] := Array.getElem?_eq_getElem hlt2
    have hsz : acc.size = i := by rw [← Array.length_toList, hacc, List.length_map, hal]
    refine codeAny_builtin PySem.F.entry_extend_loop ?_
    rw [Around.under_plainId PySem.F.plain_extend_loop _]
    show wpAny _ A.in1 (pyNext (.ref z) >>= _) _ _ _
    refine wpAny_bind (z_item (s := { s with heap := h, toks := tk }) D hst hl1 hl2 hx hy (Heap.lt_size hS) fun h' hst' ht hz hkp => ?_)
    dsimp only at ht hz hkp ⊢
    have hS' := hkp S _ ez.symm eO.symm e1.symm e2.symm hS
    have up : ∀ b o, b ≠ S → h'.get? b = some o → (h'.update S (Obj.mapSeq (·.push (Value.ref h.objs.size)))).get? b = some o := fun b o hb e => (Heap.get?_update_other _ _ (Ne.symm hb)).trans e
    have hSl : S < h.objs.size := Heap.lt_size hS
    show wpAny _ A.in1 (updateSeq S (·.push (Value.ref h.objs.size)) >>= _) _ _ _
    refine wpAny_bind ?_
    refine wpAny_updateSeq hS' rfl (wpAny_pure ⟨plainId_quiet PySem.F.plain_extend_loop _, ih (i + 1) _ tk _ (acc.push (Value.ref h.objs.size)) (as ++ [h.objs.size]) (by omega) hlt (hst'.keep up ez eI eO e1 e2)
      (hl1.at fun o e => up _ o el1 (hkp _ o D.l1z D.l1TO D.l1i1 D.l1i2 e)) (hl2.at fun o e => up _ o el2 (hkp _ o D.l2z D.l2TO D.l2i1 D.l2i2 e))
      (fun b o h1 h2 h3 h4 h5 e => up b o h1 (hkp b o h2 h3 h4 h5 (hkeep b o h1 h2 h3 h4 h5 e))) (Heap.get?_update_self _ hS' rfl) (by rw [Array.toList_push, hacc, List.map_append]; rfl) (by rw [List.length_append, hal]; rfl) ⟨?_, ?_, ?_⟩ ?_⟩) (by rw [hsz]; omega) (by show (acc.push (Value.ref h.objs.size)).size ≤ sizeLine + 1; rw [Array.size_push, hsz]; omega)
    · refine List.pairwise_append.mpr ⟨hG.rise, List.pairwise_singleton _ _, fun a ha b hb => ?_⟩
      rw [List.mem_singleton.mp hb]
      exact hG.there ha
    · intro a ha
      rcases List.mem_append.mp ha with ha | ha
      · exact hG.above a ha
      · rw [List.mem_singleton.mp ha]; exact hIs
    · intro j b hj
      rcases Nat.lt_trichotomy j as.length with h1 | h1 | h1
      · rw [List.getElem?_append_left h1] at hj
        obtain ⟨x', y', f1, f2, f3⟩ := hG.pairs j b hj
        have hb := hG.above b (List.mem_of_getElem? hj)
        exact ⟨x', y', f1, f2, up b _ (off bS hb) (hkp b _ (off bz hb) (off bO hb) (off b1 hb) (off b2 hb) f3)⟩
      · subst h1
        have hb : h.objs.size = b := by simpa using hj
        subst hb
        exact ⟨_, _, by rw [hal]; exact hx, by rw [hal]; exact hy, up _ _ (Nat.ne_of_gt hSl) ht⟩
      · have hnone : (as ++ [h.objs.size])[j]? = none := List.getElem?_eq_none (by rw [List.length_append, List.length_singleton]; omega)
        rw [hnone] at hj; cases hj
    · have e : (h'.update S (Obj.mapSeq (·.push (Value.ref h.objs.size)))).get? h.objs.size = _ := up _ _ (Nat.ne_of_gt hSl) ht
      exact Nat.le_trans hIs (Nat.le_of_lt (Heap.lt_size e))
theorem zip_no_len : typeLookup (.type "zip") "__len__" = pure none := by rw [typeLookup_type, builtinLookup_eq_fast]; kernel_rfl
theorem zip_no_hint : typeLookup (.type "zip") "__length_hint__" = pure none := by rw [typeLookup_type, builtinLookup_eq_fast]; kernel_rfl
theorem z_hint {r : Addr} (hT : s.TypeIs (.ref r) "zip") {Q : Bool → Shared → Prop} (h : Q true s) : wpAny (model prog w) A (Builtin.List.listLengthHint (.ref r)) Q E s := by
  unfold Builtin.List.listLengthHint
  refine wpAny_bind (wpAny_specialOf hT zip_no_len ?_)
  refine wpAny_bind (wpAny_specialOf hT zip_no_hint ?_)
  exact wpAny_pure h
theorem z_extend {R : Result → Shared → Prop} (hh : A.handled = none) (D : ZipApart z TI TO i1 i2 l1 l2) (hz : IsZip s.heap z TI TO .none) (hp : IsPair s.heap TI (.ref i1) (.ref i2)) (ho : ∃ x y, IsPair s.heap TO x y) (h1 : s.heap.IsTupleIter i1 l1 0) (h2 : s.heap.IsTupleIter i2 l2 0)
    (hl1 : s.heap.IsTuple l1 xs) (hl2 : s.heap.IsTuple l2 ys) (S : Addr) (ez : z ≠ S) (eI : TI ≠ S) (eO : TO ≠ S) (e1 : i1 ≠ S) (e2 : i2 ≠ S) (el1 : l1 ≠ S) (el2 : l2 ≠ S) (res : Value) (c₀ : Nat) (hS : s.heap.get? S = some { cls := .type "list", data := .seq #[] c₀ }) (hxy : xs.size = ys.size) (hn : xs.size ≤ sizeLine)
    (hR : ∀ h' tk acc c as, (∀ b o, b ≠ S → b ≠ z → b ≠ TO → b ≠ i1 → b ≠ i2 → s.heap.get? b = some o → h'.get? b = some o) → h'.get? S = some { cls := .type "list", dict := none, data := .seq acc c, slots := #[] } → as.length = xs.size → ZG xs ys s.heap.objs.size h' as →
      acc.toList = as.map Value.ref → R (.ok (.ret res)) { s with heap := h', toks := tk }) :
    wpAny (model prog w) A.in1 (Builtin.List.listExtendWith (.ref S) (.ref z) res)
      (fun fin s' => match fin with | .done f => R (.ok f) s' | .again c' => c'.quiet = true ∧ codeAny (model prog w) A c' R s') (fun e s' => R (.error e) s') s := by
  have bz : z < s.heap.objs.size := Heap.lt_size hz
  have bI : TI < s.heap.objs.size := Heap.lt_size hp
  have bO : TO < s.heap.objs.size := by obtain ⟨_, _, e⟩ := ho; exact Heap.lt_size e
  have b1 : i1 < s.heap.objs.size := by obtain ⟨_, e, _⟩ := h1; exact Heap.lt_size e
  have b2 : i2 < s.heap.objs.size := by obtain ⟨_, e, _⟩ := h2; exact Heap.lt_size e
  have bS : S < s.heap.objs.size := Heap.lt_size hS
  have hT : s.TypeIs (.ref z) "zip" := ⟨_, hz, rfl⟩
  have key : ∀ (h : Heap) (c₁ tk : Nat), (∀ b o, b ≠ S → s.heap.get? b = some o → h.get? b = some o) → s.heap.objs.size ≤ h.objs.size →
      h.get? S = some { cls := .type "list", data := .seq #[] c₁ } → codeAny (model prog w) A (.builtin "list.extend.loop" ⟨[.ref S, .ref z, res], []⟩) R { s with heap := h, toks := tk } := by
    intro h c₁ tk hk hsz hS₁
    refine z_loop (s := s) (h₁ := s.heap) (xs := xs) (ys := ys) hh D s.heap.objs.size bz bI bO b1 b2 bS ez eI eO e1 e2 el1 el2 hxy hn res hR xs.size 0 h tk c₁ #[] [] (Nat.sub_zero _) (Nat.zero_le _)
      ⟨.inl ⟨rfl, hk _ _ ez hz⟩, hk _ _ eI hp, ?_, h1.at fun o e => hk _ o e1 e, h2.at fun o e => hk _ o e2 e⟩ (hl1.at fun o e => hk _ o el1 e) (hl2.at fun o e => hk _ o el2 e) (fun b o hb _ _ _ _ e => hk b o hb e) hS₁ rfl rfl ⟨List.Pairwise.nil, (fun _ ha => nomatch ha), (fun j a hj => by simp at hj)⟩ hsz
    obtain ⟨x, y, e⟩ := ho
    exact ⟨x, y, hk _ _ eO e⟩
  unfold Builtin.List.listExtendWith
  refine wpAny_bind (wpAny_typeOf (T := "zip") hT ?_)
  have g1 : Builtin.List.listSameRef (.ref S) (.ref z) = false := by simp [Builtin.List.listSameRef, Ne.symm ez]
  have g2 : (Value.type "zip" == Value.type "list") = false := by decide
  have g3 : (Value.type "zip" == Value.type "tuple") = false := by decide
  simp only [g1, g2, g3, Bool.or_false, Bool.false_eq_true, if_false]
  refine wpAny_bind (wpAny_pyIter_zip hz ?_)
  refine wpAny_bind (wpAny_holding (z_hint hT ?_))
  refine wpAny_ite_split (fun _ => ?_) (fun _ => wpAny_pure ⟨plainId_quiet PySem.F.plain_extend_loop _, key _ c₀ _ (fun b o _ e => e) (Nat.le_refl _) hS⟩)
  refine wpAny_bind (wpAny_rule ?_)
  refine wpAny_bind ?_
  show wpAny _ _ (updateSeq S (·.push .none) >>= fun _ => updateSeq S (·.pop)) _ _ _
  refine wpAny_bind (wpAny_updateSeq hS rfl ?_)
  have hS₂ := Heap.get?_update_self (Obj.mapSeq (·.push Value.none)) hS rfl
  refine wpAny_updateSeq (hz := by seq_fits) hS₂ rfl ?_
  have hS₃ := Heap.get?_update_self (Obj.mapSeq (·.pop)) hS₂ rfl
  refine wpAny_pure ⟨plainId_quiet PySem.F.plain_extend_loop _, key _ _ _ (fun b o hb e => ?_) ?_ hS₃⟩
  · exact (Heap.get?_update_other _ _ (Ne.symm hb)).trans ((Heap.get?_update_other _ _ (Ne.symm hb)).trans e)
  · rw [Heap.size_update, Heap.size_update]
    exact Nat.le_refl _
end
section
variable {prog : Program} {w : World} {A : Around} {E : Value → Shared → Prop} {s : Shared} {l1 l2 : Addr} {xs ys : Array Value}
/-- list(z) of a fresh zip of two tuples -/
theorem z_list {z TI TO i1 i2 : Addr} {Q : Value → Shared → Prop} (hh : A.handled = none) (D : ZipApart z TI TO i1 i2 l1 l2) (hz : IsZip s.heap z TI TO .none) (hp : IsPair s.heap TI (.ref i1) (.ref i2)) (ho : ∃ x y, IsPair s.heap TO x y) (h1 : s.heap.IsTupleIter i1 l1 0) (h2 : s.heap.IsTupleIter i2 l2 0)
    (hl1 : s.heap.IsTuple l1 xs) (hl2 : s.heap.IsTuple l2 ys) (hxy : xs.size = ys.size) (hn : xs.size ≤ sizeLine)
    (hQ : ∀ h' tk acc c as, (∀ b o, b ≠ z → b ≠ TO → b ≠ i1 → b ≠ i2 → s.heap.get? b = some o → h'.get? b = some o) → h'.get? s.heap.objs.size = some { cls := .type "list", dict := none, data := .seq acc c, slots := #[] } → as.length = xs.size → ZG xs ys (s.heap.objs.size + 1) h' as →
      acc.toList = as.map Value.ref → Q (.ref s.heap.objs.size) { s with heap := h', toks := tk }) :
    wpAny (model prog w) A (call (.type "list") [.ref z]) Q E s := by
  refine callType_codes (Q₁ := fun obj s₁ => obj = .ref s.heap.objs.size ∧ s₁ = { s with heap := s.heap.push { cls := .type "list", data := .seq #[] } }) PySem.F.called_list (PySem.F.typeCall_list_1 _) PySem.F.entry_list_init
    (code_list_new _ ⟨rfl, rfl⟩) fun obj s₁ h₁ => ?_
  obtain ⟨rfl, rfl⟩ := h₁
  have hS : (s.heap.push { cls := .type "list", data := .seq #[] }).get? s.heap.objs.size = some { cls := .type "list", data := .seq #[] } := Heap.get?_push_size _ rfl
  refine ⟨⟨_, hS, rfl⟩, PySem.F.args_list_init_2 _ _, ?_⟩
  have bz : z < s.heap.objs.size := Heap.lt_size hz
  have bI : TI < s.heap.objs.size := Heap.lt_size hp
  have bO : TO < s.heap.objs.size := by obtain ⟨_, _, e⟩ := ho; exact Heap.lt_size e
  have b1 : i1 < s.heap.objs.size := by obtain ⟨_, e, _⟩ := h1; exact Heap.lt_size e
  have b2 : i2 < s.heap.objs.size := by obtain ⟨_, e, _⟩ := h2; exact Heap.lt_size e
  have bl1 : l1 < s.heap.objs.size := by obtain ⟨_, e, _⟩ := hl1; exact Heap.lt_size e
  have bl2 : l2 < s.heap.objs.size := by obtain ⟨_, e, _⟩ := hl2; exact Heap.lt_size e
  obtain ⟨hp', gg, dr, tk, os⟩ := s
  show wpAny _ _ (do let old ← Builtin.List.listItems (.ref hp'.objs.size); Builtin.List.listUpdate (.ref hp'.objs.size) (fun _ => #[]); letGo old.toList.reverse; Builtin.List.listExtendWith (.ref hp'.objs.size) (.ref z) .none) _ _ _
  refine wpAny_bind ?_
  unfold Builtin.List.listItems
  refine wpAny_bind (wpAny_seqItems hS rfl (wpAny_pure ?_))
  show wpAny _ _ (updateSeq hp'.objs.size (fun _ => #[]) >>= fun _ => letGo (#[] : Array Value).toList.reverse >>= fun _ => Builtin.List.listExtendWith (.ref hp'.objs.size) (.ref z) .none) _ _ _
  refine wpAny_bind (wpAny_updateSeq hS rfl ?_)
  have hS₂ := Heap.get?_update_self (Obj.mapSeq (fun _ => (#[] : Array Value))) hS rfl
  have oth : ∀ b o, hp'.get? b = some o → ((hp'.push { cls := .type "list", data := .seq #[] }).update hp'.objs.size (Obj.mapSeq (fun _ => (#[] : Array Value)))).get? b = some o :=
    fun b o e => (Heap.get?_update_other _ _ (Nat.ne_of_gt (Heap.lt_size e))).trans (Heap.get?_push_of_some _ e)
  refine wpAny_bind (wpAny_letGo ?_)
  refine z_extend (xs := xs) (ys := ys) (s := ⟨(hp'.push { cls := .type "list", data := .seq #[] }).update hp'.objs.size (Obj.mapSeq (fun _ => (#[] : Array Value))), gg, dr, tk, os⟩) (A := A.in1) hh D (oth _ _ hz) (oth _ _ hp) (let ⟨x, y, e⟩ := ho; ⟨x, y, oth _ _ e⟩) (h1.at fun o e => oth _ o e) (h2.at fun o e => oth _ o e) (hl1.at fun o e => oth _ o e) (hl2.at fun o e => oth _ o e) hp'.objs.size
    (Nat.ne_of_lt bz) (Nat.ne_of_lt bI) (Nat.ne_of_lt bO) (Nat.ne_of_lt b1) (Nat.ne_of_lt b2) (Nat.ne_of_lt bl1) (Nat.ne_of_lt bl2) .none _ hS₂ hxy hn (fun h' tk' acc c as hk hS' hl hG hacc => ?_)
  have esz : ((hp'.push { cls := .type "list", data := .seq #[] }).update hp'.objs.size (Obj.mapSeq (fun _ => (#[] : Array Value)))).objs.size = hp'.objs.size + 1 := by rw [Heap.size_update, Heap.size_push]
  have hG' : ZG xs ys (hp'.objs.size + 1) h' as := by
    rw [← esz]
    exact hG
  exact ⟨rfl, hQ h' tk' acc c as (fun b o c1 c2 c3 c4 e => hk b o (Nat.ne_of_lt (Heap.lt_size e)) c1 c2 c3 c4 (oth b o e)) hS' hl hG' hacc⟩
end
end ZL
namespace ZL
open PySem PySem.Spec PyProof.Rows L2 RZ
/-- new pairs tracked at their addresses -/
def putP : Hp → List Addr → List (V × V) → Hp
  | H, a :: as, p :: ps => putP (upd H a (.tup [p.1, p.2])) as ps
  | H, _, _ => H
theorem putP_off {b : Addr} : ∀ (as : List Addr) (ps : List (V × V)) (H : Hp), b ∉ as → putP H as ps b = H b
  | [], _, _, _ => rfl
  | _ :: _, [], _, _ => rfl
  | a :: as, p :: ps, H, h => by
    show putP (upd H a (.tup [p.1, p.2])) as ps b = H b
    rw [putP_off as ps _ (fun z => h (List.mem_cons_of_mem _ z)), upd_ne (fun z => h (by rw [z]; exact List.mem_cons_self))]
theorem putP_at : ∀ (as : List Addr) (ps : List (V × V)) (H : Hp), as.length = ps.length → as.Nodup → ∀ (j : Nat) (t : Addr) (p : V × V), as[j]? = some t → ps[j]? = some p → putP H as ps t = some (.tup [p.1, p.2])
  | [], _, _, _, _, j, t, p, h, _ => by simp at h
  | _ :: _, [], _, h, _, _, _, _, _, _ => by cases h
  | a :: as, q :: ps, H, hl, hn, 0, t, p, h, h2 => by
    have hn' := List.nodup_cons.mp hn
    have e1 : a = t := Option.some.inj h
    have e2 : q = p := Option.some.inj h2
    subst e1 e2
    show putP (upd H a (.tup [q.1, q.2])) as ps a = some (.tup [q.1, q.2])
    rw [putP_off as ps _ hn'.1, upd_same]
  | a :: as, q :: ps, H, hl, hn, j + 1, t, p, h, h2 => by
    have hn' := List.nodup_cons.mp hn
    exact putP_at as ps (upd H a (.tup [q.1, q.2])) (Nat.succ.inj hl) hn'.2 j t p h h2
theorem vals_refs : ∀ as : List Addr, Vals (as.map V.ref) (as.map Value.ref)
  | [] => .nil
  | _ :: as => .cons rfl (vals_refs as)
/-- what list(zip(t, u)) leaves -/
def ZNew (H : Hp) (xs ys : List V) (H' : Hp) (p : Addr) (ts : List Addr) : Prop :=
  (∀ b o, H b = some o → H' b = some o) ∧ H p = none ∧ (∀ t ∈ ts, H t = none) ∧ p ∉ ts ∧ ts.Nodup ∧ H' p = some (.lst (ts.map V.ref)) ∧ ts.length = xs.length ∧
    ∀ (j : Nat) (t : Addr), ts[j]? = some t → ∃ x y, xs[j]? = some x ∧ ys[j]? = some y ∧ H' t = some (.tup [x, y])
def tLz (K : PySem.W.Frag) (ta : TA) : TE := fun σ H Q => ta σ H fun vs H1 => ∃ a b xs ys, vs = [.ref a, .ref b] ∧ SqT K H1 a xs ∧ SqT K H1 b ys ∧ xs.length = ys.length ∧ ∀ H' p ts, ZNew H1 xs ys H' p ts → Q (.ref p) H'
section
variable {X : Cx} {e e2 : Expr} {ta : TA} {p p2 pos pos2 : Pos}
theorem pe_listZip (hc : X.calm = true) (hg : Gl X "list") (hm : X.mg "list" = none) (hgz : Gl X "zip") (hmz : X.mg "zip" = none) (ha : PA X [e, e2] ta)
    (hs1 : starEach [.Call (.Name "zip" p2) [e, e2] [] pos2] X.env = (false, eval (.Call (.Name "zip" p2) [e, e2] [] pos2) X.env) :: starEach [] X.env := by rfl)
    (hs : starEach [e, e2] X.env = (false, eval e X.env) :: starEach [e2] X.env := by rfl) (hpl : (backTo pos2 (starEach [e2] X.env)).any (·.1) = false := by rfl) :
    PE X (.Call (.Name "list" p) [.Call (.Name "zip" p2) [e, e2] [] pos2] [] pos) (tLz X.K ta) := by
  refine ⟨fun pins s σ H Q I h => ?_⟩
  refine wpAny_Call_Name_kw (ld_blt I hg hm boot_list ?_)
  refine PyProof.Rows.callWith_type1 ?_ hs1 rfl
  rw [hs1]
  show wpAny _ _ (spliced ((false, eval (.Call (.Name "zip" p2) [e, e2] [] pos2) X.env) :: backTo pos (starEach [] X.env))) _ _ s
  refine Calls.spliced_cons ?_
  refine wpAny_Call_Name_kw (ld_blt I hgz hmz PyProof.Rows.boot_zip (PyProof.Rows.callWith_type1 (thn (ha.run pos2 pins s σ H _ I h) fun us s1 ⟨vs, H1, I1, r1, q1⟩ => ?_) hs hpl))
  obtain ⟨a, b, xs, ys, ex, hx, hy, hl, q⟩ := q1
  subst ex
  cases r1 with
  | cons r rr =>
    cases rr with
    | cons r' rr =>
      cases rr
      cases r
      cases r'
      obtain ⟨its, rv, pt, hzl⟩ := I1.tuple hx
      obtain ⟨its2, rv2, pt2, hzl2⟩ := I1.tuple hy
      have la : a < s1.heap.objs.size := by obtain ⟨_, e, _⟩ := pt; exact Heap.lt_size e
      have lb : b < s1.heap.objs.size := by obtain ⟨_, e, _⟩ := pt2; exact Heap.lt_size e
      refine call_zipT pt pt2 fun h5 hz hp ho h1 h2 hsz hk => Calls.spliced_nil ?_
      have D : ZipApart (s1.heap.objs.size + 4) (s1.heap.objs.size + 2) (s1.heap.objs.size + 3) s1.heap.objs.size (s1.heap.objs.size + 1) a b := by
        have la' : a < s1.heap.objs.size + 0 := la
        have lb' : b < s1.heap.objs.size + 0 := lb
        have ne : ∀ (c n m k : Nat), c < n + 0 → c ≠ n + k := fun c n m k h => by omega
        have nn : ∀ (n i j : Nat), i ≠ j → n + i ≠ n + j := fun n i j h => by omega
        exact ⟨nn _ _ _ (by decide), nn _ _ _ (by decide), nn _ 0 _ (by decide), nn _ _ _ (by decide), nn _ _ _ (by decide), nn _ _ 0 (by decide), nn _ _ _ (by decide), nn _ _ 0 (by decide), nn _ _ _ (by decide), nn _ 0 _ (by decide),
          ne _ _ 0 _ la', ne _ _ 0 _ la', ne _ _ 0 0 la', ne _ _ 0 _ la', ne _ _ 0 _ lb', ne _ _ 0 _ lb', ne _ _ 0 0 lb', ne _ _ 0 _ lb'⟩
      have le1 := rv.length
      have le2 := rv2.length
      refine z_list (xs := its.toArray) (ys := its2.toArray) (s := { s1 with heap := h5 }) (I1.ok.hd hc) D hz hp ⟨_, _, ho⟩ h1 h2 (let ⟨o, e, z⟩ := pt; ⟨o, hk _ _ e, z⟩) (let ⟨o, e, z⟩ := pt2; ⟨o, hk _ _ e, z⟩) (by simp; omega) (by simp; omega) fun h' tk acc c as hk' hS hal hG hacc => ?_
      -- the pairs
      have hps : ∃ ps : List (V × V), ps.length = xs.length ∧ ∀ j x y, xs[j]? = some x → ys[j]? = some y → ps[j]? = some (x, y) := ⟨xs.zip ys, by rw [List.length_zip]; omega, fun j x y h1 h2 => List.getElem?_zip_eq_some.mpr ⟨h1, h2⟩⟩
      obtain ⟨ps, hpl', hpx⟩ := hps
      have e5 : h5.objs.size = s1.heap.objs.size + 5 := hsz
      have nd : as.Nodup := List.Pairwise.imp (fun {a b} (h : a < b) => Nat.ne_of_lt h) hG.rise
      have old : ∀ c o, s1.heap.get? c = some o → h'.get? c = some o := fun c o e => by
        have lc : c < s1.heap.objs.size := Heap.lt_size e
        have nn : ∀ (c n k : Nat), c < n → c ≠ n + k := fun c n k h => by omega
        exact hk' c o (nn _ _ _ lc) (nn _ _ _ lc) (nn _ _ 0 lc) (nn _ _ _ lc) (hk c o e)
      have ab : ∀ t ∈ as, s1.heap.objs.size ≤ t := fun t ht => by
        have z := hG.above t ht
        have z' : h5.objs.size + 1 ≤ t := z
        exact Nat.le_trans (by rw [e5]; exact Nat.le_trans (Nat.le_add_right _ 5) (Nat.le_succ _)) z'
      have hpn : h5.objs.size ∉ as := fun z => by
        have z' : h5.objs.size + 1 ≤ h5.objs.size := hG.above _ z
        exact absurd z' (Nat.not_succ_le_self _)
      have sz5 : s1.heap.objs.size ≤ h5.objs.size := by rw [e5]; exact Nat.le_add_right _ 5
      have new : ∀ t ∈ as, H1 t = none := fun t ht => I1.hok.fresh (ab t ht)
      have newS : H1 h5.objs.size = none := I1.hok.fresh sz5
      have hasl : as.length = xs.length := by rw [hal]; simp; omega
      have off : ∀ b, b ∉ as → b ≠ h5.objs.size → putP (upd H1 h5.objs.size (.lst (as.map V.ref))) as ps b = H1 b := fun b h1 h2 => by rw [putP_off as ps _ h1, upd_ne h2]
      have kp : ∀ b u, H1 b = some u → (putP (upd H1 h5.objs.size (.lst (as.map V.ref))) as ps) b = some u := fun b u e => by
        rw [off b (fun z => by rw [new b z] at e; cases e) (fun z => by rw [z, newS] at e; cases e)]
        exact e
      have eS : putP (upd H1 h5.objs.size (.lst (as.map V.ref))) as ps h5.objs.size = some (.lst (as.map V.ref)) := by rw [putP_off as ps _ hpn, upd_same]
      have atj : ∀ (j : Nat) (t : Addr), as[j]? = some t → ∃ x y u v, xs[j]? = some x ∧ ys[j]? = some y ∧ RelV x u ∧ RelV y v ∧ IsPair h' t u v ∧ putP (upd H1 h5.objs.size (.lst (as.map V.ref))) as ps t = some (.tup [x, y]) := fun j t hj => by
        obtain ⟨u, v, g1, g2, g3⟩ := hG.pairs j t hj
        have lj : j < as.length := (List.getElem?_eq_some_iff.mp hj).1
        have lx : j < xs.length := by omega
        have ly : j < ys.length := by omega
        have gx : xs[j]? = some xs[j] := List.getElem?_eq_getElem lx
        have gy : ys[j]? = some ys[j] := List.getElem?_eq_getElem ly
        obtain ⟨u', hu', ru⟩ := rv.get gx
        obtain ⟨v', hv', rv'⟩ := rv2.get gy
        have eu : u' = u := Option.some.inj (hu'.symm.trans (by simpa using g1))
        have ev : v' = v := Option.some.inj (hv'.symm.trans (by simpa using g2))
        subst eu ev
        exact ⟨_, _, _, _, gx, gy, ru, rv', g3, putP_at as ps _ (by omega) nd j t (xs[j], ys[j]) hj (hpx j _ _ gx gy)⟩
      have J : Inv X pins σ (putP (upd H1 h5.objs.size (.lst (as.map V.ref))) as ps) { s1 with heap := h', toks := tk } := by
        refine I1.call' (ch := []) rfl ⟨fun b o q _ _ _ => old b o q, fun b o q _ _ _ => ⟨o.slots, old b o q⟩, fun b o q n _ => ?_, fun b o q _ => ⟨o, old b o q⟩, fun b xs q => kp b _ q, fun b o u q => kp b _ q, fun b ps q => ⟨#[], by rw [kp b _ q]; simp⟩⟩ (fun b u q => ?_) I1.bare fun b z => by simp at z
        · have lb' : b < s1.heap.objs.size := Heap.lt_size q
          rw [off b (fun z => absurd lb' (Nat.not_lt.mpr (ab b z))) (fun z => absurd (Nat.lt_of_lt_of_le lb' sz5) (by rw [z]; exact Nat.lt_irrefl _))]
          exact n
        · by_cases hb : b ∈ as
          · obtain ⟨j, hj⟩ := List.mem_iff_getElem?.mp hb
            obtain ⟨x, y, u1, v1, _, _, r1, r2, pr, ep⟩ := atj j b hj
            rw [ep] at q
            cases q
            exact ⟨by show 2 ≤ sizeLine; decide, [u1, v1], .cons r1 (.cons r2 .nil), ⟨_, pr, rfl, _, rfl⟩⟩
          · by_cases hb2 : b = h5.objs.size
            · rw [hb2] at q ⊢
              rw [eS] at q
              cases q
              refine ⟨by rw [List.length_map]; omega, acc.toList, c, by rw [hacc]; exact vals_refs as, ?_⟩
              rw [Array.toArray_toList]
              exact hS
            · rw [off b hb hb2] at q
              exact (I1.hok b u q).stay (fun d v _ y => old d v y) (fun d y => kp d _ y) fun d xs y => kp d _ y
      refine ⟨.ref h5.objs.size, _, J, rfl, q _ _ as ⟨kp, newS, new, hpn, nd, eS, hasl, fun j t hj => ?_⟩⟩
      obtain ⟨x, y, u1, v1, gx, gy, _, _, _, ep⟩ := atj j t hj
      exact ⟨x, y, gx, gy, ep⟩
end
end ZL
set_option Elab.async false
set_option linter.all false
set_option maxRecDepth 100000
set_option maxHeartbeats 2000000
namespace B01
open PySem PySem.Spec PyProof.Rows L2
def topS (i : Nat) : Stmt := PySem.Challenge.pw_boughkept_k01_fractions_reckoned.main.body.getD i (.Pass ⟨0, 0, 0, 0⟩)
abbrev st_fof : Stmt := topS 4
theorem sc_fof : FnScope ["upper", "lower", "common"] ["upper", "lower"] (defScope st_fof) := ⟨rfl, rfl, rfl, by decide +kernel, rfl, by decide +kernel, by decide +kernel⟩
abbrev st_cdiv : Stmt := topS 5
theorem sc_cdiv : FnScope ["one", "other"] ["one", "other"] (defScope st_cdiv) := ⟨rfl, rfl, rfl, by decide +kernel, rfl, by decide +kernel, by decide +kernel⟩
abbrev st_added : Stmt := topS 6
theorem sc_added : FnScope ["one", "other"] ["one", "other"] (defScope st_added) := ⟨rfl, rfl, rfl, by decide +kernel, rfl, by decide +kernel, by decide +kernel⟩
abbrev st_taken : Stmt := topS 7
theorem sc_taken : FnScope ["one", "other"] ["one", "other"] (defScope st_taken) := ⟨rfl, rfl, rfl, by decide +kernel, rfl, by decide +kernel, by decide +kernel⟩
abbrev st_multiplied : Stmt := topS 8
theorem sc_multiplied : FnScope ["one", "other"] ["one", "other"] (defScope st_multiplied) := ⟨rfl, rfl, rfl, by decide +kernel, rfl, by decide +kernel, by decide +kernel⟩
abbrev st_divided : Stmt := topS 9
theorem sc_divided : FnScope ["one", "other"] ["one", "other"] (defScope st_divided) := ⟨rfl, rfl, rfl, by decide +kernel, rfl, by decide +kernel, by decide +kernel⟩
abbrev st_is_less : Stmt := topS 10
theorem sc_is_less : FnScope ["one", "other"] ["one", "other"] (defScope st_is_less) := ⟨rfl, rfl, rfl, by decide +kernel, rfl, by decide +kernel, by decide +kernel⟩
abbrev st_box : Stmt := topS 12
theorem sc_box : FnScope ["_law_script", "_law_k", "_law_cell", "_law_seed"] ["_law_script", "_law_k"] (defScope st_box) := ⟨rfl, rfl, rfl, by decide +kernel, rfl, by decide +kernel, by decide +kernel⟩
abbrev st_take : Stmt := topS 13
theorem sc_take : FnScope ["_law_box_here", "_law_many", "_law_digit", "_law_one"] ["_law_box_here", "_law_many"] (defScope st_take) := ⟨rfl, rfl, rfl, by decide +kernel, rfl, by decide +kernel, by decide +kernel⟩
abbrev st_alike : Stmt := topS 14
theorem sc_alike : FnScope ["_law_found", "_law_due", "_law_left", "_law_one", "_law_other"] ["_law_found", "_law_due"] (defScope st_alike) := ⟨rfl, rfl, rfl, by decide +kernel, rfl, by decide +kernel, by decide +kernel⟩
abbrev st_shared : Stmt := topS 15
theorem sc_shared : FnScope ["_law_one", "_law_other"] ["_law_one", "_law_other"] (defScope st_shared) := ⟨rfl, rfl, rfl, by decide +kernel, rfl, by decide +kernel, by decide +kernel⟩
abbrev st_lowest : Stmt := topS 16
theorem sc_lowest : FnScope ["_law_upper", "_law_lower", "_law_part"] ["_law_upper", "_law_lower"] (defScope st_lowest) := ⟨rfl, rfl, rfl, by decide +kernel, rfl, by decide +kernel, by decide +kernel⟩
abbrev st_whole : Stmt := topS 17
theorem sc_whole : FnScope ["_law_box_here", "_law_wide"] ["_law_box_here"] (defScope st_whole) := ⟨rfl, rfl, rfl, by decide +kernel, rfl, by decide +kernel, by decide +kernel⟩
abbrev st_madeof : Stmt := topS 18
theorem sc_madeof : FnScope ["_law_upper", "_law_lower"] ["_law_upper", "_law_lower"] (defScope st_madeof) := ⟨rfl, rfl, rfl, by decide +kernel, rfl, by decide +kernel, by decide +kernel⟩
abbrev st_heard : Stmt := topS 19
theorem sc_heard : FnScope ["_law_which", "_law_one", "_law_other", "_law_found", "e"] ["_law_which", "_law_one", "_law_other"] (defScope st_heard) := ⟨rfl, rfl, rfl, by decide +kernel, rfl, by decide +kernel, by decide +kernel⟩
abbrev st_right : Stmt := topS 20
theorem sc_right : FnScope ["_law_which", "_law_one", "_law_other", "_law_due"] ["_law_which", "_law_one", "_law_other", "_law_due"] (defScope st_right) := ⟨rfl, rfl, rfl, by decide +kernel, rfl, by decide +kernel, by decide +kernel⟩
abbrev st_both : Stmt := topS 21
theorem sc_both : FnScope ["_law_one", "_law_other", "_law_a", "_law_b", "_law_c", "_law_d"] ["_law_one", "_law_other"] (defScope st_both) := ⟨rfl, rfl, rfl, by decide +kernel, rfl, by decide +kernel, by decide +kernel⟩
abbrev st_law : Stmt := topS 22
theorem sc_law : FnScope ["_law_script", "_law_some", "_law_k", "_law_box_here", "_law_upper", "_law_lower", "_law_due", "_law_one", "_law_other"] ["_law_script"] (defScope st_law) := ⟨rfl, rfl, rfl, by decide +kernel, rfl, by decide +kernel, by decide +kernel⟩
abbrev st_nought : Stmt := inClass (topS 2) 0
abbrev fs_nought : Stmt := (defBody st_nought).getD 0 (.Pass ⟨0, 0, 0, 0⟩)

structure Tx (P : Program) (K : PySem.W.Frag) (mg : Str → Option Value) : Type where
  f_fof : Addr
  fd_fof : FuncData
  F_fof : FunD K "fraction_of" "fraction_of" (defArgs st_fof) (defBody st_fof) (defScope st_fof) [V.int 1] [] f_fof fd_fof
  g_fof : mg "fraction_of" = some (.ref f_fof)
  b_fof : Binds K fd_fof ["upper", "lower"] []
  d1_fof : List Value
  v1_fof : Vals [V.int 1] d1_fof
  b1_fof : Binds K fd_fof ["upper", "lower"] d1_fof
  f_cdiv : Addr
  fd_cdiv : FuncData
  F_cdiv : Fun K "common_divisor" "common_divisor" st_cdiv f_cdiv fd_cdiv
  g_cdiv : mg "common_divisor" = some (.ref f_cdiv)
  b_cdiv : Binds K fd_cdiv ["one", "other"] []
  f_added : Addr
  fd_added : FuncData
  F_added : Fun K "added" "added" st_added f_added fd_added
  g_added : mg "added" = some (.ref f_added)
  b_added : Binds K fd_added ["one", "other"] []
  f_taken : Addr
  fd_taken : FuncData
  F_taken : Fun K "taken_away" "taken_away" st_taken f_taken fd_taken
  g_taken : mg "taken_away" = some (.ref f_taken)
  b_taken : Binds K fd_taken ["one", "other"] []
  f_multiplied : Addr
  fd_multiplied : FuncData
  F_multiplied : Fun K "multiplied" "multiplied" st_multiplied f_multiplied fd_multiplied
  g_multiplied : mg "multiplied" = some (.ref f_multiplied)
  b_multiplied : Binds K fd_multiplied ["one", "other"] []
  f_divided : Addr
  fd_divided : FuncData
  F_divided : Fun K "divided" "divided" st_divided f_divided fd_divided
  g_divided : mg "divided" = some (.ref f_divided)
  b_divided : Binds K fd_divided ["one", "other"] []
  f_is_less : Addr
  fd_is_less : FuncData
  F_is_less : Fun K "is_less" "is_less" st_is_less f_is_less fd_is_less
  g_is_less : mg "is_less" = some (.ref f_is_less)
  b_is_less : Binds K fd_is_less ["one", "other"] []
  f_box : Addr
  fd_box : FuncData
  F_box : Fun K "_law_box" "_law_box" st_box f_box fd_box
  g_box : mg "_law_box" = some (.ref f_box)
  b_box : Binds K fd_box ["_law_script", "_law_k"] []
  f_take : Addr
  fd_take : FuncData
  F_take : Fun K "_law_take" "_law_take" st_take f_take fd_take
  g_take : mg "_law_take" = some (.ref f_take)
  b_take : Binds K fd_take ["_law_box_here", "_law_many"] []
  f_alike : Addr
  fd_alike : FuncData
  F_alike : Fun K "_law_alike" "_law_alike" st_alike f_alike fd_alike
  g_alike : mg "_law_alike" = some (.ref f_alike)
  b_alike : Binds K fd_alike ["_law_found", "_law_due"] []
  f_shared : Addr
  fd_shared : FuncData
  F_shared : Fun K "_law_shared" "_law_shared" st_shared f_shared fd_shared
  g_shared : mg "_law_shared" = some (.ref f_shared)
  b_shared : Binds K fd_shared ["_law_one", "_law_other"] []
  f_lowest : Addr
  fd_lowest : FuncData
  F_lowest : Fun K "_law_lowest" "_law_lowest" st_lowest f_lowest fd_lowest
  g_lowest : mg "_law_lowest" = some (.ref f_lowest)
  b_lowest : Binds K fd_lowest ["_law_upper", "_law_lower"] []
  f_whole : Addr
  fd_whole : FuncData
  F_whole : Fun K "_law_whole" "_law_whole" st_whole f_whole fd_whole
  g_whole : mg "_law_whole" = some (.ref f_whole)
  b_whole : Binds K fd_whole ["_law_box_here"] []
  f_madeof : Addr
  fd_madeof : FuncData
  F_madeof : Fun K "_law_made_of" "_law_made_of" st_madeof f_madeof fd_madeof
  g_madeof : mg "_law_made_of" = some (.ref f_madeof)
  b_madeof : Binds K fd_madeof ["_law_upper", "_law_lower"] []
  f_heard : Addr
  fd_heard : FuncData
  F_heard : Fun K "_law_heard" "_law_heard" st_heard f_heard fd_heard
  g_heard : mg "_law_heard" = some (.ref f_heard)
  b_heard : Binds K fd_heard ["_law_which", "_law_one", "_law_other"] []
  f_right : Addr
  fd_right : FuncData
  F_right : Fun K "_law_right" "_law_right" st_right f_right fd_right
  g_right : mg "_law_right" = some (.ref f_right)
  b_right : Binds K fd_right ["_law_which", "_law_one", "_law_other", "_law_due"] []
  f_both : Addr
  fd_both : FuncData
  F_both : Fun K "_law_both" "_law_both" st_both f_both fd_both
  g_both : mg "_law_both" = some (.ref f_both)
  b_both : Binds K fd_both ["_law_one", "_law_other"] []
  m_len : mg "len" = none
  m_int : mg "int" = none
  m_bool : mg "bool" = none
  m_list : mg "list" = none
  m_tuple : mg "tuple" = none
  m_zip : mg "zip" = none
  m_isinstance : mg "isinstance" = none
  m_abs : mg "abs" = none
  m_max : mg "max" = none
  m_min : mg "min" = none
  m_range : mg "range" = none
  m_ZeroDivisionError : mg "ZeroDivisionError" = none
  m_super : mg "super" = none
  C : Addr
  fI : Addr
  cc : Addr
  cda : Addr
  CB : Addr
  exc : PySem.BX.ETxt P K mg C fI cc cda "ZeroDivisionError" "ZeroDivisionError.__new__" "ZeroDivisionError.__init__" [.type "ZeroDivisionError", .type "ArithmeticError", .type "Exception", .type "BaseException", .type "object"] "Nought" "Nought.__init__" (defArgs st_nought) fs_nought [] (defScope st_nought)
  exI : ExcC K C
  exm : PySem.W.exmOne K (.ref C) (.ref C) = some true
  g_BoughError : mg "BoughError" = some (.ref CB)
  kZ : PySem.W.kitOne K (.ref C) (.type "ZeroDivisionError") = some true
  kB : PySem.W.kitOne K (.ref C) (.ref CB) = some false
/-! ### heaps -/
theorem same_new {H : Hp} {p : Addr} {o : HO} (h : H p = none) : Same H (upd H p o) := fun b x e => by
  rw [upd_ne (ne_of_none e h)]
  exact e
/-- three ints at a: the law's draw -/
def Drw (H : Hp) (a : Addr) : Prop := ∃ x y z : Int, H a = some (.lst [.int x, .int y, .int z])
/-- all but the draw at a is as it was, and a draw stands there -/
def Gr (a : Addr) (H H' : Hp) : Prop := (∀ b o, b ≠ a → H b = some o → H' b = some o) ∧ Drw H' a
theorem Gr.trans {a : Addr} {H H1 H2 : Hp} (x : Gr a H H1) (y : Gr a H1 H2) : Gr a H H2 := ⟨fun b o n e => y.1 b o n (x.1 b o n e), y.2⟩
theorem Gr.of {a : Addr} {H H' : Hp} (s : Same H H') (d : Drw H a) : Gr a H H' := ⟨fun b o _ e => s b o e, by
  obtain ⟨x, y, z, e⟩ := d
  exact ⟨x, y, z, s _ _ e⟩⟩
theorem Gr.set {a : Addr} {H : Hp} {x y z : Int} : Gr a H (upd H a (.lst [.int x, .int y, .int z])) := ⟨fun b o n e => by
  rw [upd_ne n]
  exact e, ⟨x, y, z, upd_same⟩⟩
theorem Gr.same {a : Addr} {H0 H H' : Hp} (n : H0 a = none) (s : Same H0 H) (g : Gr a H H') : Same H0 H' := fun b o e => g.1 b o (ne_of_none e n) (s b o e)
/-! ### mathematics -/
theorem nz {j : Int} (h : (j == 0) = false) : j ≠ 0 := by simpa using h
theorem fmod_pos {i j : Int} (h : 0 < j) : 0 ≤ i.fmod j ∧ i.fmod j < j := by
  rw [Int.fmod_eq_emod_of_nonneg i (Int.le_of_lt h)]
  exact ⟨Int.emod_nonneg i (by omega), Int.emod_lt_of_pos i h⟩
theorem gcd_emod (i j : Int) : Int.gcd (i % j) j = Int.gcd i j := by
  have c : j * (i / j) + i % j = i := Int.mul_ediv_add_emod i j
  have h1 : ∀ g : Int, g ∣ i % j → g ∣ j → g ∣ i := fun g a b => by
    rw [← c]
    exact Int.dvd_add (Int.dvd_trans b (Int.dvd_mul_right j _)) a
  have h2 : ∀ g : Int, g ∣ i → g ∣ j → g ∣ i % j := fun g a b => by
    rw [Int.emod_def]
    exact Int.dvd_sub a (Int.dvd_trans b (Int.dvd_mul_right j _))
  apply Nat.dvd_antisymm
  · exact Int.dvd_gcd (h1 _ (Int.gcd_dvd_left _ _) (Int.gcd_dvd_right _ _)) (Int.gcd_dvd_right _ _)
  · exact Int.dvd_gcd (h2 _ (Int.gcd_dvd_left _ _) (Int.gcd_dvd_right _ _)) (Int.gcd_dvd_right _ _)
theorem gcd_step {i j : Int} (h : 0 < j) : Int.gcd j (i.fmod j) = Int.gcd i j := by
  rw [Int.fmod_eq_emod_of_nonneg i (Int.le_of_lt h), Int.gcd_comm j (i % j), gcd_emod]
section
variable {P : Program} {w : World} {K : PySem.W.Frag} {mg : Str → Option Value} {base : Heap}
/-! ### common_divisor -/
def spCdiv : Sp := fun vs H Q _ => ∃ a b : Int, vs = [.int a, .int b] ∧ 0 ≤ a ∧ 0 ≤ b ∧ Q (.int (Int.gcd a b)) H
theorem ok_cdiv (T : Tx P K mg) : FnOk P w K mg base CX0 1 T.f_cdiv T.fd_cdiv ["one", "other"] spCdiv := by
  refine T.F_cdiv.ok sc_cdiv (fun vs H Q E h => ?_) (fun cdv A outer s H vs Q E hr h => ?_)
  · obtain ⟨a, b, rfl, _⟩ := h
    rfl
  · obtain ⟨a, b, rfl, ha, hb, q⟩ := h
    refine ⟨_, (pss_cons (ps_while PassesOwn.never (pt_cmpR op_ne (pv 1) pe_int (nomark _)) (pss_one (ps_par (i := 0) (j := 1) (by rfl) sc_cdiv.nd rfl rfl (by decide) rfl rfl (pa_cons (pv 1) (pa_cons (pe_op op_modN (pv 0) (pv 1)) pa_nil)) (by rfl)))) (pss_one (ps_ret (pv 0)))), ?_⟩
    refine ⟨fun m σ H' => H' = H ∧ ∃ c d : Int, σ = [some (.int c), some (.int d)] ∧ 0 ≤ c ∧ 0 ≤ d ∧ d.toNat = m ∧ Int.gcd c d = Int.gcd a b, ⟨_, rfl, a, b, rfl, ha, hb, rfl, rfl⟩, fun m σ H' hW => ?_⟩
    obtain ⟨rfl, c, d, rfl, hc, hd, rfl, hg⟩ := hW
    refine ⟨_, rfl, rfl, _, rfl, ?_⟩
    by_cases hz : d = 0
    · subst hz
      refine iteF ?_
      refine ⟨_, rfl, ?_⟩
      rw [← hg, Int.gcd_zero_right] at q
      rw [show c = (c.natAbs : Int) by omega]
      exact q
    · have hp : 0 < d := by omega
      have f := fmod_pos (i := c) hp
      have e : (!decide (V.int d = V.int 0)) = true := by simp [hz]
      rw [e]
      refine iteT ⟨fun σ' H'' => H'' = H' ∧ σ' = [some (.int d), some (.int (c.fmod d))], fun σ' H'' ⟨e1, e2⟩ => ⟨_, ?_, e1, d, c.fmod d, e2, hd, f.1, rfl, (gcd_step hp).trans hg⟩, ?_⟩
      · omega
      · exact ⟨_, rfl, _, rfl, _, rfl, _, _, rfl, rfl, hz, _, _, rfl, rfl, rfl⟩
/-! ### the draw -/
def spTake : Sp := fun vs H Q _ => ∃ (a : Addr) (many : Int), vs = [.ref a, .int many] ∧ Drw H a ∧ 0 < many ∧ many.natAbs < 2 ^ 8000 ∧ ∀ (d : Int) (H' : Hp), 0 ≤ d → d < many → Gr a H H' → Q (.int d) H'
theorem ok_take (T : Tx P K mg) : FnOk P w K mg base CX0 1 T.f_take T.fd_take ["_law_box_here", "_law_many"] spTake := by
  refine T.F_take.ok sc_take (fun vs H Q E h => ?_) (fun cdv A outer s H vs Q E hr h => ?_)
  · obtain ⟨a, b, rfl, _⟩ := h
    rfl
  · obtain ⟨a, many, rfl, ⟨x, y, z, ea⟩, hm, hb, q⟩ := h
    refine ⟨_, (pss_cons (ps_if (pt_cmpR op_gt (pe_ix ix_list (pv 0) pe_int (fun _ _ => rfl)) pe_int (nomark _)) (pss_cons (ps_set (i := 2) sc_take.nd rfl (.inl rfl) (pe_op op_modN (pe_ix ix_list (pv 0) pe_int (fun _ _ => rfl)) (pv 1))) (pss_cons (ps_asg (pe_op op_fdivW (pe_ix ix_list (pv 0) pe_int (fun _ _ => rfl)) (pv 1)) (pg_sub (pv 0) pe_int set_list)) (pss_one (ps_ret (pv 2))))) pss_nil) (pss_cons (ps_asg (pe_op op_add (pe_ix ix_list (pv 0) pe_int (fun _ _ => rfl)) pe_int) (pg_sub (pv 0) pe_int set_list)) (pss_cons (ps_set (i := 3) sc_take.nd rfl (.inl rfl) (pe_op op_modN (pe_op op_mul (pe_op op_add (pe_ix ix_list (pv 0) pe_int (fun _ _ => rfl)) (pe_op op_mul pe_int (pe_ix ix_list (pv 0) pe_int (fun _ _ => rfl)))) pe_int) pe_int)) (pss_cons (ps_asg (pe_op op_add (pe_op op_modN (pe_op op_add (pe_op op_mul (pv 3) pe_int) pe_int) pe_int) pe_int) (pg_sub (pv 0) pe_int set_list)) (pss_one (ps_ret (pe_op op_modN (pe_op op_fdivW (pe_op op_add (pe_op op_mul (pv 3) pe_int) (pe_ix ix_list (pv 0) pe_int (fun _ _ => rfl))) pe_int) (pv 1)))))))), ?_⟩
    have at0 : ∀ {u v t : V}, atI [u, v, t] 0 = some u := fun {u v t} => rfl
    have at1 : ∀ {u v t : V}, atI [u, v, t] 1 = some v := fun {u v t} => rfl
    have at2 : ∀ {u v t : V}, atI [u, v, t] 2 = some t := fun {u v t} => rfl
    refine ⟨.ref a, rfl, a, _, 0, .int x, rfl, rfl, SqL.of ea, at0, _, _, rfl, rfl, _, rfl, ite2 (fun c => ?_) (fun c => ?_)⟩
    · refine ⟨.ref a, rfl, a, _, 0, .int x, rfl, rfl, SqL.of ea, at0, .int many, rfl, _, _, rfl, rfl, by omega, ?_⟩
      refine ⟨.ref a, rfl, a, _, 0, .int x, rfl, rfl, SqL.of ea, at0, .int many, rfl, _, _, rfl, rfl, wide_div hm hb (by decide) (by decide), .ref a, rfl, a, _, 0, 0, rfl, rfl, ea, rfl, ?_⟩
      have f := fmod_pos (i := x) hm
      exact ⟨_, rfl, q _ _ f.1 f.2 Gr.set⟩
    · refine ⟨.ref a, rfl, a, _, 2, .int z, rfl, rfl, SqL.of ea, at2, _, _, rfl, rfl, .ref a, rfl, a, _, 2, 2, rfl, rfl, ea, rfl, ?_⟩
      have e1 : upd H a (.lst ([V.int x, .int y, .int z].set 2 (.int (z + 1)))) a = some (.lst [.int x, .int y, .int (z + 1)]) := upd_same
      refine ⟨.ref a, rfl, a, _, 1, .int y, rfl, rfl, SqL.of e1, at1, .ref a, rfl, a, _, 2, .int (z + 1), rfl, rfl, SqL.of e1, at2, _, _, rfl, rfl, .inl ⟨by decide, by decide⟩, _, _, rfl, rfl, _, _, rfl, rfl, .inr ⟨by decide, by decide⟩, _, _, rfl, rfl, nz rfl, ?_⟩
      refine ⟨_, rfl, _, _, rfl, rfl, .inr ⟨by decide, by decide⟩, _, _, rfl, rfl, _, _, rfl, rfl, nz rfl, _, _, rfl, rfl, .ref a, rfl, a, _, 1, 1, rfl, rfl, e1, rfl, ?_⟩
      refine ⟨_, rfl, _, _, rfl, rfl, .inr ⟨by decide, by decide⟩, .ref a, rfl, a, _, 1, _, rfl, rfl, SqL.of upd_same, at1, _, _, rfl, rfl, _, _, rfl, rfl, ⟨by decide, by decide⟩, .int many, rfl, _, _, rfl, rfl, by omega, ?_⟩
      have f := fun i => fmod_pos (i := i) hm
      refine q _ _ (f _).1 (f _).2 (Gr.trans Gr.set Gr.set)
/-! ### a fresh draw -/
def spBox (K : PySem.W.Frag) : Sp := fun vs H Q _ => ∃ (a : Addr) (ns : List Int) (k : Int), vs = [.ref a, .int k] ∧ SqL K H a (ns.map V.int) ∧ 0 ≤ k ∧ k ≤ 1000 ∧ ∀ (p : Addr) (H' : Hp), H p = none → Same H H' → Drw H' p → Q (.ref p) H'
theorem at_int {ns : List Int} {k : Int} (h0 : 0 ≤ k) (h1 : k < ns.length) : ∃ v, atI (ns.map V.int) k = some (.int v) := by
  have l : k.toNat < ns.length := by omega
  refine ⟨ns[k.toNat], at_of (j := k.toNat) (by omega) ?_⟩
  rw [List.getElem?_map, List.getElem?_eq_getElem l]
  rfl
theorem s0 : 0 ≤ sizeLine := by decide
theorem s1 : 1 ≤ sizeLine := by decide
theorem s2 : 2 ≤ sizeLine := by decide
theorem s3 : 3 ≤ sizeLine := by decide
theorem s4 : 4 ≤ sizeLine := by decide
theorem ix01 {c : Int} {b : Bool} : ∃ v, atI [V.int 0, V.int c] (if b = true then 1 else 0) = some (.int v) := by
  cases b
  · exact ⟨0, rfl⟩
  · exact ⟨c, rfl⟩
theorem new2 {H : Hp} {p p2 : Addr} {o : HO} (h : H p = none) (h2 : upd H p o p2 = none) : H p2 = none := Same.free (same_new h) h2
theorem ok_box (T : Tx P K mg) : FnOk P w K mg base CX0 1 T.f_box T.fd_box ["_law_script", "_law_k"] (spBox K) := by
  refine T.F_box.ok sc_box (fun vs H Q E h => ?_) (fun cdv A outer s H vs Q E hr h => ?_)
  · obtain ⟨a, b, k, rfl, _⟩ := h
    rfl
  · obtain ⟨a, ns, k, rfl, hS, h0, h1, q⟩ := h
    refine ⟨_, (pss_cons (ps_set (i := 2) sc_box.nd rfl (.inl rfl) (pe_op op_add (pe_op op_mul pe_int (pv 1)) pe_int)) (pss_cons (ps_if (pt_cmpR op_lt (pv 1) (pe_callB call_len_seq (by rfl) T.m_len PySem.boot_len (pa_cons (pv 0) pa_nil)) (nomark _)) (pss_one (ps_set (i := 2) sc_box.nd rfl (.inl rfl) (pe_ix ix_list (pv 0) (pv 1) (fun _ _ => rfl)))) (pss_one (ps_if (pt_cmpR op_gt (pe_callB call_len_seq (by rfl) T.m_len PySem.boot_len (pa_cons (pv 0) pa_nil)) pe_int (nomark _)) (pss_one (ps_set (i := 2) sc_box.nd rfl (.inl rfl) (pe_op op_add (pv 2) (pe_op op_mul (pe_op op_modN (pe_ix ix_list (pv 0) (pe_op op_modN (pv 1) (pe_callB call_len_seq (by rfl) T.m_len PySem.boot_len (pa_cons (pv 0) pa_nil))) (fun _ _ => rfl)) pe_int) pe_int)))) pss_nil))) (pss_cons (ps_set (i := 3) sc_box.nd rfl (.inl rfl) (pe_op op_add (pe_op op_modN (pe_op op_add (pe_op op_mul (pe_op op_modN (pv 2) pe_int) pe_int) (pe_op op_mul pe_int (pv 1))) pe_int) pe_int)) (pss_one (ps_ret (pe_lst (pa_cons (pe_ix ix_list (pe_lst (pa_cons pe_int (pa_cons (pv 2) pa_nil))) (pe_callTy call_int1 (by rfl) T.m_int (by decide +kernel) (pa_cons (pe_cmpR op_ge (pv 2) (pe_op op_pow pe_int pe_int) (nomark _)) pa_nil)) (fun _ _ => rfl)) (pa_cons (pv 3) (pa_cons pe_int pa_nil))))))))), ?_⟩
    refine ⟨_, rfl, _, _, rfl, rfl, .inl ⟨by decide, by decide⟩, _, _, rfl, rfl, ?_⟩
    refine ⟨_, rfl, .ref a, rfl, a, _, rfl, .inl hS, _, _, rfl, rfl, _, rfl, ite2 (fun c => ?_) (fun c => ?_)⟩
    rotate_left
    · refine ⟨.ref a, rfl, a, _, rfl, .inl hS, _, _, rfl, rfl, _, rfl, ite2 (fun c2 => ?_) (fun c2 => ?_)⟩
      · have l0 : (0 : Int) < ((ns.map V.int).length : Int) := of_decide_eq_true c2
        have f := fmod_pos (i := k) l0
        obtain ⟨v, hv⟩ := at_int (ns := ns) (k := k.fmod ((ns.map V.int).length : Int)) f.1 (by rw [List.length_map] at f ⊢; exact f.2)
        refine ⟨_, rfl, .ref a, rfl, _, rfl, .ref a, rfl, a, _, rfl, .inl hS, _, _, rfl, rfl, by omega, a, _, _, _, rfl, rfl, hS, hv, _, _, rfl, rfl, nz rfl, _, _, rfl, rfl, .inr ⟨by decide, by decide⟩, _, _, rfl, rfl, ?_⟩
        refine ⟨_, rfl, _, _, rfl, rfl, nz rfl, _, _, rfl, rfl, .inr ⟨by decide, by decide⟩, _, rfl, _, _, rfl, rfl, .inl ⟨by decide, by decide⟩, _, _, rfl, rfl, _, _, rfl, rfl, nz rfl, _, _, rfl, rfl, ?_⟩
        refine ⟨_, rfl, s2, fun p hp => ⟨_, rfl, _, _, rfl, rfl, ⟨by decide, by decide, by decide⟩, _, _, rfl, rfl, .inr ⟨_, rfl, ?_⟩⟩⟩
        obtain ⟨v, hv⟩ := ix01 (c := _) (b := _)
        refine ⟨p, _, _, _, rfl, rfl, SqL.of upd_same, hv, _, rfl, s3, fun p2 hp2 => ?_⟩
        exact q p2 _ (new2 hp hp2) ((same_new hp).trans (same_new hp2)) ⟨_, _, _, upd_same⟩
      · refine ⟨_, rfl, _, _, rfl, rfl, nz rfl, _, _, rfl, rfl, .inr ⟨by decide, by decide⟩, _, rfl, _, _, rfl, rfl, .inl ⟨by decide, by decide⟩, _, _, rfl, rfl, _, _, rfl, rfl, nz rfl, _, _, rfl, rfl, ?_⟩
        refine ⟨_, rfl, s2, fun p hp => ⟨_, rfl, _, _, rfl, rfl, ⟨by decide, by decide, by decide⟩, _, _, rfl, rfl, .inr ⟨_, rfl, ?_⟩⟩⟩
        obtain ⟨v, hv⟩ := ix01 (c := _) (b := _)
        refine ⟨p, _, _, _, rfl, rfl, SqL.of upd_same, hv, _, rfl, s3, fun p2 hp2 => ?_⟩
        exact q p2 _ (new2 hp hp2) ((same_new hp).trans (same_new hp2)) ⟨_, _, _, upd_same⟩
    · have l0 : k < ((ns.map V.int).length : Int) := of_decide_eq_true c
      obtain ⟨v, hv⟩ := at_int (ns := ns) h0 (by rw [List.length_map] at l0; exact l0)
      refine ⟨.ref a, rfl, _, rfl, a, _, _, _, rfl, rfl, hS, hv, ?_⟩
      refine ⟨_, rfl, _, _, rfl, rfl, nz rfl, _, _, rfl, rfl, .inr ⟨by decide, by decide⟩, _, rfl, _, _, rfl, rfl, .inl ⟨by decide, by decide⟩, _, _, rfl, rfl, _, _, rfl, rfl, nz rfl, _, _, rfl, rfl, ?_⟩
      refine ⟨_, rfl, s2, fun p hp => ⟨_, rfl, _, _, rfl, rfl, ⟨by decide, by decide, by decide⟩, _, _, rfl, rfl, .inr ⟨_, rfl, ?_⟩⟩⟩
      obtain ⟨v, hv⟩ := ix01 (c := _) (b := _)
      refine ⟨p, _, _, _, rfl, rfl, SqL.of upd_same, hv, _, rfl, s3, fun p2 hp2 => ?_⟩
      exact q p2 _ (new2 hp hp2) ((same_new hp).trans (same_new hp2)) ⟨_, _, _, upd_same⟩
end

/-! ### equal data: flat things, tuples -/
def flt1 : V → Bool
  | .non => true | .bl _ => true | .int _ => true | .str _ => true | _ => false
mutual
inductive Td (H : Hp) : V → V → Nat → Prop
  | flat {x : V} : flt1 x = true → Td H x x 1
  | tup {p q : Addr} {xs ys : List V} {n : Nat} : H p = some (.tup xs) → H q = some (.tup ys) → TdL H xs ys n → Td H (.ref p) (.ref q) (n + 1)
inductive TdL (H : Hp) : List V → List V → Nat → Prop
  | nil : TdL H [] [] 0
  | cons {x y : V} {xs ys : List V} {n m : Nat} : Td H x y n → TdL H xs ys m → TdL H (x :: xs) (y :: ys) (n + m)
end
mutual
theorem Td.mono {H H' : Hp} (s : Same H H') : ∀ {x y : V} {n : Nat}, Td H x y n → Td H' x y n
  | _, _, _, .flat h => .flat h
  | _, _, _, .tup h1 h2 l => .tup (s _ _ h1) (s _ _ h2) (TdL.mono s l)
theorem TdL.mono {H H' : Hp} (s : Same H H') : ∀ {x y : List V} {n : Nat}, TdL H x y n → TdL H' x y n
  | _, _, _, .nil => .nil
  | _, _, _, .cons h l => .cons (Td.mono s h) (TdL.mono s l)
end
theorem TdL.len {H : Hp} : ∀ {xs ys : List V} {n : Nat}, TdL H xs ys n → xs.length = ys.length
  | _, _, _, .nil => rfl
  | _, _, _, .cons _ l => by rw [List.length_cons, List.length_cons, TdL.len l]
/-- a pile of pairs of equal data, told by their whole size -/
inductive Pile (H0 H : Hp) : List Addr → Nat → Prop
  | nil : Pile H0 H [] 0
  | snoc {ts : List Addr} {t : Addr} {x y : V} {n m : Nat} : Pile H0 H ts m → H t = some (.tup [x, y]) → Td H0 x y n → Pile H0 H (ts ++ [t]) (m + n)
theorem Pile.mono {H0 H H' : Hp} {ts : List Addr} {m : Nat} (p : Pile H0 H ts m) (s : ∀ t xs, H t = some (.tup xs) → H' t = some (.tup xs)) : Pile H0 H' ts m := by
  induction p with
  | nil => exact .nil
  | snoc _ h d ih => exact .snoc ih (s _ _ h) d
theorem Pile.more {H0 H : Hp} : ∀ {us : List Addr} {xs ys : List V} {n m : Nat} {ts : List Addr}, Pile H0 H ts m → TdL H0 xs ys n → us.length = xs.length →
    (∀ (j : Nat) (t : Addr), us[j]? = some t → ∃ x y, xs[j]? = some x ∧ ys[j]? = some y ∧ H t = some (.tup [x, y])) → Pile H0 H (ts ++ us) (m + n)
  | [], _, _, _, _, ts, p, .nil, _, _ => by
    rw [List.append_nil]
    exact p
  | [], _, _, _, _, _, _, .cons _ _, h, _ => by cases h
  | u :: us, _, _, _, _, _, _, .nil, h, _ => by cases h
  | u :: us, _, _, _, m, ts, p, .cons (n := n1) (m := m1) d l, h, f => by
    obtain ⟨x', y', e1, e2, e3⟩ := f 0 u rfl
    have e1' := Option.some.inj e1
    have e2' := Option.some.inj e2
    subst e1' e2'
    have p1 := Pile.snoc p e3 d
    have r := Pile.more p1 l (Nat.succ.inj h) (fun j t hj => f (j + 1) t hj)
    rw [List.append_assoc] at r
    rw [show m + (n1 + m1) = m + n1 + m1 by omega]
    exact r
theorem Td.pos {H : Hp} {x y : V} {n : Nat} (d : Td H x y n) : 1 ≤ n := by
  cases d with
  | flat h => exact Nat.le_refl _
  | tup _ _ _ => exact Nat.succ_le_succ (Nat.zero_le _)
theorem Pile.len {H0 H : Hp} {ts : List Addr} {m : Nat} (p : Pile H0 H ts m) : ts.length ≤ m := by
  induction p with
  | nil => exact Nat.le_refl _
  | snoc _ _ d ih =>
    have := d.pos
    rw [List.length_append, List.length_singleton]
    omega
theorem TdL.size {H : Hp} : ∀ {xs ys : List V} {n : Nat}, TdL H xs ys n → xs.length ≤ n
  | _, _, _, .nil => Nat.le_refl _
  | _, _, _, .cons d l => by
    have h1 := d.pos
    have h2 := TdL.size l
    rw [List.length_cons]
    omega
theorem flat_ty {K : PySem.W.Frag} {H : Hp} {x : V} (h : flt1 x = true) : ∃ (T : String) (bb bi : Bool), TyX K H x (.type T) ∧ kitB T "tuple" = some false ∧ kitB T "list" = some false ∧ kitB T "bool" = some bb ∧ kitB T "int" = some bi ∧ scal x x = true := by
  cases x with
  | non => exact ⟨"NoneType", false, false, .base .non, by decide +kernel, by decide +kernel, by decide +kernel, by decide +kernel, rfl⟩
  | bl b => exact ⟨"bool", true, true, .base (.bl b), by decide +kernel, by decide +kernel, by decide +kernel, by decide +kernel, rfl⟩
  | int i => exact ⟨"int", false, true, .base (.int i), by decide +kernel, by decide +kernel, by decide +kernel, by decide +kernel, rfl⟩
  | str z => exact ⟨"str", false, false, .base (.str z), by decide +kernel, by decide +kernel, by decide +kernel, by decide +kernel, rfl⟩
  | byt b => cases h
  | flt b => cases h
  | ref a => cases h
  | ty n => cases h
section
variable {P : Program} {w : World} {K : PySem.W.Frag} {mg : Str → Option Value} {base : Heap}
def spAlike : Sp := fun vs H Q _ => ∃ (x y : V) (n : Nat), vs = [x, y] ∧ Td H x y n ∧ n ≤ 100000 ∧ ∀ H', Same H H' → Q (.bl true) H'
theorem ok_alike (T : Tx P K mg) : FnOk P w K mg base CX0 1 T.f_alike T.fd_alike ["_law_found", "_law_due"] spAlike := by
  refine T.F_alike.ok sc_alike (fun vs H Q E h => ?_) (fun cdv A outer s H vs Q E hr h => ?_)
  · obtain ⟨a, b, n, rfl, _⟩ := h
    rfl
  · obtain ⟨x, y, n, rfl, d, hn, q⟩ := h
    refine ⟨_, (pss_cons (ps_set (i := 2) sc_alike.nd rfl (.inl rfl) (pe_lst (pa_cons (pe_tup (pa_cons (pv 0) (pa_cons (pv 1) pa_nil))) pa_nil))) (pss_cons (ps_while PassesOwn.never (pt_cmpR op_gt (pe_callB call_len_seq (by rfl) T.m_len PySem.boot_len (pa_cons (pv 2) pa_nil)) pe_int (nomark _)) (pss_cons (ps_asg (pe_bm0 PySem.F.plainAttrs_list PySem.F.slot_list_pop PySem.F.type_list_pop mt_pop (pv 2)) (pg_tup rfl (pgs_cons (pg_name (i := 3) sc_alike.nd rfl (.inl rfl)) (pgs_cons (pg_name (i := 4) sc_alike.nd rfl (.inl rfl)) pgs_nil)))) (pss_one (ps_if (pt_val (pe_callB call_isiT (by rfl) T.m_isinstance (by decide +kernel) (pa_cons (pv 4) (pa_cons (pe_tup (pa_cons (pe_bltn (v := .ty "tuple") (by rfl) T.m_tuple (by decide +kernel) rfl) (pa_cons (pe_bltn (v := .ty "list") (by rfl) T.m_list (by decide +kernel) rfl) pa_nil))) pa_nil)))) (pss_cons (ps_if (PW.pt (pw_or (pt_cmpR op_ne (pe_callB call_isi (by rfl) T.m_isinstance (by decide +kernel) (pa_cons (pv 3) (pa_cons (pe_bltn (v := .ty "tuple") (by rfl) T.m_tuple (by decide +kernel) rfl) pa_nil))) (pe_callB call_isi (by rfl) T.m_isinstance (by decide +kernel) (pa_cons (pv 4) (pa_cons (pe_bltn (v := .ty "tuple") (by rfl) T.m_tuple (by decide +kernel) rfl) pa_nil))) (nomark _)) (pw_or1 (pt_cmpR op_ne (pe_callB call_isi (by rfl) T.m_isinstance (by decide +kernel) (pa_cons (pv 3) (pa_cons (pe_bltn (v := .ty "list") (by rfl) T.m_list (by decide +kernel) rfl) pa_nil))) (pe_callB call_isi (by rfl) T.m_isinstance (by decide +kernel) (pa_cons (pv 4) (pa_cons (pe_bltn (v := .ty "list") (by rfl) T.m_list (by decide +kernel) rfl) pa_nil))) (nomark _))))) (pss_one (ps_ret pe_bl)) pss_nil) (pss_cons (ps_if (pt_cmpR op_ne (pe_callB call_len_seq (by rfl) T.m_len PySem.boot_len (pa_cons (pv 3) pa_nil)) (pe_callB call_len_seq (by rfl) T.m_len PySem.boot_len (pa_cons (pv 4) pa_nil)) (nomark _)) (pss_one (ps_ret pe_bl)) pss_nil) (pss_one (ps_expr (pe_bm PySem.F.plainAttrs_list PySem.F.slot_list_extend PySem.F.type_list_extend mt_extend (pv 2) (pa_cons (ZL.pe_listZip rfl (by rfl) T.m_list (by rfl) T.m_zip (pa_cons (pv 3) (pa_cons (pv 4) pa_nil))) pa_nil)))))) (pss_one (ps_if (PW.pt (pw_or (pt_val (pe_callB call_isiT (by rfl) T.m_isinstance (by decide +kernel) (pa_cons (pv 3) (pa_cons (pe_tup (pa_cons (pe_bltn (v := .ty "tuple") (by rfl) T.m_tuple (by decide +kernel) rfl) (pa_cons (pe_bltn (v := .ty "list") (by rfl) T.m_list (by decide +kernel) rfl) pa_nil))) pa_nil)))) (pw_or1 (pt_cmpR op_ne (pe_callB call_isi (by rfl) T.m_isinstance (by decide +kernel) (pa_cons (pv 3) (pa_cons (pe_bltn (v := .ty "bool") (by rfl) T.m_bool (by decide +kernel) rfl) pa_nil))) (pe_callB call_isi (by rfl) T.m_isinstance (by decide +kernel) (pa_cons (pv 4) (pa_cons (pe_bltn (v := .ty "bool") (by rfl) T.m_bool (by decide +kernel) rfl) pa_nil))) (nomark _))))) (pss_one (ps_ret pe_bl)) (pss_one (ps_if (PW.pt (pw_or (pt_cmpR op_ne (pe_callB call_isi (by rfl) T.m_isinstance (by decide +kernel) (pa_cons (pv 3) (pa_cons (pe_bltn (v := .ty "int") (by rfl) T.m_int (by decide +kernel) rfl) pa_nil))) (pe_callB call_isi (by rfl) T.m_isinstance (by decide +kernel) (pa_cons (pv 4) (pa_cons (pe_bltn (v := .ty "int") (by rfl) T.m_int (by decide +kernel) rfl) pa_nil))) (nomark _)) (pw_or1 (pt_cmpR op_ne (pv 3) (pv 4) (nomark _))))) (pss_one (ps_ret pe_bl)) pss_nil)))))))) (pss_one (ps_ret pe_bl)))), ?_⟩
    -- left = [(found, due)]
    refine ⟨_, rfl, _, rfl, s2, fun t ht => ⟨s1, fun L hL => ?_⟩⟩
    have s1' : Same H (upd H t (.tup [x, y])) := same_new ht
    have s2' : Same (upd H t (.tup [x, y])) (upd (upd H t (.tup [x, y])) L (.lst [.ref t])) := same_new hL
    have hLH : H L = none := s1'.free hL
    refine ⟨fun m σ H' => ∃ (y3 y4 : Option V) (ts : List Addr), σ = [some x, some y, some (.ref L), y3, y4] ∧ H' L = some (.lst (ts.map V.ref)) ∧ Pile H H' ts m ∧ Same H H' ∧ m ≤ n, ⟨0 + n, none, none, [t], rfl, upd_same, ?_, s1'.trans s2', by omega⟩, fun m σ H' hW => ?_⟩
    · have z := Pile.snoc (H0 := H) (H := upd (upd H t (.tup [x, y])) L (.lst [.ref t])) .nil (s2' _ _ upd_same) d
      exact z
    obtain ⟨y3, y4, ts, rfl, eL, pl, sm, hmn⟩ := hW
    refine ⟨.ref L, rfl, L, _, rfl, .inl (SqL.of eL), _, _, rfl, rfl, _, rfl, ?_⟩
    cases pl with
    | nil =>
      refine iteF ?_
      exact q _ sm
    | snoc pl et dt =>
      rename_i ts t x1 y1 n1 m1
      have hlen : decide ((0 : Int) < (((ts ++ [t]).map V.ref).length : Int)) = true := by
        rw [List.map_append, List.length_append]
        exact decide_eq_true (by simp)
      have hlast : ((ts ++ [t]).map V.ref)[((ts ++ [t]).map V.ref).length - 1]? = some (.ref t) := by
        rw [List.map_append, List.length_append, List.length_map]
        show (ts.map V.ref ++ [V.ref t])[ts.length + 1 - 1]? = some (.ref t)
        rw [Nat.add_sub_cancel, List.getElem?_append_right (by rw [List.length_map]; exact Nat.le_refl _), List.length_map, Nat.sub_self]
        rfl
      have hdrop : ((ts ++ [t]).map V.ref).dropLast = ts.map V.ref := by
        rw [List.map_append]
        exact List.dropLast_concat
      have ntL : t ≠ L := ne_of et eL (by intro z; cases z)
      rw [hlen]
      refine iteT ⟨fun σ' H2 => ∃ (z3 z4 : Option V) (us : List Addr) (k : Nat), σ' = [some x, some y, some (.ref L), z3, z4] ∧ H2 L = some (.lst (us.map V.ref)) ∧ Pile H H2 us k ∧ Same H H2 ∧ k < m1 + n1, fun σ' H2 ⟨z3, z4, us, k, e1, e2, e3, e4, e5⟩ => ⟨k, e5, z3, z4, us, e1, e2, e3, e4, by omega⟩, ?_⟩
      -- one, other = left.pop()
      have sP : Same H (upd H' L (.lst (ts.map V.ref))) := fun b o e => by
        rw [upd_ne (ne_of_none e hLH)]
        exact sm b o e
      have plP : Pile H (upd H' L (.lst (ts.map V.ref))) ts m1 := pl.mono fun u xs e => by
        rw [upd_ne (ne_of e eL (by intro z; cases z))]
        exact e
      refine ⟨.ref L, rfl, .inl ⟨rfl, _, SqL.of eL⟩, L, _, _, rfl, rfl, eL, hlast, ?_⟩
      rw [hdrop]
      have etP : upd H' L (.lst (ts.map V.ref)) t = some (.tup [x1, y1]) := by
        rw [upd_ne ntL]
        exact et
      generalize hHP : upd H' L (.lst (ts.map V.ref)) = HP at sP plP etP
      have eLP : HP L = some (.lst (ts.map V.ref)) := by
        rw [← hHP]
        exact upd_same
      refine ⟨t, [x1, y1], rfl, .inl (.inl etP), rfl, x1, [y1], rfl, y1, [], rfl, rfl, ?_⟩
      clear hHP
      cases dt with
      | flat hf =>
        -- a flat thing and itself
        refine ⟨_, rfl, s2, fun u hu => ?_⟩
        have sU : Same HP (upd HP u (.tup [.ty "tuple", .ty "list"])) := same_new hu
        obtain ⟨T1, bb, bi, ty1, kt, kl, kb, ki, sc⟩ := flat_ty (K := K) (H := upd HP u (.tup [.ty "tuple", .ty "list"])) hf
        refine ⟨_, u, _, .type T1, _, false, rfl, upd_same, .cons (.ty "tuple") (.cons (.ty "list") .nil), ty1, kitAny_cons (b := false) (kit_ty kt) (fun _ => kitAny_cons (b := false) (kit_ty kl) (fun _ => kitAny_nil) (fun h => by cases h)) (fun h => by cases h), _, rfl, iteF ?_⟩
        refine ⟨_, rfl, s2, fun u2 hu2 => ?_⟩
        have sU2 : Same (upd HP u (.tup [.ty "tuple", .ty "list"])) (upd (upd HP u (.tup [.ty "tuple", .ty "list"])) u2 (.tup [.ty "tuple", .ty "list"])) := same_new hu2
        obtain ⟨T2, bb2, bi2, ty2, kt2, kl2, kb2, ki2, _⟩ := flat_ty (K := K) (H := upd (upd HP u (.tup [.ty "tuple", .ty "list"])) u2 (.tup [.ty "tuple", .ty "list"])) hf
        refine ⟨_, u2, _, .type T2, _, false, rfl, upd_same, .cons (.ty "tuple") (.cons (.ty "list") .nil), ty2, kitAny_cons (b := false) (kit_ty kt2) (fun _ => kitAny_cons (b := false) (kit_ty kl2) (fun _ => kitAny_nil) (fun h => by cases h)) (fun h => by cases h), _, rfl, iteF ?_⟩
        refine ⟨_, rfl, _, _, .type T2, _, bb2, rfl, .ty "bool", ty2, kit_ty kb2, _, rfl, _, _, .type T2, _, bb2, rfl, .ty "bool", ty2, kit_ty kb2, rfl, _, rfl, iteNS rfl ?_⟩
        refine ⟨_, rfl, _, _, .type T2, _, bi2, rfl, .ty "int", ty2, kit_ty ki2, _, rfl, _, _, .type T2, _, bi2, rfl, .ty "int", ty2, kit_ty ki2, rfl, _, rfl, iteNS rfl ?_⟩
        refine ⟨_, rfl, _, rfl, sc, _, rfl, iteNS rfl ?_⟩
        exact ⟨_, _, ts, m1, rfl, sU2 _ _ (sU _ _ eLP), plP.mono fun v ws e => sU2 _ _ (sU _ _ e), fun b o e => sU2 _ _ (sU _ _ (sP _ _ e)), by omega⟩
      | tup ep eq l =>
        rename_i p q' xs ys n2
        refine ⟨_, rfl, s2, fun u hu => ?_⟩
        have sU : Same HP (upd HP u (.tup [.ty "tuple", .ty "list"])) := same_new hu
        have gp := sU _ _ (sP _ _ ep)
        have gq := sU _ _ (sP _ _ eq)
        have gL := sU _ _ eLP
        refine ⟨_, u, _, .type "tuple", _, true, rfl, upd_same, .cons (.ty "tuple") (.cons (.ty "list") .nil), .base (.tup gq), kitAny_cons (b := true) (kit_ty (by decide +kernel)) (fun h => by cases h) (fun _ => rfl), _, rfl, iteT ?_⟩
        -- both tuples, neither a list
        refine ⟨_, rfl, _, _, .type "tuple", _, true, rfl, .ty "tuple", .base (.tup gp), kit_ty (by decide +kernel), _, rfl, _, _, .type "tuple", _, true, rfl, .ty "tuple", .base (.tup gq), kit_ty (by decide +kernel), rfl, _, rfl, iteF ?_⟩
        refine ⟨_, rfl, _, _, .type "tuple", _, false, rfl, .ty "list", .base (.tup gp), kit_ty (by decide +kernel), _, rfl, _, _, .type "tuple", _, false, rfl, .ty "list", .base (.tup gq), kit_ty (by decide +kernel), rfl, _, rfl, iteF ?_⟩
        refine ⟨_, rfl, p, xs, rfl, .inr (SqT.of gp), _, rfl, q', ys, rfl, .inr (SqT.of gq), rfl, _, rfl, iteNS (by rw [l.len]) ?_⟩
        refine ⟨_, rfl, .inl ⟨rfl, _, SqL.of gL⟩, _, rfl, _, rfl, p, q', xs, ys, rfl, SqT.of gp, SqT.of gq, l.len, fun H2 c us zn => ?_⟩
        obtain ⟨zk, zc, zu, zn1, znd, zl, zlen, zp⟩ := zn
        have g2 := zk _ _ gL
        refine ⟨L, c, _, _, rfl, rfl, g2, zl, ?_, ?_⟩
        · have a1 := plP.len
          have a2 := l.size
          rw [List.length_map, List.length_map]
          exact Nat.le_trans (show ts.length + us.length ≤ 100000 by omega) (by decide)
        · have ncL : c ≠ L := fun z => by
            rw [z, gL] at zc
            cases zc
          have up : ∀ b o, b ≠ L → H2 b = some o → (upd H2 L (.lst (ts.map V.ref ++ us.map V.ref))) b = some o := fun b o nb e => by
            rw [upd_ne nb]
            exact e
          refine ⟨_, _, ts ++ us, m1 + n2, rfl, ?_, ?_, ?_, by omega⟩
          · rw [upd_same, List.map_append]
          · refine Pile.more (plP.mono fun v ws e => up v _ (ne_of e eLP (by intro z; cases z)) (zk _ _ (sU _ _ e))) l zlen fun j v hj => ?_
            obtain ⟨x2, y2, f1, f2, f3⟩ := zp j v hj
            exact ⟨x2, y2, f1, f2, up v _ (fun z => by
              have := zu v (List.mem_of_getElem? hj)
              rw [z, gL] at this
              cases this) f3⟩
          · exact fun b o e => up b o (ne_of_none e hLH) (zk _ _ (sU _ _ (sP _ _ e)))
end

/-! ### numbers -/
/-- u over l, lowest (l above nought) -/
def lw (u l : Int) : Int × Int := (u / (Int.gcd u l : Int), l / (Int.gcd u l : Int))
/-- u over l, lowest (l not nought) -/
def nrm (u l : Int) : Int × Int := lw (if l < 0 then -u else u) (if l < 0 then -l else l)
/-- a new tuple of two ints is handed on -/
def NewT (Q : VK) (H : Hp) (r : Int × Int) : Prop := ∀ (p : Addr) (H' : Hp), H p = none → Same H H' → H' p = some (.tup [.int r.1, .int r.2]) → Q (.ref p) H'
theorem gcd_pos {u l : Int} (h : 0 < l) : (0 : Int) < (Int.gcd u l : Int) := by
  have z : Int.gcd u l ≠ 0 := fun e => by
    have := Int.gcd_eq_zero_iff.mp e
    omega
  omega
theorem gcd_le {u l : Int} (h : 0 < l) : (Int.gcd u l : Int) ≤ l := Int.le_of_dvd h (Int.gcd_dvd_right _ _)
theorem gcd_small {u l : Int} {n : Nat} (h : 0 < l) (b : l.natAbs < n) : ((Int.gcd u l : Int)).natAbs < n := by
  have := gcd_le (u := u) h
  have := gcd_pos (u := u) h
  omega
section
variable {P : Program} {w : World} {K : PySem.W.Frag} {mg : Str → Option Value} {base : Heap}
/-! ### _law_shared, _law_lowest -/
def spShared : Sp := fun vs H Q _ => ∃ a b : Int, vs = [.int a, .int b] ∧ 0 ≤ b ∧ Q (.int (Int.gcd a b)) H
theorem ok_shared (T : Tx P K mg) : FnOk P w K mg base CX0 1 T.f_shared T.fd_shared ["_law_one", "_law_other"] spShared := by
  refine T.F_shared.ok sc_shared (fun vs H Q E h => ?_) (fun cdv A outer s H vs Q E hr h => ?_)
  · obtain ⟨a, b, rfl, _⟩ := h
    rfl
  · obtain ⟨a, b, rfl, hb, q⟩ := h
    refine ⟨_, (pss_cons (ps_while PassesOwn.never (pt_cmpR op_ne (pv 1) pe_int (nomark _)) (pss_one (ps_par (i := 0) (j := 1) (by rfl) sc_shared.nd rfl rfl (by decide) rfl rfl (pa_cons (pv 1) (pa_cons (pe_op op_modN (pv 0) (pv 1)) pa_nil)) (by rfl)))) (pss_one (ps_ret (pe_callB call_abs (by rfl) T.m_abs (by decide +kernel) (pa_cons (pv 0) pa_nil))))), ?_⟩
    refine ⟨fun m σ H' => H' = H ∧ ∃ c d : Int, σ = [some (.int c), some (.int d)] ∧ 0 ≤ d ∧ d.toNat = m ∧ Int.gcd c d = Int.gcd a b, ⟨_, rfl, a, b, rfl, hb, rfl, rfl⟩, fun m σ H' hW => ?_⟩
    obtain ⟨rfl, c, d, rfl, hd, rfl, hg⟩ := hW
    refine ⟨_, rfl, rfl, _, rfl, ?_⟩
    by_cases hz : d = 0
    · subst hz
      refine iteF ?_
      refine ⟨_, rfl, _, rfl, ?_⟩
      rw [← hg, Int.gcd_zero_right] at q
      rw [show (if c < 0 then -c else c) = (c.natAbs : Int) by split <;> omega]
      exact q
    · have hp : 0 < d := by omega
      have f := fmod_pos (i := c) hp
      have e : (!decide (V.int d = V.int 0)) = true := by simp [hz]
      rw [e]
      refine iteT ⟨fun σ' H'' => H'' = H' ∧ σ' = [some (.int d), some (.int (c.fmod d))], fun σ' H'' ⟨e1, e2⟩ => ⟨_, ?_, e1, d, c.fmod d, e2, f.1, rfl, (gcd_step hp).trans hg⟩, ?_⟩
      · omega
      · exact ⟨_, rfl, _, rfl, _, rfl, _, _, rfl, rfl, hz, _, _, rfl, rfl, rfl⟩
def spLowest : Sp := fun vs H Q _ => ∃ u l : Int, vs = [.int u, .int l] ∧ 0 < l ∧ l.natAbs < 2 ^ 400 ∧ NewT Q H (lw u l)
theorem ok_lowest (T : Tx P K mg) : FnOk P w K mg base CX0 2 T.f_lowest T.fd_lowest ["_law_upper", "_law_lower"] spLowest := by
  refine T.F_lowest.ok sc_lowest (fun vs H Q E h => ?_) (fun cdv A outer s H vs Q E hr h => ?_)
  · obtain ⟨a, b, rfl, _⟩ := h
    rfl
  · obtain ⟨u, l, rfl, hl, hb, q⟩ := h
    refine ⟨_, (pss_cons (ps_set (i := 2) sc_lowest.nd rfl (.inl rfl) (pe_callB (call_max2 rfl) (by rfl) T.m_max (by decide +kernel) (pa_cons pe_int (pa_cons (pe_call (ok_shared T) (hr.mono (by decide) : Room 1 _) (by rfl) T.g_shared T.F_shared.kp T.b_shared .nil pass0 (pa_cons (pv 0) (pa_cons (pv 1) pa_nil))) pa_nil)))) (pss_one (ps_ret (pe_tup (pa_cons (pe_op op_fdivW (pv 0) (pv 2)) (pa_cons (pe_op op_fdivW (pv 1) (pv 2)) pa_nil)))))), ?_⟩
    have gp := gcd_pos (u := u) hl
    have gs := gcd_small (u := u) hl hb
    have em : (if (Int.gcd u l : Int) > 1 then (Int.gcd u l : Int) else 1) = (Int.gcd u l : Int) := by split <;> omega
    refine ⟨_, rfl, _, rfl, u, l, rfl, by omega, _, _, rfl, ?_⟩
    refine ⟨_, rfl, _, rfl, _, _, rfl, rfl, ?_, _, rfl, _, rfl, _, _, rfl, rfl, ?_, s2, fun p hp => ?_⟩
    · rw [em]
      exact wide_div gp gs (by decide) (by decide)
    · rw [em]
      exact wide_div gp gs (by decide) (by decide)
    · rw [em]
      exact q p _ hp (same_new hp) upd_same
/-! ### fraction_of -/
theorem nrm_gcd {u l : Int} : (Int.gcd (if u < 0 then -u else u) l : Int) = (Int.gcd u l : Int) := by
  split
  · rw [Int.neg_gcd]
  · rfl
def spFof : Sp := fun vs H Q _ => ∃ u l : Int, vs = [.int u, .int l] ∧ l ≠ 0 ∧ l.natAbs < 2 ^ 400 ∧ NewT Q H (nrm u l)
theorem ok_fof (T : Tx P K mg) : FnOk P w K mg base CX0 2 T.f_fof T.fd_fof ["upper", "lower"] spFof := by
  refine T.F_fof.ok sc_fof (fun vs H Q E h => ?_) (fun cdv A outer s H vs Q E hr h => ?_)
  · obtain ⟨a, b, rfl, _⟩ := h
    rfl
  · obtain ⟨u, l, rfl, hl, hb, q⟩ := h
    refine ⟨_, PSs.nox (pss_cons (ps_if (pt_cmpR op_eq (pv 1) pe_int (nomark _)) (pss_one (ps_never)) pss_nil) (pss_cons (ps_if (pt_cmpR op_lt (pv 1) pe_int (nomark _)) (pss_cons (ps_set (i := 0) sc_fof.nd rfl (.inl rfl) (pe_un un_neg (pv 0))) (pss_one (ps_set (i := 1) sc_fof.nd rfl (.inl rfl) (pe_un un_neg (pv 1))))) pss_nil) (pss_cons (ps_set (i := 2) sc_fof.nd rfl (.inl rfl) (pe_call (ok_cdiv T) (hr.mono (by decide) : Room 1 _) (by rfl) T.g_cdiv T.F_cdiv.kp T.b_cdiv .nil pass0 (pa_cons (pe_callB call_abs (by rfl) T.m_abs (by decide +kernel) (pa_cons (pv 0) pa_nil)) (pa_cons (pv 1) pa_nil)))) (pss_one (ps_ret (pe_tup (pa_cons (pe_op op_fdivW (pv 0) (pv 2)) (pa_cons (pe_op op_fdivW (pv 1) (pv 2)) pa_nil)))))))), ?_⟩
    refine ⟨_, rfl, rfl, _, rfl, ?_⟩
    rw [show decide (V.int l = V.int 0) = false by simp [hl]]
    refine iteF ?_
    refine ⟨_, rfl, _, _, rfl, rfl, _, rfl, ite2 (fun c => ?_) (fun c => ?_)⟩
    · have hn : l < 0 := of_decide_eq_true c
      have gp := gcd_pos (u := -u) (l := -l) (by omega)
      have gs := gcd_small (u := -u) (l := -l) (n := 2 ^ 400) (by omega) (by omega)
      refine ⟨_, rfl, _, rfl, ?_⟩
      refine ⟨_, rfl, _, rfl, ?_⟩
      refine ⟨_, rfl, _, rfl, _, rfl, _, _, rfl, by split <;> omega, by omega, ?_⟩
      rw [nrm_gcd]
      refine ⟨_, rfl, _, rfl, _, _, rfl, rfl, wide_div gp gs (by decide) (by decide), _, rfl, _, rfl, _, _, rfl, rfl, wide_div gp gs (by decide) (by decide), s2, fun p hp => ?_⟩
      unfold nrm at q
      rw [if_pos hn, if_pos hn] at q
      exact q p _ hp (same_new hp) upd_same
    · have hn : ¬ l < 0 := fun z => c (decide_eq_true z)
      have gp := gcd_pos (u := u) (l := l) (by omega)
      have gs := gcd_small (u := u) (l := l) (n := 2 ^ 400) (by omega) (by omega)
      refine ⟨_, rfl, _, rfl, _, rfl, _, _, rfl, by split <;> omega, by omega, ?_⟩
      rw [nrm_gcd]
      refine ⟨_, rfl, _, rfl, _, _, rfl, rfl, wide_div gp gs (by decide) (by decide), _, rfl, _, rfl, _, _, rfl, rfl, wide_div gp gs (by decide) (by decide), s2, fun p hp => ?_⟩
      unfold nrm at q
      rw [if_neg hn, if_neg hn] at q
      exact q p _ hp (same_new hp) upd_same
def spFofX (C : Addr) : Sp := fun vs H Q E => ∃ u l : Int, vs = [.int u, .int l] ∧ l.natAbs < 2 ^ 400 ∧ (l = 0 → E (.ref C) none H) ∧ (l ≠ 0 → NewT Q H (nrm u l))
theorem ok_fofX (T : Tx P K mg) : FnOk P w K mg base (L2.CX P w) 2 T.f_fof T.fd_fof ["upper", "lower"] (spFofX T.C) := by
  refine T.F_fof.ok sc_fof (fun vs H Q E h => ?_) (fun cdv A outer s H vs Q E hr h => ?_)
  · obtain ⟨a, b, rfl, _⟩ := h
    rfl
  · obtain ⟨u, l, rfl, hb, qx, q⟩ := h
    refine ⟨_, (pss_cons (ps_if (pt_cmpR op_eq (pv 1) pe_int (nomark _)) (pss_one (ps_raise rfl (takes_of rfl rfl rfl rfl) (pmk_e0 T.exc hr (by rfl) (fun _ _ _ _ _ _ _ => .of_eq rfl) (by decide +kernel) rfl rfl))) pss_nil) (pss_cons (ps_if (pt_cmpR op_lt (pv 1) pe_int (nomark _)) (pss_cons (ps_set (i := 0) sc_fof.nd rfl (.inl rfl) (pe_un un_neg (pv 0))) (pss_one (ps_set (i := 1) sc_fof.nd rfl (.inl rfl) (pe_un un_neg (pv 1))))) pss_nil) (pss_cons (ps_set (i := 2) sc_fof.nd rfl (.inl rfl) (pe_call (ok_cdiv T) (hr.mono (by decide) : Room 1 _) (by rfl) T.g_cdiv T.F_cdiv.kp T.b_cdiv .nil pass0 (pa_cons (pe_callB call_abs (by rfl) T.m_abs (by decide +kernel) (pa_cons (pv 0) pa_nil)) (pa_cons (pv 1) pa_nil)))) (pss_one (ps_ret (pe_tup (pa_cons (pe_op op_fdivW (pv 0) (pv 2)) (pa_cons (pe_op op_fdivW (pv 1) (pv 2)) pa_nil)))))))), ?_⟩
    refine ⟨_, rfl, rfl, _, rfl, ?_⟩
    by_cases hl : l = 0
    · rw [show decide (V.int l = V.int 0) = true by simp [hl]]
      refine iteT ?_
      exact qx hl
    rw [show decide (V.int l = V.int 0) = false by simp [hl]]
    refine iteF ?_
    replace q := q hl
    refine ⟨_, rfl, _, _, rfl, rfl, _, rfl, ite2 (fun c => ?_) (fun c => ?_)⟩
    · have hn : l < 0 := of_decide_eq_true c
      have gp := gcd_pos (u := -u) (l := -l) (by omega)
      have gs := gcd_small (u := -u) (l := -l) (n := 2 ^ 400) (by omega) (by omega)
      refine ⟨_, rfl, _, rfl, ?_⟩
      refine ⟨_, rfl, _, rfl, ?_⟩
      refine ⟨_, rfl, _, rfl, _, rfl, _, _, rfl, by split <;> omega, by omega, ?_⟩
      rw [nrm_gcd]
      refine ⟨_, rfl, _, rfl, _, _, rfl, rfl, wide_div gp gs (by decide) (by decide), _, rfl, _, rfl, _, _, rfl, rfl, wide_div gp gs (by decide) (by decide), s2, fun p hp => ?_⟩
      unfold nrm at q
      rw [if_pos hn, if_pos hn] at q
      exact q p _ hp (same_new hp) upd_same
    · have hn : ¬ l < 0 := fun z => c (decide_eq_true z)
      have gp := gcd_pos (u := u) (l := l) (by omega)
      have gs := gcd_small (u := u) (l := l) (n := 2 ^ 400) (by omega) (by omega)
      refine ⟨_, rfl, _, rfl, _, rfl, _, _, rfl, by split <;> omega, by omega, ?_⟩
      rw [nrm_gcd]
      refine ⟨_, rfl, _, rfl, _, _, rfl, rfl, wide_div gp gs (by decide) (by decide), _, rfl, _, rfl, _, _, rfl, rfl, wide_div gp gs (by decide) (by decide), s2, fun p hp => ?_⟩
      unfold nrm at q
      rw [if_neg hn, if_neg hn] at q
      exact q p _ hp (same_new hp) upd_same
/-! ### sums, products -/
/-- a fraction's tuple at p -/
def Fr (H : Hp) (p : Addr) (a b : Int) : Prop := H p = some (.tup [.int a, .int b]) ∧ 0 < b ∧ a.natAbs < 2 ^ 100 ∧ b.natAbs < 2 ^ 100
theorem Fr.mono {H H' : Hp} {p : Addr} {a b : Int} (s : Same H H') (h : Fr H p a b) : Fr H' p a b := ⟨s _ _ h.1, h.2⟩
theorem p200 {a b : Int} (ha : a.natAbs < 2 ^ 100) (hb : b.natAbs < 2 ^ 100) : (a * b).natAbs < 2 ^ 200 := wide_lt ha hb
theorem m200 {a b : Int} (ha : a.natAbs < 2 ^ 100) (hb : b.natAbs < 2 ^ 100) : CMulW a b := wide_mul ha hb (by decide) (by decide) (by decide)
theorem t0 {a b : Int} : atI [V.int a, V.int b] 0 = some (.int a) := rfl
theorem t1 {a b : Int} : atI [V.int a, V.int b] 1 = some (.int b) := rfl
def spTwo (g : Int → Int → Int → Int → Int × Int) : Sp := fun vs H Q _ => ∃ (p q : Addr) (a b c d : Int), vs = [.ref p, .ref q] ∧ Fr H p a b ∧ Fr H q c d ∧ NewT Q H (g a b c d)
theorem len_two {g : Int → Int → Int → Int → Int × Int} {vs : List V} {H : Hp} {Q : VK} {E : XK} (h : spTwo g vs H Q E) : vs.length = 2 := by
  obtain ⟨_, _, _, _, _, _, rfl, _⟩ := h
  rfl
theorem pos_ne {b d : Int} (hb : 0 < b) (hd : 0 < d) : b * d ≠ 0 := by
  have := Int.mul_pos hb hd
  omega
theorem nrm_pos {u l : Int} (h : 0 < l) : nrm u l = lw u l := by
  unfold nrm
  rw [if_neg (by omega), if_neg (by omega)]
theorem ok_added (T : Tx P K mg) : FnOk P w K mg base CX0 3 T.f_added T.fd_added ["one", "other"] (spTwo fun a b c d => lw (a * d + c * b) (b * d)) := by
  refine T.F_added.ok sc_added (fun vs H Q E h => len_two h) (fun cdv A outer s H vs Q E hr h => ?_)
  obtain ⟨p, r, a, b, c, d, rfl, ⟨e1, b0, ba, bb⟩, ⟨e2, d0, bc, bd⟩, q⟩ := h
  refine ⟨_, (pss_one (ps_ret (pe_call (ok_fof T) (hr.mono (by decide) : Room 2 _) (by rfl) T.g_fof T.F_fof.kp T.b_fof .nil pass0 (pa_cons (pe_op op_add (pe_op op_mulW (pe_ix ix_tup (pv 0) pe_int (fun _ _ => rfl)) (pe_ix ix_tup (pv 1) pe_int (fun _ _ => rfl))) (pe_op op_mulW (pe_ix ix_tup (pv 1) pe_int (fun _ _ => rfl)) (pe_ix ix_tup (pv 0) pe_int (fun _ _ => rfl)))) (pa_cons (pe_op op_mulW (pe_ix ix_tup (pv 0) pe_int (fun _ _ => rfl)) (pe_ix ix_tup (pv 1) pe_int (fun _ _ => rfl))) pa_nil))))), ?_⟩
  refine ⟨_, rfl, p, _, 0, _, rfl, rfl, SqT.of e1, t0, _, rfl, r, _, 1, _, rfl, rfl, SqT.of e2, t1, _, _, rfl, rfl, m200 ba bd, _, rfl, r, _, 0, _, rfl, rfl, SqT.of e2, t0, _, rfl, p, _, 1, _, rfl, rfl, SqT.of e1, t1, _, _, rfl, rfl, m200 bc bb, _, _, rfl, rfl, _, rfl, p, _, 1, _, rfl, rfl, SqT.of e1, t1, _, rfl, r, _, 1, _, rfl, rfl, SqT.of e2, t1, _, _, rfl, rfl, m200 bb bd, ?_⟩
  refine ⟨_, _, rfl, pos_ne b0 d0, Nat.lt_trans (p200 bb bd) (by decide), ?_⟩
  rw [nrm_pos (Int.mul_pos b0 d0)]
  exact q
theorem ok_taken (T : Tx P K mg) : FnOk P w K mg base CX0 3 T.f_taken T.fd_taken ["one", "other"] (spTwo fun a b c d => lw (a * d - c * b) (b * d)) := by
  refine T.F_taken.ok sc_taken (fun vs H Q E h => len_two h) (fun cdv A outer s H vs Q E hr h => ?_)
  obtain ⟨p, r, a, b, c, d, rfl, ⟨e1, b0, ba, bb⟩, ⟨e2, d0, bc, bd⟩, q⟩ := h
  refine ⟨_, (pss_one (ps_ret (pe_call (ok_fof T) (hr.mono (by decide) : Room 2 _) (by rfl) T.g_fof T.F_fof.kp T.b_fof .nil pass0 (pa_cons (pe_op op_sub (pe_op op_mulW (pe_ix ix_tup (pv 0) pe_int (fun _ _ => rfl)) (pe_ix ix_tup (pv 1) pe_int (fun _ _ => rfl))) (pe_op op_mulW (pe_ix ix_tup (pv 1) pe_int (fun _ _ => rfl)) (pe_ix ix_tup (pv 0) pe_int (fun _ _ => rfl)))) (pa_cons (pe_op op_mulW (pe_ix ix_tup (pv 0) pe_int (fun _ _ => rfl)) (pe_ix ix_tup (pv 1) pe_int (fun _ _ => rfl))) pa_nil))))), ?_⟩
  refine ⟨_, rfl, p, _, 0, _, rfl, rfl, SqT.of e1, t0, _, rfl, r, _, 1, _, rfl, rfl, SqT.of e2, t1, _, _, rfl, rfl, m200 ba bd, _, rfl, r, _, 0, _, rfl, rfl, SqT.of e2, t0, _, rfl, p, _, 1, _, rfl, rfl, SqT.of e1, t1, _, _, rfl, rfl, m200 bc bb, _, _, rfl, rfl, _, rfl, p, _, 1, _, rfl, rfl, SqT.of e1, t1, _, rfl, r, _, 1, _, rfl, rfl, SqT.of e2, t1, _, _, rfl, rfl, m200 bb bd, ?_⟩
  refine ⟨_, _, rfl, pos_ne b0 d0, Nat.lt_trans (p200 bb bd) (by decide), ?_⟩
  rw [nrm_pos (Int.mul_pos b0 d0)]
  exact q
theorem ok_multiplied (T : Tx P K mg) : FnOk P w K mg base CX0 3 T.f_multiplied T.fd_multiplied ["one", "other"] (spTwo fun a b c d => lw (a * c) (b * d)) := by
  refine T.F_multiplied.ok sc_multiplied (fun vs H Q E h => len_two h) (fun cdv A outer s H vs Q E hr h => ?_)
  obtain ⟨p, r, a, b, c, d, rfl, ⟨e1, b0, ba, bb⟩, ⟨e2, d0, bc, bd⟩, q⟩ := h
  refine ⟨_, (pss_one (ps_ret (pe_call (ok_fof T) (hr.mono (by decide) : Room 2 _) (by rfl) T.g_fof T.F_fof.kp T.b_fof .nil pass0 (pa_cons (pe_op op_mulW (pe_ix ix_tup (pv 0) pe_int (fun _ _ => rfl)) (pe_ix ix_tup (pv 1) pe_int (fun _ _ => rfl))) (pa_cons (pe_op op_mulW (pe_ix ix_tup (pv 0) pe_int (fun _ _ => rfl)) (pe_ix ix_tup (pv 1) pe_int (fun _ _ => rfl))) pa_nil))))), ?_⟩
  refine ⟨_, rfl, p, _, 0, _, rfl, rfl, SqT.of e1, t0, _, rfl, r, _, 0, _, rfl, rfl, SqT.of e2, t0, _, _, rfl, rfl, m200 ba bc, _, rfl, p, _, 1, _, rfl, rfl, SqT.of e1, t1, _, rfl, r, _, 1, _, rfl, rfl, SqT.of e2, t1, _, _, rfl, rfl, m200 bb bd, ?_⟩
  refine ⟨_, _, rfl, pos_ne b0 d0, Nat.lt_trans (p200 bb bd) (by decide), ?_⟩
  rw [nrm_pos (Int.mul_pos b0 d0)]
  exact q
def spDiv (C : Addr) : Sp := fun vs H Q E => ∃ (p q : Addr) (a b c d : Int), vs = [.ref p, .ref q] ∧ Fr H p a b ∧ Fr H q c d ∧ (b * c = 0 → E (.ref C) none H) ∧ (b * c ≠ 0 → NewT Q H (nrm (a * d) (b * c)))
theorem ok_divided (T : Tx P K mg) : FnOk P w K mg base (L2.CX P w) 3 T.f_divided T.fd_divided ["one", "other"] (spDiv T.C) := by
  refine T.F_divided.okX sc_divided (fun vs H Q E h => ?_) (fun cdv A outer s H vs Q E hr h => ?_)
  · obtain ⟨_, _, _, _, _, _, rfl, _⟩ := h
    rfl
  obtain ⟨p, r, a, b, c, d, rfl, ⟨e1, b0, ba, bb⟩, ⟨e2, d0, bc, bd⟩, qx, q⟩ := h
  refine ⟨_, (pss_one (ps_ret (pe_call (E := E) (ok_fofX T) (hr.mono (by decide) : Room 2 _) (by rfl) T.g_fof T.F_fof.kp T.b_fof .nil (passes_call (takes_of rfl rfl rfl rfl) (fun _ _ _ _ h => h)) (pa_cons (pe_op op_mulW (pe_ix ix_tup (pv 0) pe_int (fun _ _ => rfl)) (pe_ix ix_tup (pv 1) pe_int (fun _ _ => rfl))) (pa_cons (pe_op op_mulW (pe_ix ix_tup (pv 0) pe_int (fun _ _ => rfl)) (pe_ix ix_tup (pv 1) pe_int (fun _ _ => rfl))) pa_nil))))), ?_⟩
  refine ⟨_, rfl, p, _, 0, _, rfl, rfl, SqT.of e1, t0, _, rfl, r, _, 1, _, rfl, rfl, SqT.of e2, t1, _, _, rfl, rfl, m200 ba bd, _, rfl, p, _, 1, _, rfl, rfl, SqT.of e1, t1, _, rfl, r, _, 0, _, rfl, rfl, SqT.of e2, t0, _, _, rfl, rfl, m200 bb bc, ?_⟩
  exact ⟨_, _, rfl, Nat.lt_trans (p200 bb bc) (by decide), qx, q⟩
def spLess : Sp := fun vs H Q _ => ∃ (p q : Addr) (a b c d : Int), vs = [.ref p, .ref q] ∧ Fr H p a b ∧ Fr H q c d ∧ Q (.bl (decide (a * d < c * b))) H
theorem ok_is_less (T : Tx P K mg) : FnOk P w K mg base CX0 1 T.f_is_less T.fd_is_less ["one", "other"] spLess := by
  refine T.F_is_less.ok sc_is_less (fun vs H Q E h => ?_) (fun cdv A outer s H vs Q E hr h => ?_)
  · obtain ⟨_, _, _, _, _, _, rfl, _⟩ := h
    rfl
  obtain ⟨p, r, a, b, c, d, rfl, ⟨e1, b0, ba, bb⟩, ⟨e2, d0, bc, bd⟩, q⟩ := h
  refine ⟨_, (pss_one (ps_ret (pe_cmpR op_lt (pe_op op_mulW (pe_ix ix_tup (pv 0) pe_int (fun _ _ => rfl)) (pe_ix ix_tup (pv 1) pe_int (fun _ _ => rfl))) (pe_op op_mulW (pe_ix ix_tup (pv 1) pe_int (fun _ _ => rfl)) (pe_ix ix_tup (pv 0) pe_int (fun _ _ => rfl))) (nomark _)))), ?_⟩
  exact ⟨_, rfl, p, _, 0, _, rfl, rfl, SqT.of e1, t0, _, rfl, r, _, 1, _, rfl, rfl, SqT.of e2, t1, _, _, rfl, rfl, m200 ba bd, _, rfl, r, _, 0, _, rfl, rfl, SqT.of e2, t0, _, rfl, p, _, 1, _, rfl, rfl, SqT.of e1, t1, _, _, rfl, rfl, m200 bc bb, _, _, rfl, rfl, q⟩
end

section
variable {P : Program} {w : World} {K : PySem.W.Frag} {mg : Str → Option Value} {base : Heap}
/-! ### a drawn whole number -/
def spWhole : Sp := fun vs H Q _ => ∃ a : Addr, vs = [.ref a] ∧ Drw H a ∧ ∀ (v : Int) (H' : Hp), v.natAbs < 10 ^ 30 → Gr a H H' → Q (.int v) H'
theorem ix4 {d : Int} (h0 : 0 ≤ d) (h1 : d < 4) : ∃ v : Int, atI [V.int 5, V.int 100, V.int (10 ^ (9 : Int).toNat), V.int (10 ^ (30 : Int).toNat)] d = some (.int v) ∧ 0 < v ∧ v ≤ 10 ^ 30 := by
  have : d = 0 ∨ d = 1 ∨ d = 2 ∨ d = 3 := by omega
  rcases this with rfl | rfl | rfl | rfl
  · exact ⟨_, rfl, by decide, by decide⟩
  · exact ⟨_, rfl, by decide, by decide⟩
  · exact ⟨_, rfl, by decide, by decide⟩
  · exact ⟨_, rfl, by decide, by decide⟩
theorem Drw.ne {H : Hp} {a p : Addr} (d : Drw H a) (n : H p = none) : a ≠ p := by
  obtain ⟨x, y, z, e⟩ := d
  exact ne_of_none e n
theorem Drw.mono {H H' : Hp} {a : Addr} (d : Drw H a) (s : Same H H') : Drw H' a := by
  obtain ⟨x, y, z, e⟩ := d
  exact ⟨x, y, z, s _ _ e⟩
theorem ok_whole (T : Tx P K mg) : FnOk P w K mg base CX0 2 T.f_whole T.fd_whole ["_law_box_here"] spWhole := by
  refine T.F_whole.ok sc_whole (fun vs H Q E h => ?_) (fun cdv A outer s H vs Q E hr h => ?_)
  · obtain ⟨a, rfl, _⟩ := h
    rfl
  · obtain ⟨a, rfl, dr, q⟩ := h
    refine ⟨_, (pss_cons (ps_set (i := 1) sc_whole.nd rfl (.inl rfl) (pe_ix ix_list (pe_lst (pa_cons pe_int (pa_cons pe_int (pa_cons (pe_op op_pow pe_int pe_int) (pa_cons (pe_op op_pow pe_int pe_int) pa_nil))))) (pe_call (ok_take T) (hr.mono (by decide) : Room 1 _) (by rfl) T.g_take T.F_take.kp T.b_take .nil pass0 (pa_cons (pv 0) (pa_cons pe_int pa_nil))) (fun _ _ => rfl))) (pss_one (ps_ret (pe_op op_mul (pe_call (ok_take T) (hr.mono (by decide) : Room 1 _) (by rfl) T.g_take T.F_take.kp T.b_take .nil pass0 (pa_cons (pv 0) (pa_cons (pv 1) pa_nil))) (pe_op op_sub pe_int (pe_op op_mul pe_int (pe_call (ok_take T) (hr.mono (by decide) : Room 1 _) (by rfl) T.g_take T.F_take.kp T.b_take .nil pass0 (pa_cons (pv 0) (pa_cons pe_int pa_nil))))))))), ?_⟩
    refine ⟨_, _, rfl, rfl, ⟨by decide, by decide, by decide⟩, _, _, rfl, rfl, ⟨by decide, by decide, by decide⟩, s4, fun p hp => ?_⟩
    have npa : p ≠ a := (dr.ne hp).symm
    refine ⟨_, rfl, a, 4, rfl, dr.mono (same_new hp), by decide, by decide +kernel, fun d H1 d0 d1 g1 => ?_⟩
    obtain ⟨v, hv, v0, v1⟩ := ix4 d0 d1
    refine ⟨p, _, _, _, rfl, rfl, SqL.of (g1.1 _ _ npa upd_same), hv, ?_⟩
    have vb : v.natAbs < 2 ^ 8000 := Nat.lt_of_le_of_lt (show v.natAbs ≤ 10 ^ 30 by omega) (by decide +kernel)
    refine ⟨_, rfl, _, rfl, a, v, rfl, g1.2, v0, vb, fun e H2 e0 e1 g2 => ?_⟩
    refine ⟨_, rfl, a, 2, rfl, g2.2, by decide, by decide +kernel, fun f H3 f0 f1 g3 => ?_⟩
    refine ⟨_, _, rfl, rfl, .inl ⟨by decide, by decide⟩, _, _, rfl, rfl, _, _, rfl, rfl, .inr ⟨by omega, by omega⟩, ?_⟩
    have g : Gr a H H3 := ((Gr.of (same_new hp) dr).trans g1).trans (g2.trans g3)
    refine q _ _ ?_ g
    have : f = 0 ∨ f = 1 := by omega
    rcases this with rfl | rfl
    · rw [show (1 : Int) - 2 * 0 = 1 by decide, Int.mul_one]
      omega
    · rw [show (1 : Int) - 2 * 1 = -1 by decide, Int.mul_neg, Int.mul_one]
      omega
/-! ### _law_made_of -/
def spMade : Sp := fun vs H Q _ => ∃ u l : Int, vs = [.int u, .int l] ∧ l.natAbs < 2 ^ 400 ∧ (l = 0 → Q .non H) ∧ (l ≠ 0 → NewT Q H (nrm u l))
theorem ok_madeof (T : Tx P K mg) : FnOk P w K mg base CX0 3 T.f_madeof T.fd_madeof ["_law_upper", "_law_lower"] spMade := by
  refine T.F_madeof.ok sc_madeof (fun vs H Q E h => ?_) (fun cdv A outer s H vs Q E hr h => ?_)
  · obtain ⟨a, b, rfl, _⟩ := h
    rfl
  · obtain ⟨u, l, rfl, hb, q0, q⟩ := h
    refine ⟨_, (pss_cons (ps_if (pt_cmpR op_eq (pv 1) pe_int (nomark _)) (pss_one (ps_ret pe_non)) pss_nil) (pss_one (ps_ret (pe_call (ok_lowest T) (hr.mono (by decide) : Room 2 _) (by rfl) T.g_lowest T.F_lowest.kp T.b_lowest .nil pass0 (pa_cons (pe_op op_mul (pv 0) (pe_op op_sub pe_int (pe_op op_mul pe_int (pe_callTy call_int1 (by rfl) T.m_int (by decide +kernel) (pa_cons (pe_cmpR op_lt (pv 1) pe_int (nomark _)) pa_nil))))) (pa_cons (pe_callB call_abs (by rfl) T.m_abs (by decide +kernel) (pa_cons (pv 1) pa_nil)) pa_nil)))))), ?_⟩
    refine ⟨_, rfl, rfl, _, rfl, ?_⟩
    by_cases hl : l = 0
    · rw [show decide (V.int l = V.int 0) = true by simp [hl]]
      exact iteT (q0 hl)
    rw [show decide (V.int l = V.int 0) = false by simp [hl]]
    refine iteF ?_
    replace q := q hl
    refine ⟨_, rfl, _, rfl, _, _, rfl, rfl, .inr ⟨_, rfl, ?_⟩⟩
    by_cases hn : l < 0
    · rw [decide_eq_true hn]
      refine ⟨_, _, rfl, rfl, .inl ⟨by decide, by decide⟩, _, _, rfl, rfl, _, _, rfl, rfl, .inr ⟨by decide, by decide⟩, _, rfl, _, rfl, ?_⟩
      unfold nrm at q
      rw [if_pos hn, if_pos hn] at q
      have e1 : u * (1 - 2 * (if true = true then 1 else 0)) = -u := by
        rw [if_pos rfl]
        omega
      refine ⟨_, _, rfl, by rw [if_pos hn]; omega, by rw [if_pos hn]; omega, ?_⟩
      rw [e1, if_pos hn]
      exact q
    · rw [decide_eq_false hn]
      refine ⟨_, _, rfl, rfl, .inl ⟨by decide, by decide⟩, _, _, rfl, rfl, _, _, rfl, rfl, .inr ⟨by decide, by decide⟩, _, rfl, _, rfl, ?_⟩
      unfold nrm at q
      rw [if_neg hn, if_neg hn] at q
      have e1 : u * (1 - 2 * (if false = true then 1 else 0)) = u := by
        rw [if_neg Bool.false_ne_true]
        omega
      refine ⟨_, _, rfl, by rw [if_neg hn]; omega, by rw [if_neg hn]; omega, ?_⟩
      rw [e1, if_neg hn]
      exact q
end
/-! ### _law_heard -/
def rIsE2 (K : PySem.W.Frag) (D a : Addr) (cls : Value) (d : Option Addr) : List V → Hp → VK → Prop := fun xs H Q => cls = .ref D ∧ d = none ∧ rIsE K D a xs H Q
theorem call_isE2 {X : Cx} {a D : Addr} {oe : Obj} {cls : Value} {d : Option Addr} {pn : List (Addr × Obj)} (C : ExcC X.K D) (hz : Zc cls d oe) (hf : ∃ vs, oe.data = .fields vs) : CallR (X.suite a ((a, oe) :: pn)) (.builtin "isinstance") (rIsE2 X.K D a cls d) := by
  intro pins s σ H xs us Q I r h
  obtain ⟨rfl, rfl, h⟩ := h
  exact call_isE C hz hf pins s σ H xs us Q I r h
/-- what is asked, and what comes of it: none where it is refused -/
def Ask (H : Hp) (which : Int) (one other : V) (res : Option (Int × Int)) : Prop :=
  (which = 0 ∧ ∃ u l : Int, one = .int u ∧ other = .int l ∧ l.natAbs < 2 ^ 400 ∧ res = if l = 0 then none else some (nrm u l)) ∨
  (which = 1 ∧ ∃ (p q : Addr) (a b c d : Int), one = .ref p ∧ other = .ref q ∧ Fr H p a b ∧ Fr H q c d ∧ res = if b * c = 0 then none else some (nrm (a * d) (b * c)))
/-- what is heard of it, at p -/
def Heard (H : Hp) (p : Addr) : Option (Int × Int) → Prop
  | none => H p = some (.tup [.str "nought", .bl true, .bl false])
  | some r => ∃ t, H p = some (.tup [.str "told", .ref t]) ∧ H t = some (.tup [.int r.1, .int r.2])
def spHeard : Sp := fun vs H Q _ => ∃ (which : Int) (one other : V) (res : Option (Int × Int)), vs = [.int which, one, other] ∧ Ask H which one other res ∧ ∀ (p : Addr) (H' : Hp), Same H H' → Heard H' p res → Q (.ref p) H'
section
variable {P : Program} {w : World} {K : PySem.W.Frag} {mg : Str → Option Value} {base : Heap}
theorem ok_heard (T : Tx P K mg) : FnOk P w K mg base CX0 4 T.f_heard T.fd_heard ["_law_which", "_law_one", "_law_other"] spHeard := by
  refine T.F_heard.ok sc_heard (fun vs H Q E h => ?_) (fun cdv A outer s H vs Q E hr h => ?_)
  · obtain ⟨a, b, c, d, rfl, _⟩ := h
    rfl
  · obtain ⟨which, one, other, res, rfl, ask, q⟩ := h
    refine ⟨_, (pss_cons (ps_set (i := 3) sc_heard.nd rfl (.inl rfl) pe_non) (pss_cons (ps_try_as (i := 4) (Wout := fun _ _ _ _ => False) rfl rfl sc_heard.nd rfl rfl ⟨rfl, by decide, .inl T.exc.gC⟩ takes0 (fun W pn xe tk _ => (pss_one (ps_if (pt_cmpR op_eq (pv 0) pe_int (nomark _)) (pss_one (ps_set (i := 3) sc_heard.nd rfl (.inl rfl) (pe_tup (pa_cons pe_str (pa_cons (pe_callS (ok_fofX T) (hr.mono (by decide) : Room 2 _) (by rfl) T.g_fof T.F_fof.kp T.b_fof (fun σ => passAt tk σ) (by exact (pa_cons (pv 1) (pa_cons (pv 2) pa_nil)))) pa_nil))))) (pss_one (ps_set (i := 3) sc_heard.nd rfl (.inl rfl) (pe_tup (pa_cons pe_str (pa_cons (pe_callS (ok_divided T) (hr.mono (by decide) : Room 3 _) (by rfl) T.g_divided T.F_divided.kp T.b_divided (fun σ => passAt tk σ) (by exact (pa_cons (pv 1) (pa_cons (pv 2) pa_nil)))) pa_nil)))))))) (fun a oe cls d pn hz hf => (pss_one (ps_set (i := 3) sc_heard.nd rfl (.inl rfl) (pe_tup (pa_cons pe_str (pa_cons (pe_callB (call_isE2 T.exI hz hf) (by rfl) T.m_isinstance (by decide +kernel) (pa_cons (pv 4) (pa_cons (pe_bltn (v := .ty "ZeroDivisionError") (by rfl) T.m_ZeroDivisionError (by decide +kernel) rfl) pa_nil))) (pa_cons (pe_callB (call_isE2 T.exI hz hf) (by rfl) T.m_isinstance (by decide +kernel) (pa_cons (pv 4) (pa_cons (pe_glob (v := .ref T.CB) (by rfl) T.g_BoughError rfl) pa_nil))) pa_nil)))))))) (pss_one (ps_ret (pv 3))))), ?_⟩
    -- the suite: what is refused
    rcases ask with ⟨rfl, u, l, rfl, rfl, hb, hres⟩ | ⟨rfl, p, r, a, b, c, d, rfl, rfl, f1, f2, hres⟩
    · refine ⟨_, rfl, rfl, _, rfl, iteT ?_⟩
      refine ⟨_, rfl, _, rfl, u, l, rfl, hb, fun hl => ?_, fun hl => ?_⟩
      · rw [if_pos hl] at hres
        subst hres
        refine ⟨true, T.exm, fun _ x _ => ?_, fun z => Bool.noConfusion z⟩
        refine ⟨_, rfl, rfl, rfl, _, _, true, rfl, (fun v h => h), T.kZ, _, rfl, rfl, rfl, _, _, false, rfl, (fun v h => h), T.kB, s3, fun t ht => ?_⟩
        exact ⟨_, rfl, q _ _ (same_new ht) upd_same⟩
      · rw [if_neg hl] at hres
        subst hres
        intro t H1 nt s1 et
        refine ⟨s2, fun t2 ht2 => ?_⟩
        exact ⟨_, rfl, q _ _ (s1.trans (same_new ht2)) ⟨t, upd_same, same_new ht2 _ _ et⟩⟩
    · refine ⟨_, rfl, rfl, _, rfl, iteF ?_⟩
      refine ⟨_, rfl, _, rfl, p, r, a, b, c, d, rfl, f1, f2, fun hl => ?_, fun hl => ?_⟩
      · rw [if_pos hl] at hres
        subst hres
        refine ⟨true, T.exm, fun _ x _ => ?_, fun z => Bool.noConfusion z⟩
        refine ⟨_, rfl, rfl, rfl, _, _, true, rfl, (fun v h => h), T.kZ, _, rfl, rfl, rfl, _, _, false, rfl, (fun v h => h), T.kB, s3, fun t ht => ?_⟩
        exact ⟨_, rfl, q _ _ (same_new ht) upd_same⟩
      · rw [if_neg hl] at hres
        subst hres
        intro t H1 nt s1 et
        refine ⟨s2, fun t2 ht2 => ?_⟩
        exact ⟨_, rfl, q _ _ (s1.trans (same_new ht2)) ⟨t, upd_same, same_new ht2 _ _ et⟩⟩
/-! ### _law_right -/
def Due (H : Hp) (due : V) : Option (Int × Int) → Prop
  | none => due = .non
  | some r => ∃ t, due = .ref t ∧ H t = some (.tup [.int r.1, .int r.2])
def spRight : Sp := fun vs H Q _ => ∃ (which : Int) (one other due : V) (res : Option (Int × Int)), vs = [.int which, one, other, due] ∧ Ask H which one other res ∧ Due H due res ∧ ∀ H', Same H H' → Q (.bl true) H'
theorem td2 {H : Hp} {p q : Addr} {a b : Int} (h1 : H p = some (.tup [.int a, .int b])) (h2 : H q = some (.tup [.int a, .int b])) : Td H (.ref p) (.ref q) 3 := .tup h1 h2 (.cons (.flat rfl) (.cons (.flat rfl) .nil))
theorem ok_right (T : Tx P K mg) : FnOk P w K mg base CX0 5 T.f_right T.fd_right ["_law_which", "_law_one", "_law_other", "_law_due"] spRight := by
  refine T.F_right.ok sc_right (fun vs H Q E h => ?_) (fun cdv A outer s H vs Q E hr h => ?_)
  · obtain ⟨a, b, c, d, e, rfl, _⟩ := h
    rfl
  · obtain ⟨which, one, other, due, res, rfl, ask, dd, q⟩ := h
    refine ⟨_, (pss_cons (ps_if (pt_cmpR op_isN (pv 3) pe_non (nomark _)) (pss_one (ps_ret (pe_call (ok_alike T) (hr.mono (by decide) : Room 1 _) (by rfl) T.g_alike T.F_alike.kp T.b_alike .nil pass0 (pa_cons (pe_call (ok_heard T) (hr.mono (by decide) : Room 4 _) (by rfl) T.g_heard T.F_heard.kp T.b_heard .nil pass0 (pa_cons (pv 0) (pa_cons (pv 1) (pa_cons (pv 2) pa_nil)))) (pa_cons (pe_tup (pa_cons pe_str (pa_cons pe_bl (pa_cons pe_bl pa_nil)))) pa_nil))))) pss_nil) (pss_one (ps_ret (pe_call (ok_alike T) (hr.mono (by decide) : Room 1 _) (by rfl) T.g_alike T.F_alike.kp T.b_alike .nil pass0 (pa_cons (pe_call (ok_heard T) (hr.mono (by decide) : Room 4 _) (by rfl) T.g_heard T.F_heard.kp T.b_heard .nil pass0 (pa_cons (pv 0) (pa_cons (pv 1) (pa_cons (pv 2) pa_nil)))) (pa_cons (pe_tup (pa_cons pe_str (pa_cons (pv 3) pa_nil))) pa_nil)))))), ?_⟩
    cases res with
    | none =>
      obtain rfl : due = .non := dd
      refine ⟨_, rfl, rfl, _, rfl, iteT ?_⟩
      refine ⟨_, rfl, _, rfl, _, rfl, which, one, other, none, rfl, ask, fun p H1 s1 hp => ?_⟩
      refine ⟨s3, fun t ht => ?_⟩
      refine ⟨_, _, _, rfl, .tup (same_new ht _ _ hp) upd_same (.cons (.flat rfl) (.cons (.flat rfl) (.cons (.flat rfl) .nil))), by decide, fun H2 s2 => ?_⟩
      exact q _ (s1.trans ((same_new ht).trans s2))
    | some r =>
      obtain ⟨t, rfl, et⟩ := dd
      refine ⟨_, rfl, rfl, _, rfl, iteF ?_⟩
      refine ⟨_, rfl, _, rfl, _, rfl, which, one, other, some r, rfl, ask, fun p H1 s1 hp => ?_⟩
      obtain ⟨t1, e1, e2⟩ := hp
      refine ⟨_, rfl, s2, fun t2 ht2 => ?_⟩
      refine ⟨_, _, _, rfl, .tup (same_new ht2 _ _ e1) upd_same (.cons (.flat rfl) (.cons (td2 (same_new ht2 _ _ e2) (same_new ht2 _ _ (s1 _ _ et))) .nil)), by decide, fun H2 s2 => ?_⟩
      exact q _ (s1.trans ((same_new ht2).trans s2))
end

section
variable {P : Program} {w : World} {K : PySem.W.Frag} {mg : Str → Option Value} {base : Heap}
/-! ### _law_both -/
def spBoth : Sp := fun vs H Q _ => ∃ (p q : Addr) (a b c d : Int), vs = [.ref p, .ref q] ∧ Fr H p a b ∧ Fr H q c d ∧ ∀ H', Same H H' → Q (.bl true) H'
theorem ok_both (T : Tx P K mg) : FnOk P w K mg base CX0 6 T.f_both T.fd_both ["_law_one", "_law_other"] spBoth := by
  refine T.F_both.ok sc_both (fun vs H Q E h => ?_) (fun cdv A outer s H vs Q E hr h => ?_)
  · obtain ⟨_, _, _, _, _, _, rfl, _⟩ := h
    rfl
  · obtain ⟨p, r, a, b, c, d, rfl, f1, f2, q⟩ := h
    refine ⟨_, (pss_cons (ps_asg (pv 0) (pg_tup rfl (pgs_cons (pg_name (i := 2) sc_both.nd rfl (.inl rfl)) (pgs_cons (pg_name (i := 3) sc_both.nd rfl (.inl rfl)) pgs_nil)))) (pss_cons (ps_asg (pv 1) (pg_tup rfl (pgs_cons (pg_name (i := 4) sc_both.nd rfl (.inl rfl)) (pgs_cons (pg_name (i := 5) sc_both.nd rfl (.inl rfl)) pgs_nil)))) (pss_cons (ps_if (pt_not (pt_val (pe_call (ok_alike T) (hr.mono (by decide) : Room 1 _) (by rfl) T.g_alike T.F_alike.kp T.b_alike .nil pass0 (pa_cons (pe_call (ok_added T) (hr.mono (by decide) : Room 3 _) (by rfl) T.g_added T.F_added.kp T.b_added .nil pass0 (pa_cons (pv 0) (pa_cons (pv 1) pa_nil))) (pa_cons (pe_call (ok_lowest T) (hr.mono (by decide) : Room 2 _) (by rfl) T.g_lowest T.F_lowest.kp T.b_lowest .nil pass0 (pa_cons (pe_op op_add (pe_op op_mulW (pv 2) (pv 5)) (pe_op op_mulW (pv 4) (pv 3))) (pa_cons (pe_op op_mulW (pv 3) (pv 5)) pa_nil))) pa_nil))))) (pss_one (ps_ret pe_bl)) pss_nil) (pss_cons (ps_if (pt_not (pt_val (pe_call (ok_alike T) (hr.mono (by decide) : Room 1 _) (by rfl) T.g_alike T.F_alike.kp T.b_alike .nil pass0 (pa_cons (pe_call (ok_taken T) (hr.mono (by decide) : Room 3 _) (by rfl) T.g_taken T.F_taken.kp T.b_taken .nil pass0 (pa_cons (pv 0) (pa_cons (pv 1) pa_nil))) (pa_cons (pe_call (ok_lowest T) (hr.mono (by decide) : Room 2 _) (by rfl) T.g_lowest T.F_lowest.kp T.b_lowest .nil pass0 (pa_cons (pe_op op_sub (pe_op op_mulW (pv 2) (pv 5)) (pe_op op_mulW (pv 4) (pv 3))) (pa_cons (pe_op op_mulW (pv 3) (pv 5)) pa_nil))) pa_nil))))) (pss_one (ps_ret pe_bl)) pss_nil) (pss_cons (ps_if (pt_not (pt_val (pe_call (ok_alike T) (hr.mono (by decide) : Room 1 _) (by rfl) T.g_alike T.F_alike.kp T.b_alike .nil pass0 (pa_cons (pe_call (ok_multiplied T) (hr.mono (by decide) : Room 3 _) (by rfl) T.g_multiplied T.F_multiplied.kp T.b_multiplied .nil pass0 (pa_cons (pv 0) (pa_cons (pv 1) pa_nil))) (pa_cons (pe_call (ok_lowest T) (hr.mono (by decide) : Room 2 _) (by rfl) T.g_lowest T.F_lowest.kp T.b_lowest .nil pass0 (pa_cons (pe_op op_mulW (pv 2) (pv 4)) (pa_cons (pe_op op_mulW (pv 3) (pv 5)) pa_nil))) pa_nil))))) (pss_one (ps_ret pe_bl)) pss_nil) (pss_cons (ps_if (pt_not (pt_val (pe_call (ok_alike T) (hr.mono (by decide) : Room 1 _) (by rfl) T.g_alike T.F_alike.kp T.b_alike .nil pass0 (pa_cons (pe_call (ok_is_less T) (hr.mono (by decide) : Room 1 _) (by rfl) T.g_is_less T.F_is_less.kp T.b_is_less .nil pass0 (pa_cons (pv 0) (pa_cons (pv 1) pa_nil))) (pa_cons (pe_cmpR op_lt (pe_op op_mulW (pv 2) (pv 5)) (pe_op op_mulW (pv 4) (pv 3)) (nomark _)) pa_nil))))) (pss_one (ps_ret pe_bl)) pss_nil) (pss_one (ps_ret (pe_call (ok_right T) (hr.mono (by decide) : Room 5 _) (by rfl) T.g_right T.F_right.kp T.b_right .nil pass0 (pa_cons pe_int (pa_cons (pv 0) (pa_cons (pv 1) (pa_cons (pe_call (ok_madeof T) (hr.mono (by decide) : Room 3 _) (by rfl) T.g_madeof T.F_madeof.kp T.b_madeof .nil pass0 (pa_cons (pe_op op_mulW (pv 2) (pv 5)) (pa_cons (pe_op op_mulW (pv 3) (pv 4)) pa_nil))) pa_nil))))))))))))), ?_⟩
    obtain ⟨e1, b0, ba, bb⟩ := id f1
    obtain ⟨e2, d0, bc, bd⟩ := id f2
    refine ⟨_, rfl, p, _, rfl, .inl (.inl e1), rfl, _, _, rfl, _, _, rfl, rfl, ?_⟩
    refine ⟨_, rfl, r, _, rfl, .inl (.inl e2), rfl, _, _, rfl, _, _, rfl, rfl, ?_⟩
    -- added
    refine ⟨_, rfl, _, rfl, p, r, a, b, c, d, rfl, f1, f2, fun t H1 nt s1 et => ?_⟩
    refine ⟨_, rfl, _, rfl, _, _, rfl, rfl, m200 ba bd, _, rfl, _, rfl, _, _, rfl, rfl, m200 bc bb, _, _, rfl, rfl, _, rfl, _, rfl, _, _, rfl, rfl, m200 bb bd, ?_⟩
    refine ⟨_, _, rfl, Int.mul_pos b0 d0, Nat.lt_trans (p200 bb bd) (by decide), fun t2 H2 nt2 s2 et2 => ?_⟩
    refine ⟨_, _, _, rfl, td2 (s2 _ _ et) et2, by decide, fun H3 s3 => ⟨_, rfl, iteF ?_⟩⟩
    have k3 : Same H H3 := s1.trans (s2.trans s3)
    -- taken_away
    refine ⟨_, rfl, _, rfl, p, r, a, b, c, d, rfl, f1.mono k3, f2.mono k3, fun t H1' nt s1' et => ?_⟩
    refine ⟨_, rfl, _, rfl, _, _, rfl, rfl, m200 ba bd, _, rfl, _, rfl, _, _, rfl, rfl, m200 bc bb, _, _, rfl, rfl, _, rfl, _, rfl, _, _, rfl, rfl, m200 bb bd, ?_⟩
    refine ⟨_, _, rfl, Int.mul_pos b0 d0, Nat.lt_trans (p200 bb bd) (by decide), fun t2 H2' nt2 s2' et2 => ?_⟩
    refine ⟨_, _, _, rfl, td2 (s2' _ _ et) et2, by decide, fun H4 s4 => ⟨_, rfl, iteF ?_⟩⟩
    have k4 : Same H H4 := k3.trans (s1'.trans (s2'.trans s4))
    -- multiplied
    refine ⟨_, rfl, _, rfl, p, r, a, b, c, d, rfl, f1.mono k4, f2.mono k4, fun t H1'' nt s1'' et => ?_⟩
    refine ⟨_, rfl, _, rfl, _, _, rfl, rfl, m200 ba bc, _, rfl, _, rfl, _, _, rfl, rfl, m200 bb bd, ?_⟩
    refine ⟨_, _, rfl, Int.mul_pos b0 d0, Nat.lt_trans (p200 bb bd) (by decide), fun t2 H2'' nt2 s2'' et2 => ?_⟩
    refine ⟨_, _, _, rfl, td2 (s2'' _ _ et) et2, by decide, fun H5 s5 => ⟨_, rfl, iteF ?_⟩⟩
    have k5 : Same H H5 := k4.trans (s1''.trans (s2''.trans s5))
    -- is_less
    refine ⟨_, rfl, _, rfl, p, r, a, b, c, d, rfl, f1.mono k5, f2.mono k5, ?_⟩
    refine ⟨_, rfl, _, rfl, _, _, rfl, rfl, m200 ba bd, _, rfl, _, rfl, _, _, rfl, rfl, m200 bc bb, _, _, rfl, rfl, ?_⟩
    refine ⟨_, _, _, rfl, .flat rfl, by decide, fun H6 s6 => ⟨_, rfl, iteF ?_⟩⟩
    have k6 : Same H H6 := k5.trans s6
    -- divided
    refine ⟨_, rfl, _, rfl, _, rfl, _, rfl, _, _, rfl, rfl, m200 ba bd, _, rfl, _, rfl, _, _, rfl, rfl, m200 bb bc, ?_⟩
    refine ⟨_, _, rfl, Nat.lt_trans (p200 bb bc) (by decide), fun z => ?_, fun z => ?_⟩
    · exact ⟨1, _, _, _, none, rfl, .inr ⟨rfl, p, r, a, b, c, d, rfl, rfl, f1.mono k6, f2.mono k6, by rw [if_pos z]⟩, rfl, fun H7 s7 => q _ (k6.trans s7)⟩
    · intro t H7 nt s7 et
      exact ⟨1, _, _, _, some _, rfl, .inr ⟨rfl, p, r, a, b, c, d, rfl, rfl, (f1.mono k6).mono s7, (f2.mono k6).mono s7, by rw [if_neg z]⟩, ⟨t, rfl, et⟩, fun H8 s8 => q _ (k6.trans (s7.trans s8))⟩
end

/-! ### the law -/
theorem lw_ok {u l : Int} {n : Nat} (h : 0 < l) (hu : u.natAbs < n) (hl : l.natAbs < n) : 0 < (lw u l).2 ∧ (lw u l).1.natAbs < n ∧ (lw u l).2.natAbs < n := by
  have gp := gcd_pos (u := u) h
  have gl := gcd_le (u := u) h
  have h1 : (1 : Int) ≤ l / (Int.gcd u l : Int) := Int.le_ediv_of_mul_le gp (by omega)
  have h2 : l / (Int.gcd u l : Int) ≤ l := Int.ediv_le_self _ (Int.le_of_lt h)
  have h3 : (u / (Int.gcd u l : Int)).natAbs ≤ u.natAbs := Int.natAbs_ediv_le_natAbs _ _
  refine ⟨?_, ?_, ?_⟩
  · show 0 < l / (Int.gcd u l : Int)
    omega
  · show (u / (Int.gcd u l : Int)).natAbs < n
    omega
  · show (l / (Int.gcd u l : Int)).natAbs < n
    omega
theorem nrm_ok {u l : Int} {n : Nat} (h : l ≠ 0) (hu : u.natAbs < n) (hl : l.natAbs < n) : 0 < (nrm u l).2 ∧ (nrm u l).1.natAbs < n ∧ (nrm u l).2.natAbs < n := by
  unfold nrm
  exact lw_ok (by split <;> omega) (by split <;> omega) (by split <;> omega)
theorem nrm_one {u : Int} : nrm u 1 = (u, 1) := by
  unfold nrm lw
  rw [if_neg (by decide), if_neg (by decide), Int.gcd_one_right]
  simp
def spLaw (K : PySem.W.Frag) : Sp := fun vs H Q _ => ∃ (a : Addr) (ns : List Int), vs = [.ref a] ∧ SqL K H a (ns.map V.int) ∧ ns.length ≤ 63 ∧ ∀ H', Q (.bl true) H'
theorem cut_from (xs : List V) : cutV xs (some 1) none = xs.drop 1 := by
  unfold cutV
  rw [show HT.sIx xs.length 0 (some 1) = min 1 xs.length from HT.sIx_nat xs.length 0 1, HT.sIx_none]
  cases xs with
  | nil => rfl
  | cons x r =>
    rw [show min 1 (x :: r).length = 1 by rw [List.length_cons]; omega]
    show (List.take ((x :: r).length - 1) r) = r
    rw [List.length_cons, Nat.add_sub_cancel]
    exact List.take_length
theorem cut_to (xs : List V) : cutV xs none (some 1) = xs.take 1 := by
  unfold cutV
  rw [show HT.sIx xs.length xs.length (some 1) = min 1 xs.length from HT.sIx_nat xs.length xs.length 1, HT.sIx_none]
  show List.take (min 1 xs.length - 0) (xs.drop 0) = xs.take 1
  rw [List.drop_zero, Nat.sub_zero]
  cases xs with
  | nil => rfl
  | cons x r => rw [show min 1 (x :: r).length = 1 by rw [List.length_cons]; omega]
section
variable {P : Program} {w : World} {K : PySem.W.Frag} {mg : Str → Option Value} {base : Heap}
theorem ok_law (T : Tx P K mg) {f : Addr} {fd : FuncData} (F : Fun K "law" "law" st_law f fd) : FnOk P w K mg base CX0 7 f fd ["_law_script"] (spLaw K) := by
  refine F.ok sc_law (fun vs H Q E h => ?_) (fun cdv A outer s H vs Q E hr h => ?_)
  · obtain ⟨a, ns, rfl, _⟩ := h
    rfl
  · obtain ⟨a, ns, rfl, hS, hlen63, q⟩ := h
    refine ⟨_, (pss_cons (ps_set (i := 1) sc_law.nd rfl (.inl rfl) (pe_lst pa_nil)) (pss_cons (ps_for PassesOwn.never rfl (pi_range1 (by rfl) T.m_range (pa_cons (pe_callB (call_max2 rfl) (by rfl) T.m_max (by decide +kernel) (pa_cons pe_int (pa_cons (pe_callB (call_min2 rfl) (by rfl) T.m_min (by decide +kernel) (pa_cons pe_int (pa_cons (pe_callB call_len_seq (by rfl) T.m_len PySem.boot_len (pa_cons (pv 0) pa_nil)) pa_nil))) pa_nil))) pa_nil)) (pg_name (i := 2) sc_law.nd rfl (.inl rfl)) (pss_cons (ps_set (i := 3) sc_law.nd rfl (.inl rfl) (pe_call (ok_box T) (hr.mono (by decide) : Room 1 _) (by rfl) T.g_box T.F_box.kp T.b_box .nil pass0 (pa_cons (pv 0) (pa_cons (pv 2) pa_nil)))) (pss_cons (ps_par (i := 4) (j := 5) (by rfl) sc_law.nd rfl rfl (by decide) rfl rfl (pa_cons (pe_call (ok_whole T) (hr.mono (by decide) : Room 2 _) (by rfl) T.g_whole T.F_whole.kp T.b_whole .nil pass0 (pa_cons (pv 3) pa_nil)) (pa_cons (pe_op op_mul (pe_call (ok_whole T) (hr.mono (by decide) : Room 2 _) (by rfl) T.g_whole T.F_whole.kp T.b_whole .nil pass0 (pa_cons (pv 3) pa_nil)) (pe_callTy call_int1 (by rfl) T.m_int (by decide +kernel) (pa_cons (pe_cmpR op_gt (pe_call (ok_take T) (hr.mono (by decide) : Room 1 _) (by rfl) T.g_take T.F_take.kp T.b_take .nil pass0 (pa_cons (pv 3) (pa_cons pe_int pa_nil))) pe_int (nomark _)) pa_nil))) pa_nil)) (by rfl)) (pss_cons (ps_set (i := 6) sc_law.nd rfl (.inl rfl) (pe_call (ok_madeof T) (hr.mono (by decide) : Room 3 _) (by rfl) T.g_madeof T.F_madeof.kp T.b_madeof .nil pass0 (pa_cons (pv 4) (pa_cons (pv 5) pa_nil)))) (pss_cons (ps_if (PW.pt (pw_or (pt_not (pt_val (pe_call (ok_right T) (hr.mono (by decide) : Room 5 _) (by rfl) T.g_right T.F_right.kp T.b_right .nil pass0 (pa_cons pe_int (pa_cons (pv 4) (pa_cons (pv 5) (pa_cons (pv 6) pa_nil))))))) (pw_or1 (pt_not (pt_val (pe_call (ok_alike T) (hr.mono (by decide) : Room 1 _) (by rfl) T.g_alike T.F_alike.kp T.b_alike .nil pass0 (pa_cons (pe_call (ok_fof T) (hr.mono (by decide) : Room 2 _) (by rfl) T.g_fof T.F_fof.kp T.b1_fof T.v1_fof pass0 (pa_cons (pv 4) pa_nil)) (pa_cons (pe_tup (pa_cons (pv 4) (pa_cons pe_int pa_nil))) pa_nil)))))))) (pss_one (ps_ret pe_bl)) pss_nil) (pss_one (ps_expr (pe_bm PySem.F.plainAttrs_list PySem.F.slot_list_append PySem.F.type_list_append mt_append (pv 1) (pa_cons (pe_ix ix_list (pe_lst (pa_cons (pv 6) (pa_cons (pe_call (ok_lowest T) (hr.mono (by decide) : Room 2 _) (by rfl) T.g_lowest T.F_lowest.kp T.b_lowest .nil pass0 (pa_cons (pv 4) (pa_cons (pe_op op_add pe_int (pe_callB call_abs (by rfl) T.m_abs (by decide +kernel) (pa_cons (pv 5) pa_nil))) pa_nil))) pa_nil))) (pe_callTy call_int1 (by rfl) T.m_int (by decide +kernel) (pa_cons (pe_cmpR op_isN (pv 6) pe_non (nomark _)) pa_nil)) (fun _ _ => rfl)) pa_nil))))))))) (pss_cons (ps_set (i := 1) sc_law.nd rfl (.inl rfl) (pe_op op_cat (pv 1) (pe_lst (pa_cons (pe_tup (pa_cons pe_int (pa_cons pe_int pa_nil))) (pa_cons (pe_ix ix_list (pv 1) pe_int (fun _ _ => rfl)) pa_nil))))) (pss_cons (ps_for PassesOwn.never rfl (pi_zip (by rfl) T.m_zip (pa_cons (pv 1) (pa_cons (pe_op op_cat (pe_slice sl_list (pv 1) (po_some pe_int) po_none) (pe_slice sl_list (pv 1) po_none (po_some pe_int))) pa_nil))) (pg_tup rfl (pgs_cons (pg_name (i := 7) sc_law.nd rfl (.inl rfl)) (pgs_cons (pg_name (i := 8) sc_law.nd rfl (.inl rfl)) pgs_nil))) (pss_one (ps_if (PW.pt (pw_or (pt_not (pt_val (pe_call (ok_both T) (hr.mono (by decide) : Room 6 _) (by rfl) T.g_both T.F_both.kp T.b_both .nil pass0 (pa_cons (pv 7) (pa_cons (pv 8) pa_nil))))) (pw_or (pt_not (pt_val (pe_call (ok_both T) (hr.mono (by decide) : Room 6 _) (by rfl) T.g_both T.F_both.kp T.b_both .nil pass0 (pa_cons (pv 8) (pa_cons (pv 7) pa_nil))))) (pw_or1 (pt_not (pt_val (pe_call (ok_both T) (hr.mono (by decide) : Room 6 _) (by rfl) T.g_both T.F_both.kp T.b_both .nil pass0 (pa_cons (pv 7) (pa_cons (pv 7) pa_nil))))))))) (pss_one (ps_ret pe_bl)) pss_nil))) (pss_one (ps_ret (pe_call (ok_both T) (hr.mono (by decide) : Room 6 _) (by rfl) T.g_both T.F_both.kp T.b_both .nil pass0 (pa_cons (pe_ix ix_list (pv 1) pe_int (fun _ _ => rfl)) (pa_cons (pe_ix ix_list (pv 1) pe_int (fun _ _ => rfl)) pa_nil))))))))), ?_⟩
    refine ⟨s0, fun L nL => ?_⟩
    have s1 : Same H (upd H L (.lst [])) := same_new nL
    refine ⟨.ref a, rfl, a, _, rfl, .inl (s1.seq hS), _, _, rfl, _, _, rfl, ?_⟩
    rw [List.length_map]
    obtain ⟨n, hn, hn3, hn8⟩ : ∃ n : Nat, (if (if (ns.length : Int) < 8 then (ns.length : Int) else 8) > 3 then (if (ns.length : Int) < 8 then (ns.length : Int) else 8) else 3) = (n : Int) ∧ 3 ≤ n ∧ n ≤ 8 := by
      refine ⟨max 3 (min 8 ns.length), ?_, by omega, by omega⟩
      split <;> split at * <;> omega
    rw [hn]
    refine ⟨_, rfl, by omega, by omega, for_range (lo := 0) (n := (n : Int).toNat) (fun i σ H' => ∃ (y2 y3 y4 y5 y6 : Option V) (ps : List Addr), σ = [some (.ref a), some (.ref L), y2, y3, y4, y5, y6, none, none] ∧ H' L = some (.lst (ps.map V.ref)) ∧ ps.length = i ∧ Same H H' ∧ ∀ p ∈ ps, ∃ x y, Fr H' p x y)
      ⟨none, none, none, none, none, [], rfl, upd_same, rfl, s1, fun p hp => nomatch hp⟩ (fun i σ H' hi hP => ?_) (fun σ H' hP => ?_)⟩
    · obtain ⟨y2, y3, y4, y5, y6, ps, rfl, eL, hlen, sm, hps⟩ := hP
      have hin : i < 8 := by omega
      refine ⟨.ref a, rfl, _, rfl, a, ns, _, rfl, sm.seq hS, by omega, by omega, fun b H1 nb s1 db => ?_⟩
      have nbL : b ≠ L := fun z => by rw [z, eL] at nb; cases nb
      refine ⟨_, rfl, b, rfl, db, fun u H2 hu g2 => ?_⟩
      refine ⟨_, rfl, b, rfl, g2.2, fun l0 H3 hl0 g3 => ?_⟩
      refine ⟨_, rfl, b, 5, rfl, g3.2, by decide, by decide +kernel, fun t5 H4 t50 t51 g4 => ?_⟩
      refine ⟨_, _, rfl, rfl, .inr ⟨_, rfl, _, _, rfl, rfl, .inr ⟨by split <;> decide, by split <;> decide⟩, _, _, rfl, ?_⟩⟩
      have G : ∀ c o, H' c = some o → H4 c = some o := fun c o e => by
        have ncb : c ≠ b := ne_of_none e nb
        exact g4.1 _ _ ncb (g3.1 _ _ ncb (g2.1 _ _ ncb (s1 _ _ e)))
      obtain ⟨l, hl, hlb⟩ : ∃ l : Int, l0 * (if decide (0 < t5) = true then 1 else 0) = l ∧ l.natAbs < 10 ^ 30 := by
        refine ⟨_, rfl, ?_⟩
        split
        · rw [Int.mul_one]
          exact hl0
        · rw [Int.mul_zero]
          decide
      show tSeq _ _ _ _ _
      dsimp only
      rw [hl]
      have hu2 : u.natAbs < 2 ^ 100 := Nat.lt_of_lt_of_le hu (by decide)
      have hl2 : l.natAbs < 2 ^ 100 := Nat.lt_of_lt_of_le hlb (by decide)
      have hl4 : l.natAbs < 2 ^ 400 := Nat.lt_trans hl2 (by decide +kernel)
      refine ⟨_, rfl, _, rfl, u, l, rfl, hl4, fun hl => ?_, fun hl t H5 nt s5 et => ?_⟩
      · -- over nought
        have H5e : ∃ H5, H5 = H4 := ⟨_, rfl⟩
        obtain ⟨H5, e5⟩ := H5e
        rw [← e5] at G ⊢
        have hL5 := G _ _ eL
        have sm5 : Same H H5 := fun c o e => G _ _ (sm _ _ e)
        have hps5 : ∀ p ∈ ps, ∃ x y, Fr H5 p x y := fun p hp => by
          obtain ⟨x, y, f1⟩ := hps p hp
          exact ⟨x, y, G _ _ f1.1, f1.2⟩
        refine ⟨_, rfl, _, rfl, _, rfl, 0, .int u, .int l, .non, none, rfl, .inl ⟨rfl, u, l, rfl, rfl, hl4, (if_pos hl).symm⟩, rfl, fun H6 s6 => ⟨_, rfl, iteF ?_⟩⟩
        refine ⟨_, rfl, u, 1, rfl, by decide, by decide +kernel, fun t1 H7 nt1 s7 et1 => ?_⟩
        refine ⟨_, rfl, s2, fun t2 ht2 => ?_⟩
        refine ⟨_, _, _, rfl, td2 (same_new ht2 _ _ (by rw [nrm_one] at et1; exact et1)) upd_same, by decide, fun H8 s8 => ⟨_, rfl, iteF ?_⟩⟩
        have hL8 : H8 L = some (.lst (ps.map V.ref)) := s8 _ _ (same_new ht2 _ _ (s7 _ _ (s6 _ _ hL5)))
        refine ⟨.ref L, rfl, .inl ⟨rfl, _, SqL.of hL8⟩, .non, rfl, _, rfl, _, rfl, _, rfl, _, _, rfl, rfl, ?_⟩
        refine ⟨u, 1 + (if l < 0 then -l else l), rfl, by split <;> omega, Nat.lt_trans (show (1 + (if l < 0 then -l else l)).natAbs < 2 ^ 100 by split <;> omega) (by decide +kernel), fun t3 H9 nt3 s9 et3 => ?_⟩
        have l1 := lw_ok (u := u) (l := 1 + (if l < 0 then -l else l)) (by split <;> omega) hu2 (by split <;> omega)
        refine ⟨s2, fun p4 hp4 => ?_⟩
        have hL9 := same_new (o := .lst [.non, .ref t3]) hp4 _ _ (s9 _ _ hL8)
        have ne3 : t3 ≠ L := ne_of (same_new (o := .lst [.non, .ref t3]) hp4 _ _ et3) hL9 (by intro z; cases z)
        refine ⟨_, rfl, rfl, .inr ⟨_, rfl, p4, _, _, .ref t3, rfl, rfl, SqL.of upd_same, (by show atI [V.non, .ref t3] 1 = some (.ref t3); rfl), L, _, _, rfl, rfl, hL9, ?_, ?_⟩⟩
        · rw [List.length_map]
          exact Nat.lt_of_lt_of_le (show ps.length < 1000 by omega) (by decide)
        · have hall : Same H5 (upd H9 p4 (.lst [.non, .ref t3])) := s6.trans (s7.trans ((same_new ht2).trans (s8.trans (s9.trans (same_new hp4)))))
          have hfin : ∀ b o, b ≠ L → (upd H9 p4 (.lst [.non, .ref t3])) b = some o → (upd (upd H9 p4 (.lst [.non, .ref t3])) L (.lst (ps.map V.ref ++ [.ref t3]))) b = some o := fun b o nb e => by
            rw [upd_ne nb]
            exact e
          refine ⟨_, _, _, _, _, ps ++ [t3], rfl, ?_, by rw [List.length_append, hlen]; rfl, ?_, ?_⟩
          · rw [upd_same, List.map_append]
            rfl
          · exact fun b o e => hfin b o (ne_of_none e nL) (hall _ _ (sm5 _ _ e))
          · intro p hp
            rcases List.mem_append.mp hp with hp | hp
            · obtain ⟨x1, y1, f1⟩ := hps5 p hp
              have npL : p ≠ L := ne_of f1.1 hL5 (by intro z; cases z)
              exact ⟨x1, y1, hfin _ _ npL (hall _ _ f1.1), f1.2⟩
            · rw [List.mem_singleton.mp hp]
              exact ⟨_, _, hfin _ _ ne3 (same_new hp4 _ _ et3), l1.1, l1.2.1, l1.2.2⟩
      · have hL5 := s5 _ _ (G _ _ eL)
        have sm5 : Same H H5 := fun c o e => s5 _ _ (G _ _ (sm _ _ e))
        have hps5 : ∀ p ∈ ps, ∃ x y, Fr H5 p x y := fun p hp => by
          obtain ⟨x, y, f1⟩ := hps p hp
          exact ⟨x, y, s5 _ _ (G _ _ f1.1), f1.2⟩
        have n1 := nrm_ok (u := u) hl hu2 hl2
        have net : t ≠ L := ne_of et hL5 (by intro z; cases z)
        refine ⟨_, rfl, _, rfl, _, rfl, 0, .int u, .int l, .ref t, some (nrm u l), rfl, .inl ⟨rfl, u, l, rfl, rfl, hl4, (if_neg hl).symm⟩, ⟨t, rfl, et⟩, fun H6 s6 => ⟨_, rfl, iteF ?_⟩⟩
        refine ⟨_, rfl, u, 1, rfl, by decide, by decide +kernel, fun t1 H7 nt1 s7 et1 => ?_⟩
        refine ⟨_, rfl, s2, fun t2 ht2 => ?_⟩
        refine ⟨_, _, _, rfl, td2 (same_new ht2 _ _ (by rw [nrm_one] at et1; exact et1)) upd_same, by decide, fun H8 s8 => ⟨_, rfl, iteF ?_⟩⟩
        have hL8 : H8 L = some (.lst (ps.map V.ref)) := s8 _ _ (same_new ht2 _ _ (s7 _ _ (s6 _ _ hL5)))
        refine ⟨.ref L, rfl, .inl ⟨rfl, _, SqL.of hL8⟩, .ref t, rfl, _, rfl, _, rfl, _, rfl, _, _, rfl, rfl, ?_⟩
        refine ⟨u, 1 + (if l < 0 then -l else l), rfl, by split <;> omega, Nat.lt_trans (show (1 + (if l < 0 then -l else l)).natAbs < 2 ^ 100 by split <;> omega) (by decide +kernel), fun t3 H9 nt3 s9 et3 => ?_⟩
        have l1 := lw_ok (u := u) (l := 1 + (if l < 0 then -l else l)) (by split <;> omega) hu2 (by split <;> omega)
        refine ⟨s2, fun p4 hp4 => ?_⟩
        have hL9 := same_new (o := .lst [.ref t, .ref t3]) hp4 _ _ (s9 _ _ hL8)
        have ne3 : t3 ≠ L := ne_of (same_new (o := .lst [.ref t, .ref t3]) hp4 _ _ et3) hL9 (by intro z; cases z)
        refine ⟨_, rfl, rfl, .inr ⟨_, rfl, p4, _, _, .ref t, rfl, rfl, SqL.of upd_same, (by show atI [V.ref t, .ref t3] 0 = some (.ref t); rfl), L, _, _, rfl, rfl, hL9, ?_, ?_⟩⟩
        · rw [List.length_map]
          exact Nat.lt_of_lt_of_le (show ps.length < 1000 by omega) (by decide)
        · have hall : Same H5 (upd H9 p4 (.lst [.ref t, .ref t3])) := s6.trans (s7.trans ((same_new ht2).trans (s8.trans (s9.trans (same_new hp4)))))
          have hfin : ∀ b o, b ≠ L → (upd H9 p4 (.lst [.ref t, .ref t3])) b = some o → (upd (upd H9 p4 (.lst [.ref t, .ref t3])) L (.lst (ps.map V.ref ++ [.ref t]))) b = some o := fun b o nb e => by
            rw [upd_ne nb]
            exact e
          refine ⟨_, _, _, _, _, ps ++ [t], rfl, ?_, by rw [List.length_append, hlen]; rfl, ?_, ?_⟩
          · rw [upd_same, List.map_append]
            rfl
          · exact fun b o e => hfin b o (ne_of_none e nL) (hall _ _ (sm5 _ _ e))
          · intro p hp
            rcases List.mem_append.mp hp with hp | hp
            · obtain ⟨x1, y1, f1⟩ := hps5 p hp
              have npL : p ≠ L := ne_of f1.1 hL5 (by intro z; cases z)
              exact ⟨x1, y1, hfin _ _ npL (hall _ _ f1.1), f1.2⟩
            · rw [List.mem_singleton.mp hp]
              exact ⟨_, _, hfin _ _ net (same_new hp4 _ _ (s9 _ _ (s8 _ _ (same_new ht2 _ _ (s7 _ _ (s6 _ _ et)))))), n1.1, n1.2.1, n1.2.2⟩
    · obtain ⟨y2, y3, y4, y5, y6, ps, rfl, eL, hlen, sm, hps⟩ := hP
      obtain ⟨p0, pr, rfl⟩ : ∃ p0 pr, ps = p0 :: pr := by
        cases ps with
        | nil =>
          rw [List.length_nil] at hlen
          omega
        | cons p0 pr => exact ⟨p0, pr, rfl⟩
      -- some = some + [(0, 1), some[0]]
      refine ⟨.ref L, rfl, s2, fun z hz => ?_⟩
      have eL1 := same_new (o := .tup [.int 0, .int 1]) hz _ _ eL
      refine ⟨.ref L, rfl, L, _, 0, .ref p0, rfl, rfl, SqL.of eL1, atI_nat (j := 0) rfl, s2, fun m hm => ?_⟩
      have eL2 := same_new (o := .lst [.ref z, .ref p0]) hm _ _ eL1
      refine ⟨L, m, _, _, rfl, rfl, eL2, upd_same, ?_, fun M hM => ?_⟩
      · rw [List.length_map]
        exact Nat.le_trans (show (p0 :: pr).length + 2 ≤ 1000 by omega) (by decide)
      generalize hHM : upd (upd (upd H' z (.tup [.int 0, .int 1])) m (.lst [.ref z, .ref p0])) M (.lst ((p0 :: pr).map V.ref ++ [.ref z, .ref p0])) = HM
      have sM : Same H' HM := by
        rw [← hHM]
        exact (same_new hz).trans ((same_new hm).trans (same_new hM))
      have eM : HM M = some (.lst (((p0 :: pr) ++ [z, p0]).map V.ref)) := by
        rw [← hHM, List.map_append]
        exact upd_same
      have ez : HM z = some (.tup [.int 0, .int 1]) := by
        rw [← hHM]
        exact same_new hM _ _ (same_new hm _ _ upd_same)
      have hall : ∀ p ∈ (p0 :: pr) ++ [z, p0], ∃ x y, Fr HM p x y := fun p hp => by
        rcases List.mem_append.mp hp with hp | hp
        · obtain ⟨x, y, f1⟩ := hps p hp
          exact ⟨x, y, f1.mono sM⟩
        · rcases List.mem_cons.mp hp with rfl | hp
          · exact ⟨0, 1, ez, by decide, by decide, by decide⟩
          · rw [List.mem_singleton.mp hp]
            obtain ⟨x, y, f1⟩ := hps p0 List.mem_cons_self
            exact ⟨x, y, f1.mono sM⟩
      obtain ⟨qs, hqs⟩ : ∃ qs, (p0 :: pr) ++ [z, p0] = qs := ⟨_, rfl⟩
      have q0 : ∃ p1 r1, qs = p0 :: p1 :: r1 := by
        rw [← hqs]
        cases pr with
        | nil => exact ⟨_, _, rfl⟩
        | cons p1 r1 => exact ⟨_, _, rfl⟩
      have hql : qs.length ≤ 100 := by
        rw [← hqs, List.length_append, hlen]
        show (n : Int).toNat + 2 ≤ 100
        omega
      rw [hqs] at eM hall
      -- the loop over neighbours
      refine ⟨.ref M, rfl, .ref M, rfl, 1, rfl, M, _, rfl, SqL.of eM, fun c1 n1 => ?_⟩
      have eM1 := same_new (o := .lst (cutV (qs.map V.ref) (some 1) none)) n1 _ _ eM
      refine ⟨.ref M, rfl, 1, rfl, M, _, rfl, SqL.of eM1, fun c2 n2 => ?_⟩
      have hcl : ((cutV (qs.map V.ref) (some 1) none).length + (cutV (qs.map V.ref) none (some 1)).length) ≤ sizeLine := by
        have a1 := cutV_length (qs.map V.ref) (some 1) none
        have a2 := cutV_length (qs.map V.ref) none (some 1)
        rw [List.length_map] at a1 a2
        exact Nat.le_trans (show _ ≤ 1000 by omega) (by decide)
      refine ⟨c1, c2, _, _, rfl, rfl, same_new n2 _ _ upd_same, upd_same, hcl, fun c3 n3 => ?_⟩
      generalize hHC : upd (upd (upd HM c1 (.lst (cutV (qs.map V.ref) (some 1) none))) c2 (.lst (cutV (qs.map V.ref) none (some 1)))) c3 (.lst (cutV (qs.map V.ref) (some 1) none ++ cutV (qs.map V.ref) none (some 1))) = HC
      have sC : Same HM HC := by
        rw [← hHC]
        exact (same_new n1).trans ((same_new n2).trans (same_new n3))
      have eC : HC c3 = some (.lst ((qs.map V.ref).drop 1 ++ (qs.map V.ref).take 1)) := by
        rw [← hHC, cut_from, cut_to]
        exact upd_same
      have eMC := sC _ _ eM
      refine ⟨M, c3, _, _, rfl, SqL.of eMC, SqL.of eC, RZ.for_zipL (xs := qs.map V.ref) (ys := (qs.map V.ref).drop 1 ++ (qs.map V.ref).take 1) ?_ (fun i σ Hi => ∃ (y7 y8 : Option V), σ = [some (.ref a), some (.ref M), y2, y3, y4, y5, y6, y7, y8] ∧ Same HC Hi) ⟨none, none, rfl, Same.refl _⟩ (fun i σ Hi hP => ?_) (fun i x y TT σ Hi hx hy hP hT => ?_) (fun σ Hi hP => ?_)⟩
      · rw [List.length_append, List.length_drop, List.length_take, List.length_map]
        omega
      · obtain ⟨y7, y8, _, sI⟩ := hP
        exact ⟨SqL.of (sI _ _ eMC), SqL.of (sI _ _ eC)⟩
      · obtain ⟨y7, y8, rfl, sI⟩ := hP
        have mx : x ∈ qs.map V.ref := List.mem_of_getElem? hx
        have my : y ∈ qs.map V.ref := by
          rcases List.mem_append.mp (List.mem_of_getElem? hy) with h | h
          · exact List.mem_of_mem_drop h
          · exact List.mem_of_mem_take h
        obtain ⟨px, hpx, rfl⟩ := List.mem_map.mp mx
        obtain ⟨py, hpy, rfl⟩ := List.mem_map.mp my
        obtain ⟨x1, x2, fx⟩ := hall px hpx
        obtain ⟨z1, z2, fy⟩ := hall py hpy
        have sT : Same HM (upd Hi TT (.tup [.ref px, .ref py])) := sC.trans (sI.trans (same_new hT))
        refine ⟨TT, _, rfl, .inl (.inl upd_same), rfl, _, _, rfl, _, _, rfl, rfl, ?_⟩
        refine ⟨_, rfl, _, rfl, px, py, _, _, _, _, rfl, fx.mono sT, fy.mono sT, fun H1 s1 => ⟨_, rfl, iteF ?_⟩⟩
        refine ⟨_, rfl, _, rfl, py, px, _, _, _, _, rfl, (fy.mono sT).mono s1, (fx.mono sT).mono s1, fun H2 s2 => ⟨_, rfl, iteF ?_⟩⟩
        refine ⟨_, rfl, _, rfl, px, px, _, _, _, _, rfl, ((fx.mono sT).mono s1).mono s2, ((fx.mono sT).mono s1).mono s2, fun H3 s3 => ⟨_, rfl, iteF ?_⟩⟩
        exact ⟨_, _, rfl, sI.trans ((same_new hT).trans (s1.trans (s2.trans s3)))⟩
      · obtain ⟨y7, y8, rfl, sI⟩ := hP
        obtain ⟨p1, r1, rfl⟩ := q0
        obtain ⟨x1, x2, fx⟩ := hall p0 List.mem_cons_self
        obtain ⟨z1, z2, fy⟩ := hall p1 (List.mem_cons_of_mem _ List.mem_cons_self)
        have sT : Same HM Hi := sC.trans sI
        refine ⟨.ref M, rfl, M, _, 0, .ref p0, rfl, rfl, SqL.of (sT _ _ eM), atI_nat (j := 0) rfl, .ref M, rfl, M, _, 1, .ref p1, rfl, rfl, SqL.of (sT _ _ eM), atI_nat (j := 1) rfl, p0, p1, _, _, _, _, rfl, fx.mono sT, fy.mono sT, fun H1 s1 => q _⟩
end

theorem all_mk {l : PySem.W.OpenLaw} {w : World} {K : PySem.W.Frag} {h : Heap} {mg : Str → Option Value} {fa : Addr} (X : K.In h) (G : h.Ns mainGlobals mg) (hfa : mg "law" = some (.ref fa))
    {f_fof : Addr} {dt_fof : Addr} {od_fof an_fof : Option Addr} {sl_fof : Array (Option Value)} {oc_fof kV_fof dc_fof pm_fof cd_fof ct_fof : Value}
    (a_fof : PySem.W.nsIn K mainGlobals "fraction_of" = some (some (.ref f_fof))) (l_fof : K.lookup f_fof = some ⟨oc_fof, od_fof, .func (PySem.W.fnOf "fraction_of" "fraction_of" (defArgs st_fof) (defBody st_fof) (defScope st_fof) (.ref dt_fof) kV_fof dc_fof pm_fof an_fof cd_fof ct_fof), sl_fof⟩) (c_fof : PySem.W.codeIn K cd_fof "fraction_of" = true) (k_fof : PySem.W.keepIn K (.ref f_fof) = true)
    {t_fof : Tok} {o_fof : Obj} {n_fof : Nat} (dl_fof : K.lookup dt_fof = some o_fof) (dd_fof : o_fof.data = .seq ([Value.int 1 t_fof] : List Value).toArray n_fof)
    {f_cdiv : Addr} {od_cdiv an_cdiv : Option Addr} {sl_cdiv : Array (Option Value)} {oc_cdiv kV_cdiv dc_cdiv pm_cdiv cd_cdiv ct_cdiv : Value}
    (a_cdiv : PySem.W.nsIn K mainGlobals "common_divisor" = some (some (.ref f_cdiv))) (l_cdiv : K.lookup f_cdiv = some ⟨oc_cdiv, od_cdiv, .func (PySem.W.fnOf "common_divisor" "common_divisor" (defArgs st_cdiv) (defBody st_cdiv) (defScope st_cdiv) .none kV_cdiv dc_cdiv pm_cdiv an_cdiv cd_cdiv ct_cdiv), sl_cdiv⟩) (c_cdiv : PySem.W.codeIn K cd_cdiv "common_divisor" = true) (k_cdiv : PySem.W.keepIn K (.ref f_cdiv) = true)
    {f_added : Addr} {od_added an_added : Option Addr} {sl_added : Array (Option Value)} {oc_added kV_added dc_added pm_added cd_added ct_added : Value}
    (a_added : PySem.W.nsIn K mainGlobals "added" = some (some (.ref f_added))) (l_added : K.lookup f_added = some ⟨oc_added, od_added, .func (PySem.W.fnOf "added" "added" (defArgs st_added) (defBody st_added) (defScope st_added) .none kV_added dc_added pm_added an_added cd_added ct_added), sl_added⟩) (c_added : PySem.W.codeIn K cd_added "added" = true) (k_added : PySem.W.keepIn K (.ref f_added) = true)
    {f_taken : Addr} {od_taken an_taken : Option Addr} {sl_taken : Array (Option Value)} {oc_taken kV_taken dc_taken pm_taken cd_taken ct_taken : Value}
    (a_taken : PySem.W.nsIn K mainGlobals "taken_away" = some (some (.ref f_taken))) (l_taken : K.lookup f_taken = some ⟨oc_taken, od_taken, .func (PySem.W.fnOf "taken_away" "taken_away" (defArgs st_taken) (defBody st_taken) (defScope st_taken) .none kV_taken dc_taken pm_taken an_taken cd_taken ct_taken), sl_taken⟩) (c_taken : PySem.W.codeIn K cd_taken "taken_away" = true) (k_taken : PySem.W.keepIn K (.ref f_taken) = true)
    {f_multiplied : Addr} {od_multiplied an_multiplied : Option Addr} {sl_multiplied : Array (Option Value)} {oc_multiplied kV_multiplied dc_multiplied pm_multiplied cd_multiplied ct_multiplied : Value}
    (a_multiplied : PySem.W.nsIn K mainGlobals "multiplied" = some (some (.ref f_multiplied))) (l_multiplied : K.lookup f_multiplied = some ⟨oc_multiplied, od_multiplied, .func (PySem.W.fnOf "multiplied" "multiplied" (defArgs st_multiplied) (defBody st_multiplied) (defScope st_multiplied) .none kV_multiplied dc_multiplied pm_multiplied an_multiplied cd_multiplied ct_multiplied), sl_multiplied⟩) (c_multiplied : PySem.W.codeIn K cd_multiplied "multiplied" = true) (k_multiplied : PySem.W.keepIn K (.ref f_multiplied) = true)
    {f_divided : Addr} {od_divided an_divided : Option Addr} {sl_divided : Array (Option Value)} {oc_divided kV_divided dc_divided pm_divided cd_divided ct_divided : Value}
    (a_divided : PySem.W.nsIn K mainGlobals "divided" = some (some (.ref f_divided))) (l_divided : K.lookup f_divided = some ⟨oc_divided, od_divided, .func (PySem.W.fnOf "divided" "divided" (defArgs st_divided) (defBody st_divided) (defScope st_divided) .none kV_divided dc_divided pm_divided an_divided cd_divided ct_divided), sl_divided⟩) (c_divided : PySem.W.codeIn K cd_divided "divided" = true) (k_divided : PySem.W.keepIn K (.ref f_divided) = true)
    {f_is_less : Addr} {od_is_less an_is_less : Option Addr} {sl_is_less : Array (Option Value)} {oc_is_less kV_is_less dc_is_less pm_is_less cd_is_less ct_is_less : Value}
    (a_is_less : PySem.W.nsIn K mainGlobals "is_less" = some (some (.ref f_is_less))) (l_is_less : K.lookup f_is_less = some ⟨oc_is_less, od_is_less, .func (PySem.W.fnOf "is_less" "is_less" (defArgs st_is_less) (defBody st_is_less) (defScope st_is_less) .none kV_is_less dc_is_less pm_is_less an_is_less cd_is_less ct_is_less), sl_is_less⟩) (c_is_less : PySem.W.codeIn K cd_is_less "is_less" = true) (k_is_less : PySem.W.keepIn K (.ref f_is_less) = true)
    {f_box : Addr} {od_box an_box : Option Addr} {sl_box : Array (Option Value)} {oc_box kV_box dc_box pm_box cd_box ct_box : Value}
    (a_box : PySem.W.nsIn K mainGlobals "_law_box" = some (some (.ref f_box))) (l_box : K.lookup f_box = some ⟨oc_box, od_box, .func (PySem.W.fnOf "_law_box" "_law_box" (defArgs st_box) (defBody st_box) (defScope st_box) .none kV_box dc_box pm_box an_box cd_box ct_box), sl_box⟩) (c_box : PySem.W.codeIn K cd_box "_law_box" = true) (k_box : PySem.W.keepIn K (.ref f_box) = true)
    {f_take : Addr} {od_take an_take : Option Addr} {sl_take : Array (Option Value)} {oc_take kV_take dc_take pm_take cd_take ct_take : Value}
    (a_take : PySem.W.nsIn K mainGlobals "_law_take" = some (some (.ref f_take))) (l_take : K.lookup f_take = some ⟨oc_take, od_take, .func (PySem.W.fnOf "_law_take" "_law_take" (defArgs st_take) (defBody st_take) (defScope st_take) .none kV_take dc_take pm_take an_take cd_take ct_take), sl_take⟩) (c_take : PySem.W.codeIn K cd_take "_law_take" = true) (k_take : PySem.W.keepIn K (.ref f_take) = true)
    {f_alike : Addr} {od_alike an_alike : Option Addr} {sl_alike : Array (Option Value)} {oc_alike kV_alike dc_alike pm_alike cd_alike ct_alike : Value}
    (a_alike : PySem.W.nsIn K mainGlobals "_law_alike" = some (some (.ref f_alike))) (l_alike : K.lookup f_alike = some ⟨oc_alike, od_alike, .func (PySem.W.fnOf "_law_alike" "_law_alike" (defArgs st_alike) (defBody st_alike) (defScope st_alike) .none kV_alike dc_alike pm_alike an_alike cd_alike ct_alike), sl_alike⟩) (c_alike : PySem.W.codeIn K cd_alike "_law_alike" = true) (k_alike : PySem.W.keepIn K (.ref f_alike) = true)
    {f_shared : Addr} {od_shared an_shared : Option Addr} {sl_shared : Array (Option Value)} {oc_shared kV_shared dc_shared pm_shared cd_shared ct_shared : Value}
    (a_shared : PySem.W.nsIn K mainGlobals "_law_shared" = some (some (.ref f_shared))) (l_shared : K.lookup f_shared = some ⟨oc_shared, od_shared, .func (PySem.W.fnOf "_law_shared" "_law_shared" (defArgs st_shared) (defBody st_shared) (defScope st_shared) .none kV_shared dc_shared pm_shared an_shared cd_shared ct_shared), sl_shared⟩) (c_shared : PySem.W.codeIn K cd_shared "_law_shared" = true) (k_shared : PySem.W.keepIn K (.ref f_shared) = true)
    {f_lowest : Addr} {od_lowest an_lowest : Option Addr} {sl_lowest : Array (Option Value)} {oc_lowest kV_lowest dc_lowest pm_lowest cd_lowest ct_lowest : Value}
    (a_lowest : PySem.W.nsIn K mainGlobals "_law_lowest" = some (some (.ref f_lowest))) (l_lowest : K.lookup f_lowest = some ⟨oc_lowest, od_lowest, .func (PySem.W.fnOf "_law_lowest" "_law_lowest" (defArgs st_lowest) (defBody st_lowest) (defScope st_lowest) .none kV_lowest dc_lowest pm_lowest an_lowest cd_lowest ct_lowest), sl_lowest⟩) (c_lowest : PySem.W.codeIn K cd_lowest "_law_lowest" = true) (k_lowest : PySem.W.keepIn K (.ref f_lowest) = true)
    {f_whole : Addr} {od_whole an_whole : Option Addr} {sl_whole : Array (Option Value)} {oc_whole kV_whole dc_whole pm_whole cd_whole ct_whole : Value}
    (a_whole : PySem.W.nsIn K mainGlobals "_law_whole" = some (some (.ref f_whole))) (l_whole : K.lookup f_whole = some ⟨oc_whole, od_whole, .func (PySem.W.fnOf "_law_whole" "_law_whole" (defArgs st_whole) (defBody st_whole) (defScope st_whole) .none kV_whole dc_whole pm_whole an_whole cd_whole ct_whole), sl_whole⟩) (c_whole : PySem.W.codeIn K cd_whole "_law_whole" = true) (k_whole : PySem.W.keepIn K (.ref f_whole) = true)
    {f_madeof : Addr} {od_madeof an_madeof : Option Addr} {sl_madeof : Array (Option Value)} {oc_madeof kV_madeof dc_madeof pm_madeof cd_madeof ct_madeof : Value}
    (a_madeof : PySem.W.nsIn K mainGlobals "_law_made_of" = some (some (.ref f_madeof))) (l_madeof : K.lookup f_madeof = some ⟨oc_madeof, od_madeof, .func (PySem.W.fnOf "_law_made_of" "_law_made_of" (defArgs st_madeof) (defBody st_madeof) (defScope st_madeof) .none kV_madeof dc_madeof pm_madeof an_madeof cd_madeof ct_madeof), sl_madeof⟩) (c_madeof : PySem.W.codeIn K cd_madeof "_law_made_of" = true) (k_madeof : PySem.W.keepIn K (.ref f_madeof) = true)
    {f_heard : Addr} {od_heard an_heard : Option Addr} {sl_heard : Array (Option Value)} {oc_heard kV_heard dc_heard pm_heard cd_heard ct_heard : Value}
    (a_heard : PySem.W.nsIn K mainGlobals "_law_heard" = some (some (.ref f_heard))) (l_heard : K.lookup f_heard = some ⟨oc_heard, od_heard, .func (PySem.W.fnOf "_law_heard" "_law_heard" (defArgs st_heard) (defBody st_heard) (defScope st_heard) .none kV_heard dc_heard pm_heard an_heard cd_heard ct_heard), sl_heard⟩) (c_heard : PySem.W.codeIn K cd_heard "_law_heard" = true) (k_heard : PySem.W.keepIn K (.ref f_heard) = true)
    {f_right : Addr} {od_right an_right : Option Addr} {sl_right : Array (Option Value)} {oc_right kV_right dc_right pm_right cd_right ct_right : Value}
    (a_right : PySem.W.nsIn K mainGlobals "_law_right" = some (some (.ref f_right))) (l_right : K.lookup f_right = some ⟨oc_right, od_right, .func (PySem.W.fnOf "_law_right" "_law_right" (defArgs st_right) (defBody st_right) (defScope st_right) .none kV_right dc_right pm_right an_right cd_right ct_right), sl_right⟩) (c_right : PySem.W.codeIn K cd_right "_law_right" = true) (k_right : PySem.W.keepIn K (.ref f_right) = true)
    {f_both : Addr} {od_both an_both : Option Addr} {sl_both : Array (Option Value)} {oc_both kV_both dc_both pm_both cd_both ct_both : Value}
    (a_both : PySem.W.nsIn K mainGlobals "_law_both" = some (some (.ref f_both))) (l_both : K.lookup f_both = some ⟨oc_both, od_both, .func (PySem.W.fnOf "_law_both" "_law_both" (defArgs st_both) (defBody st_both) (defScope st_both) .none kV_both dc_both pm_both an_both cd_both ct_both), sl_both⟩) (c_both : PySem.W.codeIn K cd_both "_law_both" = true) (k_both : PySem.W.keepIn K (.ref f_both) = true)
    {f_law : Addr} {od_law an_law : Option Addr} {sl_law : Array (Option Value)} {oc_law kV_law dc_law pm_law cd_law ct_law : Value}
    (a_law : PySem.W.nsIn K mainGlobals "law" = some (some (.ref f_law))) (l_law : K.lookup f_law = some ⟨oc_law, od_law, .func (PySem.W.fnOf "law" "law" (defArgs st_law) (defBody st_law) (defScope st_law) .none kV_law dc_law pm_law an_law cd_law ct_law), sl_law⟩) (c_law : PySem.W.codeIn K cd_law "law" = true) (k_law : PySem.W.keepIn K (.ref f_law) = true)
    (z_len : PySem.W.nsIn K mainGlobals "len" = some none)
    (z_int : PySem.W.nsIn K mainGlobals "int" = some none)
    (z_bool : PySem.W.nsIn K mainGlobals "bool" = some none)
    (z_list : PySem.W.nsIn K mainGlobals "list" = some none)
    (z_tuple : PySem.W.nsIn K mainGlobals "tuple" = some none)
    (z_zip : PySem.W.nsIn K mainGlobals "zip" = some none)
    (z_isinstance : PySem.W.nsIn K mainGlobals "isinstance" = some none)
    (z_abs : PySem.W.nsIn K mainGlobals "abs" = some none)
    (z_max : PySem.W.nsIn K mainGlobals "max" = some none)
    (z_min : PySem.W.nsIn K mainGlobals "min" = some none)
    (z_range : PySem.W.nsIn K mainGlobals "range" = some none)
    (z_ZeroDivisionError : PySem.W.nsIn K mainGlobals "ZeroDivisionError" = some none)
    (z_super : PySem.W.nsIn K mainGlobals "super" = some none)
    {C fI cc cda CB : Addr} {nmX qX : Str} {N : Addr} {bs : List Value} {sn : List Str} {sub : List Value} {ab : Bool} {col : Option Bool} {dd : Option Addr} {m0 m1 m2 m3 m5 : Option Value}
    (aC : PySem.W.nsIn K mainGlobals "Nought" = some (some (.ref C))) (aB : PySem.W.nsIn K mainGlobals "BoughError" = some (some (.ref CB)))
    (xL : K.lookup C = some (excClassObj nmX qX C N bs [.type "ZeroDivisionError", .type "ArithmeticError", .type "Exception", .type "BaseException", .type "object"] true sn sub ab col dd m0 m1 m2 m3 m5 "ZeroDivisionError.__new__"))
    (iC : PySem.W.findIn K (.ref C) "__init__" = some (some (.ref fI))) (tI : PySem.W.typeIn K (.ref fI) = some (.type "function"))
    {ocI kVI dcI pmI ctI : Value} {odI anI : Option Addr} {slI : Array (Option Value)} (lI : K.lookup fI = some ⟨ocI, odI, .func (PySem.W.ksFn "__init__" "Nought.__init__" (defArgs st_nought) (defBody st_nought) (defScope st_nought) .none kVI dcI pmI anI (.ref cda) ctI cc), slI⟩) (cI : PySem.W.codeIn K (.ref cda) "Nought.__init__" = true)
    {cclX : Value} {cddX : Option Addr} {vsX : Array Value} {ccsX : Array (Option Value)} (lcd : K.lookup cda = some ⟨cclX, cddX, .fields vsX, ccsX⟩) {fileX : Str} {tfX : Tok} (vs2 : vsX[2]? = some (.str fileX tfX)) (fileE : ((l.prog.main.file : Str) == fileX) = true)
    {clX : Value} {cldX : Option Addr} {cslX : Array (Option Value)} (lcc : K.lookup cc = some ⟨clX, cldX, .cell (some (.ref C)), cslX⟩)
    (supC : PySem.W.ks_superIn K C C "__init__" = some (some (.builtin "ZeroDivisionError.__init__"))) (opq : PySem.W.nsIn K cStatics "thirdparty.any" = some none) (topN : (l.prog.main.scope.names.lookup ("super" : Str)).isSome = false)
    (subB : PySem.W.subIn K (.ref C) (.type "ZeroDivisionError") = some true) (subC : PySem.W.mroIn K C (.ref C) = some true) (kC : PySem.W.keepIn K (.ref C) = true) (exC : PySem.W.subIn K (.ref C) (.type "BaseException") = some true) (tyC : PySem.W.typeIn K (.ref C) = some (.type "type"))
    (gaC : PySem.W.findIn K (.ref C) "__getattribute__" = some (some (.builtin "BaseException.__getattribute__"))) (ggC : PySem.W.findIn K (.ref C) "__getattr__" = some none) (hdC : PySem.W.hasDictIn K C = true) (clC : PySem.W.findIn K (.ref C) "__class__" = some (some (.builtin "object.__class__")))
    (snC : PySem.W.specialIn K (.builtin "object.__class__") "__get__" = some (some (.builtin "getset_descriptor.__get__"))) (tkC : PySem.W.takesIn K (.builtin "object.__class__") = some true) (mrC : PySem.W.mroIn K C (.type "object") = some true) (sCC : PySem.W.subIn K (.ref C) (.ref C) = some true)
    (kZ : PySem.W.kitOne K (.ref C) (.type "ZeroDivisionError") = some true) (kB : PySem.W.kitOne K (.ref C) (.ref CB) = some false)
    : ∃ fd : FuncData, (∀ (s : Shared) (v : Value), BindsTo s fd ⟨[v], []⟩ [("_law_script", v)]) ∧ ∀ base : Heap, K.In base → base.Ns mainGlobals mg → FnOk l.prog w K mg base CX0 7 fa fd ["_law_script"] (spLaw K) := by
  have e := hfa.symm.trans (PySem.W.mg_of X G a_law)
  cases e
  have F_fof : FunD K "fraction_of" "fraction_of" (defArgs st_fof) (defBody st_fof) (defScope st_fof) [V.int 1] [] f_fof _ := ⟨⟨_, _, _, _, _, _, _, _, _, _, rfl, l_fof, c_fof, .inr ⟨by simp, dt_fof, o_fof, _, n_fof, rfl, dl_fof, dd_fof, .cons ⟨_, rfl⟩ .nil⟩, .inl rfl⟩, k_fof⟩
  obtain ⟨ds0_fof, v0_fof, b_fof⟩ := F_fof.binds1 (ps := ["upper", "lower"]) 2 1 (by simp) rfl (fun _ _ _ _ _ _ _ us its h1 h2 => match us, its, h1, h2 with | [_, _], [_], _, _ => ⟨_, rfl, rfl⟩)
  cases v0_fof
  obtain ⟨d1_fof, v1_fof, b1_fof⟩ := F_fof.binds1 (ps := ["upper", "lower"]) 1 0 (by simp) rfl (fun _ _ _ _ _ _ _ us its h1 h2 => match us, its, h1, h2 with | [_], [_], _, _ => ⟨_, rfl, rfl⟩)
  have F_cdiv := fun_mk (st := st_cdiv) l_cdiv c_cdiv k_cdiv
  have b_cdiv := F_cdiv.binds (ps := ["one", "other"]) fun _ _ _ _ _ _ us hl => match us, hl with | [_, _], _ => rfl
  have F_added := fun_mk (st := st_added) l_added c_added k_added
  have b_added := F_added.binds (ps := ["one", "other"]) fun _ _ _ _ _ _ us hl => match us, hl with | [_, _], _ => rfl
  have F_taken := fun_mk (st := st_taken) l_taken c_taken k_taken
  have b_taken := F_taken.binds (ps := ["one", "other"]) fun _ _ _ _ _ _ us hl => match us, hl with | [_, _], _ => rfl
  have F_multiplied := fun_mk (st := st_multiplied) l_multiplied c_multiplied k_multiplied
  have b_multiplied := F_multiplied.binds (ps := ["one", "other"]) fun _ _ _ _ _ _ us hl => match us, hl with | [_, _], _ => rfl
  have F_divided := fun_mk (st := st_divided) l_divided c_divided k_divided
  have b_divided := F_divided.binds (ps := ["one", "other"]) fun _ _ _ _ _ _ us hl => match us, hl with | [_, _], _ => rfl
  have F_is_less := fun_mk (st := st_is_less) l_is_less c_is_less k_is_less
  have b_is_less := F_is_less.binds (ps := ["one", "other"]) fun _ _ _ _ _ _ us hl => match us, hl with | [_, _], _ => rfl
  have F_box := fun_mk (st := st_box) l_box c_box k_box
  have b_box := F_box.binds (ps := ["_law_script", "_law_k"]) fun _ _ _ _ _ _ us hl => match us, hl with | [_, _], _ => rfl
  have F_take := fun_mk (st := st_take) l_take c_take k_take
  have b_take := F_take.binds (ps := ["_law_box_here", "_law_many"]) fun _ _ _ _ _ _ us hl => match us, hl with | [_, _], _ => rfl
  have F_alike := fun_mk (st := st_alike) l_alike c_alike k_alike
  have b_alike := F_alike.binds (ps := ["_law_found", "_law_due"]) fun _ _ _ _ _ _ us hl => match us, hl with | [_, _], _ => rfl
  have F_shared := fun_mk (st := st_shared) l_shared c_shared k_shared
  have b_shared := F_shared.binds (ps := ["_law_one", "_law_other"]) fun _ _ _ _ _ _ us hl => match us, hl with | [_, _], _ => rfl
  have F_lowest := fun_mk (st := st_lowest) l_lowest c_lowest k_lowest
  have b_lowest := F_lowest.binds (ps := ["_law_upper", "_law_lower"]) fun _ _ _ _ _ _ us hl => match us, hl with | [_, _], _ => rfl
  have F_whole := fun_mk (st := st_whole) l_whole c_whole k_whole
  have b_whole := F_whole.binds (ps := ["_law_box_here"]) fun _ _ _ _ _ _ us hl => match us, hl with | [_], _ => rfl
  have F_madeof := fun_mk (st := st_madeof) l_madeof c_madeof k_madeof
  have b_madeof := F_madeof.binds (ps := ["_law_upper", "_law_lower"]) fun _ _ _ _ _ _ us hl => match us, hl with | [_, _], _ => rfl
  have F_heard := fun_mk (st := st_heard) l_heard c_heard k_heard
  have b_heard := F_heard.binds (ps := ["_law_which", "_law_one", "_law_other"]) fun _ _ _ _ _ _ us hl => match us, hl with | [_, _, _], _ => rfl
  have F_right := fun_mk (st := st_right) l_right c_right k_right
  have b_right := F_right.binds (ps := ["_law_which", "_law_one", "_law_other", "_law_due"]) fun _ _ _ _ _ _ us hl => match us, hl with | [_, _, _, _], _ => rfl
  have F_both := fun_mk (st := st_both) l_both c_both k_both
  have b_both := F_both.binds (ps := ["_law_one", "_law_other"]) fun _ _ _ _ _ _ us hl => match us, hl with | [_, _], _ => rfl
  have F_law := fun_mk (st := st_law) l_law c_law k_law
  have exc : PySem.BX.ETxt l.prog K mg C fI cc cda "ZeroDivisionError" "ZeroDivisionError.__new__" "ZeroDivisionError.__init__" [.type "ZeroDivisionError", .type "ArithmeticError", .type "Exception", .type "BaseException", .type "object"] "Nought" "Nought.__init__" (defArgs st_nought) fs_nought [] (defScope st_nought) := { gC := PySem.W.mg_of X G aC, cls := ⟨_, _, _, _, _, _, _, _, _, _, _, _, _, _, _, xL, fun _ => rfl⟩, base := F.excBase_ZeroDivisionError, kxs := PySem.W.kxs_ZeroDivisionError, iC := iC, tI := tI, fn := ⟨_, _, _, _, _, _, _, _, lI⟩, code := cI, cdo := ⟨_, _, _, _, _, _, lcd, vs2, fileE⟩, cell := ⟨_, _, _, lcc⟩, sup := supC, opq := opq, noS := PySem.W.mg_none_of X G z_super, topS := topN, subB := subB, subC := subC, kC := kC, exC := exC, tyC := tyC, kS := by decide +kernel, kCl := by decide +kernel, kSf := by decide +kernel, kF := rfl, st := ⟨_, _, _, _, _, _, _, _, rfl, fun L => ⟨rfl, rfl, _, rfl⟩⟩, hd := ⟨_, rfl, rfl⟩ }
  have T : Tx l.prog K mg := { f_fof := f_fof, fd_fof := _, F_fof := F_fof, g_fof := PySem.W.mg_of X G a_fof, b_fof := b_fof, d1_fof := d1_fof, v1_fof := v1_fof, b1_fof := b1_fof, f_cdiv := f_cdiv, fd_cdiv := _, F_cdiv := F_cdiv, g_cdiv := PySem.W.mg_of X G a_cdiv, b_cdiv := b_cdiv, f_added := f_added, fd_added := _, F_added := F_added, g_added := PySem.W.mg_of X G a_added, b_added := b_added, f_taken := f_taken, fd_taken := _, F_taken := F_taken, g_taken := PySem.W.mg_of X G a_taken, b_taken := b_taken, f_multiplied := f_multiplied, fd_multiplied := _, F_multiplied := F_multiplied, g_multiplied := PySem.W.mg_of X G a_multiplied, b_multiplied := b_multiplied, f_divided := f_divided, fd_divided := _, F_divided := F_divided, g_divided := PySem.W.mg_of X G a_divided, b_divided := b_divided, f_is_less := f_is_less, fd_is_less := _, F_is_less := F_is_less, g_is_less := PySem.W.mg_of X G a_is_less, b_is_less := b_is_less, f_box := f_box, fd_box := _, F_box := F_box, g_box := PySem.W.mg_of X G a_box, b_box := b_box, f_take := f_take, fd_take := _, F_take := F_take, g_take := PySem.W.mg_of X G a_take, b_take := b_take, f_alike := f_alike, fd_alike := _, F_alike := F_alike, g_alike := PySem.W.mg_of X G a_alike, b_alike := b_alike, f_shared := f_shared, fd_shared := _, F_shared := F_shared, g_shared := PySem.W.mg_of X G a_shared, b_shared := b_shared, f_lowest := f_lowest, fd_lowest := _, F_lowest := F_lowest, g_lowest := PySem.W.mg_of X G a_lowest, b_lowest := b_lowest, f_whole := f_whole, fd_whole := _, F_whole := F_whole, g_whole := PySem.W.mg_of X G a_whole, b_whole := b_whole, f_madeof := f_madeof, fd_madeof := _, F_madeof := F_madeof, g_madeof := PySem.W.mg_of X G a_madeof, b_madeof := b_madeof, f_heard := f_heard, fd_heard := _, F_heard := F_heard, g_heard := PySem.W.mg_of X G a_heard, b_heard := b_heard, f_right := f_right, fd_right := _, F_right := F_right, g_right := PySem.W.mg_of X G a_right, b_right := b_right, f_both := f_both, fd_both := _, F_both := F_both, g_both := PySem.W.mg_of X G a_both, b_both := b_both, m_len := PySem.W.mg_none_of X G z_len, m_int := PySem.W.mg_none_of X G z_int, m_bool := PySem.W.mg_none_of X G z_bool, m_list := PySem.W.mg_none_of X G z_list, m_tuple := PySem.W.mg_none_of X G z_tuple, m_zip := PySem.W.mg_none_of X G z_zip, m_isinstance := PySem.W.mg_none_of X G z_isinstance, m_abs := PySem.W.mg_none_of X G z_abs, m_max := PySem.W.mg_none_of X G z_max, m_min := PySem.W.mg_none_of X G z_min, m_range := PySem.W.mg_none_of X G z_range, m_ZeroDivisionError := PySem.W.mg_none_of X G z_ZeroDivisionError, m_super := PySem.W.mg_none_of X G z_super, C := C, fI := fI, cc := cc, cda := cda, CB := CB, exc := exc, exI := ⟨gaC, ggC, exC, hdC, clC, snC, tkC, mrC⟩, exm := PySem.W.exm_ref exC hdC tyC sCC, g_BoughError := PySem.W.mg_of X G aB, kZ := kZ, kB := kB }
  exact ⟨PySem.W.fnOf "law" "law" (defArgs st_law) (defBody st_law) (defScope st_law) .none kV_law dc_law pm_law an_law cd_law ct_law, fun s v => .of_eq rfl, fun base _ _ => ok_law T F_law⟩
end B01
open PySem PySem.W PyProof.Rows
set_option maxRecDepth 100000 in
set_option maxHeartbeats 0 in
theorem PySem.Challenge.cw_boughkept_k01_fractions_reckoned_holds : PySem.Challenge.rw_boughkept_k01_fractions_reckoned.Holds := by
  w_on; o_law; k_head; (case hw => w_witness2)
  k_fill
  refine L2.walk_of (l := PySem.Challenge.rw_boughkept_k01_fractions_reckoned) (n := 63) (k := 7) (x := "_law_script") (CX := fun _ => L2.CX0) (sp := fun w => B01.spLaw _) rfl (by decide) rfl ⟨rfl, by decide, by decide⟩ (fun w h Y => PySem.W.kIn_of Y) ?F (fun _ _ a ns hl _ hS => ⟨a, ns, rfl, hS, hl, fun _ => rfl⟩) (fun _ _ _ _ _ h => h)
  case F =>
    intro w mg fa h KX G hmg
    refine' B01.all_mk KX G hmg ?a_fof ?l_fof ?c_fof ?k_fof ?dl_fof ?dd_fof ?a_cdiv ?l_cdiv ?c_cdiv ?k_cdiv ?a_added ?l_added ?c_added ?k_added ?a_taken ?l_taken ?c_taken ?k_taken ?a_multiplied ?l_multiplied ?c_multiplied ?k_multiplied ?a_divided ?l_divided ?c_divided ?k_divided ?a_is_less ?l_is_less ?c_is_less ?k_is_less ?a_box ?l_box ?c_box ?k_box ?a_take ?l_take ?c_take ?k_take ?a_alike ?l_alike ?c_alike ?k_alike ?a_shared ?l_shared ?c_shared ?k_shared ?a_lowest ?l_lowest ?c_lowest ?k_lowest ?a_whole ?l_whole ?c_whole ?k_whole ?a_madeof ?l_madeof ?c_madeof ?k_madeof ?a_heard ?l_heard ?c_heard ?k_heard ?a_right ?l_right ?c_right ?k_right ?a_both ?l_both ?c_both ?k_both ?a_law ?l_law ?c_law ?k_law ?z_len ?z_int ?z_bool ?z_list ?z_tuple ?z_zip ?z_isinstance ?z_abs ?z_max ?z_min ?z_range ?z_ZeroDivisionError ?z_super ?aC ?aB ?xL ?iC ?tI ?lI ?cI ?lcd ?vs2 ?fileE ?lcc ?supC ?opq ?topN ?subB ?subC ?kC ?exC ?tyC ?gaC ?ggC ?hdC ?clC ?snC ?tkC ?mrC ?sCC ?kZ ?kB
    (case a_fof => k_is)
    (case l_fof => k_is)
    (case c_fof => k_is)
    (case k_fof => k_is)
    (case dl_fof => k_is)
    (case dd_fof => rfl)
    (case a_cdiv => k_is)
    (case l_cdiv => k_is)
    (case c_cdiv => k_is)
    (case k_cdiv => k_is)
    (case a_added => k_is)
    (case l_added => k_is)
    (case c_added => k_is)
    (case k_added => k_is)
    (case a_taken => k_is)
    (case l_taken => k_is)
    (case c_taken => k_is)
    (case k_taken => k_is)
    (case a_multiplied => k_is)
    (case l_multiplied => k_is)
    (case c_multiplied => k_is)
    (case k_multiplied => k_is)
    (case a_divided => k_is)
    (case l_divided => k_is)
    (case c_divided => k_is)
    (case k_divided => k_is)
    (case a_is_less => k_is)
    (case l_is_less => k_is)
    (case c_is_less => k_is)
    (case k_is_less => k_is)
    (case a_box => k_is)
    (case l_box => k_is)
    (case c_box => k_is)
    (case k_box => k_is)
    (case a_take => k_is)
    (case l_take => k_is)
    (case c_take => k_is)
    (case k_take => k_is)
    (case a_alike => k_is)
    (case l_alike => k_is)
    (case c_alike => k_is)
    (case k_alike => k_is)
    (case a_shared => k_is)
    (case l_shared => k_is)
    (case c_shared => k_is)
    (case k_shared => k_is)
    (case a_lowest => k_is)
    (case l_lowest => k_is)
    (case c_lowest => k_is)
    (case k_lowest => k_is)
    (case a_whole => k_is)
    (case l_whole => k_is)
    (case c_whole => k_is)
    (case k_whole => k_is)
    (case a_madeof => k_is)
    (case l_madeof => k_is)
    (case c_madeof => k_is)
    (case k_madeof => k_is)
    (case a_heard => k_is)
    (case l_heard => k_is)
    (case c_heard => k_is)
    (case k_heard => k_is)
    (case a_right => k_is)
    (case l_right => k_is)
    (case c_right => k_is)
    (case k_right => k_is)
    (case a_both => k_is)
    (case l_both => k_is)
    (case c_both => k_is)
    (case k_both => k_is)
    (case a_law => k_is)
    (case l_law => k_is)
    (case c_law => k_is)
    (case k_law => k_is)
    (case z_len => k_is)
    (case z_int => k_is)
    (case z_bool => k_is)
    (case z_list => k_is)
    (case z_tuple => k_is)
    (case z_zip => k_is)
    (case z_isinstance => k_is)
    (case z_abs => k_is)
    (case z_max => k_is)
    (case z_min => k_is)
    (case z_range => k_is)
    (case z_ZeroDivisionError => k_is)
    (case z_super => k_is)
    (case aC => k_is)
    (case aB => k_is)
    (case xL => k_is)
    (case iC => k_is)
    (case tI => k_is)
    (case lI => k_is)
    (case cI => k_is)
    (case lcd => k_is)
    (case vs2 => rfl)
    (case fileE => first | rfl | decide +kernel)
    (case lcc => k_is)
    (case supC => ks_is)
    (case opq => k_is)
    (case topN => first | rfl | decide +kernel)
    (case subB => k_is)
    (case subC => k_is)
    (case kC => k_is)
    (case exC => k_is)
    (case tyC => k_is)
    (case gaC => k_is)
    (case ggC => k_is)
    (case hdC => k_is)
    (case clC => k_is)
    (case snC => k_is)
    (case tkC => k_is)
    (case mrC => k_is)
    (case sCC => first | rfl | k_is)
    (case kZ => kit_is)
    (case kB => kit_is)
