import PyProof.Rows.All
import Wide.All
import OpenK.AllK
import Wide.FinOn
import KE.KItemsList
import HandS.Zip
import KE.GoesEnum
import HandS.Iter
import HandS.Wide
import HandS.Conv
import HandS.DictComp
import PyProof.EqAt
import PyProof.EqKinds
import PyProof.TupleCall
import HandS.ForMost
import HandS.ForExc
import HandS.IsInst
import HandS.StrMore
import HandS.Replace
import HandS.Small
import HandS.Style
import HandS.Walk
import HandS.Codes
import HandS.TupLe
import PySem.Challenge.RW_boughkept_k06_woods_and_names
set_option Elab.async false
set_option linter.all false
set_option maxRecDepth 100000
set_option maxHeartbeats 2000000
namespace ZL
open PySem RZ
section
variable {prog : Program} {w : World} {A : Around} {E : Value → Shared → Prop} {s : Shared}
abbrev ZOut (h : Heap) (z TI TO a : Addr) (f : Bool) : Prop := h.get? z = some { cls := .type "zip", data := .fields #[rawInt a, .bool f, .bool false, .ref TI, .ref TO] }
theorem own_out {z TI TO a : Addr} {f : Bool} {oa : Obj} {Q : Bool → Shared → Prop} (hz : ZOut s.heap z TI TO a f) (ha : s.heap.get? a = some oa)
    (hQ : ∀ h₀ : Heap, ZOut h₀ z TI TO a true → Heap.SameBut z s.heap h₀ → Q false { s with heap := h₀ }) : wpAny (model prog w) A (Builtin.SmallTypes.ownedTupleIsFree (.ref z)) Q E s := by
  unfold Builtin.SmallTypes.ownedTupleIsFree
  refine wpAny_bind (wpAny_field hz rfl (x := rawInt a) rfl ?_)
  show wpAny _ _ (loadIfAlive ((a : Int).toNat) >>= _) _ _ _
  rw [Int.toNat_natCast]
  refine wpAny_bind (PySem.W.kdx_alive ha ?_)
  simp only [Option.isNone_some, Bool.false_eq_true, if_false]
  refine wpAny_bind (wpAny_field hz rfl (x := .bool f) rfl ?_)
  cases f with
  | true =>
    rw [if_neg (show ¬ ((Value.bool true != Value.bool true) = true) from Bool.false_ne_true)]
    exact wpAny_pure (hQ _ hz (Heap.SameBut.refl _ _))
  | false =>
    rw [if_pos (show (Value.bool false != Value.bool true) = true from rfl)]
    refine wpAny_bind (wpAny_setField_rec hz (by simp) fun h₃ he₃ hs₃ => ?_)
    exact wpAny_pure (hQ h₃ he₃ hs₃)
theorem zipT_next_out {z TI TO i1 i2 l1 l2 a : Addr} {f : Bool} {oa : Obj} {k1 k2 : Nat} {xs ys : Array Value} {x y : Value} {Q : Value → Shared → Prop} (D : ZipApart z TI TO i1 i2 l1 l2)
    (hz : ZOut s.heap z TI TO a f) (ha : s.heap.get? a = some oa) (hTI : IsPair s.heap TI (.ref i1) (.ref i2))
    (h1 : s.heap.IsTupleIter i1 l1 k1) (h2 : s.heap.IsTupleIter i2 l2 k2) (hl1 : s.heap.IsTuple l1 xs) (hl2 : s.heap.IsTuple l2 ys) (hx : xs[k1]? = some x) (hy : ys[k2]? = some y)
    (hQ : ∀ h', ZOut h' z TI TO a true → h'.IsTupleIter i1 l1 (k1 + 1) → h'.IsTupleIter i2 l2 (k2 + 1) → IsPair h' s.heap.objs.size x y → h'.objs.size = s.heap.objs.size + 1 →
      (∀ c o, c ≠ z → c ≠ i1 → c ≠ i2 → s.heap.get? c = some o → h'.get? c = some o) → Q (.ref s.heap.objs.size) { s with heap := h' }) :
    wpAny (model prog w) A (Builtin.«zip.__next__» ⟨[.ref z], []⟩) (fun fin s' => ∃ v, fin = .done (.ret v) ∧ Q v s') E s := by
  show wpAny _ _ (field (.ref z) 2 >>= _) _ _ _
  refine wpAny_bind (wpAny_field hz rfl (x := .bool false) rfl ?_)
  show wpAny _ _ (field (.ref z) 3 >>= _) _ _ _
  refine wpAny_bind (wpAny_field hz rfl (x := .ref TI) rfl ?_)
  refine wpAny_bind (wpAny_seqItems hTI rfl ?_)
  show wpAny _ _ (Builtin.SmallTypes.ownedTupleIsFree (.ref z) >>= _) _ _ _
  refine wpAny_bind (own_out hz ha fun h₀ hz₀ hs₀ => ?_)
  simp only [Bool.false_eq_true, if_false]
  refine wpAny_bind ?_
  rw [show (#[Value.ref i1, Value.ref i2] : Array Value) = [Value.ref i1, Value.ref i2].toArray from rfl]
  simp only [List.forIn_toArray, List.forIn_cons, List.forIn_nil]
  refine wpAny_bind (wpAny_bind (wpAny_holding ?_))
  show wpAny _ _ (Builtin.SmallTypes.nextOf (.ref i1) >>= _) _ _ _
  refine wpAny_bind (nextOf_tuple_item (h1.extBut hs₀.extBut D.i1z) (hl1.extBut hs₀.extBut D.l1z) hx fun h₂ h1₂ hs₂ => wpAny_pure ?_)
  refine wpAny_pure ?_
  refine wpAny_bind (wpAny_bind (wpAny_holding ?_))
  show wpAny _ _ (Builtin.SmallTypes.nextOf (.ref i2) >>= _) _ _ _
  refine wpAny_bind (nextOf_tuple_item ((h2.extBut hs₀.extBut D.i2z).extBut hs₂.extBut D.i12.symm) ((hl2.extBut hs₀.extBut D.l2z).extBut hs₂.extBut D.l2i1) hy fun h₄ h2₄ hs₄ => wpAny_pure ?_)
  refine wpAny_pure (wpAny_pure ?_)
  refine wpAny_bind (wpAny_newTuple (hsz := by show 2 ≤ sizeLine; decide) ?_)
  have hsz : h₄.objs.size = s.heap.objs.size := by rw [hs₄.1, hs₂.1, hs₀.1]
  have e1 : h₄.get? z = _ := hs₄.extBut _ _ D.i2z.symm (hs₂.extBut _ _ D.i1z.symm hz₀)
  refine wpAny_pure ⟨_, rfl, ?_⟩
  show Q (.ref h₄.objs.size) _
  rw [hsz]
  refine hQ _ (Heap.get?_push_of_some _ e1) ?_ ?_ ?_ (by rw [Heap.size_push, hsz]) fun c o c1 c2 c3 e => Heap.get?_push_of_some _ (hs₄.extBut _ _ c3 (hs₂.extBut _ _ c2 (hs₀.extBut _ _ c1 e)))
  · exact (h1₂.extBut hs₄.extBut D.i12).at fun o e => Heap.get?_push_of_some _ e
  · exact h2₄.at fun o e => Heap.get?_push_of_some _ e
  · rw [← hsz]
    exact Heap.get?_push_size _ rfl
theorem zipT_end_out {z TI TO i1 i2 l1 l2 a : Addr} {f : Bool} {oa : Obj} {k1 k2 : Nat} {xs ys : Array Value} {Q : PySem.Fin → Shared → Prop} (hh : A.handled = none) (D : ZipApart z TI TO i1 i2 l1 l2)
    (hz : ZOut s.heap z TI TO a f) (ha : s.heap.get? a = some oa) (hTI : IsPair s.heap TI (.ref i1) (.ref i2))
    (h1 : s.heap.IsTupleIter i1 l1 k1) (h2 : s.heap.IsTupleIter i2 l2 k2) (hl1 : s.heap.IsTuple l1 xs) (hl2 : s.heap.IsTuple l2 ys) (hx : xs[k1]? = none)
    (hE : ∀ h' e, (∀ c o, c ≠ z → c ≠ i1 → c ≠ i2 → s.heap.get? c = some o → h'.get? c = some o) → (∃ o, h'.get? e = some o ∧ o.cls = .type "StopIteration") → E (.ref e) { s with heap := h' }) :
    wpAny (model prog w) A (Builtin.«zip.__next__» ⟨[.ref z], []⟩) Q E s := by
  show wpAny _ _ (field (.ref z) 2 >>= _) _ _ _
  refine wpAny_bind (wpAny_field hz rfl (x := .bool false) rfl ?_)
  show wpAny _ _ (field (.ref z) 3 >>= _) _ _ _
  refine wpAny_bind (wpAny_field hz rfl (x := .ref TI) rfl ?_)
  refine wpAny_bind (wpAny_seqItems hTI rfl ?_)
  show wpAny _ _ (Builtin.SmallTypes.ownedTupleIsFree (.ref z) >>= _) _ _ _
  refine wpAny_bind (own_out hz ha fun h₀ hz₀ hs₀ => ?_)
  simp only [Bool.false_eq_true, if_false]
  refine wpAny_bind ?_
  rw [show (#[Value.ref i1, Value.ref i2] : Array Value) = [Value.ref i1, Value.ref i2].toArray from rfl]
  simp only [List.forIn_toArray, List.forIn_cons, List.forIn_nil]
  refine wpAny_bind (wpAny_bind (wpAny_holding ?_))
  show wpAny _ _ (Builtin.SmallTypes.nextOf (.ref i1) >>= _) _ _ _
  refine wpAny_bind (nextOf_tuple_end hh (h1.extBut hs₀.extBut D.i1z) (hl1.extBut hs₀.extBut D.l1z) hx fun h₂ e hs₂ he => ?_)
  exact hE h₂ e (fun c o c1 c2 c3 x => hs₂ _ _ c2 (hs₀.extBut _ _ c1 x)) he
theorem pyNext_out {z TI TO i1 i2 l1 l2 a : Addr} {f : Bool} {oa : Obj} {k1 k2 : Nat} {xs ys : Array Value} {x y : Value} {Q : Option Value → Shared → Prop} (D : ZipApart z TI TO i1 i2 l1 l2)
    (hz : ZOut s.heap z TI TO a f) (ha : s.heap.get? a = some oa) (hTI : IsPair s.heap TI (.ref i1) (.ref i2))
    (h1 : s.heap.IsTupleIter i1 l1 k1) (h2 : s.heap.IsTupleIter i2 l2 k2) (hl1 : s.heap.IsTuple l1 xs) (hl2 : s.heap.IsTuple l2 ys) (hx : xs[k1]? = some x) (hy : ys[k2]? = some y)
    (hQ : ∀ h', ZOut h' z TI TO a true → h'.IsTupleIter i1 l1 (k1 + 1) → h'.IsTupleIter i2 l2 (k2 + 1) → IsPair h' s.heap.objs.size x y → h'.objs.size = s.heap.objs.size + 1 →
      (∀ c o, c ≠ z → c ≠ i1 → c ≠ i2 → s.heap.get? c = some o → h'.get? c = some o) → Q (some (.ref s.heap.objs.size)) { s with heap := h' }) :
    wpAny (model prog w) A (pyNext (.ref z)) Q E s := by
  have hT : s.TypeIs (.ref z) "zip" := ⟨_, hz, rfl⟩
  unfold pyNext
  exact wpAny_bind (wpAny_attempt (wpAny_callSpecial?_slot (name := Str.ofString "__next__") hT F.slot_zip_next
    (wpAny_call_entry F.slot_zip_next hT F.entry_zip_next
      (zipT_next_out D hz ha hTI h1 h2 hl1 hl2 hx hy fun h' a1 a3 a4 a5 a6 a7 => wpAny_pure (hQ h' a1 a3 a4 a5 a6 a7)) (F.args_zip_next_1 _))))
theorem pyNext_out_end {z TI TO i1 i2 l1 l2 a : Addr} {f : Bool} {oa : Obj} {k1 k2 : Nat} {xs ys : Array Value} {Q : Option Value → Shared → Prop} (hh : A.handled = none) (D : ZipApart z TI TO i1 i2 l1 l2)
    (hz : ZOut s.heap z TI TO a f) (ha : s.heap.get? a = some oa) (hTI : IsPair s.heap TI (.ref i1) (.ref i2))
    (h1 : s.heap.IsTupleIter i1 l1 k1) (h2 : s.heap.IsTupleIter i2 l2 k2) (hl1 : s.heap.IsTuple l1 xs) (hl2 : s.heap.IsTuple l2 ys) (hx : xs[k1]? = none)
    (hQ : ∀ h', (∀ c o, c ≠ z → c ≠ i1 → c ≠ i2 → s.heap.get? c = some o → h'.get? c = some o) → Q none { s with heap := h' }) : wpAny (model prog w) A (pyNext (.ref z)) Q E s := by
  have hT : s.TypeIs (.ref z) "zip" := ⟨_, hz, rfl⟩
  unfold pyNext
  refine wpAny_bind (wpAny_attempt (wpAny_callSpecial?_slot (name := Str.ofString "__next__") hT F.slot_zip_next
    (wpAny_call_entry F.slot_zip_next hT F.entry_zip_next (zipT_end_out hh D hz ha hTI h1 h2 hl1 hl2 hx fun h' e hk he => ?_) (F.args_zip_next_1 _))))
  obtain ⟨o, ho, hc⟩ := he
  refine wpAny_bind (wpAny_isInstance (T := "StopIteration") (b := true) ⟨o, ho, hc⟩ isSubtype_stop ?_)
  exact wpAny_pure (hQ _ hk)
end
/-! ### list(zip(t, u)): the loop -/
theorem off {a lo b : Addr} (h : a < lo) (h2 : lo ≤ b) : b ≠ a := Nat.ne_of_gt (Nat.lt_of_lt_of_le h h2)
/-- the zip object with what it holds, i pairs drawn, the first of which stands at a (S the list that holds them) -/
structure ZAt (h : Heap) (z TI TO i1 i2 l1 l2 S : Addr) (i : Nat) : Prop where
  zip : (i = 0 ∧ IsZip h z TI TO .none) ∨ ∃ a f oa, ZOut h z TI TO a f ∧ h.get? a = some oa ∧ a ≠ z ∧ a ≠ TO ∧ a ≠ i1 ∧ a ≠ i2 ∧ a ≠ S
  pair : IsPair h TI (.ref i1) (.ref i2)
  own : ∃ x y, IsPair h TO x y
  it1 : h.IsTupleIter i1 l1 i
  it2 : h.IsTupleIter i2 l2 i
theorem ZAt.keep {h h' : Heap} {z TI TO i1 i2 l1 l2 S : Addr} {i : Nat} (x : ZAt h z TI TO i1 i2 l1 l2 S i) (k : ∀ b o, b ≠ S → h.get? b = some o → h'.get? b = some o) (e1 : z ≠ S) (e2 : TI ≠ S) (e3 : TO ≠ S) (e4 : i1 ≠ S) (e5 : i2 ≠ S) : ZAt h' z TI TO i1 i2 l1 l2 S i := by
  obtain ⟨hz, hp, ⟨u, v, ho⟩, h1, h2⟩ := x
  refine ⟨?_, k _ _ e2 hp, ⟨u, v, k _ _ e3 ho⟩, h1.at fun o e => k _ o e4 e, h2.at fun o e => k _ o e5 e⟩
  rcases hz with ⟨e, hz⟩ | ⟨a, f, oa, hz, ha, n1, n2, n3, n4, n5⟩
  · exact .inl ⟨e, k _ _ e1 hz⟩
  · exact .inr ⟨a, f, oa, k _ _ e1 hz, k _ _ n5 ha, n1, n2, n3, n4, n5⟩
section
variable {prog : Program} {w : World} {A : Around} {E : Value → Shared → Prop} {s : Shared} {z TI TO i1 i2 l1 l2 S : Addr} {xs ys : Array Value}
theorem z_item {i : Nat} {x y : Value} {Q : Option Value → Shared → Prop} (D : ZipApart z TI TO i1 i2 l1 l2) (hst : ZAt s.heap z TI TO i1 i2 l1 l2 S i) (hl1 : s.heap.IsTuple l1 xs) (hl2 : s.heap.IsTuple l2 ys) (hx : xs[i]? = some x) (hy : ys[i]? = some y) (hS : S < s.heap.objs.size)
    (hQ : ∀ h', ZAt h' z TI TO i1 i2 l1 l2 S (i + 1) → IsPair h' s.heap.objs.size x y → h'.objs.size = s.heap.objs.size + 1 → (∀ c o, c ≠ z → c ≠ TO → c ≠ i1 → c ≠ i2 → s.heap.get? c = some o → h'.get? c = some o) → Q (some (.ref s.heap.objs.size)) { s with heap := h' }) :
    wpAny (model prog w) A (pyNext (.ref z)) Q E s := by
  obtain ⟨hz, hp, ⟨u, v, ho⟩, h1, h2⟩ := hst
  have lz : z < s.heap.objs.size := by
    rcases hz with ⟨_, hz⟩ | ⟨a, f, oa, hz, _⟩ <;> exact Heap.lt_size hz
  have lo : TO < s.heap.objs.size := Heap.lt_size ho
  have l1' : i1 < s.heap.objs.size := by obtain ⟨_, e, _⟩ := h1; exact Heap.lt_size e
  have l2' : i2 < s.heap.objs.size := by obtain ⟨_, e, _⟩ := h2; exact Heap.lt_size e
  rcases hz with ⟨rfl, hz⟩ | ⟨a, f, oa, hz, ha, n1, n2, n3, n4, n5⟩
  · refine pyNext_zipT_item D hz hp ho h1 h2 hl1 hl2 hx hy fun h' z' to' h1' h2' pr sz k => hQ h' ⟨.inr ⟨s.heap.objs.size, false, _, z', pr, Nat.ne_of_gt lz, Nat.ne_of_gt lo, Nat.ne_of_gt l1', Nat.ne_of_gt l2', Nat.ne_of_gt hS⟩, k _ _ D.TIz D.TITO D.TIi1 D.TIi2 hp, ⟨x, y, to'⟩, h1', h2'⟩ pr sz k
  · refine pyNext_out D hz ha hp h1 h2 hl1 hl2 hx hy fun h' z' h1' h2' pr sz k => hQ h' ⟨.inr ⟨a, true, oa, z', k _ _ n1 n3 n4 ha, n1, n2, n3, n4, n5⟩, k _ _ D.TIz D.TIi1 D.TIi2 hp, ⟨u, v, k _ _ D.TOz D.TOi1 D.TOi2 ho⟩, h1', h2'⟩ pr sz fun c o c1 _ c3 c4 e => k c o c1 c3 c4 e
theorem z_done {i : Nat} {Q : Option Value → Shared → Prop} (hh : A.handled = none) (D : ZipApart z TI TO i1 i2 l1 l2) (hst : ZAt s.heap z TI TO i1 i2 l1 l2 S i) (hl1 : s.heap.IsTuple l1 xs) (hl2 : s.heap.IsTuple l2 ys) (hx : xs[i]? = none)
    (hQ : ∀ h', (∀ c o, c ≠ z → c ≠ TO → c ≠ i1 → c ≠ i2 → s.heap.get? c = some o → h'.get? c = some o) → Q none { s with heap := h' }) : wpAny (model prog w) A (pyNext (.ref z)) Q E s := by
  obtain ⟨hz, hp, ⟨u, v, ho⟩, h1, h2⟩ := hst
  rcases hz with ⟨rfl, hz⟩ | ⟨a, f, oa, hz, ha, n1, n2, n3, n4, n5⟩
  · exact pyNext_zipT_end hh D hz hp ho h1 h2 hl1 hl2 (.inl hx) hQ
  · exact pyNext_out_end hh D hz ha hp h1 h2 hl1 hl2 hx fun h' k => hQ h' fun c o c1 _ c3 c4 e => k c o c1 c3 c4 e
/-- the new pairs -/
structure ZG (xs ys : Array Value) (lo : Addr) (h : Heap) (as : List Addr) : Prop where
  rise : as.Pairwise (· < ·)
  above : ∀ a ∈ as, lo ≤ a
  pairs : ∀ (j : Nat) (a : Addr), as[j]? = some a → ∃ x y, xs[j]? = some x ∧ ys[j]? = some y ∧ IsPair h a x y
theorem ZG.there {lo : Addr} {h : Heap} {as : List Addr} (g : ZG xs ys lo h as) {a : Addr} (ha : a ∈ as) : a < h.objs.size := by
  obtain ⟨j, hj⟩ := List.mem_iff_getElem?.mp ha
  obtain ⟨_, _, _, _, e⟩ := g.pairs j a hj
  exact Heap.lt_size e
theorem z_loop {R : Result → Shared → Prop} (hh : A.handled = none) (D : ZipApart z TI TO i1 i2 l1 l2) (lo : Addr) (bz : z < lo) (bI : TI < lo) (bO : TO < lo) (b1 : i1 < lo) (b2 : i2 < lo) (bS : S < lo) (ez : z ≠ S) (eI : TI ≠ S) (eO : TO ≠ S) (e1 : i1 ≠ S) (e2 : i2 ≠ S) (el1 : l1 ≠ S) (el2 : l2 ≠ S)
    (hxy : xs.size = ys.size) (hn : xs.size ≤ sizeLine) (res : Value) {h₁ : Heap}
    (hR : ∀ h' tk acc c as, (∀ b o, b ≠ S → b ≠ z → b ≠ TO → b ≠ i1 → b ≠ i2 → h₁.get? b = some o → h'.get? b = some o) → h'.get? S = some { cls := .type "list", dict := none, data := .seq acc c, slots := #[] } → as.length = xs.size → ZG xs ys lo h' as →
      acc.toList = as.map Value.ref → R (.ok (.ret res)) { s with heap := h', toks := tk }) :
    ∀ (k i : Nat) (h : Heap) (tk c : Nat) (acc : Array Value) (as : List Addr), xs.size - i = k → i ≤ xs.size → ZAt h z TI TO i1 i2 l1 l2 S i → h.IsTuple l1 xs → h.IsTuple l2 ys → (∀ b o, b ≠ S → b ≠ z → b ≠ TO → b ≠ i1 → b ≠ i2 → h₁.get? b = some o → h.get? b = some o) →
      h.get? S = some { cls := .type "list", dict := none, data := .seq acc c, slots := #[] } → acc.toList = as.map Value.ref → as.length = i → ZG xs ys lo h as → lo ≤ h.objs.size →
      codeAny (model prog w) A (.builtin "list.extend.loop" ⟨[.ref S, .ref z, res], []⟩) R { s with heap := h, toks := tk } := by
  intro k
  induction k with
  | zero =>
    intro i h tk c acc as hk hi hst hl1 hl2 hkeep hS hacc hal hG hIs
    have hin : i = xs.size := by omega
    refine codeAny_builtin PySem.F.entry_extend_loop ?_
    rw [Around.under_plainId PySem.F.plain_extend_loop _]
    show wpAny _ A.in1 (pyNext (.ref z) >>= _) _ _ _
    refine wpAny_bind (z_done (s := { s with heap := h, toks := tk }) (A := A.in1) hh D hst hl1 hl2 (Array.getElem?_eq_none (by omega)) fun h' he => ?_)
    refine wpAny_pure (hR h' tk acc c as (fun b o h1 h2 h3 h4 h5 e => he b o h2 h3 h4 h5 (hkeep b o h1 h2 h3 h4 h5 e)) (he S _ ez.symm eO.symm e1.symm e2.symm hS) (by omega) ⟨hG.rise, hG.above, fun j a hj => ?_⟩ hacc)
    obtain ⟨x, y, f1, f2, f3⟩ := hG.pairs j a hj
    have hb := hG.above a (List.mem_of_getElem? hj)
    exact ⟨x, y, f1, f2, he a _ (off bz hb) (off bO hb) (off b1 hb) (off b2 hb) f3⟩
  | succ k ih =>
    intro i h tk c acc as hk hi hst hl1 hl2 hkeep hS hacc hal hG hIs
    have hlt : i < xs.size := by omega
    have hx : xs[i]? = some xs[i] := Array.getElem?_eq_getElem hlt
    have hlt2 : i < ys.size := by omega
    have hy : ys[i]? = some ys[i] := Array.getElem?_eq_getElem hlt2
    have hsz : acc.size = i := by rw [← Array.length_toList, hacc, List.length_map, hal]
    refine codeAny_builtin PySem.F.entry_extend_loop ?_
    rw [Around.under_plainId PySem.F.plain_extend_loop _]
    show wpAny _ A.in1 (pyNext (.ref z) >>= _) _ _ _
    refine wpAny_bind (z_item (s := { s with heap := h, toks := tk }) D hst hl1 hl2 hx hy (Heap.lt_size hS) fun h' hst' ht hz hkp => ?_)
    dsimp only at ht hz hkp ⊢
    have hS' := hkp S _ ez.symm eO.symm e1.symm e2.symm hS
    have up : ∀ b o, b ≠ S → h'.get? b = some o → (h'.update S (Obj.mapSeq (·.push (Value.ref h.objs.size)))).get? b = some o := fun b o hb e => (Heap.get?_update_other _ _ (Ne.symm hb)).trans e
    have hSl : S < h.objs.size := Heap.lt_size hS
    show wpAny _ A.in1 (updateSeq S (·.push (Value.ref h.objs.size)) >>= _) _ _ _
    refine wpAny_bind ?_
    refine wpAny_updateSeq hS' rfl (wpAny_pure ⟨plainId_quiet PySem.F.plain_extend_loop _, ih (i + 1) _ tk _ (acc.push (Value.ref h.objs.size)) (as ++ [h.objs.size]) (by omega) hlt (hst'.keep up ez eI eO e1 e2)
      (hl1.at fun o e => up _ o el1 (hkp _ o D.l1z D.l1TO D.l1i1 D.l1i2 e)) (hl2.at fun o e => up _ o el2 (hkp _ o D.l2z D.l2TO D.l2i1 D.l2i2 e))
      (fun b o h1 h2 h3 h4 h5 e => up b o h1 (hkp b o h2 h3 h4 h5 (hkeep b o h1 h2 h3 h4 h5 e))) (Heap.get?_update_self _ hS' rfl) (by rw [Array.toList_push, hacc, List.map_append]; rfl) (by rw [List.length_append, hal]; rfl) ⟨?_, ?_, ?_⟩ ?_⟩) (by rw [hsz]; omega) (by show (acc.push (Value.ref h.objs.size)).size ≤ sizeLine + 1; rw [Array.size_push, hsz]; omega)
    · refine List.pairwise_append.mpr ⟨hG.rise, List.pairwise_singleton _ _, fun a ha b hb => ?_⟩
      rw [List.mem_singleton.mp hb]
      exact hG.there ha
    · intro a ha
      rcases List.mem_append.mp ha with ha | ha
      · exact hG.above a ha
      · rw [List.mem_singleton.mp ha]; exact hIs
    · intro j b hj
      rcases Nat.lt_trichotomy j as.length with h1 | h1 | h1
      · rw [List.getElem?_append_left h1] at hj
        obtain ⟨x', y', f1, f2, f3⟩ := hG.pairs j b hj
        have hb := hG.above b (List.mem_of_getElem? hj)
        exact ⟨x', y', f1, f2, up b _ (off bS hb) (hkp b _ (off bz hb) (off bO hb) (off b1 hb) (off b2 hb) f3)⟩
      · subst h1
        have hb : h.objs.size = b := by simpa using hj
        subst hb
        exact ⟨_, _, by rw [hal]; exact hx, by rw [hal]; exact hy, up _ _ (Nat.ne_of_gt hSl) ht⟩
      · have hnone : (as ++ [h.objs.size])[j]? = none := List.getElem?_eq_none (by rw [List.length_append, List.length_singleton]; omega)
        rw [hnone] at hj; cases hj
    · have e : (h'.update S (Obj.mapSeq (·.push (Value.ref h.objs.size)))).get? h.objs.size = _ := up _ _ (Nat.ne_of_gt hSl) ht
      exact Nat.le_trans hIs (Nat.le_of_lt (Heap.lt_size e))
theorem zip_no_len : typeLookup (.type "zip") "__len__" = pure none := by rw [typeLookup_type, builtinLookup_eq_fast]; kernel_rfl
theorem zip_no_hint : typeLookup (.type "zip") "__length_hint__" = pure none := by rw [typeLookup_type, builtinLookup_eq_fast]; kernel_rfl
theorem z_hint {r : Addr} (hT : s.TypeIs (.ref r) "zip") {Q : Bool → Shared → Prop} (h : Q true s) : wpAny (model prog w) A (Builtin.List.listLengthHint (.ref r)) Q E s := by
  unfold Builtin.List.listLengthHint
  refine wpAny_bind (wpAny_specialOf hT zip_no_len ?_)
  refine wpAny_bind (wpAny_specialOf hT zip_no_hint ?_)
  exact wpAny_pure h
theorem z_extend {R : Result → Shared → Prop} (hh : A.handled = none) (D : ZipApart z TI TO i1 i2 l1 l2) (hz : IsZip s.heap z TI TO .none) (hp : IsPair s.heap TI (.ref i1) (.ref i2)) (ho : ∃ x y, IsPair s.heap TO x y) (h1 : s.heap.IsTupleIter i1 l1 0) (h2 : s.heap.IsTupleIter i2 l2 0)
    (hl1 : s.heap.IsTuple l1 xs) (hl2 : s.heap.IsTuple l2 ys) (S : Addr) (ez : z ≠ S) (eI : TI ≠ S) (eO : TO ≠ S) (e1 : i1 ≠ S) (e2 : i2 ≠ S) (el1 : l1 ≠ S) (el2 : l2 ≠ S) (res : Value) (c₀ : Nat) (hS : s.heap.get? S = some { cls := .type "list", data := .seq #[] c₀ }) (hxy : xs.size = ys.size) (hn : xs.size ≤ sizeLine)
    (hR : ∀ h' tk acc c as, (∀ b o, b ≠ S → b ≠ z → b ≠ TO → b ≠ i1 → b ≠ i2 → s.heap.get? b = some o → h'.get? b = some o) → h'.get? S = some { cls := .type "list", dict := none, data := .seq acc c, slots := #[] } → as.length = xs.size → ZG xs ys s.heap.objs.size h' as →
      acc.toList = as.map Value.ref → R (.ok (.ret res)) { s with heap := h', toks := tk }) :
    wpAny (model prog w) A.in1 (Builtin.List.listExtendWith (.ref S) (.ref z) res)
      (fun fin s' => match fin with | .done f => R (.ok f) s' | .again c' => c'.quiet = true ∧ codeAny (model prog w) A c' R s') (fun e s' => R (.error e) s') s := by
  have bz : z < s.heap.objs.size := Heap.lt_size hz
  have bI : TI < s.heap.objs.size := Heap.lt_size hp
  have bO : TO < s.heap.objs.size := by obtain ⟨_, _, e⟩ := ho; exact Heap.lt_size e
  have b1 : i1 < s.heap.objs.size := by obtain ⟨_, e, _⟩ := h1; exact Heap.lt_size e
  have b2 : i2 < s.heap.objs.size := by obtain ⟨_, e, _⟩ := h2; exact Heap.lt_size e
  have bS : S < s.heap.objs.size := Heap.lt_size hS
  have hT : s.TypeIs (.ref z) "zip" := ⟨_, hz, rfl⟩
  have key : ∀ (h : Heap) (c₁ tk : Nat), (∀ b o, b ≠ S → s.heap.get? b = some o → h.get? b = some o) → s.heap.objs.size ≤ h.objs.size →
      h.get? S = some { cls := .type "list", data := .seq #[] c₁ } → codeAny (model prog w) A (.builtin "list.extend.loop" ⟨[.ref S, .ref z, res], []⟩) R { s with heap := h, toks := tk } := by
    intro h c₁ tk hk hsz hS₁
    refine z_loop (s := s) (h₁ := s.heap) (xs := xs) (ys := ys) hh D s.heap.objs.size bz bI bO b1 b2 bS ez eI eO e1 e2 el1 el2 hxy hn res hR xs.size 0 h tk c₁ #[] [] (Nat.sub_zero _) (Nat.zero_le _)
      ⟨.inl ⟨rfl, hk _ _ ez hz⟩, hk _ _ eI hp, ?_, h1.at fun o e => hk _ o e1 e, h2.at fun o e => hk _ o e2 e⟩ (hl1.at fun o e => hk _ o el1 e) (hl2.at fun o e => hk _ o el2 e) (fun b o hb _ _ _ _ e => hk b o hb e) hS₁ rfl rfl ⟨List.Pairwise.nil, (fun _ ha => nomatch ha), (fun j a hj => by simp at hj)⟩ hsz
    obtain ⟨x, y, e⟩ := ho
    exact ⟨x, y, hk _ _ eO e⟩
  unfold Builtin.List.listExtendWith
  refine wpAny_bind (wpAny_typeOf (T := "zip") hT ?_)
  have g1 : Builtin.List.listSameRef (.ref S) (.ref z) = false := by simp [Builtin.List.listSameRef, Ne.symm ez]
  have g2 : (Value.type "zip" == Value.type "list") = false := by decide
  have g3 : (Value.type "zip" == Value.type "tuple") = false := by decide
  simp only [g1, g2, g3, Bool.or_false, Bool.false_eq_true, if_false]
  refine wpAny_bind (wpAny_pyIter_zip hz ?_)
  refine wpAny_bind (wpAny_holding (z_hint hT ?_))
  refine wpAny_ite_split (fun _ => ?_) (fun _ => wpAny_pure ⟨plainId_quiet PySem.F.plain_extend_loop _, key _ c₀ _ (fun b o _ e => e) (Nat.le_refl _) hS⟩)
  refine wpAny_bind (wpAny_rule ?_)
  refine wpAny_bind ?_
  show wpAny _ _ (updateSeq S (·.push .none) >>= fun _ => updateSeq S (·.pop)) _ _ _
  refine wpAny_bind (wpAny_updateSeq hS rfl ?_)
  have hS₂ := Heap.get?_update_self (Obj.mapSeq (·.push Value.none)) hS rfl
  refine wpAny_updateSeq (hz := by seq_fits) hS₂ rfl ?_
  have hS₃ := Heap.get?_update_self (Obj.mapSeq (·.pop)) hS₂ rfl
  refine wpAny_pure ⟨plainId_quiet PySem.F.plain_extend_loop _, key _ _ _ (fun b o hb e => ?_) ?_ hS₃⟩
  · exact (Heap.get?_update_other _ _ (Ne.symm hb)).trans ((Heap.get?_update_other _ _ (Ne.symm hb)).trans e)
  · rw [Heap.size_update, Heap.size_update]
    exact Nat.le_refl _
end
section
variable {prog : Program} {w : World} {A : Around} {E : Value → Shared → Prop} {s : Shared} {l1 l2 : Addr} {xs ys : Array Value}
/-- list(z) of a fresh zip of two tuples -/
theorem z_list {z TI TO i1 i2 : Addr} {Q : Value → Shared → Prop} (hh : A.handled = none) (D : ZipApart z TI TO i1 i2 l1 l2) (hz : IsZip s.heap z TI TO .none) (hp : IsPair s.heap TI (.ref i1) (.ref i2)) (ho : ∃ x y, IsPair s.heap TO x y) (h1 : s.heap.IsTupleIter i1 l1 0) (h2 : s.heap.IsTupleIter i2 l2 0)
    (hl1 : s.heap.IsTuple l1 xs) (hl2 : s.heap.IsTuple l2 ys) (hxy : xs.size = ys.size) (hn : xs.size ≤ sizeLine)
    (hQ : ∀ h' tk acc c as, (∀ b o, b ≠ z → b ≠ TO → b ≠ i1 → b ≠ i2 → s.heap.get? b = some o → h'.get? b = some o) → h'.get? s.heap.objs.size = some { cls := .type "list", dict := none, data := .seq acc c, slots := #[] } → as.length = xs.size → ZG xs ys (s.heap.objs.size + 1) h' as →
      acc.toList = as.map Value.ref → Q (.ref s.heap.objs.size) { s with heap := h', toks := tk }) :
    wpAny (model prog w) A (call (.type "list") [.ref z]) Q E s := by
  refine callType_codes (Q₁ := fun obj s₁ => obj = .ref s.heap.objs.size ∧ s₁ = { s with heap := s.heap.push { cls := .type "list", data := .seq #[] } }) PySem.F.called_list (PySem.F.typeCall_list_1 _) PySem.F.entry_list_init
    (code_list_new _ ⟨rfl, rfl⟩) fun obj s₁ h₁ => ?_
  obtain ⟨rfl, rfl⟩ := h₁
  have hS : (s.heap.push { cls := .type "list", data := .seq #[] }).get? s.heap.objs.size = some { cls := .type "list", data := .seq #[] } := Heap.get?_push_size _ rfl
  refine ⟨⟨_, hS, rfl⟩, PySem.F.args_list_init_2 _ _, ?_⟩
  have bz : z < s.heap.objs.size := Heap.lt_size hz
  have bI : TI < s.heap.objs.size := Heap.lt_size hp
  have bO : TO < s.heap.objs.size := by obtain ⟨_, _, e⟩ := ho; exact Heap.lt_size e
  have b1 : i1 < s.heap.objs.size := by obtain ⟨_, e, _⟩ := h1; exact Heap.lt_size e
  have b2 : i2 < s.heap.objs.size := by obtain ⟨_, e, _⟩ := h2; exact Heap.lt_size e
  have bl1 : l1 < s.heap.objs.size := by obtain ⟨_, e, _⟩ := hl1; exact Heap.lt_size e
  have bl2 : l2 < s.heap.objs.size := by obtain ⟨_, e, _⟩ := hl2; exact Heap.lt_size e
  obtain ⟨hp', gg, dr, tk, os⟩ := s
  show wpAny _ _ (do let old ← Builtin.List.listItems (.ref hp'.objs.size); Builtin.List.listUpdate (.ref hp'.objs.size) (fun _ => #[]); letGo old.toList.reverse; Builtin.List.listExtendWith (.ref hp'.objs.size) (.ref z) .none) _ _ _
  refine wpAny_bind ?_
  unfold Builtin.List.listItems
  refine wpAny_bind (wpAny_seqItems hS rfl (wpAny_pure ?_))
  show wpAny _ _ (updateSeq hp'.objs.size (fun _ => #[]) >>= fun _ => letGo (#[] : Array Value).toList.reverse >>= fun _ => Builtin.List.listExtendWith (.ref hp'.objs.size) (.ref z) .none) _ _ _
  refine wpAny_bind (wpAny_updateSeq hS rfl ?_)
  have hS₂ := Heap.get?_update_self (Obj.mapSeq (fun _ => (#[] : Array Value))) hS rfl
  have oth : ∀ b o, hp'.get? b = some o → ((hp'.push { cls := .type "list", data := .seq #[] }).update hp'.objs.size (Obj.mapSeq (fun _ => (#[] : Array Value)))).get? b = some o :=
    fun b o e => (Heap.get?_update_other _ _ (Nat.ne_of_gt (Heap.lt_size e))).trans (Heap.get?_push_of_some _ e)
  refine wpAny_bind (wpAny_letGo ?_)
  refine z_extend (xs := xs) (ys := ys) (s := ⟨(hp'.push { cls := .type "list", data := .seq #[] }).update hp'.objs.size (Obj.mapSeq (fun _ => (#[] : Array Value))), gg, dr, tk, os⟩) (A := A.in1) hh D (oth _ _ hz) (oth _ _ hp) (let ⟨x, y, e⟩ := ho; ⟨x, y, oth _ _ e⟩) (h1.at fun o e => oth _ o e) (h2.at fun o e => oth _ o e) (hl1.at fun o e => oth _ o e) (hl2.at fun o e => oth _ o e) hp'.objs.size
    (Nat.ne_of_lt bz) (Nat.ne_of_lt bI) (Nat.ne_of_lt bO) (Nat.ne_of_lt b1) (Nat.ne_of_lt b2) (Nat.ne_of_lt bl1) (Nat.ne_of_lt bl2) .none _ hS₂ hxy hn (fun h' tk' acc c as hk hS' hl hG hacc => ?_)
  have esz : ((hp'.push { cls := .type "list", data := .seq #[] }).update hp'.objs.size (Obj.mapSeq (fun _ => (#[] : Array Value)))).objs.size = hp'.objs.size + 1 := by rw [Heap.size_update, Heap.size_push]
  have hG' : ZG xs ys (hp'.objs.size + 1) h' as := by
    rw [← esz]
    exact hG
  exact ⟨rfl, hQ h' tk' acc c as (fun b o c1 c2 c3 c4 e => hk b o (Nat.ne_of_lt (Heap.lt_size e)) c1 c2 c3 c4 (oth b o e)) hS' hl hG' hacc⟩
end
end ZL
namespace ZL
open PySem PySem.Spec PyProof.Rows L2 RZ
/-- new pairs tracked at their addresses -/
def putP : Hp → List Addr → List (V × V) → Hp
  | H, a :: as, p :: ps => putP (upd H a (.tup [p.1, p.2])) as ps
  | H, _, _ => H
theorem putP_off {b : Addr} : ∀ (as : List Addr) (ps : List (V × V)) (H : Hp), b ∉ as → putP H as ps b = H b
  | [], _, _, _ => rfl
  | _ :: _, [], _, _ => rfl
  | a :: as, p :: ps, H, h => by
    show putP (upd H a (.tup [p.1, p.2])) as ps b = H b
    rw [putP_off as ps _ (fun z => h (List.mem_cons_of_mem _ z)), upd_ne (fun z => h (by rw [z]; exact List.mem_cons_self))]
theorem putP_at : ∀ (as : List Addr) (ps : List (V × V)) (H : Hp), as.length = ps.length → as.Nodup → ∀ (j : Nat) (t : Addr) (p : V × V), as[j]? = some t → ps[j]? = some p → putP H as ps t = some (.tup [p.1, p.2])
  | [], _, _, _, _, j, t, p, h, _ => by simp at h
  | _ :: _, [], _, h, _, _, _, _, _, _ => by cases h
  | a :: as, q :: ps, H, hl, hn, 0, t, p, h, h2 => by
    have hn' := List.nodup_cons.mp hn
    have e1 : a = t := Option.some.inj h
    have e2 : q = p := Option.some.inj h2
    subst e1 e2
    show putP (upd H a (.tup [q.1, q.2])) as ps a = some (.tup [q.1, q.2])
    rw [putP_off as ps _ hn'.1, upd_same]
  | a :: as, q :: ps, H, hl, hn, j + 1, t, p, h, h2 => by
    have hn' := List.nodup_cons.mp hn
    exact putP_at as ps (upd H a (.tup [q.1, q.2])) (Nat.succ.inj hl) hn'.2 j t p h h2
theorem vals_refs : ∀ as : List Addr, Vals (as.map V.ref) (as.map Value.ref)
  | [] => .nil
  | _ :: as => .cons rfl (vals_refs as)
/-- what list(zip(t, u)) leaves -/
def ZNew (H : Hp) (xs ys : List V) (H' : Hp) (p : Addr) (ts : List Addr) : Prop :=
  (∀ b o, H b = some o → H' b = some o) ∧ H p = none ∧ (∀ t ∈ ts, H t = none) ∧ p ∉ ts ∧ ts.Nodup ∧ H' p = some (.lst (ts.map V.ref)) ∧ ts.length = xs.length ∧
    ∀ (j : Nat) (t : Addr), ts[j]? = some t → ∃ x y, xs[j]? = some x ∧ ys[j]? = some y ∧ H' t = some (.tup [x, y])
def tLz (K : PySem.W.Frag) (ta : TA) : TE := fun σ H Q => ta σ H fun vs H1 => ∃ a b xs ys, vs = [.ref a, .ref b] ∧ SqT K H1 a xs ∧ SqT K H1 b ys ∧ xs.length = ys.length ∧ ∀ H' p ts, ZNew H1 xs ys H' p ts → Q (.ref p) H'
section
variable {X : Cx} {e e2 : Expr} {ta : TA} {p p2 pos pos2 : Pos}
theorem pe_listZip (hc : X.calm = true) (hg : Gl X "list") (hm : X.mg "list" = none) (hgz : Gl X "zip") (hmz : X.mg "zip" = none) (ha : PA X [e, e2] ta)
    (hs1 : starEach [.Call (.Name "zip" p2) [e, e2] [] pos2] X.env = (false, eval (.Call (.Name "zip" p2) [e, e2] [] pos2) X.env) :: starEach [] X.env := by rfl)
    (hs : starEach [e, e2] X.env = (false, eval e X.env) :: starEach [e2] X.env := by rfl) (hpl : (backTo pos2 (starEach [e2] X.env)).any (·.1) = false := by rfl) :
    PE X (.Call (.Name "list" p) [.Call (.Name "zip" p2) [e, e2] [] pos2] [] pos) (tLz X.K ta) := by
  refine ⟨fun pins s σ H Q I h => ?_⟩
  refine wpAny_Call_Name_kw (ld_blt I hg hm boot_list ?_)
  refine PyProof.Rows.callWith_type1 ?_ hs1 rfl
  rw [hs1]
  show wpAny _ _ (spliced ((false, eval (.Call (.Name "zip" p2) [e, e2] [] pos2) X.env) :: backTo pos (starEach [] X.env))) _ _ s
  refine Calls.spliced_cons ?_
  refine wpAny_Call_Name_kw (ld_blt I hgz hmz PyProof.Rows.boot_zip (PyProof.Rows.callWith_type1 (thn (ha.run pos2 pins s σ H _ I h) fun us s1 ⟨vs, H1, I1, r1, q1⟩ => ?_) hs hpl))
  obtain ⟨a, b, xs, ys, ex, hx, hy, hl, q⟩ := q1
  subst ex
  cases r1 with
  | cons r rr =>
    cases rr with
    | cons r' rr =>
      cases rr
      cases r
      cases r'
      obtain ⟨its, rv, pt, hzl⟩ := I1.tuple hx
      obtain ⟨its2, rv2, pt2, hzl2⟩ := I1.tuple hy
      have la : a < s1.heap.objs.size := by obtain ⟨_, e, _⟩ := pt; exact Heap.lt_size e
      have lb : b < s1.heap.objs.size := by obtain ⟨_, e, _⟩ := pt2; exact Heap.lt_size e
      refine call_zipT pt pt2 fun h5 hz hp ho h1 h2 hsz hk => Calls.spliced_nil ?_
      have D : ZipApart (s1.heap.objs.size + 4) (s1.heap.objs.size + 2) (s1.heap.objs.size + 3) s1.heap.objs.size (s1.heap.objs.size + 1) a b := by
        have la' : a < s1.heap.objs.size + 0 := la
        have lb' : b < s1.heap.objs.size + 0 := lb
        have ne : ∀ (c n m k : Nat), c < n + 0 → c ≠ n + k := fun c n m k h => by omega
        have nn : ∀ (n i j : Nat), i ≠ j → n + i ≠ n + j := fun n i j h => by omega
        exact ⟨nn _ _ _ (by decide), nn _ _ _ (by decide), nn _ 0 _ (by decide), nn _ _ _ (by decide), nn _ _ _ (by decide), nn _ _ 0 (by decide), nn _ _ _ (by decide), nn _ _ 0 (by decide), nn _ _ _ (by decide), nn _ 0 _ (by decide),
          ne _ _ 0 _ la', ne _ _ 0 _ la', ne _ _ 0 0 la', ne _ _ 0 _ la', ne _ _ 0 _ lb', ne _ _ 0 _ lb', ne _ _ 0 0 lb', ne _ _ 0 _ lb'⟩
      have le1 := rv.length
      have le2 := rv2.length
      refine z_list (xs := its.toArray) (ys := its2.toArray) (s := { s1 with heap := h5 }) (I1.ok.hd hc) D hz hp ⟨_, _, ho⟩ h1 h2 (let ⟨o, e, z⟩ := pt; ⟨o, hk _ _ e, z⟩) (let ⟨o, e, z⟩ := pt2; ⟨o, hk _ _ e, z⟩) (by simp; omega) (by simp; omega) fun h' tk acc c as hk' hS hal hG hacc => ?_
      -- the pairs
      have hps : ∃ ps : List (V × V), ps.length = xs.length ∧ ∀ j x y, xs[j]? = some x → ys[j]? = some y → ps[j]? = some (x, y) := ⟨xs.zip ys, by rw [List.length_zip]; omega, fun j x y h1 h2 => List.getElem?_zip_eq_some.mpr ⟨h1, h2⟩⟩
      obtain ⟨ps, hpl', hpx⟩ := hps
      have e5 : h5.objs.size = s1.heap.objs.size + 5 := hsz
      have nd : as.Nodup := List.Pairwise.imp (fun {a b} (h : a < b) => Nat.ne_of_lt h) hG.rise
      have old : ∀ c o, s1.heap.get? c = some o → h'.get? c = some o := fun c o e => by
        have lc : c < s1.heap.objs.size := Heap.lt_size e
        have nn : ∀ (c n k : Nat), c < n → c ≠ n + k := fun c n k h => by omega
        exact hk' c o (nn _ _ _ lc) (nn _ _ _ lc) (nn _ _ 0 lc) (nn _ _ _ lc) (hk c o e)
      have ab : ∀ t ∈ as, s1.heap.objs.size ≤ t := fun t ht => by
        have z := hG.above t ht
        have z' : h5.objs.size + 1 ≤ t := z
        exact Nat.le_trans (by rw [e5]; exact Nat.le_trans (Nat.le_add_right _ 5) (Nat.le_succ _)) z'
      have hpn : h5.objs.size ∉ as := fun z => by
        have z' : h5.objs.size + 1 ≤ h5.objs.size := hG.above _ z
        exact absurd z' (Nat.not_succ_le_self _)
      have sz5 : s1.heap.objs.size ≤ h5.objs.size := by rw [e5]; exact Nat.le_add_right _ 5
      have new : ∀ t ∈ as, H1 t = none := fun t ht => I1.hok.fresh (ab t ht)
      have newS : H1 h5.objs.size = none := I1.hok.fresh sz5
      have hasl : as.length = xs.length := by rw [hal]; simp; omega
      have off : ∀ b, b ∉ as → b ≠ h5.objs.size → putP (upd H1 h5.objs.size (.lst (as.map V.ref))) as ps b = H1 b := fun b h1 h2 => by rw [putP_off as ps _ h1, upd_ne h2]
      have kp : ∀ b u, H1 b = some u → (putP (upd H1 h5.objs.size (.lst (as.map V.ref))) as ps) b = some u := fun b u e => by
        rw [off b (fun z => by rw [new b z] at e; cases e) (fun z => by rw [z, newS] at e; cases e)]
        exact e
      have eS : putP (upd H1 h5.objs.size (.lst (as.map V.ref))) as ps h5.objs.size = some (.lst (as.map V.ref)) := by rw [putP_off as ps _ hpn, upd_same]
      have atj : ∀ (j : Nat) (t : Addr), as[j]? = some t → ∃ x y u v, xs[j]? = some x ∧ ys[j]? = some y ∧ RelV x u ∧ RelV y v ∧ IsPair h' t u v ∧ putP (upd H1 h5.objs.size (.lst (as.map V.ref))) as ps t = some (.tup [x, y]) := fun j t hj => by
        obtain ⟨u, v, g1, g2, g3⟩ := hG.pairs j t hj
        have lj : j < as.length := (List.getElem?_eq_some_iff.mp hj).1
        have lx : j < xs.length := by omega
        have ly : j < ys.length := by omega
        have gx : xs[j]? = some xs[j] := List.getElem?_eq_getElem lx
        have gy : ys[j]? = some ys[j] := List.getElem?_eq_getElem ly
        obtain ⟨u', hu', ru⟩ := rv.get gx
        obtain ⟨v', hv', rv'⟩ := rv2.get gy
        have eu : u' = u := Option.some.inj (hu'.symm.trans (by simpa using g1))
        have ev : v' = v := Option.some.inj (hv'.symm.trans (by simpa using g2))
        subst eu ev
        exact ⟨_, _, _, _, gx, gy, ru, rv', g3, putP_at as ps _ (by omega) nd j t (xs[j], ys[j]) hj (hpx j _ _ gx gy)⟩
      have J : Inv X pins σ (putP (upd H1 h5.objs.size (.lst (as.map V.ref))) as ps) { s1 with heap := h', toks := tk } := by
        refine I1.call' (ch := []) rfl ⟨fun b o q _ _ _ => old b o q, fun b o q _ _ _ => ⟨o.slots, old b o q⟩, fun b o q n _ => ?_, fun b o q _ => ⟨o, old b o q⟩, fun b xs q => kp b _ q, fun b o u q => kp b _ q, fun b ps q => ⟨#[], by rw [kp b _ q]; simp⟩⟩ (fun b u q => ?_) I1.bare fun b z => by simp at z
        · have lb' : b < s1.heap.objs.size := Heap.lt_size q
          rw [off b (fun z => absurd lb' (Nat.not_lt.mpr (ab b z))) (fun z => absurd (Nat.lt_of_lt_of_le lb' sz5) (by rw [z]; exact Nat.lt_irrefl _))]
          exact n
        · by_cases hb : b ∈ as
          · obtain ⟨j, hj⟩ := List.mem_iff_getElem?.mp hb
            obtain ⟨x, y, u1, v1, _, _, r1, r2, pr, ep⟩ := atj j b hj
            rw [ep] at q
            cases q
            exact ⟨by show 2 ≤ sizeLine; decide, [u1, v1], .cons r1 (.cons r2 .nil), ⟨_, pr, rfl, _, rfl⟩⟩
          · by_cases hb2 : b = h5.objs.size
            · rw [hb2] at q ⊢
              rw [eS] at q
              cases q
              refine ⟨by rw [List.length_map]; omega, acc.toList, c, by rw [hacc]; exact vals_refs as, ?_⟩
              rw [Array.toArray_toList]
              exact hS
            · rw [off b hb hb2] at q
              exact (I1.hok b u q).stay (fun d v _ y => old d v y) (fun d y => kp d _ y) fun d xs y => kp d _ y
      refine ⟨.ref h5.objs.size, _, J, rfl, q _ _ as ⟨kp, newS, new, hpn, nd, eS, hasl, fun j t hj => ?_⟩⟩
      obtain ⟨x, y, u1, v1, gx, gy, _, _, _, ep⟩ := atj j t hj
      exact ⟨x, y, gx, gy, ep⟩
end
end ZL
set_option Elab.async false
set_option linter.all false
set_option maxRecDepth 100000
set_option maxHeartbeats 4000000
/-! for i, x in enumerate(t), t a tuple -/
namespace EnT
open PySem
theorem new_one {v : Value} {o : Obj} {H : Heap → Prop} (B : Begins v o H) :
    Meets (Builtin.«enumerate.__new__» ⟨[.type "enumerate", v], []⟩) (fun _ R s => H s.heap ∧
      R (.ok (.ret (.ref (s.heap.push o).objs.size))) { s with heap := (s.heap.push o).push { cls := .type "enumerate", data := .fields #[.none, .bool false, .ref s.heap.objs.size, rawInt 0, .none, .none] } }) :=
  .of_wp fun prog w A R s h => by
    obtain ⟨h0, g0, d0, k0, o0⟩ := s; obtain ⟨hH, hR⟩ := h
    have sube := sub_enumerate
    have it1 : ∀ {A' : Around} {E' : Value → Shared → Prop} {Q' : Value → Shared → Prop}, Q' (.ref h0.objs.size) ⟨h0.push o, g0, d0, k0, o0⟩ → wpAny (model prog w) A' (pyIter v) Q' E' ⟨h0, g0, d0, k0, o0⟩ :=
      fun q => B.iter prog w _ _ ⟨h0, g0, d0, k0, o0⟩ _ hH q
    wp_walk using it1
    refine wpAny_stack_any fun st => wpAny_pure ?_
    split
    · rename_i c _ _ _ _ _
      cases (c == Value.type "enumerate") <;> (wp_walk using it1; exact ⟨_, rfl, hR⟩)
    · wp_walk using it1
      exact ⟨_, rfl, hR⟩
section
variable {prog : Program} {w : World} {A : Around} {E : Value → Shared → Prop} {s : Shared}
theorem call_one {v : Value} {o : Obj} {H : Heap → Prop} {Q : Value → Shared → Prop} (B : Begins v o H) (hH : H s.heap)
    (q : ∀ h', IsEnum h' (s.heap.objs.size + 1) s.heap.objs.size 0 .none → h'.get? s.heap.objs.size = some o → h'.objs.size = s.heap.objs.size + 2 → (∀ b u, s.heap.get? b = some u → h'.get? b = some u) → Q (.ref (s.heap.objs.size + 1)) { s with heap := h' }) :
    wpAny (model prog w) A (call (.type "enumerate") [v]) Q E s := by
  refine callType_new F.called_enumerate (by decide) (F.typeCall_enumerate_1 _) (F.newCall_enumerate_1 _) (fun obj => F.args_object_init_2 obj _) F.entry_enumerate_new (new_one B) ⟨hH, ?_⟩
  have z1 : (s.heap.push o).objs.size = s.heap.objs.size + 1 := Heap.size_push ..
  show _ ∧ _
  rw [z1]
  have e1 : IsEnum ((s.heap.push o).push { cls := .type "enumerate", data := .fields #[.none, .bool false, .ref s.heap.objs.size, rawInt 0, .none, .none] }) (s.heap.objs.size + 1) s.heap.objs.size 0 .none := by
    have z2 := Heap.get?_push_size (s.heap.push o) (o := { cls := .type "enumerate", data := .fields #[.none, .bool false, .ref s.heap.objs.size, rawInt 0, .none, .none] }) rfl
    rw [z1] at z2; exact z2
  exact ⟨⟨_, e1, rfl⟩, q _ e1 (Heap.get?_push_of_some _ (Heap.get?_push_size _ B.free)) (by rw [Heap.size_push, z1]) fun b u x => Heap.get?_push_of_some _ (Heap.get?_push_of_some _ x)⟩
end
end EnT
namespace EnT
open PySem PySem.Spec PyProof.Rows L2
/-- the tuple at a, each item in a new pair with its number -/
def IteT (K : PySem.W.Frag) (a : Addr) (n : Nat) : It :=
  ⟨fun i H => ∃ (xs : List V) (x : V), SqT K H a xs ∧ xs.length = n ∧ xs[i]? = some x, fun i H v H' => ∃ T x, v = .ref T ∧ H T = none ∧ H' = upd H T (.tup [.int (i : Nat), x]) ∧ ∀ xs, SqT K H a xs → xs[i]? = some x, fun i H => ∃ xs : List V, SqT K H a xs ∧ xs.length = n ∧ n ≤ i⟩
theorem turnT {P : Program} {w : World} {K : PySem.W.Frag} {elts : List Expr} {kk : Nat} {tpos : Pos} (a e it : Addr) (n : Nat) (nei : e ≠ it) (nai : a ≠ it) (nae : a ≠ e) :
    Turn P w K (.Tuple elts kk tpos) (IteT K a n) [e, it] e (fun i h => (∃ old, IsEnum h e it ((i : Nat) : Int) old) ∧ h.IsTupleIter it a i ∧ i ≤ n) where
  mem := by simp
  obj := fun i h st b hb => by
    obtain ⟨⟨old, he⟩, ⟨o, ho, _, hd⟩, _⟩ := st
    rcases (show b = e ∨ b = it by simpa using hb) with z | z
    · subst z
      exact ⟨_, he, fun v q => nomatch q⟩
    · subst z
      exact ⟨o, ho, fun v q => by rw [hd] at q; cases q⟩
  keep := fun i h h' st k => ⟨st.1.imp fun old he => k e (by simp) _ he, st.2.1.at fun o q => k it (by simp) o q, st.2.2⟩
  item := by
    intro X hP hw hK hc i pins s σ H E I hf st hg
    subst hP hw hK
    obtain ⟨⟨old, he⟩, hit, hin⟩ := st
    obtain ⟨xs, x, hq, hxn, hx⟩ := hg
    have hlx : i < xs.length := (List.getElem?_eq_some_iff.mp hx).1
    obtain ⟨its, rv, pt, _⟩ := I.tuple hq
    obtain ⟨u, hu, ru⟩ := rv.get hx
    have le : e < s.heap.objs.size := Heap.lt_size he
    have li : it < s.heap.objs.size := by obtain ⟨_, q, _⟩ := hit; exact Heap.lt_size q
    have hlt : i < its.toArray.size := by
      have := (List.getElem?_eq_some_iff.mp hu).1
      simpa using this
    refine wpAny_pyNext_enum_itemC (Draws.tuple (A := X.A.in1) (I.ok.hd hc) it a nai its.toArray) he (i := i) ⟨hit, pt⟩ hlt nei (by
      intro z
      rcases (show e = it ∨ e = a by simpa using z) with z | z
      · exact nei z
      · exact nae z.symm) fun x' h' tk hx' ho hst' hT hsz hk => ?_
    have ex : x' = u := by
      have z : its[i]? = some x' := by simpa using hx'
      exact Option.some.inj (z.symm.trans hu)
    subst ex
    refine ⟨_, rfl, wpAny_letOwnedTupleGo_enum (s := { s with heap := h', toks := tk + 1 }) ho fun h2 he' sb => ?_⟩
    have hT2 : h2.get? s.heap.objs.size = some { cls := .type "tuple", data := .seq #[.int i tk, x'] } := (sb.2 _ (Nat.ne_of_gt le)).trans hT
    have nw : ObjOk X.prog X.w (upd H s.heap.objs.size (.tup [.int (i : Nat), x])) h2 s.heap.objs.size (.tup [.int (i : Nat), x]) :=
      ⟨by show 2 ≤ sizeLine; decide, [.int i tk, x'], .cons ⟨_, rfl⟩ (.cons ru .nil), ⟨_, hT2, rfl, _, rfl⟩⟩
    have I1 : Inv X pins σ (upd H s.heap.objs.size (.tup [.int (i : Nat), x])) { s with heap := h2, toks := tk + 1 } :=
      I.turnedNew (ch := [e, it]) (fun b ob hb q => (sb.2 b (fun z => hb (by simp [z]))).trans (hk b ob (fun z => hb (by simp [z])) (fun z => hb (by simp [z])) q)) hf (Nat.le_refl _) nw
    refine ⟨.ref s.heap.objs.size, _, I1, rfl, ⟨_, x, rfl, I.hok.fresh (Nat.le_refl _), rfl, fun ys hy => by rw [I.tuple_inj hy hq]; exact hx⟩, ⟨⟨x', ?_⟩, hst'.1.at fun o q => (sb.2 it nei.symm).trans q, by omega⟩, fun b hb => ?_⟩
    · rw [show ((i + 1 : Nat) : Int) = (i : Int) + 1 by omega]
      exact he'
    · have lb : b < s.heap.objs.size := by
        rcases (show b = e ∨ b = it by simpa using hb) with z | z <;> (subst z; assumption)
      rw [upd_ne (Nat.ne_of_lt lb)]
      exact (hf b hb).1
  done := by
    intro X hP hw hK hc i pins s σ H E I hf st hg
    subst hP hw hK
    obtain ⟨⟨old, he⟩, hit, hin⟩ := st
    obtain ⟨xs, hq, hxn, hx⟩ := hg
    obtain ⟨its, rv, pt, _⟩ := I.tuple hq
    obtain ⟨f0, f1, f2, f3, f4, f5⟩ := hf it (by simp)
    have hl := rv.length
    have ei : its.toArray.size = i := by simp; omega
    subst ei
    exact wpAny_pyNext_enum_endD (Draws.tuple (A := X.A.in1) (I.ok.hd hc) it a nai its.toArray) he ⟨hit, pt⟩ fun h' eb => ⟨rfl, I.turned (t' := s.toks) (fun b o hb q => eb b o hb q) f0 f1 f3 f4 f5⟩
  self := fun A i s Q E st h => by
    obtain ⟨⟨_, he⟩, _⟩ := st
    exact wpAny_pyIter_enum he h
def iEnumT (K : PySem.W.Frag) (ta : TA) : TI := fun σ H R => ta σ H fun vs H1 => ∃ a xs, vs = [.ref a] ∧ SqT K H1 a xs ∧ R (IteT K a xs.length) H1
theorem pi_enumT {X : Cx} {e : Expr} {ta : TA} {p pos tpos : Pos} {elts : List Expr} {kk : Nat} (hg : Gl X "enumerate") (hm : X.mg "enumerate" = none) (ha : PA X [e] ta) (hs : starEach [e] X.env = [(false, eval e X.env)] := by rfl) :
    PI X (.Tuple elts kk tpos) (.Call (.Name "enumerate" p) [e] [] pos) (iEnumT X.K ta) := by
  refine ⟨fun pins s0 σ H R I h => Call_ (ld_blt I hg hm boot_enumerate (PyProof.Rows.callWith_type1 (thn (ha.run pos pins s0 σ H _ I h) fun us s1 ⟨vs, H1, I1, r1, q1⟩ => ?_) hs rfl))⟩
  obtain ⟨a, xs, ex, hq, q⟩ := q1
  subst ex
  cases r1 with
  | cons r rr =>
    cases rr
    cases r
    obtain ⟨its, rv, pt, _⟩ := I1.tuple hq
    have la : a < s1.heap.objs.size := by obtain ⟨_, z, _⟩ := pt; exact Heap.lt_size z
    refine call_one (begins_tuple a its.toArray) pt fun h' he hit hsz hk => wpAny_pyIter_enum he ?_
    have I2 : Inv X pins σ H1 { s1 with heap := h' } := I1.kept (t' := s1.toks) hk
    refine ⟨s1.heap.objs.size + 1, [s1.heap.objs.size + 1, s1.heap.objs.size], _, _, H1, rfl, I2, turnT a (s1.heap.objs.size + 1) s1.heap.objs.size xs.length (Nat.succ_ne_self _) (Nat.ne_of_lt la) (Nat.ne_of_lt (Nat.lt_succ_of_lt la)), ⟨⟨.none, he⟩, ⟨_, hit, rfl, rfl⟩, Nat.zero_le _⟩, fun b hb => ?_, q⟩
    have hle : s1.heap.objs.size ≤ b := by
      rcases (show b = s1.heap.objs.size + 1 ∨ b = s1.heap.objs.size by simpa using hb) with z | z <;> (subst z; first | exact Nat.le_succ _ | exact Nat.le_refl _)
    exact I1.fpOk hle (I1.hok.fresh hle)
/-- a for over it, by an invariant -/
theorem for_enumT {K : PySem.W.Frag} {a : Addr} {xs : List V} {g : TG} {tb : TS} {D : Ends} {σ : L2.St} {H : Hp} (Pv : Nat → L2.St → Hp → Prop) (h0 : Pv 0 σ H) (hq : ∀ i σ H, Pv i σ H → SqT K H a xs)
    (hs : ∀ (i : Nat) (x : V) (T : Addr) (σ : L2.St) (H : Hp), xs[i]? = some x → Pv i σ H → H T = none → g (.ref T) σ (upd H T (.tup [.int (i : Nat), x])) fun σ2 H2 => tb { D with nx := Pv (i + 1), ct := Pv (i + 1), bk := D.nx } σ2 H2) (hd : ∀ σ H, Pv xs.length σ H → D.nx σ H) :
    ∃ W : Nat → Nat → L2.St → Hp → Prop, (∃ m, W 0 m σ H) ∧ ∀ i m σ H, W i m σ H →
      ((IteT K a xs.length).stop i H ∧ D.nx σ H) ∨ ((IteT K a xs.length).go i H ∧ ∃ N : L2.St → Hp → Prop, (∀ σ' H', N σ' H' → ∃ m', m' < m ∧ W (i + 1) m' σ' H') ∧ ∀ v H', (IteT K a xs.length).yld i H v H' → g v σ H' fun σ2 H2 => tb { D with nx := N, ct := N, bk := D.nx } σ2 H2) := by
  refine ⟨fun i m σ H => m = xs.length - i ∧ i ≤ xs.length ∧ Pv i σ H, ⟨xs.length, rfl, Nat.zero_le _, h0⟩, ?_⟩
  rintro i m σ H ⟨rfl, hi, pv⟩
  have qx := hq i σ H pv
  by_cases hlt : i < xs.length
  · refine .inr ⟨⟨xs, xs[i], qx, rfl, List.getElem?_eq_getElem hlt⟩, Pv (i + 1), fun σ' H' p' => ⟨xs.length - (i + 1), by omega, rfl, hlt, p'⟩, fun v H' y => ?_⟩
    obtain ⟨T, x, rfl, nT, rfl, fx⟩ := y
    exact hs i x T σ H (fx xs qx) pv nT
  · have e : i = xs.length := by omega
    subst e
    exact .inl ⟨⟨xs, qx, rfl, Nat.le_refl _⟩, hd σ H pv⟩
end EnT
set_option linter.all false
namespace KX
open PySem PySem.Spec L2
theorem pg_tupK {X : Cx} {pos : Pos} (K : PySem.W.Frag) {es : List Expr} {k : Nat} {t : TGs} {n : Nat} (hc : X.calm = true) (h : PGs X es t)
    (hn : (assignEach es X.env).length = n := by rfl) (hst : (assignEach es X.env).findIdx? (·.1) = none := by rfl) (hK : X.K = K := by rfl) : PG X (.Tuple es k pos) (gTup K n t) := by
  subst hK
  exact pg_tup hc h hn hst
def rTup (K : PySem.W.Frag) : List V → Hp → VK → Prop := fun xs H Q => ∃ p ys, xs = [V.ref p] ∧ ((SqL K H p ys ∧ ∀ (l : Addr), H l = none → Q (V.ref l) (upd H l (HO.tup ys))) ∨ SqT K H p ys ∧ Q (V.ref p) H)
theorem call_tuple_K {X : Cx} (K : PySem.W.Frag) (hK : X.K = K := by rfl) : CallR X (Value.type "tuple") (rTup K) := by
  subst hK
  exact call_tuple_of
theorem ix_listK {X : Cx} (K : PySem.W.Frag) (hK : X.K = K := by rfl) : IxR X (rIxL K) := by
  subst hK
  exact ix_list
theorem ix_tupK {X : Cx} (K : PySem.W.Frag) (hK : X.K = K := by rfl) : IxR X (rIxT K) := by
  subst hK
  exact ix_tup
theorem in_seqK {X : Cx} (K : PySem.W.Frag) (hK : X.K = K := by rfl) : OpR X (compareOp CmpOp.In) (rIn K false) := by
  subst hK
  exact op_in_seq
theorem mt_indexK {X : Cx} (K : PySem.W.Frag) (hK : X.K = K := by rfl) : MtR X "list.index" (rIndex K) := by
  subst hK
  exact mt_index
theorem pi_tupK {X : Cx} (K : PySem.W.Frag) {tg l : Expr} {tl : TE} (h : PE X l tl) (hK : X.K = K := by rfl) : PI X tg l (iTup K tl) := by
  subst hK
  exact pi_tup h
theorem pi_listK {X : Cx} (K : PySem.W.Frag) {tg l : Expr} {tl : TE} (h : PE X l tl) (hK : X.K = K := by rfl) : PI X tg l (iList K tl) := by
  subst hK
  exact pi_list h
theorem hu {A : Around} {k : Nat} (hr : Room k A) : A.units + 1 < cLine := by have := hr.units; omega
theorem pe_bmK {X : Cx} (K : PySem.W.Frag) {o e : Expr} {es : List Expr} {to : TE} {t : TA} {name : Str} {apos cpos : Pos} {T id : String} {r : V → List V → Hp → VK → Prop} (h1 : PlainAttrs T) (h2 : Slot T name id) (h3 : typeOf (Value.builtin id) = pure (Value.type "method_descriptor")) (h4 : MtR X id r) (h5 : PE X o to) (h6 : PA X (e :: es) t)
    (a1 : attributeBase o name X.env (eval o X.env) = eval o X.env := by rfl)
    (a2 : ((((backTo cpos (starEach (e :: es) X.env)).all fun x => !x.fst) && (backToKw cpos (keywordEach [] X.env)).all fun x => x.fst.isSome) && decide (((e :: es).length + ([] : List Keyword).length + if ([] : List Keyword).isEmpty = true then 0 else 1) < 30)) = true := by rfl)
    (a3 : (apos.endLine == cpos.line) = true := by rfl) (a4 : starEach (e :: es) X.env = (false, eval e X.env) :: starEach es X.env := by rfl) (a5 : ((backTo cpos (starEach es X.env)).any fun x => x.fst) = false := by rfl) (hK : X.K = K := by rfl) :
    PE X ((o.Attribute name apos).Call (e :: es) [] cpos) (tBM K T r to t) := by
  subst hK
  exact pe_bm h1 h2 h3 h4 h5 h6 a1 a2 a3 a4 a5
end KX
set_option Elab.async false
set_option linter.all false
set_option maxRecDepth 100000
set_option maxHeartbeats 2000000
namespace B06
open PySem PySem.Spec PyProof.Rows L2
def topS (i : Nat) : Stmt := PySem.Challenge.pw_boughkept_k06_woods_and_names.main.body.getD i (.Pass ⟨0, 0, 0, 0⟩)
abbrev st_isname : Stmt := topS 9
theorem sc_isname : FnScope ["text", "sign"] ["text"] (defScope st_isname) := ⟨rfl, rfl, rfl, by decide +kernel, rfl, by decide +kernel, by decide +kernel⟩
abbrev st_lookwood : Stmt := topS 10
theorem sc_lookwood : FnScope ["wood", "kinds", "makers", "kind", "own", "maker"] ["wood"] (defScope st_lookwood) := ⟨rfl, rfl, rfl, by decide +kernel, rfl, by decide +kernel, by decide +kernel⟩
abbrev st_lookkinds : Stmt := topS 11
theorem sc_lookkinds : FnScope ["wood", "kinds", "name", "makers"] ["wood"] (defScope st_lookkinds) := ⟨rfl, rfl, rfl, by decide +kernel, rfl, by decide +kernel, by decide +kernel⟩
abbrev st_lookmakers : Stmt := topS 12
theorem sc_lookmakers : FnScope ["kinds", "makers", "ahead", "name", "parts", "part"] ["kinds", "makers"] (defScope st_lookmakers) := ⟨rfl, rfl, rfl, by decide +kernel, rfl, by decide +kernel, by decide +kernel⟩
abbrev st_table : Stmt := topS 13
theorem sc_table : FnScope ["wood", "name", "makers", "numbers", "table", "kind", "parts", "number", "part"] ["wood"] (defScope st_table) := ⟨rfl, rfl, rfl, by decide +kernel, rfl, by decide +kernel, by decide +kernel⟩
abbrev st_makersof : Stmt := topS 14
theorem sc_makersof : FnScope ["wood"] ["wood"] (defScope st_makersof) := ⟨rfl, rfl, rfl, by decide +kernel, rfl, by decide +kernel, by decide +kernel⟩
abbrev st_kindof : Stmt := topS 15
theorem sc_kindof : FnScope ["wood", "maker"] ["wood", "maker"] (defScope st_kindof) := ⟨rfl, rfl, rfl, by decide +kernel, rfl, by decide +kernel, by decide +kernel⟩
abbrev st_partsof : Stmt := topS 16
theorem sc_partsof : FnScope ["wood", "maker"] ["wood", "maker"] (defScope st_partsof) := ⟨rfl, rfl, rfl, by decide +kernel, rfl, by decide +kernel, by decide +kernel⟩
abbrev st_box : Stmt := topS 18
theorem sc_box : FnScope ["_law_script", "_law_k", "_law_cell", "_law_seed"] ["_law_script", "_law_k"] (defScope st_box) := ⟨rfl, rfl, rfl, by decide +kernel, rfl, by decide +kernel, by decide +kernel⟩
abbrev st_take : Stmt := topS 19
theorem sc_take : FnScope ["_law_box_here", "_law_many", "_law_digit", "_law_one"] ["_law_box_here", "_law_many"] (defScope st_take) := ⟨rfl, rfl, rfl, by decide +kernel, rfl, by decide +kernel, by decide +kernel⟩
abbrev st_names : Stmt := topS 20
theorem sc_names : FnScope ["_law_box_here", "_law_many", "_law_letters", "_law_k", "_law_stem", "_law_found", "_law_form", "_law_at", "_law_name", "_law_j"] ["_law_box_here", "_law_many"] (defScope st_names) := ⟨rfl, rfl, rfl, by decide +kernel, rfl, by decide +kernel, by decide +kernel⟩
abbrev st_wood : Stmt := topS 21
theorem sc_wood : FnScope ["_law_box_here", "_law_most", "_law_plain", "_law_many", "_law_kinds", "_law_some", "_law_names_here", "_law_k", "_law_rows", "_law_name", "_law_kind", "_law_wide", "_law_parts", "_law_row", "_law_j"] ["_law_box_here", "_law_most"] (defScope st_wood) := ⟨rfl, rfl, rfl, by decide +kernel, rfl, by decide +kernel, by decide +kernel⟩
abbrev st_lmakers : Stmt := topS 22
theorem sc_lmakers : FnScope ["_law_wood_here", "_law_name", "_law_makers_here", "_law_kinds", "_law_found", "_law_kind", "_law_maker", "_law_parts", "_law_part"] ["_law_wood_here"] (defScope st_lmakers) := ⟨rfl, rfl, rfl, by decide +kernel, rfl, by decide +kernel, by decide +kernel⟩
abbrev st_lisname : Stmt := topS 23
theorem sc_lisname : FnScope ["_law_text", "_law_sign"] ["_law_text"] (defScope st_lisname) := ⟨rfl, rfl, rfl, by decide +kernel, rfl, by decide +kernel, by decide +kernel⟩
abbrev st_anytext : Stmt := topS 24
theorem sc_anytext : FnScope ["_law_box_here", "_law_some", "_law_signs", "_law_many", "_law_k"] ["_law_box_here"] (defScope st_anytext) := ⟨rfl, rfl, rfl, by decide +kernel, rfl, by decide +kernel, by decide +kernel⟩
abbrev st_alike : Stmt := topS 25
theorem sc_alike : FnScope ["_law_found", "_law_due", "_law_left", "_law_one", "_law_other"] ["_law_found", "_law_due"] (defScope st_alike) := ⟨rfl, rfl, rfl, by decide +kernel, rfl, by decide +kernel, by decide +kernel⟩
abbrev st_right : Stmt := topS 26
theorem sc_right : FnScope ["_law_wood_here", "_law_due", "_law_found", "_law_name", "_law_kind", "_law_parts", "_law_makers_here"] ["_law_wood_here"] (defScope st_right) := ⟨rfl, rfl, rfl, by decide +kernel, rfl, by decide +kernel, by decide +kernel⟩
abbrev st_law : Stmt := topS 27
theorem sc_law : FnScope ["_law_script", "_law_woods", "_law_k", "_law_box_here", "_law_turn", "_law_text", "_law_wood_here"] ["_law_script"] (defScope st_law) := ⟨rfl, rfl, rfl, by decide +kernel, rfl, by decide +kernel, by decide +kernel⟩

structure Tx (P : Program) (K : PySem.W.Frag) (mg : Str → Option Value) : Type where
  f_isname : Addr
  fd_isname : FuncData
  F_isname : Fun K "is_name" "is_name" st_isname f_isname fd_isname
  g_isname : mg "is_name" = some (.ref f_isname)
  b_isname : Binds K fd_isname ["text"] []
  f_lookwood : Addr
  fd_lookwood : FuncData
  F_lookwood : Fun K "look_wood" "look_wood" st_lookwood f_lookwood fd_lookwood
  g_lookwood : mg "look_wood" = some (.ref f_lookwood)
  b_lookwood : Binds K fd_lookwood ["wood"] []
  f_lookkinds : Addr
  fd_lookkinds : FuncData
  F_lookkinds : Fun K "look_kinds" "look_kinds" st_lookkinds f_lookkinds fd_lookkinds
  g_lookkinds : mg "look_kinds" = some (.ref f_lookkinds)
  b_lookkinds : Binds K fd_lookkinds ["wood"] []
  f_lookmakers : Addr
  fd_lookmakers : FuncData
  F_lookmakers : Fun K "look_makers" "look_makers" st_lookmakers f_lookmakers fd_lookmakers
  g_lookmakers : mg "look_makers" = some (.ref f_lookmakers)
  b_lookmakers : Binds K fd_lookmakers ["kinds", "makers"] []
  f_table : Addr
  fd_table : FuncData
  F_table : Fun K "maker_table" "maker_table" st_table f_table fd_table
  g_table : mg "maker_table" = some (.ref f_table)
  b_table : Binds K fd_table ["wood"] []
  f_makersof : Addr
  fd_makersof : FuncData
  F_makersof : Fun K "makers_of" "makers_of" st_makersof f_makersof fd_makersof
  g_makersof : mg "makers_of" = some (.ref f_makersof)
  b_makersof : Binds K fd_makersof ["wood"] []
  f_kindof : Addr
  fd_kindof : FuncData
  F_kindof : Fun K "kind_of" "kind_of" st_kindof f_kindof fd_kindof
  g_kindof : mg "kind_of" = some (.ref f_kindof)
  b_kindof : Binds K fd_kindof ["wood", "maker"] []
  f_partsof : Addr
  fd_partsof : FuncData
  F_partsof : Fun K "parts_of" "parts_of" st_partsof f_partsof fd_partsof
  g_partsof : mg "parts_of" = some (.ref f_partsof)
  b_partsof : Binds K fd_partsof ["wood", "maker"] []
  f_box : Addr
  fd_box : FuncData
  F_box : Fun K "_law_box" "_law_box" st_box f_box fd_box
  g_box : mg "_law_box" = some (.ref f_box)
  b_box : Binds K fd_box ["_law_script", "_law_k"] []
  f_take : Addr
  fd_take : FuncData
  F_take : Fun K "_law_take" "_law_take" st_take f_take fd_take
  g_take : mg "_law_take" = some (.ref f_take)
  b_take : Binds K fd_take ["_law_box_here", "_law_many"] []
  f_names : Addr
  fd_names : FuncData
  F_names : Fun K "_law_names" "_law_names" st_names f_names fd_names
  g_names : mg "_law_names" = some (.ref f_names)
  b_names : Binds K fd_names ["_law_box_here", "_law_many"] []
  f_wood : Addr
  fd_wood : FuncData
  F_wood : Fun K "_law_wood" "_law_wood" st_wood f_wood fd_wood
  g_wood : mg "_law_wood" = some (.ref f_wood)
  b_wood : Binds K fd_wood ["_law_box_here", "_law_most"] []
  f_lmakers : Addr
  fd_lmakers : FuncData
  F_lmakers : Fun K "_law_makers" "_law_makers" st_lmakers f_lmakers fd_lmakers
  g_lmakers : mg "_law_makers" = some (.ref f_lmakers)
  b_lmakers : Binds K fd_lmakers ["_law_wood_here"] []
  f_lisname : Addr
  fd_lisname : FuncData
  F_lisname : Fun K "_law_is_name" "_law_is_name" st_lisname f_lisname fd_lisname
  g_lisname : mg "_law_is_name" = some (.ref f_lisname)
  b_lisname : Binds K fd_lisname ["_law_text"] []
  f_anytext : Addr
  fd_anytext : FuncData
  F_anytext : Fun K "_law_any_text" "_law_any_text" st_anytext f_anytext fd_anytext
  g_anytext : mg "_law_any_text" = some (.ref f_anytext)
  b_anytext : Binds K fd_anytext ["_law_box_here"] []
  f_alike : Addr
  fd_alike : FuncData
  F_alike : Fun K "_law_alike" "_law_alike" st_alike f_alike fd_alike
  g_alike : mg "_law_alike" = some (.ref f_alike)
  b_alike : Binds K fd_alike ["_law_found", "_law_due"] []
  f_right : Addr
  fd_right : FuncData
  F_right : Fun K "_law_right" "_law_right" st_right f_right fd_right
  g_right : mg "_law_right" = some (.ref f_right)
  b_right : Binds K fd_right ["_law_wood_here"] []
  m_len : mg "len" = none
  m_int : mg "int" = none
  m_bool : mg "bool" = none
  m_list : mg "list" = none
  m_tuple : mg "tuple" = none
  m_zip : mg "zip" = none
  m_isinstance : mg "isinstance" = none
  m_max : mg "max" = none
  m_min : mg "min" = none
  m_range : mg "range" = none
  m_enumerate : mg "enumerate" = none
  m_all : mg "all" = none
  t_LETTERS : Tok
  c_LETTERS : mg "LETTERS" = some (.str (Str.ofString "abcdefghijklmnopqrstuvwxyz") t_LETTERS)
  t_MOST_LETTERS : Tok
  c_MOST_LETTERS : mg "MOST_LETTERS" = some (.int 6 t_MOST_LETTERS)
  t_MOST_KINDS : Tok
  c_MOST_KINDS : mg "MOST_KINDS" = some (.int 4 t_MOST_KINDS)
  t_MOST_MAKERS : Tok
  c_MOST_MAKERS : mg "MOST_MAKERS" = some (.int 12 t_MOST_MAKERS)
  t_MOST_PARTS : Tok
  c_MOST_PARTS : mg "MOST_PARTS" = some (.int 2 t_MOST_PARTS)
/-! ### heaps -/
theorem same_new {H : Hp} {p : Addr} {o : HO} (h : H p = none) : Same H (upd H p o) := fun b x e => by
  rw [upd_ne (ne_of_none e h)]
  exact e
/-- three ints at a: the law's draw -/
def Drw (H : Hp) (a : Addr) : Prop := ∃ x y z : Int, H a = some (.lst [.int x, .int y, .int z])
theorem Drw.ne {H : Hp} {a p : Addr} (d : Drw H a) (n : H p = none) : a ≠ p := by
  obtain ⟨x, y, z, e⟩ := d
  exact ne_of_none e n
theorem Drw.mono {H H' : Hp} {a : Addr} (d : Drw H a) (s : Same H H') : Drw H' a := by
  obtain ⟨x, y, z, e⟩ := d
  exact ⟨x, y, z, s _ _ e⟩
/-- all but the draw at a is as it was, and a draw stands there -/
def Gr (a : Addr) (H H' : Hp) : Prop := (∀ b o, b ≠ a → H b = some o → H' b = some o) ∧ Drw H' a
theorem Gr.trans {a : Addr} {H H1 H2 : Hp} (x : Gr a H H1) (y : Gr a H1 H2) : Gr a H H2 := ⟨fun b o n e => y.1 b o n (x.1 b o n e), y.2⟩
theorem Gr.of {a : Addr} {H H' : Hp} (s : Same H H') (d : Drw H a) : Gr a H H' := ⟨fun b o _ e => s b o e, by
  obtain ⟨x, y, z, e⟩ := d
  exact ⟨x, y, z, s _ _ e⟩⟩
theorem Gr.set {a : Addr} {H : Hp} {x y z : Int} : Gr a H (upd H a (.lst [.int x, .int y, .int z])) := ⟨fun b o n e => by
  rw [upd_ne n]
  exact e, ⟨x, y, z, upd_same⟩⟩
theorem Gr.same {a : Addr} {H0 H H' : Hp} (n : H0 a = none) (s : Same H0 H) (g : Gr a H H') : Same H0 H' := fun b o e => g.1 b o (ne_of_none e n) (s b o e)
/-! ### mathematics -/
theorem nz {j : Int} (h : (j == 0) = false) : j ≠ 0 := by simpa using h
theorem fmod_pos {i j : Int} (h : 0 < j) : 0 ≤ i.fmod j ∧ i.fmod j < j := by
  rw [Int.fmod_eq_emod_of_nonneg i (Int.le_of_lt h)]
  exact ⟨Int.emod_nonneg i (by omega), Int.emod_lt_of_pos i h⟩
/-- a comprehension that changes nothing that stood before, its list told -/
theorem lc_pure {J : It} {n : Nat} {G : Hp → Prop} {Y : Nat → Hp → V → Hp → Prop} (wk : Walk J n G Y) {g : TG} {tt : TT} {te : TE} {vs : List Nat} {σ : L2.St} {H1 : Hp} {D : Addr} {Qd : Hp → Prop} (nD : H1 D = none) (ys : List V) (hn : ys.length = n) (h1000 : n ≤ 100000)
    (hG : ∀ H, Same H1 H → G H)
    (hs : ∀ i x y H H', ys[i]? = some y → Same H1 H → Y i H x H' → g x (wipe σ vs) H' fun σ2 H2 => wipe σ2 vs = wipe σ vs ∧ tt σ2 H2 fun b H3 => b = true ∧ te σ2 H3 fun y' H4 => y' = y ∧ Same H H4)
    (mg : ∀ x σ H Q Q', (∀ σ2 H2, Q σ2 H2 → Q' σ2 H2) → g x σ H Q → g x σ H Q') (mt : ∀ σ H Q Q', (∀ b H2, Q b H2 → Q' b H2) → tt σ H Q → tt σ H Q') (me : ∀ σ H Q Q', (∀ v H2, Q v H2 → Q' v H2) → te σ H Q → te σ H Q')
    (hd : ∀ H, Same H1 H → H D = some (.lst ys) → Qd H) :
    ∃ W : Nat → Nat → Hp → Prop, (∃ m, W 0 m (upd H1 D (.lst []))) ∧ ∀ i m H, W i m H →
      (J.stop i H ∧ Qd H) ∨ (J.go i H ∧ ∃ Nx : Hp → Prop, (∀ H', Nx H' → ∃ m', m' < m ∧ W (i + 1) m' H') ∧ ∀ x H', J.yld i H x H' → g x (wipe σ vs) H' fun σ2 H2 => wipe σ2 vs = wipe σ vs ∧ tt σ2 H2 fun b H3 =>
        if b = true then te σ2 H3 fun y H4 => ∃ acc, H4 D = some (.lst acc) ∧ acc.length < sizeLine ∧ Nx (upd H4 D (.lst (acc ++ [y]))) else Nx H3) := by
  refine lc_it wk (fun i H => Same H1 H ∧ H D = some (.lst (ys.take i))) ⟨same_new nD, upd_same⟩ (fun i H hi p => hG H p.1) (fun i x H H' hi p y => ?_) (fun H p => hd H p.1 (by rw [p.2, ← hn, List.take_length]))
  have hi' : i < ys.length := by omega
  have gy : ys[i]? = some ys[i] := List.getElem?_eq_getElem hi'
  refine mg _ _ _ _ _ (fun σ2 H2 q => ⟨q.1, mt _ _ _ _ (fun b H3 q => ?_) q.2⟩) (hs i x ys[i] H H' gy p.1 y)
  obtain ⟨rfl, q⟩ := q
  refine iteT (me _ _ _ _ (fun v H4 q => ?_) q)
  obtain ⟨rfl, s4⟩ := q
  refine ⟨_, s4 _ _ p.2, Nat.lt_of_le_of_lt (show _ ≤ 100000 by rw [List.length_take]; omega) (by decide), ?_, ?_⟩
  · exact fun b o e => by
      rw [upd_ne (ne_of_none e nD)]
      exact s4 _ _ (p.1 _ _ e)
  · rw [upd_same, List.take_add_one, gy]
    rfl
section
variable {P : Program} {w : World} {K : PySem.W.Frag} {mg : Str → Option Value} {base : Heap}
/-! ### the draw -/
def spTake : Sp := fun vs H Q _ => ∃ (a : Addr) (many : Int), vs = [.ref a, .int many] ∧ Drw H a ∧ 0 < many ∧ many.natAbs < 2 ^ 8000 ∧ ∀ (d : Int) (H' : Hp), 0 ≤ d → d < many → Gr a H H' → Q (.int d) H'
theorem ok_take (T : Tx P K mg) : FnOk P w K mg base CX0 1 T.f_take T.fd_take ["_law_box_here", "_law_many"] spTake := by
  refine T.F_take.ok sc_take (fun vs H Q E h => ?_) (fun cdv A outer s H vs Q E hr h => ?_)
  · obtain ⟨a, b, rfl, _⟩ := h
    rfl
  · obtain ⟨a, many, rfl, ⟨x, y, z, ea⟩, hm, hb, q⟩ := h
    refine ⟨_, (pss_cons (ps_if (pt_cmpR op_gt (pe_ix ix_list (pv 0) pe_int (fun _ _ => rfl)) pe_int (nomark _)) (pss_cons (ps_set (i := 2) sc_take.nd rfl (.inl rfl) (pe_op op_modN (pe_ix ix_list (pv 0) pe_int (fun _ _ => rfl)) (pv 1))) (pss_cons (ps_asg (pe_op op_fdivW (pe_ix ix_list (pv 0) pe_int (fun _ _ => rfl)) (pv 1)) (pg_sub (pv 0) pe_int set_list)) (pss_one (ps_ret (pv 2))))) pss_nil) (pss_cons (ps_asg (pe_op op_add (pe_ix ix_list (pv 0) pe_int (fun _ _ => rfl)) pe_int) (pg_sub (pv 0) pe_int set_list)) (pss_cons (ps_set (i := 3) sc_take.nd rfl (.inl rfl) (pe_op op_modN (pe_op op_mul (pe_op op_add (pe_ix ix_list (pv 0) pe_int (fun _ _ => rfl)) (pe_op op_mul pe_int (pe_ix ix_list (pv 0) pe_int (fun _ _ => rfl)))) pe_int) pe_int)) (pss_cons (ps_asg (pe_op op_add (pe_op op_modN (pe_op op_add (pe_op op_mul (pv 3) pe_int) pe_int) pe_int) pe_int) (pg_sub (pv 0) pe_int set_list)) (pss_one (ps_ret (pe_op op_modN (pe_op op_fdivW (pe_op op_add (pe_op op_mul (pv 3) pe_int) (pe_ix ix_list (pv 0) pe_int (fun _ _ => rfl))) pe_int) (pv 1)))))))), ?_⟩
    have at0 : ∀ {u v t : V}, atI [u, v, t] 0 = some u := fun {u v t} => rfl
    have at1 : ∀ {u v t : V}, atI [u, v, t] 1 = some v := fun {u v t} => rfl
    have at2 : ∀ {u v t : V}, atI [u, v, t] 2 = some t := fun {u v t} => rfl
    refine ⟨.ref a, rfl, a, _, 0, .int x, rfl, rfl, SqL.of ea, at0, _, _, rfl, rfl, _, rfl, ite2 (fun c => ?_) (fun c => ?_)⟩
    · refine ⟨.ref a, rfl, a, _, 0, .int x, rfl, rfl, SqL.of ea, at0, .int many, rfl, _, _, rfl, rfl, by omega, ?_⟩
      refine ⟨.ref a, rfl, a, _, 0, .int x, rfl, rfl, SqL.of ea, at0, .int many, rfl, _, _, rfl, rfl, wide_div hm hb (by decide) (by decide), .ref a, rfl, a, _, 0, 0, rfl, rfl, ea, rfl, ?_⟩
      have f := fmod_pos (i := x) hm
      exact ⟨_, rfl, q _ _ f.1 f.2 Gr.set⟩
    · refine ⟨.ref a, rfl, a, _, 2, .int z, rfl, rfl, SqL.of ea, at2, _, _, rfl, rfl, .ref a, rfl, a, _, 2, 2, rfl, rfl, ea, rfl, ?_⟩
      have e1 : upd H a (.lst ([V.int x, .int y, .int z].set 2 (.int (z + 1)))) a = some (.lst [.int x, .int y, .int (z + 1)]) := upd_same
      refine ⟨.ref a, rfl, a, _, 1, .int y, rfl, rfl, SqL.of e1, at1, .ref a, rfl, a, _, 2, .int (z + 1), rfl, rfl, SqL.of e1, at2, _, _, rfl, rfl, .inl ⟨by decide, by decide⟩, _, _, rfl, rfl, _, _, rfl, rfl, .inr ⟨by decide, by decide⟩, _, _, rfl, rfl, nz rfl, ?_⟩
      refine ⟨_, rfl, _, _, rfl, rfl, .inr ⟨by decide, by decide⟩, _, _, rfl, rfl, _, _, rfl, rfl, nz rfl, _, _, rfl, rfl, .ref a, rfl, a, _, 1, 1, rfl, rfl, e1, rfl, ?_⟩
      refine ⟨_, rfl, _, _, rfl, rfl, .inr ⟨by decide, by decide⟩, .ref a, rfl, a, _, 1, _, rfl, rfl, SqL.of upd_same, at1, _, _, rfl, rfl, _, _, rfl, rfl, ⟨by decide, by decide⟩, .int many, rfl, _, _, rfl, rfl, by omega, ?_⟩
      have f := fun i => fmod_pos (i := i) hm
      refine q _ _ (f _).1 (f _).2 (Gr.trans Gr.set Gr.set)
/-! ### a fresh draw -/
def spBox (K : PySem.W.Frag) : Sp := fun vs H Q _ => ∃ (a : Addr) (ns : List Int) (k : Int), vs = [.ref a, .int k] ∧ SqL K H a (ns.map V.int) ∧ 0 ≤ k ∧ k ≤ 1000 ∧ ∀ (p : Addr) (H' : Hp), H p = none → Same H H' → Drw H' p → Q (.ref p) H'
theorem at_int {ns : List Int} {k : Int} (h0 : 0 ≤ k) (h1 : k < ns.length) : ∃ v, atI (ns.map V.int) k = some (.int v) := by
  have l : k.toNat < ns.length := by omega
  refine ⟨ns[k.toNat], at_of (j := k.toNat) (by omega) ?_⟩
  rw [List.getElem?_map, List.getElem?_eq_getElem l]
  rfl
theorem s0 : 0 ≤ sizeLine := by decide
theorem s1 : 1 ≤ sizeLine := by decide
theorem s2 : 2 ≤ sizeLine := by decide
theorem s3 : 3 ≤ sizeLine := by decide
theorem s4 : 4 ≤ sizeLine := by decide
theorem ix01 {c : Int} {b : Bool} : ∃ v, atI [V.int 0, V.int c] (if b = true then 1 else 0) = some (.int v) := by
  cases b
  · exact ⟨0, rfl⟩
  · exact ⟨c, rfl⟩
theorem new2 {H : Hp} {p p2 : Addr} {o : HO} (h : H p = none) (h2 : upd H p o p2 = none) : H p2 = none := Same.free (same_new h) h2
theorem ok_box (T : Tx P K mg) : FnOk P w K mg base CX0 1 T.f_box T.fd_box ["_law_script", "_law_k"] (spBox K) := by
  refine T.F_box.ok sc_box (fun vs H Q E h => ?_) (fun cdv A outer s H vs Q E hr h => ?_)
  · obtain ⟨a, b, k, rfl, _⟩ := h
    rfl
  · obtain ⟨a, ns, k, rfl, hS, h0, h1, q⟩ := h
    refine ⟨_, (pss_cons (ps_set (i := 2) sc_box.nd rfl (.inl rfl) (pe_op op_add (pe_op op_mul pe_int (pv 1)) pe_int)) (pss_cons (ps_if (pt_cmpR op_lt (pv 1) (pe_callB call_len_seq (by rfl) T.m_len PySem.boot_len (pa_cons (pv 0) pa_nil)) (nomark _)) (pss_one (ps_set (i := 2) sc_box.nd rfl (.inl rfl) (pe_ix ix_list (pv 0) (pv 1) (fun _ _ => rfl)))) (pss_one (ps_if (pt_cmpR op_gt (pe_callB call_len_seq (by rfl) T.m_len PySem.boot_len (pa_cons (pv 0) pa_nil)) pe_int (nomark _)) (pss_one (ps_set (i := 2) sc_box.nd rfl (.inl rfl) (pe_op op_add (pv 2) (pe_op op_mul (pe_op op_modN (pe_ix ix_list (pv 0) (pe_op op_modN (pv 1) (pe_callB call_len_seq (by rfl) T.m_len PySem.boot_len (pa_cons (pv 0) pa_nil))) (fun _ _ => rfl)) pe_int) pe_int)))) pss_nil))) (pss_cons (ps_set (i := 3) sc_box.nd rfl (.inl rfl) (pe_op op_add (pe_op op_modN (pe_op op_add (pe_op op_mul (pe_op op_modN (pv 2) pe_int) pe_int) (pe_op op_mul pe_int (pv 1))) pe_int) pe_int)) (pss_one (ps_ret (pe_lst (pa_cons (pe_ix ix_list (pe_lst (pa_cons pe_int (pa_cons (pv 2) pa_nil))) (pe_callTy call_int1 (by rfl) T.m_int (by decide +kernel) (pa_cons (pe_cmpR op_ge (pv 2) (pe_op op_pow pe_int pe_int) (nomark _)) pa_nil)) (fun _ _ => rfl)) (pa_cons (pv 3) (pa_cons pe_int pa_nil))))))))), ?_⟩
    refine ⟨_, rfl, _, _, rfl, rfl, .inl ⟨by decide, by decide⟩, _, _, rfl, rfl, ?_⟩
    refine ⟨_, rfl, .ref a, rfl, a, _, rfl, .inl hS, _, _, rfl, rfl, _, rfl, ite2 (fun c => ?_) (fun c => ?_)⟩
    rotate_left
    · refine ⟨.ref a, rfl, a, _, rfl, .inl hS, _, _, rfl, rfl, _, rfl, ite2 (fun c2 => ?_) (fun c2 => ?_)⟩
      · have l0 : (0 : Int) < ((ns.map V.int).length : Int) := of_decide_eq_true c2
        have f := fmod_pos (i := k) l0
        obtain ⟨v, hv⟩ := at_int (ns := ns) (k := k.fmod ((ns.map V.int).length : Int)) f.1 (by rw [List.length_map] at f ⊢; exact f.2)
        refine ⟨_, rfl, .ref a, rfl, _, rfl, .ref a, rfl, a, _, rfl, .inl hS, _, _, rfl, rfl, by omega, a, _, _, _, rfl, rfl, hS, hv, _, _, rfl, rfl, nz rfl, _, _, rfl, rfl, .inr ⟨by decide, by decide⟩, _, _, rfl, rfl, ?_⟩
        refine ⟨_, rfl, _, _, rfl, rfl, nz rfl, _, _, rfl, rfl, .inr ⟨by decide, by decide⟩, _, rfl, _, _, rfl, rfl, .inl ⟨by decide, by decide⟩, _, _, rfl, rfl, _, _, rfl, rfl, nz rfl, _, _, rfl, rfl, ?_⟩
        refine ⟨_, rfl, s2, fun p hp => ⟨_, rfl, _, _, rfl, rfl, ⟨by decide, by decide, by decide⟩, _, _, rfl, rfl, .inr ⟨_, rfl, ?_⟩⟩⟩
        obtain ⟨v, hv⟩ := ix01 (c := _) (b := _)
        refine ⟨p, _, _, _, rfl, rfl, SqL.of upd_same, hv, _, rfl, s3, fun p2 hp2 => ?_⟩
        exact q p2 _ (new2 hp hp2) ((same_new hp).trans (same_new hp2)) ⟨_, _, _, upd_same⟩
      · refine ⟨_, rfl, _, _, rfl, rfl, nz rfl, _, _, rfl, rfl, .inr ⟨by decide, by decide⟩, _, rfl, _, _, rfl, rfl, .inl ⟨by decide, by decide⟩, _, _, rfl, rfl, _, _, rfl, rfl, nz rfl, _, _, rfl, rfl, ?_⟩
        refine ⟨_, rfl, s2, fun p hp => ⟨_, rfl, _, _, rfl, rfl, ⟨by decide, by decide, by decide⟩, _, _, rfl, rfl, .inr ⟨_, rfl, ?_⟩⟩⟩
        obtain ⟨v, hv⟩ := ix01 (c := _) (b := _)
        refine ⟨p, _, _, _, rfl, rfl, SqL.of upd_same, hv, _, rfl, s3, fun p2 hp2 => ?_⟩
        exact q p2 _ (new2 hp hp2) ((same_new hp).trans (same_new hp2)) ⟨_, _, _, upd_same⟩
    · have l0 : k < ((ns.map V.int).length : Int) := of_decide_eq_true c
      obtain ⟨v, hv⟩ := at_int (ns := ns) h0 (by rw [List.length_map] at l0; exact l0)
      refine ⟨.ref a, rfl, _, rfl, a, _, _, _, rfl, rfl, hS, hv, ?_⟩
      refine ⟨_, rfl, _, _, rfl, rfl, nz rfl, _, _, rfl, rfl, .inr ⟨by decide, by decide⟩, _, rfl, _, _, rfl, rfl, .inl ⟨by decide, by decide⟩, _, _, rfl, rfl, _, _, rfl, rfl, nz rfl, _, _, rfl, rfl, ?_⟩
      refine ⟨_, rfl, s2, fun p hp => ⟨_, rfl, _, _, rfl, rfl, ⟨by decide, by decide, by decide⟩, _, _, rfl, rfl, .inr ⟨_, rfl, ?_⟩⟩⟩
      obtain ⟨v, hv⟩ := ix01 (c := _) (b := _)
      refine ⟨p, _, _, _, rfl, rfl, SqL.of upd_same, hv, _, rfl, s3, fun p2 hp2 => ?_⟩
      exact q p2 _ (new2 hp hp2) ((same_new hp).trans (same_new hp2)) ⟨_, _, _, upd_same⟩
end

/-! ### names -/
def abc : List Nat := (Str.ofString "abcdefghijklmnopqrstuvwxyz").cps.toList
/-- whether z is a name -/
def nmB (z : Str) : Bool := decide (1 ≤ z.length) && decide (z.length ≤ 6) && !decide (z = Str.ofString "kind") && z.cps.toList.all fun c => decide (c ∈ abc)
theorem nmB_no {z : Str} (h : ¬ (1 ≤ z.length ∧ z.length ≤ 6) ∨ z = Str.ofString "kind") : nmB z = false := by
  unfold nmB
  rcases h with h | h
  · by_cases h1 : 1 ≤ z.length
    · have h2 : ¬ z.length ≤ 6 := fun z => h ⟨h1, z⟩
      simp [h2]
    · simp [h1]
  · simp [h]
theorem nmB_yes {z : Str} (h1 : 1 ≤ z.length) (h2 : z.length ≤ 6) (h3 : z ≠ Str.ofString "kind") : nmB z = z.cps.toList.all fun c => decide (c ∈ abc) := by
  unfold nmB
  simp [h1, h2, h3]
theorem tNext_mono {g : TG} : True := trivial
section
variable {P : Program} {w : World} {K : PySem.W.Frag} {mg : Str → Option Value} {base : Heap}
def spIs : Sp := fun vs H Q _ => ∃ z : Str, vs = [.str z] ∧ z.length ≤ 10000 ∧ ∀ H', Same H H' → Q (.bl (nmB z)) H'
theorem ok_isname (T : Tx P K mg) : FnOk P w K mg base CX0 1 T.f_isname T.fd_isname ["text"] spIs := by
  refine T.F_isname.ok sc_isname (fun vs H Q E h => ?_) (fun cdv A outer s H vs Q E hr h => ?_)
  · obtain ⟨a, rfl, _⟩ := h
    rfl
  · obtain ⟨z, rfl, hz, q⟩ := h
    refine ⟨_, (pss_cons (ps_if (PW.pt (pw_or (pt_not (pt_chain op_le op_le pe_int (pe_callB call_len_str (by rfl) T.m_len PySem.boot_len (pa_cons (pv 0) pa_nil)) (pe_glob (v := .int 6) (by rfl) T.c_MOST_LETTERS ⟨_, rfl⟩))) (pw_or1 (pt_cmpR op_eq (pv 0) pe_str (nomark _))))) (pss_one (ps_ret pe_bl)) pss_nil) (pss_one (ps_ret (pe_callB (cr_all rfl) (by rfl) T.m_all (by decide +kernel) (pa_cons (pe_lc (own := [("sign", 1)]) (by rfl) sc_isname.nd (pi_str (pv 0)) (blkOk_by (own := [("sign", 1)]) (N := ["text", "sign"]) (sc := defScope st_isname) (by decide +kernel)) (fun _ _ _ _ _ => (pg_name (i := 1) sc_isname.nd rfl (.inl rfl))) (fun _ _ _ _ _ => pts_nil) (fun _ _ _ _ _ => (pe_cmpR op_in_sign (pv 1) (pe_glob (v := .str (Str.ofString "abcdefghijklmnopqrstuvwxyz")) (by rfl) T.c_LETTERS ⟨_, rfl⟩) (by rfl)))) pa_nil))))), ?_⟩
    have hz' : z.length ≤ sizeLine := Nat.le_trans hz (by decide)
    have rest : ∀ (H0 : Hp), True := fun _ => trivial
    refine ⟨_, rfl, _, rfl, hz', _, _, rfl, rfl, _, rfl, ?_⟩
    by_cases h1 : (1 : Int) ≤ (z.length : Int)
    · rw [decide_eq_true h1]
      refine iteT ⟨_, _, rfl, rfl, _, rfl, ?_⟩
      by_cases h2 : (z.length : Int) ≤ 6
      · rw [decide_eq_true h2]
        refine iteF ?_
        refine ⟨_, rfl, rfl, _, rfl, ?_⟩
        by_cases h3 : z = Str.ofString "kind"
        · rw [show decide (V.str z = V.str (Str.ofString "kind")) = true by simp [h3]]
          refine iteT ?_
          have := q H (Same.refl H)
          rw [nmB_no (.inr h3)] at this
          exact this
        · rw [show decide (V.str z = V.str (Str.ofString "kind")) = false by simp [h3]]
          refine iteF ?_
          rw [nmB_yes (by omega) (by omega) h3] at q
          refine ⟨_, rfl, z, rfl, fun D nD => ?_⟩
          refine lc_pure walk_str nD (z.cps.toList.map fun c => V.bl (decide (c ∈ abc))) (by simp) (by show z.length ≤ 100000; omega) (fun _ _ => trivial) (fun i x y H2 H3 hy s2 hY => ?_) (fun x σ H Q Q' f h => f _ _ h) (fun σ H Q Q' f h => f _ _ h) (fun σ H Q Q' f h => ?_) (fun H2 s2 e2 => ?_)
          · obtain ⟨rfl, c, hc, rfl⟩ := hY
            refine ⟨rfl, rfl, _, rfl, c, _, rfl, rfl, ?_, Same.refl _⟩
            rw [List.getElem?_map] at hy
            have hc' : z.cps.toList[i]? = some c := by simpa using hc
            rw [hc'] at hy
            exact Option.some.inj hy
          · obtain ⟨v, e, c, z', e1, e2, q⟩ := h
            exact ⟨v, e, c, z', e1, e2, f _ _ q⟩
          · refine ⟨D, z.cps.toList.map fun c => decide (c ∈ abc), rfl, SqL.of (by rw [e2, List.map_map]; rfl), ?_⟩
            rw [List.all_map]
            exact q H2 s2
      · rw [decide_eq_false h2]
        refine iteT ?_
        have := q H (Same.refl H)
        rw [nmB_no (.inl (by omega))] at this
        exact this
    · rw [decide_eq_false h1]
      refine iteF ⟨_, rfl, iteT ?_⟩
      have := q H (Same.refl H)
      rw [nmB_no (.inl (by omega))] at this
      exact this
end

/-! ### texts as lists of signs -/
def S (cs : List Nat) : Str := ⟨cs.toArray⟩
theorem S_list (cs : List Nat) : (S cs).cps.toList = cs := by simp [S]
theorem S_len (cs : List Nat) : (S cs).length = cs.length := by simp [S, Str.length]
theorem S_eta (z : Str) : S z.cps.toList = z := by
  cases z
  simp [S]
theorem S_inj {a b : List Nat} : S a = S b ↔ a = b := ⟨fun h => by
  have := congrArg (fun z : Str => z.cps.toList) h
  rw [S_list, S_list] at this
  exact this, fun h => by rw [h]⟩
theorem S_add (a b : List Nat) : S a ++ S b = S (a ++ b) := by
  show Str.append (S a) (S b) = S (a ++ b)
  simp [S, Str.append]
theorem S_to (a : List Nat) (k : Nat) : cutS (S a) none (some (k : Int)) = S (a.take k) := by
  unfold cutS
  rw [S_list, S_len, HT.sIx_none, HT.sIx_nat, List.drop_zero, Nat.sub_zero]
  show S (a.take (min k a.length)) = S (a.take k)
  rw [S_inj, List.take_eq_take_iff]
  omega
theorem S_from (a : List Nat) (k : Nat) : cutS (S a) (some (k : Int)) none = S (a.drop k) := by
  unfold cutS
  rw [S_list, S_len, HT.sIx_none, HT.sIx_nat]
  show S ((a.drop (min k a.length)).take (a.length - min k a.length)) = S (a.drop k)
  rw [S_inj, List.take_of_length_le (by rw [List.length_drop]; exact Nat.le_refl _)]
  by_cases h : k ≤ a.length
  · rw [Nat.min_eq_left h]
  · rw [Nat.min_eq_right (by omega), List.drop_eq_nil_of_le (Nat.le_refl _), List.drop_eq_nil_of_le (by omega)]
/-- single signs joined without anything between -/
theorem S_join : ∀ cs : List Nat, Str.join (Str.ofString "") (cs.map fun c => S [c]) = S cs
  | [] => rfl
  | [c] => rfl
  | c :: d :: r => by
    show S [c] ++ Str.ofString "" ++ Str.join (Str.ofString "") ((d :: r).map fun c => S [c]) = S (c :: d :: r)
    rw [S_join (d :: r), show (Str.ofString "" : Str) = S [] from rfl, S_add, S_add]
    rfl
theorem nmB_S {cs : List Nat} : nmB (S cs) = true ↔ 1 ≤ cs.length ∧ cs.length ≤ 6 ∧ S cs ≠ Str.ofString "kind" ∧ ∀ c ∈ cs, c ∈ abc := by
  unfold nmB
  rw [S_len, S_list]
  simp [Bool.and_eq_true, List.all_eq_true]
  constructor
  · rintro ⟨⟨⟨a, b⟩, c⟩, d⟩
    exact ⟨a, b, c, d⟩
  · rintro ⟨a, b, c, d⟩
    exact ⟨⟨⟨a, b⟩, c⟩, d⟩
theorem inV_S {n : List Nat} : ∀ ns : List (List Nat), inV (.str (S n)) (ns.map fun m => V.str (S m)) = decide (n ∈ ns)
  | [] => rfl
  | m :: r => by
    show (eqV (.str (S m)) (.str (S n)) || inV (.str (S n)) (r.map fun m => V.str (S m))) = _
    rw [inV_S r]
    show ((S m == S n) || decide (n ∈ r)) = _
    by_cases h : m = n
    · subst h
      simp
    · have h1 : (S m == S n) = false := by
        rw [beq_eq_false_iff_ne]
        exact fun z => h (S_inj.mp z)
      have h2 : (n ∈ m :: r) ↔ n ∈ r := ⟨fun z => by
        rcases List.mem_cons.mp z with z | z
        · exact absurd z.symm h
        · exact z, fun z => List.mem_cons_of_mem _ z⟩
      rw [h1, Bool.false_or]
      exact decide_eq_decide.mpr h2.symm
/-! ### pigeons -/
theorem nodup_le {α : Type} [DecidableEq α] : ∀ {l m : List α}, l.Nodup → (∀ x ∈ l, x ∈ m) → l.length ≤ m.length
  | [], _, _, _ => Nat.zero_le _
  | a :: l, m, hn, hs => by
    have hn' := List.nodup_cons.mp hn
    have ha : a ∈ m := hs a List.mem_cons_self
    have h1 : l.length ≤ (m.erase a).length := nodup_le hn'.2 fun x hx => (List.mem_erase_of_ne (fun z => hn'.1 (by rw [← z]; exact hx))).mpr (hs x (List.mem_cons_of_mem _ hx))
    have h2 := List.length_erase_of_mem ha
    have h3 : 0 < m.length := List.length_pos_of_mem ha
    rw [List.length_cons]
    omega
def letter (i : Nat) : Nat := abc.getD (i % 26) 0
theorem letter_abc (i : Nat) : letter i ∈ abc := by
  have h : ∀ j : Fin 26, abc.getD j.1 0 ∈ abc := by decide
  exact h ⟨i % 26, Nat.mod_lt _ (by decide)⟩
theorem letter_inj {i j : Nat} (hi : i < 26) (hj : j < 26) (h : letter i = letter j) : i = j := by
  have k : ∀ a b : Fin 26, abc.getD a.1 0 = abc.getD b.1 0 → a = b := by decide
  unfold letter at h
  rw [Nat.mod_eq_of_lt hi, Nat.mod_eq_of_lt hj] at h
  have := k ⟨i, hi⟩ ⟨j, hj⟩ h
  exact congrArg Fin.val this
/-- among the 26 first letters one leads to no name of found and not to kind -/
theorem free_letter (tail : List Nat) (found : List (List Nat)) (hf : found.length ≤ 12) (c : Nat) : ∃ k, k < 26 ∧ (letter (c + k) :: tail) ∉ found ∧ S (letter (c + k) :: tail) ≠ Str.ofString "kind" := by
  apply Classical.byContradiction
  intro hno
  have all : ∀ k, k < 26 → (letter (c + k) :: tail) ∈ (Str.ofString "kind").cps.toList :: found := fun k hk => by
    by_cases h1 : (letter (c + k) :: tail) ∈ found
    · exact List.mem_cons_of_mem _ h1
    · by_cases h2 : S (letter (c + k) :: tail) = Str.ofString "kind"
      · have h3 := congrArg (fun z : Str => z.cps.toList) h2
        rw [S_list] at h3
        rw [h3]
        exact List.mem_cons_self
      · exact absurd ⟨k, hk, h1, h2⟩ hno
  have nd : ((List.range 26).map fun k => letter (c + k) :: tail).Nodup := by
    refine List.pairwise_map.mpr (List.Pairwise.imp_of_mem (fun {i j} hi hj hne h => hne ?_) (List.nodup_range (n := 26)))
    have hi' := List.mem_range.mp hi
    have hj' := List.mem_range.mp hj
    have h1 : letter (c + i) = letter (c + j) := (List.cons.inj h).1
    have h2 : letter ((c + i) % 26) = letter ((c + j) % 26) := by
      unfold letter at h1 ⊢
      rw [Nat.mod_mod, Nat.mod_mod]
      exact h1
    have h3 := letter_inj (Nat.mod_lt _ (by decide)) (Nat.mod_lt _ (by decide)) h2
    omega
  have le := nodup_le nd (m := (Str.ofString "kind").cps.toList :: found) (fun x hx => by
    obtain ⟨k, hk, rfl⟩ := List.mem_map.mp hx
    exact all k (List.mem_range.mp hk))
  rw [List.length_map, List.length_range, List.length_cons] at le
  omega

/-! ### comprehensions that draw -/
theorem lc_draw {a : Addr} {n : Nat} {g : TG} {tt : TT} {te : TE} {vs : List Nat} {σ : L2.St} {H1 : Hp} {D : Addr} {Qd : Hp → Prop} {lo : Int} (nD : H1 D = none) (dr : Drw H1 a) (h1000 : n ≤ 10000) (Pd : V → Prop)
    (hs : ∀ (i : Nat) (H : Hp), i < n → Gr a H1 H → g (.int (lo + i)) (wipe σ vs) H fun σ2 H2 => wipe σ2 vs = wipe σ vs ∧ tt σ2 H2 fun b H3 => b = true ∧ te σ2 H3 fun y H4 => Pd y ∧ Gr a H H4)
    (mg : ∀ x σ H Q Q', (∀ σ2 H2, Q σ2 H2 → Q' σ2 H2) → g x σ H Q → g x σ H Q') (mt : ∀ σ H Q Q', (∀ b H2, Q b H2 → Q' b H2) → tt σ H Q → tt σ H Q') (me : ∀ σ H Q Q', (∀ v H2, Q v H2 → Q' v H2) → te σ H Q → te σ H Q')
    (hd : ∀ (H : Hp) (acc : List V), Gr a H1 H → H D = some (.lst acc) → acc.length = n → (∀ v ∈ acc, Pd v) → Qd H) :
    ∃ W : Nat → Nat → Hp → Prop, (∃ m, W 0 m (upd H1 D (.lst []))) ∧ ∀ i m H, W i m H →
      ((Itr lo n).stop i H ∧ Qd H) ∨ ((Itr lo n).go i H ∧ ∃ Nx : Hp → Prop, (∀ H', Nx H' → ∃ m', m' < m ∧ W (i + 1) m' H') ∧ ∀ x H', (Itr lo n).yld i H x H' → g x (wipe σ vs) H' fun σ2 H2 => wipe σ2 vs = wipe σ vs ∧ tt σ2 H2 fun b H3 =>
        if b = true then te σ2 H3 fun y H4 => ∃ acc, H4 D = some (.lst acc) ∧ acc.length < sizeLine ∧ Nx (upd H4 D (.lst (acc ++ [y]))) else Nx H3) := by
  have naD : a ≠ D := dr.ne nD
  refine lc_range (lo := lo) (n := n) (fun i H => Gr a H1 H ∧ ∃ acc, H D = some (.lst acc) ∧ acc.length = i ∧ ∀ v ∈ acc, Pd v) ⟨Gr.of (same_new nD) dr, [], upd_same, rfl, fun v hv => nomatch hv⟩ (fun i H hi p => ?_) (fun H p => ?_)
  · obtain ⟨gr, acc, eD, hl, hP⟩ := p
    refine mg _ _ _ _ _ (fun σ2 H2 q => ⟨q.1, mt _ _ _ _ (fun b H3 q => ?_) q.2⟩) (hs i H hi gr)
    obtain ⟨rfl, q⟩ := q
    refine iteT (me _ _ _ _ (fun v H4 q => ?_) q)
    obtain ⟨pv, g4⟩ := q
    refine ⟨acc, g4.1 _ _ naD.symm eD, Nat.lt_of_le_of_lt (show acc.length ≤ 10000 by omega) (by decide), ⟨fun b o nb e => ?_, ?_⟩, acc ++ [v], upd_same, by rw [List.length_append, hl]; rfl, fun u hu => ?_⟩
    · rw [upd_ne (ne_of_none e nD)]
      exact g4.1 _ _ nb (gr.1 _ _ nb e)
    · obtain ⟨x, y, z, e⟩ := g4.2
      exact ⟨x, y, z, by rw [upd_ne naD]; exact e⟩
    · rcases List.mem_append.mp hu with hu | hu
      · exact hP u hu
      · cases List.mem_singleton.mp hu
        exact pv
  · obtain ⟨gr, acc, eD, hl, hP⟩ := p
    exact hd H acc gr eD hl hP
/-- a list of single letters -/
theorem signs_of {acc : List V} {C : Nat → Prop} (h : ∀ v ∈ acc, ∃ c, C c ∧ v = .str (S [c])) : ∃ cs : List Nat, acc = (cs.map fun c => S [c]).map V.str ∧ ∀ c ∈ cs, C c := by
  induction acc with
  | nil => exact ⟨[], rfl, fun _ h => nomatch h⟩
  | cons v r ih =>
    obtain ⟨c, hc, rfl⟩ := h v List.mem_cons_self
    obtain ⟨cs, rfl, hcs⟩ := ih fun u hu => h u (List.mem_cons_of_mem _ hu)
    exact ⟨c :: cs, rfl, fun d hd => by
      rcases List.mem_cons.mp hd with rfl | hd
      · exact hc
      · exact hcs d hd⟩
theorem sum_len (cs : List Nat) : ((cs.map fun c => S [c]).map (·.length)).sum = cs.length := by
  induction cs with
  | nil => rfl
  | cons c r ih =>
    show (S [c]).length + ((r.map fun c => S [c]).map (·.length)).sum = r.length + 1
    rw [ih, S_len]
    show 1 + r.length = r.length + 1
    omega
theorem at_ofN {xs : List Nat} {z : Int} {j : Nat} {v : Nat} (e : z = (j : Int)) (h : xs[j]? = some v) : atI xs z = some v := by
  rw [e]
  exact atI_nat h
theorem abc_at {d : Int} (h0 : 0 ≤ d) (h1 : d < 26) : atI (Str.ofString "abcdefghijklmnopqrstuvwxyz").cps.toList d = some (letter d.toNat) := by
  have h : ∀ j : Fin 26, (Str.ofString "abcdefghijklmnopqrstuvwxyz").cps.toList[j.1]? = some (letter j.1) := by decide
  have hd : d.toNat < 26 := by omega
  exact at_ofN (j := d.toNat) (by omega) (h ⟨d.toNat, hd⟩)

section
variable {P : Program} {w : World} {K : PySem.W.Frag} {mg : Str → Option Value} {base : Heap}
/-! ### _law_names -/
def LET : Str := Str.ofString "abcdefghijklmnopqrstuvwxyz"
/-- letters alone, one to six -/
def Lt (n : List Nat) : Prop := 1 ≤ n.length ∧ n.length ≤ 6 ∧ ∀ c ∈ n, c ∈ abc
theorem letter_of {c : Nat} (h : c ∈ abc) : ∃ i, i < 26 ∧ c = letter i := by
  have k : ∀ c ∈ abc, ∃ i : Fin 26, c = letter i.1 := by decide
  obtain ⟨i, e⟩ := k c h
  exact ⟨i.1, i.2, e⟩
theorem occ (i : Nat) (h : i < 26) : Builtin.Str.occurrences LET (S [letter i]) 0 LET.length 1 = [i] := by
  have k : ∀ j : Fin 26, Builtin.Str.occurrences LET (S [letter j.1]) 0 LET.length 1 = [j.1] := by decide +kernel
  exact k ⟨i, h⟩
theorem letter_mod (i : Nat) : letter (i % 26) = letter i := by
  unfold letter
  rw [Nat.mod_mod]
def nmsV (ns : List (List Nat)) : List V := ns.map fun n => V.str (S n)
def spNames : Sp := fun vs H Q _ => ∃ (a : Addr) (many : Int), vs = [.ref a, .int many] ∧ Drw H a ∧ 0 ≤ many ∧ many ≤ 12 ∧
  ∀ (p : Addr) (H' : Hp) (ns : List (List Nat)), H p = none → Gr a H H' → H' p = some (.lst (nmsV ns)) → (ns.length : Int) = many → ns.Nodup → (∀ n ∈ ns, nmB (S n) = true) → Q (.ref p) H'
theorem small_len {n : Nat} (h : n ≤ 1000) : n ≤ sizeLine := Nat.le_trans h (by decide)
theorem nms_flat (ns : List (List Nat)) : (nmsV ns).all flatV = true := by
  unfold nmsV
  simp [List.all_eq_true, flatV]
theorem ok_names (T : Tx P K mg) : FnOk P w K mg base CX0 2 T.f_names T.fd_names ["_law_box_here", "_law_many"] spNames := by
  refine T.F_names.ok sc_names (fun vs H Q E h => ?_) (fun cdv A outer s H vs Q E hr h => ?_)
  · obtain ⟨a, many, rfl, _⟩ := h
    rfl
  · obtain ⟨a, many, rfl, dr, hm0, hm1, q⟩ := h
    refine ⟨_, (pss_cons (ps_set (i := 2) sc_names.nd rfl (.inr rfl) pe_str) (pss_cons (ps_set (i := 4) sc_names.nd rfl (.inl rfl) (pe_join pe_str (pe_lc (own := [("_law_k", 3)]) (by rfl) sc_names.nd (pi_range1 (by rfl) T.m_range (pa_cons (pe_call (ok_take T) (hr.mono (by decide) : Room 1 _) (by rfl) T.g_take T.F_take.kp T.b_take .nil pass0 (pa_cons (pv 0) (pa_cons pe_int pa_nil))) pa_nil)) (blkOk_by (own := [("_law_k", 3)]) (N := ["_law_box_here", "_law_many", "_law_letters", "_law_k", "_law_stem", "_law_found", "_law_form", "_law_at", "_law_name", "_law_j"]) (sc := defScope st_names) (by decide +kernel)) (fun _ _ _ _ _ => (pg_name (i := 3) sc_names.nd rfl (.inl rfl))) (fun _ _ _ _ _ => pts_nil) (fun _ _ _ _ _ => (pe_ix ix_str (pv 2) (pe_call (ok_take T) (hr.mono (by decide) : Room 1 _) (by rfl) T.g_take T.F_take.kp T.b_take .nil pass0 (pa_cons (pv 0) (pa_cons pe_int pa_nil))) (fun _ _ => rfl)))))) (pss_cons (ps_set (i := 5) sc_names.nd rfl (.inl rfl) (pe_lst pa_nil)) (pss_cons (ps_for PassesOwn.never rfl (pi_range1 (by rfl) T.m_range (pa_cons (pv 1) pa_nil)) (pg_name (i := 3) sc_names.nd rfl (.inl rfl)) (pss_cons (ps_par (i := 6) (j := 7) (by rfl) sc_names.nd rfl rfl (by decide) rfl rfl (pa_cons (pe_call (ok_take T) (hr.mono (by decide) : Room 1 _) (by rfl) T.g_take T.F_take.kp T.b_take .nil pass0 (pa_cons (pv 0) (pa_cons pe_int pa_nil))) (pa_cons (pe_call (ok_take T) (hr.mono (by decide) : Room 1 _) (by rfl) T.g_take T.F_take.kp T.b_take .nil pass0 (pa_cons (pv 0) (pa_cons (pe_op op_add (pe_callB call_len_str (by rfl) T.m_len PySem.boot_len (pa_cons (pv 4) pa_nil)) pe_int) pa_nil))) pa_nil)) (by rfl)) (pss_cons (ps_set (i := 8) sc_names.nd rfl (.inl rfl) (pe_join pe_str (pe_lc (own := [("_law_j", 9)]) (by rfl) sc_names.nd (pi_range1 (by rfl) T.m_range (pa_cons (pe_op op_add pe_int (pe_call (ok_take T) (hr.mono (by decide) : Room 1 _) (by rfl) T.g_take T.F_take.kp T.b_take .nil pass0 (pa_cons (pv 0) (pa_cons pe_int pa_nil)))) pa_nil)) (blkOk_by (own := [("_law_j", 9)]) (N := ["_law_box_here", "_law_many", "_law_letters", "_law_k", "_law_stem", "_law_found", "_law_form", "_law_at", "_law_name", "_law_j"]) (sc := defScope st_names) (by decide +kernel)) (fun _ _ _ _ _ => (pg_name (i := 9) sc_names.nd rfl (.inl rfl))) (fun _ _ _ _ _ => pts_nil) (fun _ _ _ _ _ => (pe_ix ix_str (pv 2) (pe_call (ok_take T) (hr.mono (by decide) : Room 1 _) (by rfl) T.g_take T.F_take.kp T.b_take .nil pass0 (pa_cons (pv 0) (pa_cons pe_int pa_nil))) (fun _ _ => rfl)))))) (C8.pss_cut (ps_if (pt_cmpR op_eq (pv 6) pe_int (nomark _)) (pss_one (ps_set (i := 8) sc_names.nd rfl (.inl rfl) (pe_op op_add_str (pe_op op_add_str (pe_slice sl_str (pv 4) po_none (po_some (pv 7))) (pe_ix ix_str (pv 8) pe_int (fun _ _ => rfl))) (pe_slice sl_str (pv 4) (po_some (pv 7)) po_none)))) pss_nil) (C8.pss_cut (ps_if (pt_cmpR op_eq (pv 6) pe_int (nomark _)) (pss_one (ps_set (i := 8) sc_names.nd rfl (.inl rfl) (pe_slice sl_str (pe_op op_add_str (pv 4) (pv 8)) po_none (po_some pe_int)))) pss_nil) (C8.pss_cut (ps_if (pt_cmpR op_eq (pv 6) pe_int (nomark _)) (pss_one (ps_set (i := 8) sc_names.nd rfl (.inl rfl) (pe_ix ix_str (pv 8) pe_int (fun _ _ => rfl)))) pss_nil) (pss_cons (ps_while PassesOwn.never (PW.pt (pw_or (pt_cmpR op_in_seq (pv 8) (pv 5) (by rfl)) (pw_or1 (pt_cmpR op_eq (pv 8) pe_str (nomark _))))) (pss_one (ps_set (i := 8) sc_names.nd rfl (.inl rfl) (pe_op op_add_str (pe_ix ix_str (pv 2) (pe_op op_modN (pe_op op_add (pe_bm PySem.F.plainAttrs_str PySem.F.slot_str_index PySem.F.type_str_index mt_sindex (pv 2) (pa_cons (pe_ix ix_str (pv 8) pe_int (fun _ _ => rfl)) pa_nil)) pe_int) pe_int) (fun _ _ => rfl)) (pe_slice sl_str (pv 8) (po_some pe_int) po_none))))) (pss_one (ps_expr (pe_bm PySem.F.plainAttrs_list PySem.F.slot_list_append PySem.F.type_list_append mt_append (pv 5) (pa_cons (pv 8) pa_nil))))))))))) (pss_one (ps_ret (pv 5))))))), ?_⟩
    -- the stem
    refine ⟨⟨_, rfl⟩, _, rfl, a, 6, rfl, dr, by decide, by decide +kernel, fun t6 H1 t0 t1 g1 => ?_⟩
    refine ⟨t6, rfl, by omega, by omega, fun D nD => ?_⟩
    refine lc_draw (a := a) nD g1.2 (by omega) (fun v => ∃ c, c ∈ abc ∧ v = .str (S [c])) (fun i H2 hi g2 => ?_) (fun x σ H Q Q' f h => f _ _ h) (fun σ H Q Q' f h => f _ _ h) (fun σ H Q Q' f h => ?_) (fun H2 acc g2 e2 hl hP => ?_)
    · refine ⟨rfl, rfl, _, rfl, _, rfl, a, 26, rfl, g2.2, by decide, by decide +kernel, fun d H3 d0 d1 g3 => ?_⟩
      exact ⟨LET, d, _, rfl, rfl, small_len (by decide), abc_at d0 d1, ⟨_, letter_abc _, rfl⟩, g3⟩
    · obtain ⟨v1, e1, v2, e2, a', m', e3, dr', p1, p2, k⟩ := h
      refine ⟨v1, e1, v2, e2, a', m', e3, dr', p1, p2, fun d H3 d0 d1 g3 => ?_⟩
      obtain ⟨z, i, c, f1, f2, f3, f4, f5⟩ := k d H3 d0 d1 g3
      exact ⟨z, i, c, f1, f2, f3, f4, f _ _ f5⟩
    obtain ⟨st, rfl, hst⟩ := signs_of hP
    rw [List.length_map, List.length_map] at hl
    refine ⟨_, D, st.map fun c => S [c], rfl, rfl, .inl (SqL.of e2), ?_, ?_⟩
    · rw [sum_len, List.length_map]
      show st.length + st.length * 0 ≤ 16777216
      omega
    rw [TL.join_eq, S_join]
    have hst5 : st.length ≤ 5 := by omega
    -- found = []
    refine ⟨s0, fun F nF => ?_⟩
    have nFH : H F = none := by
      cases e : H F with
      | none => rfl
      | some o =>
        have naF : F ≠ a := fun z => by
          obtain ⟨x, y, zz, e'⟩ := g2.2
          rw [z, e'] at nF
          cases nF
        rw [g2.1 _ _ naF (g1.1 _ _ naF e)] at nF
        cases nF
    have naF : a ≠ F := g2.2.ne nF
    refine ⟨_, rfl, many, rfl, by omega, by omega, for_range (lo := 0) (n := many.toNat) (fun i σ H' => ∃ (y3 y6 y7 y8 : Option V) (ns : List (List Nat)), σ = [some (.ref a), some (.int many), some (.str LET), y3, some (.str (S st)), some (.ref F), y6, y7, y8, none] ∧ H' F = some (.lst (nmsV ns)) ∧ ns.length = i ∧ ns.Nodup ∧ (∀ n ∈ ns, nmB (S n) = true) ∧ Gr a H H')
      ⟨none, none, none, none, [], rfl, upd_same, rfl, List.Pairwise.nil, (fun n hn => nomatch hn), (g1.trans g2).trans (Gr.of (same_new nF) g2.2)⟩ (fun i σ H' hi hP' => ?_) (fun σ H' hP' => ?_)⟩
    · obtain ⟨y3, y6, y7, y8, ns, rfl, eF, hlen, hnd, hnm, gr⟩ := hP'
      -- form, at
      refine ⟨_, rfl, a, 4, rfl, gr.2, by decide, by decide +kernel, fun fo H3 fo0 fo1 g3 => ?_⟩
      refine ⟨_, rfl, _, rfl, _, rfl, small_len (by rw [S_len]; omega), _, _, rfl, rfl, ?_⟩
      rw [S_len]
      refine ⟨a, _, rfl, g3.2, by omega, ?_, fun at' H4 at0 at1 g4 => ?_⟩
      · exact Nat.lt_of_le_of_lt (show ((st.length : Int) + 1).natAbs ≤ 6 by omega) (by decide +kernel)
      obtain ⟨ka, rfl⟩ : ∃ ka : Nat, at' = (ka : Int) := ⟨at'.toNat, by omega⟩
      refine ⟨_, _, rfl, ?_⟩
      -- the name
      refine ⟨⟨_, rfl⟩, _, rfl, a, 6, rfl, g4.2, by decide, by decide +kernel, fun t7 H5 t70 t71 g5 => ?_⟩
      refine ⟨_, _, rfl, rfl, 1 + t7, rfl, by omega, by omega, fun D2 nD2 => ?_⟩
      refine lc_draw (a := a) nD2 g5.2 (by omega) (fun v => ∃ c, c ∈ abc ∧ v = .str (S [c])) (fun i H2 hi g2 => ?_) (fun x σ H Q Q' f h => f _ _ h) (fun σ H Q Q' f h => f _ _ h) (fun σ H Q Q' f h => ?_) (fun H6 acc g6 e6 hl6 hP6 => ?_)
      · refine ⟨rfl, rfl, _, rfl, _, rfl, a, 26, rfl, g2.2, by decide, by decide +kernel, fun d H3 d0 d1 g3 => ?_⟩
        exact ⟨LET, d, _, rfl, rfl, small_len (by decide), abc_at d0 d1, ⟨_, letter_abc _, rfl⟩, g3⟩
      · obtain ⟨v1, e1, v2, e2, a', m', e3, dr', p1, p2, k⟩ := h
        refine ⟨v1, e1, v2, e2, a', m', e3, dr', p1, p2, fun d H3 d0 d1 g3 => ?_⟩
        obtain ⟨z, i, c, f1, f2, f3, f4, f5⟩ := k d H3 d0 d1 g3
        exact ⟨z, i, c, f1, f2, f3, f4, f _ _ f5⟩
      obtain ⟨nm0, rfl, hnm0⟩ := signs_of hP6
      rw [List.length_map, List.length_map] at hl6
      refine ⟨_, D2, nm0.map fun c => S [c], rfl, rfl, .inl (SqL.of e6), ?_, ?_⟩
      · rw [sum_len, List.length_map]
        show nm0.length + nm0.length * 0 ≤ 16777216
        omega
      rw [TL.join_eq, S_join]
      have hL0 : Lt nm0 := ⟨by omega, by omega, hnm0⟩
      have G6 : Gr a H H6 := gr.trans (g3.trans (g4.trans (g5.trans g6)))
      have eF6 : H6 F = some (.lst (nmsV ns)) := g6.1 _ _ naF.symm (g5.1 _ _ naF.symm (g4.1 _ _ naF.symm (g3.1 _ _ naF.symm eF)))
      obtain ⟨M1, hM1⟩ : ∃ M : L2.St → Hp → Prop, M = fun σ Hx => Hx = H6 ∧ ∃ n, σ = [some (.ref a), some (.int many), some (.str LET), some (.int (0 + (i : Int))), some (.str (S st)), some (.ref F), some (.int fo), some (.int (ka : Int)), some (.str (S n)), none] ∧ Lt n := ⟨_, rfl⟩
      -- form 0
      refine ⟨M1, ?_, fun σ1 Hx h1 => ?_⟩
      · refine ⟨_, rfl, rfl, _, rfl, ite2 (fun c => ?_) (fun c => ?_)⟩
        · obtain ⟨x, r, rfl⟩ : ∃ x r, nm0 = x :: r := by
            cases nm0 with
            | nil => exact absurd hL0.1 (by decide)
            | cons x r => exact ⟨x, r, rfl⟩
          refine ⟨_, rfl, _, rfl, _, rfl, _, rfl, small_len (by rw [S_len]; omega), _, rfl, S (x :: r), 0, x, rfl, rfl, small_len (by rw [S_len]; have := hL0.2.1; omega), atI_nat (j := 0) (by rw [S_list]; rfl), ?_⟩
          rw [S_to]
          refine ⟨_, _, rfl, rfl, small_len (by rw [S_len, List.length_take]; show _ + (S [x]).length ≤ 1000; rw [S_len]; show _ + 1 ≤ 1000; omega), ?_⟩
          refine ⟨_, rfl, _, rfl, _, rfl, _, rfl, small_len (by rw [S_len]; omega), ?_⟩
          rw [S_from, show (⟨#[x]⟩ : Str) = S [x] from rfl, S_add]
          refine ⟨_, _, rfl, rfl, small_len (by rw [S_len, S_len, List.length_append, List.length_take, List.length_drop]; show _ + 1 + _ ≤ 1000; omega), ?_⟩
          show M1 _ _
          rw [hM1, S_add]
          refine ⟨rfl, _, rfl, ?_, ?_, fun d hd => ?_⟩
          · rw [List.length_append, List.length_append]
            show 1 ≤ _ + 1 + _
            omega
          · rw [List.length_append, List.length_append, List.length_take, List.length_drop]
            show _ + 1 + _ ≤ 6
            omega
          · rcases List.mem_append.mp hd with hd | hd
            · rcases List.mem_append.mp hd with hd | hd
              · exact hst d (List.mem_of_mem_take hd)
              · rw [List.mem_singleton.mp hd]
                exact hL0.2.2 x List.mem_cons_self
            · exact hst d (List.mem_of_mem_drop hd)
        · show M1 _ _
          rw [hM1]
          exact ⟨rfl, nm0, rfl, hL0⟩
      rw [hM1] at h1
      obtain ⟨rfl, n1, rfl, hL1⟩ := h1
      -- form 1
      refine ⟨M1, ?_, fun σ1 Hx h1 => ?_⟩
      · refine ⟨_, rfl, rfl, _, rfl, ite2 (fun c => ?_) (fun c => ?_)⟩
        · refine ⟨_, rfl, _, rfl, _, _, rfl, rfl, small_len (by rw [S_len, S_len]; have := hL1.2.1; omega), 6, rfl, _, rfl, small_len (by rw [S_add, S_len, List.length_append]; have := hL1.2.1; omega), ?_⟩
          show M1 _ _
          rw [hM1, S_add, show (some (6 : Int)) = some ((6 : Nat) : Int) from rfl, S_to _ 6]
          refine ⟨rfl, _, rfl, ?_, ?_, fun d hd => ?_⟩
          · rw [List.length_take, List.length_append]
            have := hL1.1
            omega
          · rw [List.length_take]
            omega
          · rcases List.mem_append.mp (List.mem_of_mem_take hd) with hd | hd
            · exact hst d hd
            · exact hL1.2.2 d hd
        · show M1 _ _
          rw [hM1]
          exact ⟨rfl, n1, rfl, hL1⟩
      rw [hM1] at h1
      obtain ⟨rfl, n2, rfl, hL2⟩ := h1
      -- form 2
      refine ⟨M1, ?_, fun σ1 Hx h1 => ?_⟩
      · refine ⟨_, rfl, rfl, _, rfl, ite2 (fun c => ?_) (fun c => ?_)⟩
        · obtain ⟨x, r, rfl⟩ : ∃ x r, n2 = x :: r := by
            cases n2 with
            | nil => exact absurd hL2.1 (by decide)
            | cons x r => exact ⟨x, r, rfl⟩
          refine ⟨_, rfl, S (x :: r), 0, x, rfl, rfl, small_len (by rw [S_len]; have := hL2.2.1; omega), atI_nat (j := 0) (by rw [S_list]; rfl), ?_⟩
          show M1 _ _
          rw [hM1]
          exact ⟨rfl, [x], rfl, Nat.le_refl 1, (by decide : 1 ≤ 6), fun d hd => by rw [List.mem_singleton.mp hd]; exact hL2.2.2 x List.mem_cons_self⟩
        · show M1 _ _
          rw [hM1]
          exact ⟨rfl, n2, rfl, hL2⟩
      rw [hM1] at h1
      obtain ⟨rfl, n3, rfl, hL3⟩ := h1
      clear hM1
      -- until it is new
      obtain ⟨x, tail, rfl⟩ : ∃ x r, n3 = x :: r := by
        cases n3 with
        | nil => exact absurd hL3.1 (by decide)
        | cons x r => exact ⟨x, r, rfl⟩
      obtain ⟨c0, hc0, rfl⟩ := letter_of (hL3.2.2 x List.mem_cons_self)
      have htl : tail.length ≤ 5 := by
        have := hL3.2.1
        rw [List.length_cons] at this
        omega
      have htm : ∀ d ∈ tail, d ∈ abc := fun d hd => hL3.2.2 d (List.mem_cons_of_mem _ hd)
      obtain ⟨k0, hk0, hf1, hf2⟩ := free_letter tail ns (by omega) c0
      have elen : ∀ c, (S (letter c :: tail)).length ≤ sizeLine := fun c => small_len (by rw [S_len, List.length_cons]; omega)
      refine ⟨fun m σ Hy => Hy = Hx ∧ ∃ c, c < 26 ∧ σ = [some (.ref a), some (.int many), some (.str LET), some (.int (0 + (i : Int))), some (.str (S st)), some (.ref F), some (.int fo), some (.int (ka : Int)), some (.str (S (letter c :: tail))), none] ∧ (letter (c + m) :: tail) ∉ ns ∧ S (letter (c + m) :: tail) ≠ Str.ofString "kind",
        ⟨k0, rfl, c0, hc0, rfl, hf1, hf2⟩, fun m σ Hy hW => ?_⟩
      obtain ⟨eHy, c, hc, rfl, hw1, hw2⟩ := hW
      rw [eHy]
      clear eHy
      have body : ∀ (bad : (letter c :: tail) ∈ ns ∨ S (letter c :: tail) = Str.ofString "kind"), ∃ m', m = m' + 1 := fun bad => by
        cases m with
        | zero =>
          rw [Nat.add_zero] at hw1 hw2
          rcases bad with b | b
          · exact absurd b hw1
          · exact absurd b hw2
        | succ m' => exact ⟨m', rfl⟩
      refine ⟨_, rfl, _, rfl, F, _, rfl, .inl (SqL.of eF6), rfl, nms_flat ns, _, rfl, ?_⟩
      rw [show inV (.str (S (letter c :: tail))) (nmsV ns) = decide ((letter c :: tail) ∈ ns) from inV_S ns]
      have turn : ((letter c :: tail) ∈ ns ∨ S (letter c :: tail) = Str.ofString "kind") → ∃ N : L2.St → Hp → Prop, (∀ σ' H', N σ' H' → ∃ m', m' < m ∧ (H' = Hx ∧ ∃ c, c < 26 ∧ σ' = [some (.ref a), some (.int many), some (.str LET), some (.int (0 + (i : Int))), some (.str (S st)), some (.ref F), some (.int fo), some (.int (ka : Int)), some (.str (S (letter c :: tail))), none] ∧ (letter (c + m') :: tail) ∉ ns ∧ S (letter (c + m') :: tail) ≠ Str.ofString "kind")) ∧ N [some (.ref a), some (.int many), some (.str LET), some (.int (0 + (i : Int))), some (.str (S st)), some (.ref F), some (.int fo), some (.int (ka : Int)), some (.str (S (letter ((c + 1) % 26) :: tail))), none] Hx := fun bad => by
        obtain ⟨m', rfl⟩ := body bad
        refine ⟨fun σ' H' => H' = Hx ∧ σ' = [some (.ref a), some (.int many), some (.str LET), some (.int (0 + (i : Int))), some (.str (S st)), some (.ref F), some (.int fo), some (.int (ka : Int)), some (.str (S (letter ((c + 1) % 26) :: tail))), none], fun σ' H' h => ⟨m', Nat.lt_succ_self _, h.1, (c + 1) % 26, Nat.mod_lt _ (by decide), h.2, ?_, ?_⟩, rfl, rfl⟩
        · rw [show letter ((c + 1) % 26 + m') = letter (c + (m' + 1)) by rw [← letter_mod ((c + 1) % 26 + m'), ← letter_mod (c + (m' + 1))]; congr 1; omega]
          exact hw1
        · rw [show letter ((c + 1) % 26 + m') = letter (c + (m' + 1)) by rw [← letter_mod ((c + 1) % 26 + m'), ← letter_mod (c + (m' + 1))]; congr 1; omega]
          exact hw2
      have efm : ((c : Int) + 1).fmod 26 = (((c + 1) % 26 : Nat) : Int) := by
        rw [Int.fmod_eq_emod_of_nonneg _ (by decide)]
        omega
      by_cases hin : (letter c :: tail) ∈ ns
      · rw [decide_eq_true hin]
        obtain ⟨N, hN1, hN2⟩ := turn (.inl hin)
        refine iteT ⟨N, hN1, ?_⟩
        refine ⟨_, rfl, _, rfl, rfl, _, rfl, S (letter c :: tail), 0, letter c, rfl, rfl, elen c, atI_nat (j := 0) (by rw [S_list]; rfl), LET, S [letter c], c, [], rfl, rfl, occ c hc, _, _, rfl, rfl, _, _, rfl, rfl, nz rfl, LET, _, letter ((c + 1) % 26), rfl, rfl, small_len (by decide), ?_, _, rfl, 1, rfl, _, rfl, elen c, ?_⟩
        · rw [efm]
          have z := abc_at (d := (((c + 1) % 26 : Nat) : Int)) (by omega) (by omega)
          exact z
        · rw [show (some (1 : Int)) = some ((1 : Nat) : Int) from rfl, S_from]
          refine ⟨_, _, rfl, rfl, small_len (by show (S [letter ((c + 1) % 26)]).length + _ ≤ 1000; rw [S_len, S_len]; show 1 + tail.length ≤ 1000; omega), ?_⟩
          rw [show (⟨#[letter ((c + 1) % 26)]⟩ : Str) = S [letter ((c + 1) % 26)] from rfl, S_add]
          exact hN2
      · rw [decide_eq_false hin]
        refine iteF ⟨_, rfl, rfl, _, rfl, ?_⟩
        by_cases hk : S (letter c :: tail) = Str.ofString "kind"
        · rw [show decide (V.str (S (letter c :: tail)) = V.str (Str.ofString "kind")) = true by simp [hk]]
          obtain ⟨N, hN1, hN2⟩ := turn (.inr hk)
          refine iteT ⟨N, hN1, ?_⟩
          refine ⟨_, rfl, _, rfl, rfl, _, rfl, S (letter c :: tail), 0, letter c, rfl, rfl, elen c, atI_nat (j := 0) (by rw [S_list]; rfl), LET, S [letter c], c, [], rfl, rfl, occ c hc, _, _, rfl, rfl, _, _, rfl, rfl, nz rfl, LET, _, letter ((c + 1) % 26), rfl, rfl, small_len (by decide), ?_, _, rfl, 1, rfl, _, rfl, elen c, ?_⟩
          · rw [efm]
            have z := abc_at (d := (((c + 1) % 26 : Nat) : Int)) (by omega) (by omega)
            exact z
          · rw [show (some (1 : Int)) = some ((1 : Nat) : Int) from rfl, S_from]
            refine ⟨_, _, rfl, rfl, small_len (by show (S [letter ((c + 1) % 26)]).length + _ ≤ 1000; rw [S_len, S_len]; show 1 + tail.length ≤ 1000; omega), ?_⟩
            rw [show (⟨#[letter ((c + 1) % 26)]⟩ : Str) = S [letter ((c + 1) % 26)] from rfl, S_add]
            exact hN2
        · rw [show decide (V.str (S (letter c :: tail)) = V.str (Str.ofString "kind")) = false by simp [hk]]
          refine iteF ?_
          have hLc : nmB (S (letter c :: tail)) = true := nmB_S.mpr ⟨by rw [List.length_cons]; omega, by rw [List.length_cons]; omega, hk, fun d hd => by
            rcases List.mem_cons.mp hd with rfl | hd
            · exact letter_abc _
            · exact htm d hd⟩
          refine ⟨.ref F, rfl, .inl ⟨rfl, _, SqL.of eF6⟩, _, rfl, F, _, _, rfl, rfl, eF6, ?_, ?_⟩
          · unfold nmsV
            rw [List.length_map]
            exact Nat.lt_of_le_of_lt (show ns.length ≤ 1000 by omega) (by decide)
          · refine ⟨_, _, _, _, ns ++ [letter c :: tail], rfl, ?_, by rw [List.length_append, hlen]; rfl, ?_, ?_, ?_⟩
            · rw [upd_same]
              unfold nmsV
              rw [List.map_append]
              rfl
            · exact List.nodup_append.mpr ⟨hnd, List.pairwise_singleton _ _, fun x hx y hy => by
                rw [List.mem_singleton.mp hy]
                exact fun z => hin (z ▸ hx)⟩
            · intro n hn
              rcases List.mem_append.mp hn with hn | hn
              · exact hnm n hn
              · rw [List.mem_singleton.mp hn]
                exact hLc
            · refine ⟨fun b o nb e => ?_, ?_⟩
              · rw [upd_ne (ne_of_none e nFH)]
                exact G6.1 _ _ nb e
              · obtain ⟨x, y, z, e⟩ := G6.2
                exact ⟨x, y, z, by rw [upd_ne naF]; exact e⟩
    · obtain ⟨y3, y6, y7, y8, ns, rfl, eF, hlen, hnd, hnm, gr⟩ := hP'
      exact ⟨_, rfl, q F H' ns nFH gr eF (by omega) hnd hnm⟩
end

/-! ### data of texts and ints in a list or a tuple, for == -/
def flD : PyData → Bool
  | .none => true | .bool _ => true | .int _ => true | .str x => PyData.strOk x | _ => false
theorem fl_shape {d : PyData} (h : flD d = true) : d.canLay0 = true ∧ d.depth = 0 := by
  cases d with
  | none => exact ⟨rfl, rfl⟩
  | bool b => exact ⟨rfl, rfl⟩
  | int i => exact ⟨rfl, rfl⟩
  | str z => exact ⟨h, rfl⟩
  | list xs => cases h
  | tuple xs => cases h
  | dict xs => cases h
theorem fl_all : ∀ {ds : List PyData}, (∀ d ∈ ds, flD d = true) → PyData.canLayAll0 ds = true ∧ PyData.depthAll ds = 0
  | [], _ => ⟨rfl, rfl⟩
  | d :: r, h => by
    obtain ⟨a, b⟩ := fl_shape (h d List.mem_cons_self)
    obtain ⟨x, y⟩ := fl_all (ds := r) fun z hz => h z (List.mem_cons_of_mem _ hz)
    refine ⟨?_, ?_⟩
    · show (d.canLay0 && PyData.canLayAll0 r) = true
      rw [a, x]
      rfl
    · show max d.depth (PyData.depthAll r) = 0
      rw [b, y]
      rfl
theorem shaped_list {ds : List PyData} (h : ∀ d ∈ ds, flD d = true) : SeqAt.shaped (.list ds) = true := by
  obtain ⟨x, y⟩ := fl_all h
  show ((PyData.list ds).canLay0 && decide ((PyData.list ds).depth ≤ 64)) = true
  rw [show (PyData.list ds).canLay0 = PyData.canLayAll0 ds from rfl, x, show (PyData.list ds).depth = PyData.depthAll ds + 1 from rfl, y]
  rfl
theorem dpAll_strs {K : PySem.W.Frag} {H : Hp} : ∀ zs : List Str, DpAll K H (zs.map V.str) (zs.map PyData.str)
  | [] => .nil
  | z :: r => .cons (.str z) (dpAll_strs r)
theorem eqv_strs : ∀ as bs : List Str, PyData.eqvAll (as.map PyData.str) (bs.map PyData.str) = decide (as = bs)
  | [], [] => rfl
  | [], _ :: _ => rfl
  | _ :: _, [] => rfl
  | a :: r, b :: t => by
    show ((a == b) && PyData.eqvAll (r.map PyData.str) (t.map PyData.str)) = _
    rw [eqv_strs r t]
    by_cases h : a = b
    · subst h
      simp
    · simp [h]
theorem flat_strs {zs : List Str} (h : ∀ z ∈ zs, PyData.strOk z = true) : ∀ d ∈ zs.map PyData.str, flD d = true := fun d hd => by
  obtain ⟨z, hz, rfl⟩ := List.mem_map.mp hd
  exact h z hz
theorem ok_S {cs : List Nat} : PyData.strOk (S cs) = true ↔ ∀ c ∈ cs, c < 0x110000 := by
  unfold PyData.strOk S
  simp
theorem abc_small {c : Nat} (h : c ∈ abc) : c < 0x110000 := by
  have k : ∀ c ∈ abc, c < 0x110000 := by decide
  exact k c h
section
variable {P : Program} {w : World} {K : PySem.W.Frag} {mg : Str → Option Value} {base : Heap}
/-! ### _law_is_name -/
def spIsL : Sp := fun vs H Q _ => ∃ z : Str, vs = [.str z] ∧ z.length ≤ 10000 ∧ PyData.strOk z = true ∧ ∀ H', Same H H' → Q (.bl (nmB z)) H'
theorem ok_lisname (T : Tx P K mg) : FnOk P w K mg base CX0 1 T.f_lisname T.fd_lisname ["_law_text"] spIsL := by
  refine T.F_lisname.ok sc_lisname (fun vs H Q E h => ?_) (fun cdv A outer s H vs Q E hr h => ?_)
  · obtain ⟨a, rfl, _⟩ := h
    rfl
  · obtain ⟨z, rfl, hz, hok, q⟩ := h
    refine ⟨_, (pss_cons (ps_if (PW.pt (pw_or (pt_cmpR op_eq (pv 0) pe_str (nomark _)) (pw_or1 (pt_not (pt_chain op_lt op_lt pe_int (pe_callB call_len_str (by rfl) T.m_len PySem.boot_len (pa_cons (pv 0) pa_nil)) pe_int))))) (pss_one (ps_ret pe_bl)) pss_nil) (pss_one (ps_ret (pe_cmpR (op_eqD hr.units) (pe_lc (own := [("_law_sign", 1)]) (by rfl) sc_lisname.nd (pi_str (pv 0)) (blkOk_by (own := [("_law_sign", 1)]) (N := ["_law_text", "_law_sign"]) (sc := defScope st_lisname) (by decide +kernel)) (fun _ _ _ _ _ => (pg_name (i := 1) sc_lisname.nd rfl (.inl rfl))) (fun _ _ _ _ _ => (pts_one (pt_cmpR op_notIn_sign (pv 1) pe_str (by rfl)))) (fun _ _ _ _ _ => (pv 1))) (pe_lst pa_nil) (nomark _))))), ?_⟩
    have hz' : z.length ≤ sizeLine := Nat.le_trans hz (by decide)
    refine ⟨_, rfl, rfl, _, rfl, ?_⟩
    by_cases h3 : z = Str.ofString "kind"
    · rw [show decide (V.str z = V.str (Str.ofString "kind")) = true by simp [h3]]
      refine iteT ?_
      have := q H (Same.refl H)
      rw [nmB_no (.inr h3)] at this
      exact this
    · rw [show decide (V.str z = V.str (Str.ofString "kind")) = false by simp [h3]]
      refine iteF ?_
      refine ⟨_, rfl, _, rfl, hz', _, _, rfl, rfl, _, rfl, ?_⟩
      by_cases h1 : (0 : Int) < (z.length : Int)
      · rw [decide_eq_true h1]
        refine iteT ⟨_, _, rfl, rfl, _, rfl, ?_⟩
        by_cases h2 : (z.length : Int) < 7
        · rw [decide_eq_true h2]
          refine iteF ?_
          rw [nmB_yes (by omega) (by omega) h3] at q
          refine ⟨_, rfl, z, rfl, fun D nD => ?_⟩
          refine lc_it walk_str (fun i H2 => Same H H2 ∧ H2 D = some (.lst ((((z.cps.toList.take i).filter fun c => !decide (c ∈ abc)).map fun c => S [c]).map V.str))) ⟨same_new nD, upd_same⟩ (fun _ _ _ _ => trivial) (fun i x H2 H3 hi hP hY => ?_) (fun H2 hP => ?_)
          · obtain ⟨rfl, c, hc, rfl⟩ := hY
            have hc' : z.cps.toList[i]? = some c := by simpa using hc
            have tk : z.cps.toList.take (i + 1) = z.cps.toList.take i ++ [c] := by
              rw [List.take_add_one, hc']
              rfl
            refine ⟨rfl, _, rfl, c, _, rfl, rfl, _, rfl, ?_⟩
            by_cases hm : c ∈ abc
            · rw [show decide (c ∈ (Str.ofString "abcdefghijklmnopqrstuvwxyz").cps.toList) = true from decide_eq_true hm]
              refine iteF ⟨hP.1, ?_⟩
              rw [hP.2, tk, List.filter_append]
              simp [hm]
            · rw [show decide (c ∈ (Str.ofString "abcdefghijklmnopqrstuvwxyz").cps.toList) = false from decide_eq_false hm]
              refine iteT ⟨_, rfl, _, hP.2, ?_, ?_, ?_⟩
              · rw [List.length_map, List.length_map]
                exact Nat.lt_of_le_of_lt (Nat.le_trans (List.length_filter_le _ _) (show _ ≤ 10000 by rw [List.length_take]; show min i z.length ≤ 10000; omega)) (by decide)
              · exact fun b o e => by
                  rw [upd_ne (ne_of_none e nD)]
                  exact hP.1 _ _ e
              · rw [upd_same, tk, List.filter_append]
                simp [hm, S]
          · obtain ⟨s2, e2⟩ := hP
            rw [show z.cps.size = z.cps.toList.length by simp, List.take_length] at e2
            refine ⟨s0, fun L hL => ?_⟩
            refine ⟨_, .list [], .lst (SqL.of (same_new hL _ _ e2)) (dpAll_strs _), .lst (SqL.of upd_same) .nil, shaped_list (flat_strs fun u hu => ?_), rfl, ?_⟩
            · obtain ⟨c, hc, rfl⟩ := List.mem_map.mp hu
              have hc2 := (List.mem_filter.mp hc).1
              rw [← S_eta z] at hok
              exact ok_S.mpr fun d hd => by
                rw [List.mem_singleton.mp hd]
                exact ok_S.mp hok c hc2
            have e3 : PyData.eqv (.list ((((z.cps.toList).filter fun c => !decide (c ∈ abc)).map fun c => S [c]).map PyData.str)) (.list []) = z.cps.toList.all fun c => decide (c ∈ abc) := by
              show PyData.eqvAll _ ([].map PyData.str) = _
              rw [eqv_strs]
              rw [Bool.eq_iff_iff, decide_eq_true_iff, List.map_eq_nil_iff, List.filter_eq_nil_iff, List.all_eq_true]
              simp
            rw [e3]
            exact q _ (s2.trans (same_new hL))
        · rw [decide_eq_false h2]
          refine iteT ?_
          have := q H (Same.refl H)
          rw [nmB_no (.inl (by omega))] at this
          exact this
      · rw [decide_eq_false h1]
        refine iteF ⟨_, rfl, iteT ?_⟩
        have := q H (Same.refl H)
        rw [nmB_no (.inl (by omega))] at this
        exact this
/-! ### _law_any_text -/
def odd : List Str := ["kind", "kinds", "kin", "Kind", "kindly", "", "a", "abcdef", "abcdefg", "a1", "a b", "aB", "_a", "a ", " a"].map Str.ofString
theorem odd_at {d : Int} (h0 : 0 ≤ d) (h1 : d < 15) : ∃ z : Str, atI (odd.map V.str) d = some (.str z) ∧ z.length ≤ 8 ∧ PyData.strOk z = true := by
  have k : ∀ z ∈ odd, z.length ≤ 8 ∧ PyData.strOk z = true := by decide +kernel
  have hd : d.toNat < odd.length := by
    show d.toNat < 15
    omega
  obtain ⟨l, o⟩ := k odd[d.toNat] (List.getElem_mem hd)
  exact ⟨odd[d.toNat], at_of (j := d.toNat) (by omega) (by rw [List.getElem?_map, List.getElem?_eq_getElem hd]; rfl), l, o⟩
def spText : Sp := fun vs H Q _ => ∃ a : Addr, vs = [.ref a] ∧ Drw H a ∧ ∀ (z : Str) (H' : Hp), z.length ≤ 8 → PyData.strOk z = true → Gr a H H' → Q (.str z) H'
theorem s15 : 15 ≤ sizeLine := by decide
def SG : Str := Str.ofString "abcdefghijklmnopqrstuvwxyzABCXYZ0189 !\"#$&'()*+,-./:;<=>?\x40[\\]^_`{|}~\n"
theorem SG_len : SG.length = 69 := by decide +kernel
theorem SG_small : ∀ c ∈ SG.cps.toList, c < 0x110000 := by decide +kernel
theorem ok_anytext (T : Tx P K mg) : FnOk P w K mg base CX0 2 T.f_anytext T.fd_anytext ["_law_box_here"] spText := by
  refine T.F_anytext.ok sc_anytext (fun vs H Q E h => ?_) (fun cdv A outer s H vs Q E hr h => ?_)
  · obtain ⟨a, rfl, _⟩ := h
    rfl
  · obtain ⟨a, rfl, dr, q⟩ := h
    refine ⟨_, (pss_cons (ps_set (i := 1) sc_anytext.nd rfl (.inl rfl) (pe_lst (pa_cons pe_str (pa_cons pe_str (pa_cons pe_str (pa_cons pe_str (pa_cons pe_str (pa_cons pe_str (pa_cons pe_str (pa_cons pe_str (pa_cons pe_str (pa_cons pe_str (pa_cons pe_str (pa_cons pe_str (pa_cons pe_str (pa_cons pe_str (pa_cons pe_str pa_nil))))))))))))))))) (pss_cons (ps_set (i := 2) sc_anytext.nd rfl (.inr rfl) pe_str) (pss_cons (ps_if (pt_cmpR op_eq (pe_call (ok_take T) (hr.mono (by decide) : Room 1 _) (by rfl) T.g_take T.F_take.kp T.b_take .nil pass0 (pa_cons (pv 0) (pa_cons pe_int pa_nil))) pe_int (nomark _)) (pss_one (ps_ret (pe_ix ix_list (pv 1) (pe_call (ok_take T) (hr.mono (by decide) : Room 1 _) (by rfl) T.g_take T.F_take.kp T.b_take .nil pass0 (pa_cons (pv 0) (pa_cons pe_int pa_nil))) (fun _ _ => rfl)))) pss_nil) (pss_cons (ps_set (i := 3) sc_anytext.nd rfl (.inr rfl) (pe_ix ix_list (pe_lst (pa_cons pe_int (pa_cons (pe_callB call_len_str (by rfl) T.m_len PySem.boot_len (pa_cons (pv 2) pa_nil)) pa_nil))) (pe_callTy call_int1 (by rfl) T.m_int (by decide +kernel) (pa_cons (pe_cmpR op_eq (pe_call (ok_take T) (hr.mono (by decide) : Room 1 _) (by rfl) T.g_take T.F_take.kp T.b_take .nil pass0 (pa_cons (pv 0) (pa_cons pe_int pa_nil))) pe_int (nomark _)) pa_nil)) (fun _ _ => rfl))) (pss_one (ps_ret (pe_join pe_str (pe_lc (own := [("_law_k", 4)]) (by rfl) sc_anytext.nd (pi_range1 (by rfl) T.m_range (pa_cons (pe_call (ok_take T) (hr.mono (by decide) : Room 1 _) (by rfl) T.g_take T.F_take.kp T.b_take .nil pass0 (pa_cons (pv 0) (pa_cons pe_int pa_nil))) pa_nil)) (blkOk_by (own := [("_law_k", 4)]) (N := ["_law_box_here", "_law_some", "_law_signs", "_law_many", "_law_k"]) (sc := defScope st_anytext) (by decide +kernel)) (fun _ _ _ _ _ => (pg_name (i := 4) sc_anytext.nd rfl (.inl rfl))) (fun _ _ _ _ _ => pts_nil) (fun _ _ _ _ _ => (pe_ix ix_str (pv 2) (pe_call (ok_take T) (hr.mono (by decide) : Room 1 _) (by rfl) T.g_take T.F_take.kp T.b_take .nil pass0 (pa_cons (pv 0) (pa_cons (pv 3) pa_nil))) (fun _ _ => rfl))))))))))), ?_⟩
    refine ⟨s15, fun L hL => ?_⟩
    have naL : a ≠ L := dr.ne hL
    refine ⟨_, rfl, a, 3, rfl, dr.mono (same_new hL), by decide, by decide +kernel, fun t3 H1 t30 t31 g1 => ?_⟩
    have G1 : Gr a H H1 := (Gr.of (same_new hL) dr).trans g1
    refine ⟨rfl, _, rfl, ite2 (fun c => ?_) (fun c => ?_)⟩
    · refine ⟨.ref L, rfl, _, rfl, a, 15, rfl, g1.2, by decide, by decide +kernel, fun d H2 d0 d1 g2 => ?_⟩
      obtain ⟨z, hz, lz, oz⟩ := odd_at d0 d1
      exact ⟨L, odd.map V.str, d, _, rfl, rfl, SqL.of (g2.1 _ _ naL.symm (g1.1 _ _ naL.symm upd_same)), hz, q z H2 lz oz (G1.trans g2)⟩
    · refine ⟨_, rfl, _, rfl, small_len (by show SG.length ≤ 1000; rw [SG_len]; decide), s2, fun L2 hL2 => ?_⟩
      refine ⟨_, rfl, a, 3, rfl, g1.2.mono (same_new hL2), by decide, by decide +kernel, fun t4 H2 t40 t41 g2 => ?_⟩
      refine ⟨rfl, .inr ⟨_, rfl, ?_⟩⟩
      have naL2 : a ≠ L2 := g1.2.ne hL2
      obtain ⟨many, hmany, m0, m1⟩ : ∃ many : Int, atI [V.int 26, V.int (SG.length : Int)] (if decide (V.int t4 = V.int 0) = true then 1 else 0) = some (.int many) ∧ 0 < many ∧ many ≤ 69 := by
        cases decide (V.int t4 = V.int 0)
        · exact ⟨26, rfl, by decide, by decide⟩
        · exact ⟨(SG.length : Int), rfl, by rw [SG_len]; decide, by rw [SG_len]; decide⟩
      refine ⟨L2, _, _, _, rfl, rfl, SqL.of (g2.1 _ _ naL2.symm upd_same), hmany, ?_⟩
      have G2 : Gr a H H2 := (G1.trans (Gr.of (same_new hL2) g1.2)).trans g2
      refine ⟨⟨_, rfl⟩, _, rfl, a, 9, rfl, g2.2, by decide, by decide +kernel, fun t9 H3 t90 t91 g3 => ?_⟩
      refine ⟨t9, rfl, by omega, by omega, fun D nD => ?_⟩
      refine lc_draw (a := a) nD g3.2 (by omega) (fun v => ∃ c : Nat, c < 0x110000 ∧ v = .str (S [c])) (fun i H4 hi g4 => ?_) (fun x σ H Q Q' f h => f _ _ h) (fun σ H Q Q' f h => f _ _ h) (fun σ H Q Q' f h => ?_) (fun H4 acc g4 e4 hl hP => ?_)
      · refine ⟨rfl, rfl, _, rfl, _, rfl, _, rfl, a, many, rfl, g4.2, m0, Nat.lt_of_le_of_lt (show many.natAbs ≤ 69 by omega) (by decide +kernel), fun d H5 d0 d1 g5 => ?_⟩
        have hd : d.toNat < SG.cps.toList.length := by
          show d.toNat < SG.cps.toList.length
          rw [show SG.cps.toList.length = SG.length by simp [Str.length], SG_len]
          omega
        exact ⟨SG, d, SG.cps.toList[d.toNat], rfl, rfl, small_len (by rw [SG_len]; decide), at_ofN (j := d.toNat) (by omega) (List.getElem?_eq_getElem hd), ⟨_, SG_small _ (List.getElem_mem hd), rfl⟩, g5⟩
      · obtain ⟨v1, e1, v2, e2, v3, e3', a', m', e3, dr', p1, p2, k⟩ := h
        refine ⟨v1, e1, v2, e2, v3, e3', a', m', e3, dr', p1, p2, fun d H3 d0 d1 g3 => ?_⟩
        obtain ⟨z, i, c, f1, f2, f3, f4, f5⟩ := k d H3 d0 d1 g3
        exact ⟨z, i, c, f1, f2, f3, f4, f _ _ f5⟩
      obtain ⟨cs, rfl, hcs⟩ := signs_of hP
      rw [List.length_map, List.length_map] at hl
      refine ⟨_, D, cs.map fun c => S [c], rfl, rfl, .inl (SqL.of e4), ?_, ?_⟩
      · rw [sum_len, List.length_map]
        show cs.length + cs.length * 0 ≤ 16777216
        omega
      rw [TL.join_eq, S_join]
      exact q _ _ (by rw [S_len]; omega) (ok_S.mpr hcs) ((G2.trans g3).trans g4)
end

/-! ### woods, as they stand in the heap -/
abbrev Nam := List Nat
abbrev Mk := Nam × List Nam
abbrev Wood := List (Nam × List Mk)
/-- tuples stand as they stood -/
def KT (H H' : Hp) : Prop := ∀ p xs, H p = some (.tup xs) → H' p = some (.tup xs)
theorem KT.of {H H' : Hp} (s : Same H H') : KT H H' := fun p xs e => s _ _ e
theorem KT.gr {a : Addr} {H H' : Hp} (d : Drw H a) (g : Gr a H H') : KT H H' := fun p xs e => g.1 _ _ (fun z => by
  obtain ⟨x, y, w, e'⟩ := d
  rw [z, e'] at e
  cases e) e
theorem KT.lst {H : Hp} {p : Addr} {xs ys : List V} (h : H p = some (.lst xs)) : KT H (upd H p (.lst ys)) := fun q zs e => by
  rw [upd_ne (ne_of e h (by intro z; cases z))]
  exact e
theorem KT.trans {H H1 H2 : Hp} (a : KT H H1) (b : KT H1 H2) : KT H H2 := fun p xs e => b _ _ (a _ _ e)
def MkAt (H : Hp) (v : V) (m : Mk) : Prop := ∃ p t, v = .ref p ∧ H p = some (.tup [.str (S m.1), .ref t]) ∧ H t = some (.tup (nmsV m.2))
theorem MkAt.mono {H H' : Hp} {v : V} {m : Mk} (k : KT H H') (h : MkAt H v m) : MkAt H' v m := by
  obtain ⟨p, t, e, h1, h2⟩ := h
  exact ⟨p, t, e, k _ _ h1, k _ _ h2⟩
abbrev MksAt (H : Hp) : List V → List Mk → Prop := Paired (MkAt H)
def KdAt (H : Hp) (v : V) (k : Nam × List Mk) : Prop := ∃ p t vs, v = .ref p ∧ H p = some (.tup [.str (S k.1), .ref t]) ∧ H t = some (.tup vs) ∧ MksAt H vs k.2
theorem KdAt.mono {H H' : Hp} {v : V} {m : Nam × List Mk} (k : KT H H') (h : KdAt H v m) : KdAt H' v m := by
  obtain ⟨p, t, vs, e, h1, h2, h3⟩ := h
  exact ⟨p, t, vs, e, k _ _ h1, k _ _ h2, Paired.mapP h3 fun _ _ z => z.mono k⟩
def WdAt (H : Hp) (p : Addr) (w : Wood) : Prop := ∃ vs, H p = some (.tup vs) ∧ Paired (KdAt H) vs w
theorem WdAt.mono {H H' : Hp} {p : Addr} {w : Wood} (k : KT H H') (h : WdAt H p w) : WdAt H' p w := by
  obtain ⟨vs, h1, h2⟩ := h
  exact ⟨vs, k _ _ h1, Paired.mapP h2 fun _ _ z => z.mono k⟩
/-- all makers, kind by kind -/
def mks (w : Wood) : List Mk := w.flatMap (·.2)
structure Good (w : Wood) : Prop where
  some : 1 ≤ w.length
  few : w.length ≤ 4
  kinds : (w.map (·.1)).Nodup
  kindN : ∀ k ∈ w.map (·.1), nmB (S k) = true
  makers : ((mks w).map (·.1)).Nodup
  makerN : ∀ m ∈ (mks w).map (·.1), nmB (S m) = true
  many : (mks w).length ≤ 12
  parts : ∀ m ∈ mks w, m.2.length ≤ 2 ∧ ∀ q ∈ m.2, q ∈ w.map (·.1)
theorem paired_snoc {α β : Type} {F : α → β → Prop} {x : α} {y : β} : ∀ {xs : List α} {ys : List β}, Paired F xs ys → F x y → Paired F (xs ++ [x]) (ys ++ [y])
  | _, _, .nil, h => .cons h .nil
  | _, _, .cons a b, h => .cons a (paired_snoc b h)
theorem paired_at {α β : Type} {F : α → β → Prop} : ∀ {xs : List α} {ys : List β}, Paired F xs ys → ∀ {i : Nat} {x : α}, xs[i]? = some x → ∃ y, ys[i]? = some y ∧ F x y
  | _, _, .nil, i, x, h => by simp at h
  | _, _, .cons r t, 0, x, h => by
    cases Option.some.inj h
    exact ⟨_, rfl, r⟩
  | _, _, .cons r t, i + 1, x, h => paired_at t h
theorem paired_at2 {α β : Type} {F : α → β → Prop} : ∀ {xs : List α} {ys : List β}, Paired F xs ys → ∀ {i : Nat} {y : β}, ys[i]? = some y → ∃ x, xs[i]? = some x ∧ F x y
  | _, _, .nil, i, x, h => by simp at h
  | _, _, .cons r t, 0, x, h => by
    cases Option.some.inj h
    exact ⟨_, rfl, r⟩
  | _, _, .cons r t, i + 1, x, h => paired_at2 t h
/-- one more at the k-th row -/
theorem perm_set {α : Type} {x : α} : ∀ {ws : List (List α)} {k : Nat} {w : List α}, ws[k]? = some w → ((ws.set k (w ++ [x])).flatten).Perm (ws.flatten ++ [x])
  | [], k, w, h => by simp at h
  | u :: r, 0, w, h => by
    cases Option.some.inj h
    show (u ++ [x] ++ r.flatten).Perm (u ++ r.flatten ++ [x])
    rw [List.append_assoc, List.append_assoc]
    exact List.Perm.append_left u List.perm_append_comm
  | u :: r, k + 1, w, h => by
    show (u ++ (r.set k (w ++ [x])).flatten).Perm (u ++ r.flatten ++ [x])
    rw [List.append_assoc]
    exact List.Perm.append_left u (perm_set h)
/-- the makers' rows: the lists rs, distinct, each with its makers -/
def RowsAt (H : Hp) (rs : List Addr) (ws : List (List Mk)) : Prop := rs.length = ws.length ∧ rs.Nodup ∧ ∀ (k : Nat) (r : Addr) (w : List Mk), rs[k]? = some r → ws[k]? = some w → ∃ vs, H r = some (.lst vs) ∧ MksAt H vs w
theorem RowsAt.mono {H H' : Hp} {rs : List Addr} {ws : List (List Mk)} (k : KT H H') (s : ∀ r ∈ rs, ∀ vs, H r = some (.lst vs) → H' r = some (.lst vs)) (h : RowsAt H rs ws) : RowsAt H' rs ws := ⟨h.1, h.2.1, fun i r w e1 e2 => by
  obtain ⟨vs, a, b⟩ := h.2.2 i r w e1 e2
  exact ⟨vs, s r (List.mem_of_getElem? e1) vs a, Paired.mapP b fun _ _ z => z.mono k⟩⟩
theorem RowsAt.add {H : Hp} {rs : List Addr} {ws : List (List Mk)} {k : Nat} {r : Addr} {w : List Mk} {vs : List V} {v : V} {m : Mk} (h : RowsAt H rs ws) (er : rs[k]? = some r) (ew : ws[k]? = some w) (eH : H r = some (.lst vs)) (hv : MksAt H vs w) (hm : MkAt H v m) :
    RowsAt (upd H r (.lst (vs ++ [v]))) rs (ws.set k (w ++ [m])) := by
  have kt : KT H (upd H r (.lst (vs ++ [v]))) := KT.lst eH
  refine ⟨by rw [List.length_set]; exact h.1, h.2.1, fun j r' w' e1 e2 => ?_⟩
  by_cases hj : j = k
  · subst hj
    rw [er] at e1
    cases Option.some.inj e1
    have hlt : j < ws.length := (List.getElem?_eq_some_iff.mp ew).1
    rw [List.getElem?_set_self hlt] at e2
    cases Option.some.inj e2
    exact ⟨_, upd_same, paired_snoc (Paired.mapP hv fun _ _ z => z.mono kt) (hm.mono kt)⟩
  · rw [List.getElem?_set_ne (Ne.symm hj)] at e2
    obtain ⟨vs', a, b⟩ := h.2.2 j r' w' e1 e2
    have nr : r' ≠ r := fun z => by
      subst z
      exact hj (nd_ix h.2.1 e1 er)
    exact ⟨vs', by rw [upd_ne nr]; exact a, Paired.mapP b fun _ _ z => z.mono kt⟩
section
variable {P : Program} {w : World} {K : PySem.W.Frag} {mg : Str → Option Value} {base : Heap}
/-! ### _law_wood -/
def spWood : Sp := fun vs H Q _ => ∃ (a : Addr) (most : Int), vs = [.ref a, .int most] ∧ Drw H a ∧ 0 < most ∧ most ≤ 12 ∧
  ∀ (p : Addr) (H' : Hp) (wd : Wood), Gr a H H' → WdAt H' p wd → Good wd → Q (.ref p) H'
theorem ixk {d : Int} (h0 : 0 ≤ d) (h1 : d < 6) : ∃ v : Int, atI [V.int 0, V.int 0, V.int 1, V.int 1, V.int 2, V.int 3] d = some (.int v) ∧ 0 ≤ v ∧ v ≤ 3 := by
  have : d = 0 ∨ d = 1 ∨ d = 2 ∨ d = 3 ∨ d = 4 ∨ d = 5 := by omega
  rcases this with rfl | rfl | rfl | rfl | rfl | rfl
  all_goals exact ⟨_, rfl, by decide, by decide⟩
theorem ixp {d : Int} (h0 : 0 ≤ d) (h1 : d < 6) : ∃ v : Int, atI [V.int 0, V.int 0, V.int 1, V.int 1, V.int 2, V.int 2] d = some (.int v) ∧ 0 ≤ v ∧ v ≤ 2 := by
  have : d = 0 ∨ d = 1 ∨ d = 2 ∨ d = 3 ∨ d = 4 ∨ d = 5 := by omega
  rcases this with rfl | rfl | rfl | rfl | rfl | rfl
  all_goals exact ⟨_, rfl, by decide, by decide⟩
theorem s6 : 6 ≤ sizeLine := by decide
theorem nms_at {ns : List Nam} {d : Int} (h0 : 0 ≤ d) (h1 : d < ns.length) : ∃ n ∈ ns, atI (nmsV ns) d = some (.str (S n)) := by
  have l : d.toNat < ns.length := by omega
  refine ⟨ns[d.toNat], List.getElem_mem l, at_of (j := d.toNat) (by omega) ?_⟩
  unfold nmsV
  rw [List.getElem?_map, List.getElem?_eq_getElem l]
  rfl
theorem nms_of {acc : List V} {C : Nam → Prop} (h : ∀ v ∈ acc, ∃ q, C q ∧ v = .str (S q)) : ∃ qs : List Nam, acc = nmsV qs ∧ ∀ q ∈ qs, C q := by
  induction acc with
  | nil => exact ⟨[], rfl, fun _ h => nomatch h⟩
  | cons v r ih =>
    obtain ⟨c, hc, rfl⟩ := h v List.mem_cons_self
    obtain ⟨cs, rfl, hcs⟩ := ih fun u hu => h u (List.mem_cons_of_mem _ hu)
    exact ⟨c :: cs, rfl, fun d hd => by
      rcases List.mem_cons.mp hd with rfl | hd
      · exact hc
      · exact hcs d hd⟩
/-- new there where a draw went on: new before -/
theorem Gr.back {a p : Addr} {H H' : Hp} (d : Drw H' a) (g : Gr a H H') (n : H' p = none) : H p = none := by
  cases e : H p with
  | none => rfl
  | some o =>
    rw [g.1 p o (d.ne n).symm e] at n
    cases n
/-- n new lists -/
theorem lc_news {n : Nat} {lo : Int} {j : Nat} {vs : List Nat} {σ : L2.St} {H1 : Hp} {D : Addr} {Qd : Hp → Prop} (nD : H1 D = none) (hn : n ≤ 10000) (hw : ∀ v : V, wipe ((wipe σ vs).set j (some v)) vs = wipe σ vs)
    (hd : ∀ (H : Hp) (rs : List Addr), rs.length = n → rs.Nodup → (∀ r ∈ rs, H1 r = none ∧ r ≠ D ∧ H r = some (.lst [])) → Same H1 H → H D = some (.lst (rs.map V.ref)) → Qd H) :
    ∃ W : Nat → Nat → Hp → Prop, (∃ m, W 0 m (upd H1 D (.lst []))) ∧ ∀ i m H, W i m H →
      ((Itr lo n).stop i H ∧ Qd H) ∨ ((Itr lo n).go i H ∧ ∃ Nx : Hp → Prop, (∀ H', Nx H' → ∃ m', m' < m ∧ W (i + 1) m' H') ∧ ∀ x H', (Itr lo n).yld i H x H' → (gName j) x (wipe σ vs) H' fun σ2 H2 => wipe σ2 vs = wipe σ vs ∧ tYes σ2 H2 fun b H3 =>
        if b = true then tLst tNil σ2 H3 fun y H4 => ∃ acc, H4 D = some (.lst acc) ∧ acc.length < sizeLine ∧ Nx (upd H4 D (.lst (acc ++ [y]))) else Nx H3) := by
  refine lc_range (lo := lo) (n := n) (fun i H => Same H1 H ∧ ∃ rs : List Addr, rs.length = i ∧ rs.Nodup ∧ (∀ r ∈ rs, H1 r = none ∧ r ≠ D ∧ H r = some (.lst [])) ∧ H D = some (.lst (rs.map V.ref))) ⟨same_new nD, [], rfl, List.Pairwise.nil, (fun _ h => nomatch h), upd_same⟩ (fun i H hi p => ?_) (fun H p => ?_)
  · obtain ⟨s1, rs, hl, hnd, hr, eD⟩ := p
    refine ⟨hw _, ?_⟩
    unfold tYes
    refine iteT ?_
    refine ⟨s0, fun r nr => ⟨rs.map V.ref, ?_, ?_, ?_, rs ++ [r], by rw [List.length_append, hl]; rfl, ?_, ?_, ?_⟩⟩
    · rw [upd_ne (ne_of_none eD nr)]
      exact eD
    · rw [List.length_map]
      exact Nat.lt_of_le_of_lt (show rs.length ≤ 10000 by omega) (by decide)
    · exact fun b o e => by
        rw [upd_ne (ne_of_none e nD), upd_ne (ne_of_none (s1 _ _ e) nr)]
        exact s1 _ _ e
    · refine List.nodup_append.mpr ⟨hnd, List.pairwise_singleton _ _, fun x hx y hy => ?_⟩
      rw [List.mem_singleton.mp hy]
      exact ne_of_none (hr x hx).2.2 nr
    · intro x hx
      rcases List.mem_append.mp hx with hx | hx
      · obtain ⟨x1, x2, x3⟩ := hr x hx
        refine ⟨x1, x2, ?_⟩
        rw [upd_ne x2, upd_ne (ne_of_none x3 nr)]
        exact x3
      · rw [List.mem_singleton.mp hx]
        have : r ≠ D := (ne_of_none eD nr).symm
        exact ⟨Same.free s1 nr, this, by rw [upd_ne this]; exact upd_same⟩
    · rw [upd_same, List.map_append]
      rfl
  · obtain ⟨s1, rs, hl, hnd, hr, eD⟩ := p
    exact hd H rs hl hnd hr s1 eD
theorem ok_wood (T : Tx P K mg) : FnOk P w K mg base CX0 3 T.f_wood T.fd_wood ["_law_box_here", "_law_most"] spWood := by
  refine T.F_wood.ok sc_wood (fun vs H Q E h => ?_) (fun cdv A outer s H vs Q E hr h => ?_)
  · obtain ⟨a, m, rfl, _⟩ := h
    rfl
  · obtain ⟨a, most, rfl, dr, hm0, hm1, q⟩ := h
    refine ⟨_, (pss_cons (ps_asg (pe_tup (pa_cons (pe_call (ok_take T) (hr.mono (by decide) : Room 1 _) (by rfl) T.g_take T.F_take.kp T.b_take .nil pass0 (pa_cons (pv 0) (pa_cons pe_int pa_nil))) (pa_cons (pe_op op_add pe_int (pe_ix ix_list (pe_lst (pa_cons pe_int (pa_cons pe_int (pa_cons pe_int (pa_cons pe_int (pa_cons pe_int (pa_cons pe_int pa_nil))))))) (pe_call (ok_take T) (hr.mono (by decide) : Room 1 _) (by rfl) T.g_take T.F_take.kp T.b_take .nil pass0 (pa_cons (pv 0) (pa_cons pe_int pa_nil))) (fun _ _ => rfl))) pa_nil))) (pg_tup rfl (pgs_cons (pg_name (i := 2) sc_wood.nd rfl (.inl rfl)) (pgs_cons (pg_name (i := 3) sc_wood.nd rfl (.inr rfl)) pgs_nil)))) (pss_cons (ps_asg (pe_tup (pa_cons (pe_call (ok_names T) (hr.mono (by decide) : Room 2 _) (by rfl) T.g_names T.F_names.kp T.b_names .nil pass0 (pa_cons (pv 0) (pa_cons (pv 3) pa_nil))) (pa_cons (pe_op op_mul (pe_op op_add pe_int (pe_call (ok_take T) (hr.mono (by decide) : Room 1 _) (by rfl) T.g_take T.F_take.kp T.b_take .nil pass0 (pa_cons (pv 0) (pa_cons (pv 1) pa_nil)))) (pe_callTy call_int1 (by rfl) T.m_int (by decide +kernel) (pa_cons (pe_cmpR op_gt (pe_call (ok_take T) (hr.mono (by decide) : Room 1 _) (by rfl) T.g_take T.F_take.kp T.b_take .nil pass0 (pa_cons (pv 0) (pa_cons pe_int pa_nil))) pe_int (nomark _)) pa_nil))) pa_nil))) (pg_tup rfl (pgs_cons (pg_name (i := 4) sc_wood.nd rfl (.inr rfl)) (pgs_cons (pg_name (i := 5) sc_wood.nd rfl (.inl rfl)) pgs_nil)))) (pss_cons (ps_set (i := 6) sc_wood.nd rfl (.inl rfl) (pe_call (ok_names T) (hr.mono (by decide) : Room 2 _) (by rfl) T.g_names T.F_names.kp T.b_names .nil pass0 (pa_cons (pv 0) (pa_cons (pv 5) pa_nil)))) (pss_cons (ps_setLc (i := 8) (own := [("_law_k", 7)]) (by rfl) sc_wood.nd rfl rfl (sw_true rfl rfl rfl (by decide +kernel)) (pi_range1 (by rfl) T.m_range (pa_cons (pv 3) pa_nil)) (blkOk_by (own := [("_law_k", 7)]) (N := ["_law_box_here", "_law_most", "_law_plain", "_law_many", "_law_kinds", "_law_some", "_law_names_here", "_law_k", "_law_rows", "_law_name", "_law_kind", "_law_wide", "_law_parts", "_law_row", "_law_j"]) (sc := defScope st_wood) (by decide +kernel)) (fun _ _ _ _ _ => (pg_name (i := 7) sc_wood.nd rfl (.inl rfl))) (fun _ _ _ _ _ => pts_nil) (fun _ _ _ _ _ => (pe_lst pa_nil))) (pss_cons (ps_for PassesOwn.never rfl (pi_enum (by rfl) T.m_enumerate (pa_cons (pv 6) pa_nil)) (pg_tup rfl (pgs_cons (pg_name (i := 7) sc_wood.nd rfl (.inl rfl)) (pgs_cons (pg_name (i := 9) sc_wood.nd rfl (.inl rfl)) pgs_nil))) (pss_cons (ps_par (i := 10) (j := 11) (by rfl) sc_wood.nd rfl rfl (by decide) rfl rfl (pa_cons (pe_call (ok_take T) (hr.mono (by decide) : Room 1 _) (by rfl) T.g_take T.F_take.kp T.b_take .nil pass0 (pa_cons (pv 0) (pa_cons (pv 3) pa_nil))) (pa_cons (pe_ix ix_list (pe_lst (pa_cons pe_int (pa_cons pe_int (pa_cons pe_int (pa_cons pe_int (pa_cons pe_int (pa_cons pe_int pa_nil))))))) (pe_call (ok_take T) (hr.mono (by decide) : Room 1 _) (by rfl) T.g_take T.F_take.kp T.b_take .nil pass0 (pa_cons (pv 0) (pa_cons pe_int pa_nil))) (fun _ _ => rfl)) pa_nil)) (by rfl)) (pss_cons (ps_set (i := 12) sc_wood.nd rfl (.inl rfl) (pe_callTy call_tuple_of (by rfl) T.m_tuple (by decide +kernel) (pa_cons (pe_lc (own := [("_law_j", 14)]) (by rfl) sc_wood.nd (pi_range1 (by rfl) T.m_range (pa_cons (pv 11) pa_nil)) (blkOk_by (own := [("_law_j", 14)]) (N := ["_law_box_here", "_law_most", "_law_plain", "_law_many", "_law_kinds", "_law_some", "_law_names_here", "_law_k", "_law_rows", "_law_name", "_law_kind", "_law_wide", "_law_parts", "_law_row", "_law_j"]) (sc := defScope st_wood) (by decide +kernel)) (fun _ _ _ _ _ => (pg_name (i := 14) sc_wood.nd rfl (.inl rfl))) (fun _ _ _ _ _ => pts_nil) (fun _ _ _ _ _ => (pe_ix (KX.ix_listK K) (pv 4) (pe_call (ok_take T) (hr.mono (by decide) : Room 1 _) (by rfl) T.g_take T.F_take.kp T.b_take .nil pass0 (pa_cons (pv 0) (pa_cons (pv 3) pa_nil))) (fun _ _ => rfl)))) pa_nil))) (C8.pss_cut (ps_if (PW.pt (pw_and (pt_cmpR op_gt (pv 2) pe_int (nomark _)) (pw_and1 (pt_cmpR op_lt (pv 7) (pv 3) (nomark _))))) (pss_one (ps_par (i := 10) (j := 12) (by rfl) sc_wood.nd rfl rfl (by decide) rfl rfl (pa_cons (pv 7) (pa_cons (pe_tup pa_nil) pa_nil)) (by rfl))) pss_nil) (pss_one (ps_expr (pe_bm PySem.F.plainAttrs_list PySem.F.slot_list_append PySem.F.type_list_append mt_append (pe_ix ix_list (pv 8) (pv 10) (fun _ _ => rfl)) (pa_cons (pe_tup (pa_cons (pv 9) (pa_cons (pv 12) pa_nil))) pa_nil)))))))) (pss_one (ps_ret (pe_callTy call_tuple_of (by rfl) T.m_tuple (by decide +kernel) (pa_cons (pe_lc (own := [("_law_kind", 10), ("_law_row", 13)]) (by rfl) sc_wood.nd (pi_zip (by rfl) T.m_zip (pa_cons (pv 4) (pa_cons (pv 8) pa_nil))) (blkOk_by (own := [("_law_kind", 10), ("_law_row", 13)]) (N := ["_law_box_here", "_law_most", "_law_plain", "_law_many", "_law_kinds", "_law_some", "_law_names_here", "_law_k", "_law_rows", "_law_name", "_law_kind", "_law_wide", "_law_parts", "_law_row", "_law_j"]) (sc := defScope st_wood) (by decide +kernel)) (fun _ _ _ _ _ => (KX.pg_tupK K (n := 2) rfl (pgs_cons (pg_name (i := 10) sc_wood.nd rfl (.inl rfl)) (pgs_cons (pg_name (i := 13) sc_wood.nd rfl (.inl rfl)) pgs_nil)))) (fun _ _ _ _ _ => pts_nil) (fun _ _ _ _ _ => (pe_tup (pa_cons (pv 10) (pa_cons (pe_callTy (KX.call_tuple_K K) (by rfl) T.m_tuple (by decide +kernel) (pa_cons (pv 13) pa_nil)) pa_nil))))) pa_nil))))))))), ?_⟩
    -- plain, many
    refine ⟨_, rfl, a, 5, rfl, dr, by decide, by decide +kernel, fun pl H1 pl0 pl1 g1 => ?_⟩
    refine ⟨s6, fun L1 nL1 => ?_⟩
    refine ⟨_, rfl, a, 6, rfl, g1.2.mono (same_new nL1), by decide, by decide +kernel, fun d6 H2 d60 d61 g2 => ?_⟩
    obtain ⟨mv, hmv, mv0, mv1⟩ := ixk d60 d61
    have nL1a : L1 ≠ a := (g1.2.ne nL1).symm
    refine ⟨L1, _, _, _, rfl, rfl, SqL.of (g2.1 _ _ nL1a upd_same), hmv, _, _, rfl, rfl, s2, fun t1 nt1 => ?_⟩
    have G2 : Gr a H H2 := (g1.trans (Gr.of (same_new nL1) g1.2)).trans g2
    refine ⟨t1, _, rfl, .inl (.inl upd_same), rfl, _, _, rfl, _, _, rfl, rfl, ?_⟩
    have G3 : Gr a H (upd H2 t1 (.tup [.int pl, .int (1 + mv)])) := G2.trans (Gr.of (same_new nt1) g2.2)
    generalize upd H2 t1 (.tup [.int pl, .int (1 + mv)]) = H3 at G3
    -- kinds, some
    refine ⟨_, rfl, _, rfl, a, 1 + mv, rfl, G3.2, by omega, by omega, fun kd H4 kns nkd g4 ekd klen knd knm => ?_⟩
    refine ⟨_, rfl, _, rfl, a, most, rfl, g4.2, hm0, Nat.lt_of_le_of_lt (show most.natAbs ≤ 12 by omega) (by decide +kernel), fun sv H5 sv0 sv1 g5 => ?_⟩
    refine ⟨_, _, rfl, rfl, ?_⟩
    refine ⟨_, rfl, a, 16, rfl, g5.2, by decide, by decide +kernel, fun s16 H6 s160 s161 g6 => ?_⟩
    refine ⟨_, _, rfl, rfl, .inr ⟨_, rfl, _, _, rfl, rfl, .inr ⟨by split <;> decide, by split <;> decide⟩, s2, fun t2 nt2 => ?_⟩⟩
    obtain ⟨sm, hsm, sm0, sm1⟩ : ∃ sm : Int, (1 + sv) * (if decide (0 < s16) = true then 1 else 0) = sm ∧ 0 ≤ sm ∧ sm ≤ 12 := by
      refine ⟨_, rfl, ?_, ?_⟩ <;> split <;> omega
    refine ⟨t2, _, rfl, .inl (.inl upd_same), rfl, _, _, rfl, _, _, rfl, rfl, ?_⟩
    have nka : kd ≠ a := fun z => by
      obtain ⟨x, y, u, e⟩ := G3.2
      rw [z, e] at nkd
      cases nkd
    have G6 : Gr a H H6 := ((G3.trans g4).trans g5).trans g6
    have ekd6 : H6 kd = some (.lst (nmsV kns)) := g6.1 _ _ nka (g5.1 _ _ nka ekd)
    have nkdH : H kd = none := G3.back G3.2 nkd
    generalize hH7 : upd H6 t2 _ = H7
    have s67 : Same H6 H7 := by
      rw [← hH7]
      exact same_new nt2
    have G7 : Gr a H H7 := G6.trans (Gr.of s67 g6.2)
    have ekd7 := s67 _ _ ekd6
    show tSeq _ _ _ _ _
    dsimp only
    rw [hsm]
    -- the names
    refine ⟨_, rfl, _, rfl, a, sm, rfl, G7.2, sm0, sm1, fun nh H8 nns nnh g8 enh nlen nnd nnm => ?_⟩
    have G8 : Gr a H H8 := G7.trans g8
    have ekd8 : H8 kd = some (.lst (nmsV kns)) := g8.1 _ _ nka ekd7
    have nha : nh ≠ a := fun z => by
      obtain ⟨x, y, u, e⟩ := G7.2
      rw [z, e] at nnh
      cases nnh
    -- the rows
    refine ⟨_, rfl, 1 + mv, rfl, by omega, by omega, fun R nR => ?_⟩
    refine lc_news nR (by omega) (fun v => rfl) (fun H9 rs rlen rnd rnew s9 eR => ?_)
    have G9 : Gr a H H9 := G8.trans (Gr.of s9 g8.2)
    have nRH : H R = none := G8.back G8.2 nR
    have nRa : R ≠ a := fun z => by
      obtain ⟨x, y, u, e⟩ := G8.2
      rw [z, e] at nR
      cases nR
    have rH : ∀ r ∈ rs, H r = none ∧ r ≠ a ∧ r ≠ R ∧ r ≠ kd ∧ r ≠ nh := fun r hr => by
      obtain ⟨x1, x2, x3⟩ := rnew r hr
      refine ⟨G8.back G8.2 x1, (G8.2.ne x1).symm, x2, (ne_of_none ekd8 x1).symm, (ne_of_none enh x1).symm⟩
    -- the makers
    refine ⟨_, rfl, nh, nmsV nns, rfl, SqL.of (s9 _ _ enh), for_it (walk_enum (xs := nmsV nns)) (fun i σ H' => ∃ (y7 y9 y10 y11 y12 : Option V) (ws : List (List Mk)), σ = [some (.ref a), some (.int most), some (.int pl), some (.int (1 + mv)), some (.ref kd), some (.int sm), some (.ref nh), y7, some (.ref R), y9, y10, y11, y12, none, none] ∧
        Gr a H H' ∧ H' kd = some (.lst (nmsV kns)) ∧ H' nh = some (.lst (nmsV nns)) ∧ H' R = some (.lst (rs.map V.ref)) ∧ RowsAt H' rs ws ∧ (ws.flatten.map (·.1)).Perm (nns.take i) ∧ ∀ m ∈ ws.flatten, m.2.length ≤ 2 ∧ ∀ q ∈ m.2, q ∈ kns)
      ⟨none, none, none, none, none, List.replicate (1 + mv).toNat [], rfl, G9, s9 _ _ ekd8, s9 _ _ enh, eR, ⟨?_, rnd, fun k r w e1 e2 => ?_⟩, ?_, ?_⟩ (fun i σ H' hi p => ?_) (fun i x σ H' H'' hi p y => ?_) (fun σ H' p => ?_)⟩
    · rw [List.length_replicate]
      exact rlen
    · have hr := List.mem_of_getElem? e1
      rw [List.getElem?_replicate] at e2
      split at e2
      · cases Option.some.inj e2
        exact ⟨[], (rnew r hr).2.2, .nil⟩
      · cases e2
    · rw [List.flatten_replicate_nil, List.take_zero]
      exact List.Perm.nil
    · intro m hm
      rw [List.flatten_replicate_nil] at hm
      cases hm
    · obtain ⟨_, _, _, _, _, _, _, _, _, e, _⟩ := p
      exact SqL.of e
    · obtain ⟨y7, y9, y10, y11, y12, ws, rfl, gr, ekd', enh', eR', rows, hper, hpt⟩ := p
      obtain ⟨Tt, xi, xn, rfl, nTt, rfl, exi, exn⟩ := y
      cases Option.some.inj exi
      have hi' : i < nns.length := by
        unfold nmsV at hi
        rw [List.length_map] at hi
        exact hi
      have exn' : xn = .str (S nns[i]) := by
        unfold nmsV at exn
        dsimp only at exn
        rw [List.getElem?_map, List.getElem?_eq_getElem hi'] at exn
        exact (Option.some.inj exn).symm
      subst exn'
      refine ⟨Tt, _, rfl, .inl (.inl upd_same), rfl, _, _, rfl, _, _, rfl, rfl, ?_⟩
      have gT : Gr a H (upd H' Tt (.tup [.int (i : Nat), .str (S nns[i])])) := gr.trans (Gr.of (same_new nTt) gr.2)
      have sT : Same H' (upd H' Tt (.tup [.int (i : Nat), .str (S nns[i])])) := same_new nTt
      generalize upd H' Tt (.tup [.int (i : Nat), .str (S nns[i])]) = Ha at gT sT
      -- kind, wide
      refine ⟨_, rfl, _, rfl, a, 1 + mv, rfl, gT.2, by omega, Nat.lt_of_le_of_lt (show (1 + mv).natAbs ≤ 12 by omega) (by decide +kernel), fun ki Hb ki0 ki1 gb => ?_⟩
      refine ⟨s6, fun L2' nL2 => ?_⟩
      refine ⟨_, rfl, a, 6, rfl, gb.2.mono (same_new nL2), by decide, by decide +kernel, fun d7 Hc d70 d71 gc => ?_⟩
      obtain ⟨wv, hwv, wv0, wv1⟩ := ixp d70 d71
      have nL2a : L2' ≠ a := (gb.2.ne nL2).symm
      refine ⟨L2', _, _, _, rfl, rfl, SqL.of (gc.1 _ _ nL2a upd_same), hwv, _, _, rfl, ?_⟩
      have GC : Gr a Ha Hc := (gb.trans (Gr.of (same_new nL2) gb.2)).trans gc
      have ekdC : Hc kd = some (.lst (nmsV kns)) := GC.1 _ _ nka (sT _ _ ekd')
      -- parts
      refine ⟨_, rfl, wv, rfl, by omega, by omega, fun D nD => ?_⟩
      refine lc_draw (a := a) nD GC.2 (by omega) (fun v => ∃ q, q ∈ kns ∧ v = .str (S q)) (fun j Hj hj gj => ?_) (fun x σ H Q Q' f h => f _ _ h) (fun σ H Q Q' f h => f _ _ h) (fun σ H Q Q' f h => ?_) (fun Hd acc gd eD hl hP => ?_)
      · obtain ⟨x0, y0, z0, e0⟩ := gj.2
        refine ⟨rfl, rfl, _, rfl, _, rfl, _, rfl, a, 1 + mv, rfl, gj.2, by omega, Nat.lt_of_le_of_lt (show (1 + mv).natAbs ≤ 12 by omega) (by decide +kernel), fun d Hk d0 d1 gk => ?_⟩
        obtain ⟨n, hn, en⟩ := nms_at (ns := kns) d0 (by omega)
        exact ⟨kd, _, d, _, rfl, rfl, SqL.of (gk.1 _ _ nka (gj.1 _ _ nka ekdC)), en, ⟨n, hn, rfl⟩, gk⟩
      · obtain ⟨v0, e0, v1, e1, v2, e2, a', m', e3, dr', p1, p2, k⟩ := h
        refine ⟨v0, e0, v1, e1, v2, e2, a', m', e3, dr', p1, p2, fun d H3 d0 d1 g3 => ?_⟩
        obtain ⟨z, i, c, v, f1, f2, f3, f4, f5⟩ := k d H3 d0 d1 g3
        exact ⟨z, i, c, v, f1, f2, f3, f4, f _ _ f5⟩
      obtain ⟨qs, rfl, hqs⟩ := nms_of hP
      have hql : qs.length ≤ 2 := by
        unfold nmsV at hl
        rw [List.length_map] at hl
        omega
      refine ⟨D, _, rfl, .inl ⟨SqL.of eD, fun tp ntp => ?_⟩⟩
      have GE : Gr a H' (upd Hd tp (.tup (nmsV qs))) := ((Gr.of sT gr.2).trans (GC.trans gd)).trans (Gr.of (same_new ntp) gd.2)
      have etp : upd Hd tp (.tup (nmsV qs)) tp = some (.tup (nmsV qs)) := upd_same
      generalize upd Hd tp (.tup (nmsV qs)) = He at GE etp
      obtain ⟨M, hM⟩ : ∃ M : L2.St → Hp → Prop, M = fun σ Hx => ∃ (ki' : Int) (tp' : Addr) (qs' : List Nam), σ = [some (.ref a), some (.int most), some (.int pl), some (.int (1 + mv)), some (.ref kd), some (.int sm), some (.ref nh), some (.int (i : Nat)), some (.ref R), some (.str (S nns[i])), some (.int ki'), some (.int wv), some (.ref tp'), none, none] ∧ 0 ≤ ki' ∧ ki' < 1 + mv ∧ Hx tp' = some (.tup (nmsV qs')) ∧ qs'.length ≤ 2 ∧ (∀ q ∈ qs', q ∈ kns) ∧ Gr a H' Hx := ⟨_, rfl⟩
      refine ⟨M, ?_, fun σ1 Hx h1 => ?_⟩
      · refine ⟨_, rfl, _, _, rfl, rfl, _, rfl, ite2 (fun c => ?_) (fun c => ?_)⟩
        · refine ⟨_, rfl, _, rfl, _, _, rfl, rfl, _, rfl, ite2 (fun c => ?_) (fun c => ?_)⟩
          · refine ⟨_, rfl, s0, fun t0 nt0 => ⟨_, _, rfl, ?_⟩⟩
            show M _ _
            rw [hM]
            exact ⟨_, t0, [], rfl, by omega, of_decide_eq_true c, upd_same, by decide, (fun _ h => nomatch h), GE.trans (Gr.of (same_new nt0) GE.2)⟩
          · show M _ _
            rw [hM]
            exact ⟨ki, tp, qs, rfl, ki0, ki1, etp, hql, hqs, GE⟩
        · show M _ _
          rw [hM]
          exact ⟨ki, tp, qs, rfl, ki0, ki1, etp, hql, hqs, GE⟩
      rw [hM] at h1
      obtain ⟨k1, tp1, qs1, rfl, k10, k11, etp1, hql1, hqs1, gx⟩ := h1
      clear hM M
      have eRx : Hx R = some (.lst (rs.map V.ref)) := gx.1 _ _ nRa eR'
      have hk1 : k1.toNat < rs.length := by omega
      have eat : atI (rs.map V.ref) k1 = some (.ref rs[k1.toNat]) := at_of (j := k1.toNat) (by omega) (by rw [List.getElem?_map, List.getElem?_eq_getElem hk1]; rfl)
      have hrm : rs[k1.toNat] ∈ rs := List.getElem_mem hk1
      obtain ⟨r1, r2, r3, r4, r5⟩ := rH _ hrm
      have ktx : KT H' Hx := KT.gr gr.2 gx
      have rowsx : RowsAt Hx rs ws := rows.mono ktx fun r hr vs e => gx.1 _ _ (rH r hr).2.1 e
      have hkw : k1.toNat < ws.length := by rw [← rows.1]; exact hk1
      obtain ⟨vs, evs, hvs⟩ := rowsx.2.2 k1.toNat rs[k1.toNat] ws[k1.toNat] (List.getElem?_eq_getElem hk1) (List.getElem?_eq_getElem hkw)
      refine ⟨_, rfl, _, rfl, R, _, k1, _, rfl, rfl, SqL.of eRx, eat, .inl ⟨rfl, _, SqL.of evs⟩, ?_⟩
      refine ⟨_, rfl, _, rfl, s2, fun tm ntm => ?_⟩
      have sM : Same Hx (upd Hx tm (.tup [.str (S nns[i]), .ref tp1])) := same_new ntm
      have em : upd Hx tm (.tup [.str (S nns[i]), .ref tp1]) tm = some (.tup [.str (S nns[i]), .ref tp1]) := upd_same
      generalize upd Hx tm (.tup [.str (S nns[i]), .ref tp1]) = Hm at sM em
      have hfl : ws.flatten.length = i := by
        have := hper.length_eq
        rw [List.length_map, List.length_take] at this
        omega
      have ewk : ws[k1.toNat]? = some ws[k1.toNat] := List.getElem?_eq_getElem hkw
      have hvl : vs.length ≤ 12 := by
        rw [hvs.length]
        have : (ws[k1.toNat]).length ≤ ws.flatten.length := (List.sublist_flatten_of_mem (List.getElem_mem hkw)).length_le
        omega
      refine ⟨rs[k1.toNat], _, _, rfl, rfl, sM _ _ evs, Nat.lt_of_le_of_lt hvl (by decide), ?_⟩
      have rowsm : RowsAt Hm rs ws := rowsx.mono (KT.of sM) fun r hr vs e => sM _ _ e
      have hmk : MkAt Hm (.ref tm) (nns[i], qs1) := ⟨tm, tp1, rfl, em, sM _ _ etp1⟩
      refine ⟨_, _, _, _, _, ws.set k1.toNat (ws[k1.toNat] ++ [(nns[i], qs1)]), rfl, ?_, ?_, ?_, ?_, rowsm.add (List.getElem?_eq_getElem hk1) ewk (sM _ _ evs) (Paired.mapP hvs fun _ _ z => z.mono (KT.of sM)) hmk, ?_, ?_⟩
      · have gm := (gr.trans gx).trans (Gr.of sM gx.2)
        refine ⟨fun b o nb e => ?_, ?_⟩
        · rw [upd_ne (ne_of_none e r1)]
          exact gm.1 _ _ nb e
        · obtain ⟨x, y, z, e⟩ := gm.2
          exact ⟨x, y, z, by rw [upd_ne r2.symm]; exact e⟩
      · rw [upd_ne r4.symm]
        exact sM _ _ (gx.1 _ _ nka ekd')
      · rw [upd_ne r5.symm]
        exact sM _ _ (gx.1 _ _ nha enh')
      · rw [upd_ne r3.symm]
        exact sM _ _ eRx
      · have p1 := (perm_set (x := (nns[i], qs1)) ewk).map (·.1)
        refine p1.trans ?_
        rw [List.map_append, List.take_add_one, List.getElem?_eq_getElem hi']
        exact List.Perm.append_right _ hper
      · intro m hm
        have := (perm_set (x := (nns[i], qs1)) ewk).mem_iff.mp hm
        rcases List.mem_append.mp this with h | h
        · exact hpt m h
        · rw [List.mem_singleton.mp h]
          exact ⟨hql1, hqs1⟩
    · obtain ⟨y7, y9, y10, y11, y12, ws, rfl, gr, ekd', enh', eR', rows, hper, hpt⟩ := p
      have hnl : (nmsV nns).length = nns.length := by
        unfold nmsV
        rw [List.length_map]
      rw [hnl, List.take_length] at hper
      have hkw : kns.length = ws.length := by
        have := rows.1
        omega
      have ezf : (kns.zip ws).map (·.1) = kns := List.map_fst_zip (Nat.le_of_eq hkw)
      have ezs : (kns.zip ws).map (·.2) = ws := List.map_snd_zip (Nat.le_of_eq hkw.symm)
      have emk : mks (kns.zip ws) = ws.flatten := by
        unfold mks
        rw [List.flatMap_def, ezs]
      have hzl : (kns.zip ws).length = kns.length := by
        rw [List.length_zip]
        omega
      have hgood : Good (kns.zip ws) := ⟨by omega, by omega, by rw [ezf]; exact knd, by rw [ezf]; exact knm, by rw [emk]; exact hper.nodup_iff.mpr nnd, by rw [emk]; exact fun m hm => nnm m (hper.mem_iff.mp hm), by
          rw [emk]
          have := hper.length_eq
          rw [List.length_map] at this
          omega, by rw [emk, ezf]; exact hpt⟩
      refine ⟨_, rfl, _, rfl, kd, R, _, _, rfl, SqL.of ekd', SqL.of eR', fun D nD => ?_⟩
      refine lc_it (walk_zip (n := kns.length) (xs := nmsV kns) (ys := rs.map V.ref) (by unfold nmsV; rw [List.length_map, List.length_map]; omega)) (fun i Hx => Same H' Hx ∧ ∃ acc, Hx D = some (.lst acc) ∧ Paired (KdAt Hx) acc ((kns.zip ws).take i)) ⟨same_new nD, [], upd_same, by rw [List.take_zero]; exact .nil⟩ (fun i Hx hi p => ⟨SqL.of (p.1 _ _ ekd'), SqL.of (p.1 _ _ eR')⟩) (fun i x Hx Hy hi p y => ?_) (fun Hx p => ?_)
      · obtain ⟨sx, acc, eD, hac⟩ := p
        obtain ⟨Tt, xk, xr, rfl, nTt, rfl, exk, exr⟩ := y
        have hir : i < rs.length := by omega
        have hiw : i < ws.length := by omega
        have exk' : xk = .str (S kns[i]) := by
          unfold nmsV at exk
          dsimp only at exk
          rw [List.getElem?_map, List.getElem?_eq_getElem hi] at exk
          exact (Option.some.inj exk).symm
        have exr' : xr = .ref rs[i] := by
          dsimp only at exr
          rw [List.getElem?_map, List.getElem?_eq_getElem hir] at exr
          exact (Option.some.inj exr).symm
        subst exk' exr'
        refine ⟨Tt, _, rfl, .inl (.inl upd_same), rfl, _, _, rfl, _, _, rfl, rfl, rfl, ?_⟩
        have sT : Same Hx (upd Hx Tt (.tup [.str (S kns[i]), .ref rs[i]])) := same_new nTt
        generalize upd Hx Tt (.tup [.str (S kns[i]), .ref rs[i]]) = Ha at sT
        obtain ⟨vs, evs, hvs⟩ := rows.2.2 i rs[i] ws[i] (List.getElem?_eq_getElem hir) (List.getElem?_eq_getElem hiw)
        unfold tYes
        refine iteT ?_
        refine ⟨_, rfl, _, rfl, rs[i], vs, rfl, .inl ⟨SqL.of (sT _ _ (sx _ _ evs)), fun tr ntr => ⟨s2, fun tk ntk => ?_⟩⟩⟩
        have s3' : Same Hx (upd (upd Ha tr (.tup vs)) tk (.tup [.str (S kns[i]), .ref tr])) := (sT.trans (same_new ntr)).trans (same_new ntk)
        have etr : upd (upd Ha tr (.tup vs)) tk (.tup [.str (S kns[i]), .ref tr]) tr = some (.tup vs) := (same_new ntk) _ _ upd_same
        have etk : upd (upd Ha tr (.tup vs)) tk (.tup [.str (S kns[i]), .ref tr]) tk = some (.tup [.str (S kns[i]), .ref tr]) := upd_same
        generalize upd (upd Ha tr (.tup vs)) tk (.tup [.str (S kns[i]), .ref tr]) = Hb at s3' etr etk
        refine ⟨acc, s3' _ _ eD, ?_, ?_, acc ++ [.ref tk], upd_same, ?_⟩
        · rw [hac.length, List.length_take]
          exact Nat.lt_of_le_of_lt (show _ ≤ 1000 by omega) (by decide)
        · exact fun b o e => by
            rw [upd_ne (ne_of_none e nD)]
            exact s3' _ _ (sx _ _ e)
        · have kt : KT Hb (upd Hb D (.lst (acc ++ [.ref tk]))) := KT.lst (s3' _ _ eD)
          rw [List.take_add_one, List.getElem?_eq_getElem (show i < (kns.zip ws).length by omega), List.getElem_zip]
          refine paired_snoc (Paired.mapP hac fun _ _ z => (z.mono (KT.of s3')).mono kt) ⟨tk, tr, vs, rfl, kt _ _ etk, kt _ _ etr, Paired.mapP hvs fun _ _ z => (z.mono (KT.of (sx.trans s3'))).mono kt⟩
      · obtain ⟨sx, acc, eD, hac⟩ := p
        rw [← hzl, List.take_length] at hac
        refine ⟨D, acc, rfl, .inl ⟨SqL.of eD, fun p np => ?_⟩⟩
        refine q p _ (kns.zip ws) ((gr.trans (Gr.of sx gr.2)).trans (Gr.of (same_new np) (gr.2.mono sx))) ⟨acc, upd_same, Paired.mapP hac fun _ _ z => z.mono (KT.of (same_new np))⟩ hgood
end

/-! ### the looks, at a good wood -/
section
variable {P : Program} {w : World} {K : PySem.W.Frag} {mg : Str → Option Value} {base : Heap}
def spLk : Sp := fun vs H Q _ => ∃ (p : Addr) (wd : Wood), vs = [.ref p] ∧ WdAt H p wd ∧ Good wd ∧ ∀ (l : Addr) (H' : Hp), H l = none → Same H H' → H' l = some (.lst (nmsV (wd.map (·.1)))) → Q (.ref l) H'
theorem nm_short {n : Nam} (h : nmB (S n) = true) : (S n).length ≤ 10000 := by
  have := (nmB_S.mp h).2.1
  rw [S_len]
  omega
theorem nodup_take {α : Type} {l : List α} {i : Nat} {x : α} (h : l.Nodup) (e : l[i]? = some x) : x ∉ l.take i := fun hm => by
  obtain ⟨j, hj, ej⟩ := List.getElem_of_mem hm
  rw [List.length_take] at hj
  rw [List.getElem_take] at ej
  have := nd_ix h (i := j) (j := i) (x := x) (by rw [List.getElem?_eq_getElem (by omega), ej]) e
  omega
theorem ok_lookkinds (T : Tx P K mg) : FnOk P w K mg base CX0 2 T.f_lookkinds T.fd_lookkinds ["wood"] spLk := by
  refine T.F_lookkinds.ok sc_lookkinds (fun vs H Q E h => ?_) (fun cdv A outer s H vs Q E hr h => ?_)
  · obtain ⟨a, b, rfl, _⟩ := h
    rfl
  · obtain ⟨p, wd, rfl, ⟨vs, ep, hw⟩, good, q⟩ := h
    refine ⟨_, (pss_cons (ps_set (i := 1) sc_lookkinds.nd rfl (.inl rfl) (pe_lst pa_nil)) (pss_cons (ps_for PassesOwn.never rfl (pi_tup (pv 0)) (pg_tup rfl (pgs_cons (pg_name (i := 2) sc_lookkinds.nd rfl (.inl rfl)) (pgs_cons (pg_name (i := 3) sc_lookkinds.nd rfl (.inl rfl)) pgs_nil))) (pss_cons (ps_if (pt_not (pt_val (pe_call (ok_isname T) (hr.mono (by decide) : Room 1 _) (by rfl) T.g_isname T.F_isname.kp T.b_isname .nil pass0 (pa_cons (pv 2) pa_nil)))) (pss_one (ps_never)) pss_nil) (pss_cons (ps_if (pt_cmpR op_in_seq (pv 2) (pv 1) (by rfl)) (pss_one (ps_never)) pss_nil) (pss_one (ps_expr (pe_bm PySem.F.plainAttrs_list PySem.F.slot_list_append PySem.F.type_list_append mt_append (pv 1) (pa_cons (pv 2) pa_nil))))))) (pss_one (ps_ret (pv 1))))), ?_⟩
    refine ⟨s0, fun F nF => ?_⟩
    have sF : Same H (upd H F (.lst [])) := same_new nF
    refine ⟨_, rfl, p, rfl, ⟨vs, .inl (.inl (sF _ _ ep))⟩, for_it (walk_tup (xs := vs)) (fun i σ H' => ∃ (y2 y3 : Option V), σ = [some (.ref p), some (.ref F), y2, y3] ∧ Same H H' ∧ H' F = some (.lst (nmsV ((wd.map (·.1)).take i)))) ⟨none, none, rfl, sF, upd_same⟩ (fun i σ H' hi P => ?_) (fun i x σ H' H'' hi P y => ?_) (fun σ H' P => ?_)⟩
    · obtain ⟨_, _, _, s1, _⟩ := P
      exact .inl (.inl (s1 _ _ ep))
    · obtain ⟨y2, y3, rfl, s1, eF⟩ := P
      obtain ⟨rfl, ex⟩ := y
      obtain ⟨⟨nm, ms⟩, enm, tk, tt, mv, rfl, etk, ett, hms⟩ := paired_at hw ex
      have hil : i < wd.length := by
        rw [← hw.length]
        exact (List.getElem?_eq_some_iff.mp ex).1
      have emap : (wd.map (·.1))[i]? = some nm := by
        rw [List.getElem?_map, enm]
        rfl
      have hnm : nmB (S nm) = true := good.kindN nm (List.mem_of_getElem? emap)
      refine ⟨tk, _, rfl, .inl (.inl (s1 _ _ etk)), rfl, _, _, rfl, _, _, rfl, rfl, ?_⟩
      refine ⟨_, rfl, S nm, rfl, nm_short hnm, fun H2 s2 => ?_⟩
      rw [hnm]
      refine ⟨_, rfl, iteF ?_⟩
      have eF2 := s2 _ _ eF
      refine ⟨_, rfl, _, rfl, F, _, rfl, .inl (SqL.of eF2), rfl, nms_flat _, _, rfl, ?_⟩
      rw [show inV (.str (S nm)) (nmsV ((wd.map (·.1)).take i)) = decide (nm ∈ (wd.map (·.1)).take i) from inV_S _, decide_eq_false (nodup_take good.kinds emap)]
      refine iteF ?_
      refine ⟨.ref F, rfl, .inl ⟨rfl, _, SqL.of eF2⟩, _, rfl, F, _, _, rfl, rfl, eF2, ?_, ?_⟩
      · unfold nmsV
        rw [List.length_map, List.length_take, List.length_map]
        exact Nat.lt_of_le_of_lt (show _ ≤ 1000 by have := good.few; omega) (by decide)
      · refine ⟨_, _, rfl, fun b o e => ?_, ?_⟩
        · rw [upd_ne (ne_of_none e nF)]
          exact s2 _ _ (s1 _ _ e)
        · rw [upd_same, List.take_add_one, emap]
          unfold nmsV
          rw [List.map_append]
          rfl
    · obtain ⟨y2, y3, rfl, s1, eF⟩ := P
      refine ⟨_, rfl, q F H' nF s1 ?_⟩
      rw [eF, hw.length, show wd.length = (wd.map (·.1)).length by rw [List.length_map], List.take_length]
def spLm : Sp := fun vs H Q _ => ∃ (k m : Addr) (ks : List Nam) (mvs : List V) (ms : List Mk), vs = [.ref k, .ref m] ∧ H k = some (.lst (nmsV ks)) ∧ H m = some (.lst mvs) ∧ MksAt H mvs ms ∧ ms.length ≤ 100 ∧ (ms.map (·.1)).Nodup ∧ (∀ n ∈ ms.map (·.1), nmB (S n) = true) ∧ (∀ x ∈ ms, x.2.length ≤ 2 ∧ ∀ q ∈ x.2, q ∈ ks) ∧ ∀ H', Same H H' → Q .non H'
theorem ok_lookmakers (T : Tx P K mg) : FnOk P w K mg base CX0 2 T.f_lookmakers T.fd_lookmakers ["kinds", "makers"] spLm := by
  refine T.F_lookmakers.ok sc_lookmakers (fun vs H Q E h => ?_) (fun cdv A outer s H vs Q E hr h => ?_)
  · obtain ⟨a, b, ks, mvs, ms, rfl, _⟩ := h
    rfl
  · obtain ⟨k, m, ks, mvs, ms, rfl, ek, em, hm, hml, hnd, hnm, hpt, q⟩ := h
    refine ⟨_, (pss_cons (ps_set (i := 2) sc_lookmakers.nd rfl (.inl rfl) (pe_lst pa_nil)) (pss_one (ps_for PassesOwn.never rfl (pi_list (pv 1)) (pg_tup rfl (pgs_cons (pg_name (i := 3) sc_lookmakers.nd rfl (.inl rfl)) (pgs_cons (pg_name (i := 4) sc_lookmakers.nd rfl (.inl rfl)) pgs_nil))) (pss_cons (ps_if (pt_not (pt_val (pe_call (ok_isname T) (hr.mono (by decide) : Room 1 _) (by rfl) T.g_isname T.F_isname.kp T.b_isname .nil pass0 (pa_cons (pv 3) pa_nil)))) (pss_one (ps_never)) pss_nil) (pss_cons (ps_if (pt_cmpR op_in_seq (pv 3) (pv 2) (by rfl)) (pss_one (ps_never)) pss_nil) (pss_cons (ps_if (pt_cmpR op_gt (pe_callB call_len_seq (by rfl) T.m_len PySem.boot_len (pa_cons (pv 4) pa_nil)) (pe_glob (v := .int 2) (by rfl) T.c_MOST_PARTS ⟨_, rfl⟩) (nomark _)) (pss_one (ps_never)) pss_nil) (pss_cons (ps_if (pt_not (pt_val (pe_callB (cr_all rfl) (by rfl) T.m_all (by decide +kernel) (pa_cons (pe_lc (own := [("part", 5)]) (by rfl) sc_lookmakers.nd (pi_tup (pv 4)) (blkOk_by (own := [("part", 5)]) (N := ["kinds", "makers", "ahead", "name", "parts", "part"]) (sc := defScope st_lookmakers) (by decide +kernel)) (fun _ _ _ _ _ => (pg_name (i := 5) sc_lookmakers.nd rfl (.inl rfl))) (fun _ _ _ _ _ => pts_nil) (fun _ _ _ _ _ => (pe_cmpR (KX.in_seqK K) (pv 5) (pv 0) (by rfl)))) pa_nil)))) (pss_one (ps_never)) pss_nil) (pss_one (ps_expr (pe_bm PySem.F.plainAttrs_list PySem.F.slot_list_append PySem.F.type_list_append mt_append (pv 2) (pa_cons (pv 3) pa_nil))))))))))), ?_⟩
    refine ⟨s0, fun F nF => ?_⟩
    have sF : Same H (upd H F (.lst [])) := same_new nF
    refine ⟨_, rfl, m, rfl, ⟨mvs, SqL.of (sF _ _ em)⟩, for_it (walk_list (xs := mvs)) (fun i σ H' => ∃ (y2 y3 : Option V), σ = [some (.ref k), some (.ref m), some (.ref F), y2, y3, none] ∧ Same H H' ∧ H' F = some (.lst (nmsV ((ms.map (·.1)).take i)))) ⟨none, none, rfl, sF, upd_same⟩ (fun i σ H' hi P => ?_) (fun i x σ H' H'' hi P y => ?_) (fun σ H' P => ?_)⟩
    · obtain ⟨_, _, _, s1, _⟩ := P
      exact SqL.of (s1 _ _ em)
    · obtain ⟨y2, y3, rfl, s1, eF⟩ := P
      obtain ⟨rfl, ex⟩ := y
      obtain ⟨⟨nm, ps⟩, enm, tk, tt, rfl, etk, ett⟩ := paired_at hm ex
      have emap : (ms.map (·.1))[i]? = some nm := by
        rw [List.getElem?_map, enm]
        rfl
      have hn : nmB (S nm) = true := hnm nm (List.mem_of_getElem? emap)
      obtain ⟨hp2, hpk⟩ := hpt _ (List.mem_of_getElem? enm)
      dsimp only at hp2 hpk
      refine ⟨tk, _, rfl, .inl (.inl (s1 _ _ etk)), rfl, _, _, rfl, _, _, rfl, rfl, ?_⟩
      refine ⟨_, rfl, S nm, rfl, nm_short hn, fun H2 s2 => ?_⟩
      rw [hn]
      refine ⟨_, rfl, iteF ?_⟩
      have eF2 := s2 _ _ eF
      refine ⟨_, rfl, _, rfl, F, _, rfl, .inl (SqL.of eF2), rfl, nms_flat _, _, rfl, ?_⟩
      rw [show inV (.str (S nm)) (nmsV ((ms.map (·.1)).take i)) = decide (nm ∈ (ms.map (·.1)).take i) from inV_S _, decide_eq_false (nodup_take hnd emap)]
      refine iteF ?_
      -- how many parts
      have ett2 := s2 _ _ (s1 _ _ ett)
      refine ⟨_, rfl, tt, _, rfl, .inr (.inl (.inl ett2)), ?_⟩
      have hpl : (nmsV ps).length = ps.length := by
        unfold nmsV
        rw [List.length_map]
      refine ⟨_, _, rfl, rfl, _, rfl, ?_⟩
      rw [decide_eq_false (show ¬ ((2 : Int) < ((nmsV ps).length : Int)) by rw [hpl]; omega)]
      refine iteF ?_
      refine ⟨_, rfl, tt, rfl, ⟨_, .inl (.inl ett2)⟩, fun D nD => ?_⟩
      refine lc_pure (walk_tup (xs := nmsV ps)) nD (ps.map fun _ => V.bl true) (by rw [List.length_map, hpl]) (by rw [hpl]; omega) (fun Hq sq => .inl (.inl (sq _ _ ett2))) (fun j x y H3 H4 hy s3 hY => ?_) (fun x σ H Q Q' f h => f _ _ h) (fun σ H Q Q' f h => f _ _ h) (fun σ H Q Q' f h => ?_) (fun H3 s3 e3 => ?_)
      · obtain ⟨rfl, ex⟩ := hY
        unfold nmsV at ex
        rw [List.getElem?_map] at ex hy
        cases epj : ps[j]? with
        | none =>
          rw [epj] at ex
          cases ex
        | some pj =>
          rw [epj] at ex hy
          cases Option.some.inj ex
          cases Option.some.inj hy
          refine ⟨rfl, rfl, _, rfl, _, rfl, k, _, rfl, .inl (SqL.of (s3 _ _ (s2 _ _ (s1 _ _ ek)))), rfl, nms_flat _, ?_, Same.refl _⟩
          rw [show inV (.str (S pj)) (nmsV ks) = decide (pj ∈ ks) from inV_S _, decide_eq_true (hpk pj (List.mem_of_getElem? epj))]
          rfl
      · obtain ⟨v1, e1, v2, e2, z1, z2, z3, z4, z5, z6, z7⟩ := h
        exact ⟨v1, e1, v2, e2, z1, z2, z3, z4, z5, z6, f _ _ z7⟩
      refine ⟨D, ps.map fun _ => true, rfl, SqL.of (by rw [e3, List.map_map]; rfl), ?_⟩
      rw [show (ps.map fun _ => true).all id = true by rw [List.all_map, List.all_eq_true]; exact fun _ _ => rfl]
      refine ⟨_, rfl, iteF ?_⟩
      have s4 : Same H H3 := (s1.trans s2).trans s3
      have eF3 := s3 _ _ eF2
      refine ⟨.ref F, rfl, .inl ⟨rfl, _, SqL.of eF3⟩, _, rfl, F, _, _, rfl, rfl, eF3, ?_, ?_⟩
      · unfold nmsV
        rw [List.length_map, List.length_take, List.length_map]
        exact Nat.lt_of_le_of_lt (show _ ≤ 1000 by omega) (by decide)
      · refine ⟨_, _, rfl, fun b o e => ?_, ?_⟩
        · rw [upd_ne (ne_of_none e nF)]
          exact s4 _ _ e
        · rw [upd_same, List.take_add_one, emap]
          unfold nmsV
          rw [List.map_append]
          rfl
    · obtain ⟨y2, y3, rfl, s1, eF⟩ := P
      exact q H' s1
theorem walk_it {J : It} {n : Nat} {G : Hp → Prop} {Y : Nat → Hp → V → Hp → Prop} (wk : Walk J n G Y) {step : V → Hp → (Hp → Prop) → Prop} {Hs : Hp} {Qd : Hp → Prop} (Pv : Nat → Hp → Prop) (h0 : Pv 0 Hs) (hG : ∀ i H, i ≤ n → Pv i H → G H)
    (hs : ∀ i x H H', i < n → Pv i H → Y i H x H' → step x H' (Pv (i + 1))) (hd : ∀ H, Pv n H → Qd H) :
    ∃ W : Nat → Nat → Hp → Prop, (∃ m, W 0 m Hs) ∧ ∀ i m H, W i m H →
      (J.stop i H ∧ Qd H) ∨ (J.go i H ∧ ∃ Nx : Hp → Prop, (∀ H', Nx H' → ∃ m', m' < m ∧ W (i + 1) m' H') ∧ ∀ x H', J.yld i H x H' → step x H' Nx) := by
  refine ⟨fun i m H => m = n - i ∧ i ≤ n ∧ Pv i H, ⟨n, by simp, Nat.zero_le _, h0⟩, ?_⟩
  rintro i m H ⟨rfl, hi, p⟩
  have q := hG i H hi p
  by_cases hlt : i < n
  · exact .inr ⟨wk.goes i H hlt q, Pv (i + 1), fun H' p' => ⟨n - (i + 1), by omega, rfl, hlt, p'⟩, fun x H' y => hs i x H H' hlt p (wk.yields i H x H' hlt q y)⟩
  · have e : i = n := by omega
    subst e
    exact .inl ⟨wk.stops H q, hd H p⟩
theorem mks_take {wd : Wood} {i : Nat} {k : Nam × List Mk} (e : wd[i]? = some k) : mks (wd.take (i + 1)) = mks (wd.take i) ++ k.2 := by
  unfold mks
  rw [List.take_add_one, e, List.flatMap_append]
  simp
theorem mks_le {wd : Wood} {i : Nat} : (mks (wd.take i)).length ≤ (mks wd).length := by
  have h := congrArg (fun l => (mks l).length) (List.take_append_drop i wd)
  unfold mks at h ⊢
  rw [List.flatMap_append, List.length_append] at h
  omega
def spLw : Sp := fun vs H Q _ => ∃ (p : Addr) (wd : Wood), vs = [.ref p] ∧ WdAt H p wd ∧ Good wd ∧ ∀ H', Same H H' → Q (.bl true) H'
theorem ok_lookwood (T : Tx P K mg) : FnOk P w K mg base CX0 3 T.f_lookwood T.fd_lookwood ["wood"] spLw := by
  refine T.F_lookwood.ok sc_lookwood (fun vs H Q E h => ?_) (fun cdv A outer s H vs Q E hr h => ?_)
  · obtain ⟨a, b, rfl, _⟩ := h
    rfl
  · obtain ⟨p, wd, rfl, ⟨vs, ep, hw⟩, good, q⟩ := h
    refine ⟨_, (pss_cons (ps_if (pt_not (pt_chain op_le op_le pe_int (pe_callB call_len_seq (by rfl) T.m_len PySem.boot_len (pa_cons (pv 0) pa_nil)) (pe_glob (v := .int 4) (by rfl) T.c_MOST_KINDS ⟨_, rfl⟩))) (pss_one (ps_never)) pss_nil) (pss_cons (ps_set (i := 1) sc_lookwood.nd rfl (.inl rfl) (pe_call (ok_lookkinds T) (hr.mono (by decide) : Room 2 _) (by rfl) T.g_lookkinds T.F_lookkinds.kp T.b_lookkinds .nil pass0 (pa_cons (pv 0) pa_nil))) (pss_cons (ps_setLc2 (i := 2) (own := [("kind", 3), ("own", 4), ("maker", 5)]) (vs1 := [5]) (by rfl) sc_lookwood.nd rfl rfl (sw_true rfl rfl rfl (by decide +kernel)) (pi_tup (pv 0)) (blkOk_by (own := [("kind", 3), ("own", 4), ("maker", 5)]) (N := ["wood", "kinds", "makers", "kind", "own", "maker"]) (sc := defScope st_lookwood) (by decide +kernel)) (by decide) (fun _ _ _ _ _ => (KX.pg_tupK K (n := 2) rfl (pgs_cons (pg_name (i := 3) sc_lookwood.nd rfl (.inl rfl)) (pgs_cons (pg_name (i := 4) sc_lookwood.nd rfl (.inl rfl)) pgs_nil)))) (fun _ _ _ _ _ => pts_nil) (fun _ _ _ _ _ => (KX.pi_tupK K (pv 4))) (fun _ _ _ _ _ => (pg_name (i := 5) sc_lookwood.nd rfl (.inl rfl))) (fun _ _ _ _ _ => pts_nil) (fun _ _ _ _ _ => (pv 5))) (pss_cons (ps_expr (pe_call (ok_lookmakers T) (hr.mono (by decide) : Room 2 _) (by rfl) T.g_lookmakers T.F_lookmakers.kp T.b_lookmakers .nil pass0 (pa_cons (pv 1) (pa_cons (pv 2) pa_nil)))) (pss_cons (ps_if (pt_cmpR op_gt (pe_callB call_len_seq (by rfl) T.m_len PySem.boot_len (pa_cons (pv 2) pa_nil)) (pe_glob (v := .int 12) (by rfl) T.c_MOST_MAKERS ⟨_, rfl⟩) (nomark _)) (pss_one (ps_never)) pss_nil) (pss_one (ps_ret pe_bl))))))), ?_⟩
    have hl := hw.length
    have g1 := good.some
    have g2 := good.few
    refine ⟨_, rfl, p, _, rfl, .inr (.inl (.inl ep)), _, _, rfl, rfl, _, rfl, ?_⟩
    rw [decide_eq_true (show (1 : Int) ≤ (vs.length : Int) by omega)]
    refine iteT ⟨_, _, rfl, rfl, _, rfl, ?_⟩
    rw [decide_eq_true (show (vs.length : Int) ≤ 4 by omega)]
    refine iteF ?_
    refine ⟨_, rfl, p, wd, rfl, ⟨vs, ep, hw⟩, good, fun l H1 nl s1 el => ?_⟩
    refine ⟨_, rfl, p, rfl, ⟨vs, .inl (.inl (s1 _ _ ep))⟩, fun D nD => ?_⟩
    refine walk_it (walk_tup (xs := vs)) (fun i Hx => Same H1 Hx ∧ ∃ acc, Hx D = some (.lst acc) ∧ MksAt Hx acc (mks (wd.take i))) ⟨same_new nD, [], upd_same, .nil⟩ (fun i Hx hi P => .inl (.inl (P.1 _ _ (s1 _ _ ep)))) (fun i x Hx Hy hi P y => ?_) (fun Hx P => ?_)
    · obtain ⟨sx, acc, eD, hac⟩ := P
      obtain ⟨rfl, ex⟩ := y
      obtain ⟨⟨nm, ms⟩, enm, tk, tt, mvs, rfl, etk, ett, hms⟩ := paired_at hw ex
      refine ⟨tk, _, rfl, .inl (.inl (sx _ _ (s1 _ _ etk))), rfl, _, _, rfl, _, _, rfl, rfl, rfl, ?_⟩
      unfold tYes
      refine iteT ?_
      refine ⟨_, rfl, tt, rfl, ⟨mvs, .inl (.inl (sx _ _ (s1 _ _ ett)))⟩, ?_⟩
      refine walk_it (walk_tup (xs := mvs)) (fun j Hz => Same H1 Hz ∧ ∃ acc, Hz D = some (.lst acc) ∧ MksAt Hz acc (mks (wd.take i) ++ ms.take j)) ⟨sx, acc, eD, by rw [List.take_zero, List.append_nil]; exact hac⟩ (fun j Hz hj P => .inl (.inl (P.1 _ _ (s1 _ _ ett)))) (fun j x Hz Hz' hj P y => ?_) (fun Hz P => ?_)
      · obtain ⟨sz, acc', eD', hac'⟩ := P
        obtain ⟨rfl, ex'⟩ := y
        obtain ⟨mk, emk, hmk⟩ := paired_at hms ex'
        refine ⟨rfl, iteT ⟨_, rfl, acc', eD', ?_, ?_, _, upd_same, ?_⟩⟩
        · have h1 := mks_le (wd := wd) (i := i + 1)
          rw [mks_take enm, List.length_append] at h1
          dsimp only at h1
          have h2 := good.many
          rw [hac'.length, List.length_append, List.length_take]
          exact Nat.lt_of_le_of_lt (show _ ≤ 12 by omega) (by decide)
        · exact fun b o e => by
            rw [upd_ne (ne_of_none e nD)]
            exact sz _ _ e
        · have kt : KT Hz' (upd Hz' D (.lst (acc' ++ [x]))) := KT.lst eD'
          rw [List.take_add_one, emk, ← List.append_assoc]
          exact paired_snoc (Paired.mapP hac' fun _ _ z => z.mono kt) ((hmk.mono (KT.of (s1.trans sz))).mono kt)
      · obtain ⟨sz, acc', eD', hac'⟩ := P
        rw [hms.length, List.take_length] at hac'
        refine ⟨sz, acc', eD', ?_⟩
        rw [mks_take enm]
        exact hac'
    · obtain ⟨sx, acc, eD, hac⟩ := P
      rw [hw.length, List.take_length] at hac
      have hlm : acc.length ≤ 12 := by
        rw [hac.length]
        exact good.many
      refine ⟨_, rfl, _, rfl, l, D, _, acc, mks wd, rfl, sx _ _ el, eD, hac, by have := good.many; omega, good.makers, good.makerN, good.parts, fun H2 s2 => ?_⟩
      refine ⟨_, rfl, D, _, rfl, .inl (SqL.of (s2 _ _ eD)), _, _, rfl, rfl, _, rfl, ?_⟩
      rw [decide_eq_false (show ¬ ((12 : Int) < (acc.length : Int)) by omega)]
      exact iteF (q H2 ((s1.trans sx).trans s2))
end

/-! ### the table of makers -/
theorem walk_enumT {K : PySem.W.Frag} {a : Addr} {xs : List V} : Walk (EnT.IteT K a xs.length) xs.length (fun H => SqT K H a xs) (YPair (fun i => some (.int (i : Nat))) (fun i => xs[i]?)) := by
  refine ⟨fun i H hi q => ⟨xs, xs[i], q, rfl, List.getElem?_eq_getElem hi⟩, fun H q => ⟨xs, q, rfl, Nat.le_refl _⟩, fun i H v H' hi q y => ?_⟩
  obtain ⟨T, x, rfl, nT, rfl, fx⟩ := y
  exact ⟨T, _, x, rfl, nT, rfl, rfl, fx xs q⟩
abbrev Ky (n : Nam) : Key := .inr (S n)
theorem Ky_inj {a b : Nam} (h : Ky a = Ky b) : a = b := S_inj.mp (Sum.inr.inj h)
/-- the numbers of the kinds -/
def nums : Nat → List Nam → List (Key × V)
  | _, [] => []
  | i, n :: r => (Ky n, .int (i : Nat)) :: nums (i + 1) r
theorem nums_len : ∀ {i : Nat} {ks : List Nam}, (nums i ks).length = ks.length
  | _, [] => rfl
  | i, n :: r => by
    show (nums (i + 1) r).length + 1 = r.length + 1
    rw [nums_len]
theorem nums_val {q : Nam} : ∀ {i : Nat} {ks : List Nam}, valV (nums i ks) (Ky q) = if q ∈ ks then some (.int ((i + ks.idxOf q : Nat) : Int)) else none
  | _, [] => rfl
  | i, n :: r => by
    show valV ((Ky n, .int (i : Nat)) :: nums (i + 1) r) (Ky q) = _
    by_cases h : n = q
    · subst h
      rw [valV_pos rfl, if_pos List.mem_cons_self, List.idxOf_cons_self]
      rfl
    · rw [valV_neg (fun z => h (Ky_inj z)), nums_val]
      by_cases hq : q ∈ r
      · rw [if_pos hq, if_pos (List.mem_cons_of_mem _ hq)] 
        have : (n :: r).idxOf q = r.idxOf q + 1 := by
          rw [List.idxOf_cons, show (n == q) = false from beq_false_of_ne h]
          rfl
        rw [this]
        congr 2
        omega
      · rw [if_neg hq, if_neg (fun z => by
          rcases List.mem_cons.mp z with z | z
          · exact h z.symm
          · exact hq z)]
theorem nums_snoc {q : Nam} : ∀ {i : Nat} {ks : List Nam}, nums i (ks ++ [q]) = nums i ks ++ [(Ky q, .int ((i + ks.length : Nat) : Int))]
  | _, [] => rfl
  | i, n :: r => by
    show (Ky n, V.int (i : Nat)) :: nums (i + 1) (r ++ [q]) = (Ky n, .int (i : Nat)) :: (nums (i + 1) r ++ [(Ky q, .int ((i + (r.length + 1) : Nat) : Int))])
    rw [nums_snoc, show i + 1 + r.length = i + (r.length + 1) by omega]
theorem putK_new {kvs : List (Key × V)} {k : Key} {v : V} (h : valV kvs k = none) : putK kvs k v = kvs ++ [(k, v)] := by
  unfold putK
  rw [valV_any, h]
  rfl
/-- the makers with their kinds' numbers -/
def ents (ks : List Nam) (w : Wood) : List (Mk × Nat) := w.flatMap fun k => k.2.map fun m => (m, ks.idxOf k.1)
theorem ents_take {ks : List Nam} {wd : Wood} {i : Nat} {k : Nam × List Mk} (e : wd[i]? = some k) : ents ks (wd.take (i + 1)) = ents ks (wd.take i) ++ k.2.map fun m => (m, ks.idxOf k.1) := by
  unfold ents
  rw [List.take_add_one, e, List.flatMap_append]
  simp
theorem ents_fst {ks : List Nam} {w : Wood} : (ents ks w).map (·.1) = mks w := by
  unfold ents mks
  rw [List.map_flatMap]
  congr 1
  funext k
  rw [List.map_map]
  exact List.map_id' _
def prts (ks : List Nam) (ps : List Nam) : List V := ps.map fun q => .int ((ks.idxOf q : Nat) : Int)
def RowAt (H : Hp) (ks : List Nam) (kv : Key × V) (e : Mk × Nat) : Prop := ∃ t u, kv = (Ky e.1.1, .ref t) ∧ H t = some (.tup [.int (e.2 : Nat), .ref u]) ∧ H u = some (.tup (prts ks e.1.2))
theorem RowAt.mono {H H' : Hp} {ks : List Nam} {kv : Key × V} {e : Mk × Nat} (k : KT H H') (h : RowAt H ks kv e) : RowAt H' ks kv e := by
  obtain ⟨t, u, e1, h1, h2⟩ := h
  exact ⟨t, u, e1, k _ _ h1, k _ _ h2⟩
theorem row_none {H : Hp} {ks : List Nam} {n : Nam} : ∀ {kvs : List (Key × V)} {es : List (Mk × Nat)}, Paired (RowAt H ks) kvs es → n ∉ es.map (·.1.1) → valV kvs (Ky n) = none
  | _, _, .nil, _ => rfl
  | _, _, .cons r t, hn => by
    obtain ⟨a, b, rfl, _, _⟩ := r
    rw [valV_neg (fun z => hn (by
      rw [List.map_cons, ← Ky_inj z]
      exact List.mem_cons_self))]
    exact row_none t fun z => hn (List.mem_cons_of_mem _ z)
theorem row_some {H : Hp} {ks : List Nam} : ∀ {kvs : List (Key × V)} {es : List (Mk × Nat)}, Paired (RowAt H ks) kvs es → (es.map (·.1.1)).Nodup → ∀ e ∈ es, ∃ t u, valV kvs (Ky e.1.1) = some (.ref t) ∧ H t = some (.tup [.int (e.2 : Nat), .ref u]) ∧ H u = some (.tup (prts ks e.1.2))
  | _, _, .nil, _, e, he => nomatch he
  | _, _, .cons r t, hn, e, he => by
    obtain ⟨a, b, rfl, h1, h2⟩ := r
    rcases List.mem_cons.mp he with rfl | he
    · exact ⟨a, b, valV_pos rfl, h1, h2⟩
    · have hn' := List.nodup_cons.mp hn
      rw [valV_neg (fun z => hn'.1 (by
        dsimp only
        rw [Ky_inj z]
        exact List.mem_map.mpr ⟨e, he, rfl⟩))]
      exact row_some t hn'.2 e he
theorem row_keys {H : Hp} {ks : List Nam} : ∀ {kvs : List (Key × V)} {es : List (Mk × Nat)}, Paired (RowAt H ks) kvs es → kvs.map (fun kv => kV kv.1) = nmsV (es.map (·.1.1))
  | _, _, .nil => rfl
  | _, _, .cons r t => by
    obtain ⟨a, b, rfl, _, _⟩ := r
    have := row_keys t
    unfold nmsV at this ⊢
    rw [List.map_cons, List.map_cons, List.map_cons, this]
    rfl
theorem KT.dict {H : Hp} {p : Addr} {xs ys : List (Key × V)} (h : H p = some (.dK xs)) : KT H (upd H p (.dK ys)) := fun q zs e => by
  rw [upd_ne (ne_of e h (by intro z; cases z))]
  exact e
/-- a maker's name is not ahead of it -/
theorem new_name {wd : Wood} {i j : Nat} {k : Nam × List Mk} {m : Mk} (hn : ((mks wd).map (·.1)).Nodup) (e : wd[i]? = some k) (em : k.2[j]? = some m) : m.1 ∉ (mks (wd.take i) ++ k.2.take j).map (·.1) := by
  have h : ((mks (wd.take (i + 1))).map (·.1)).Nodup := by
    have hs : ((mks (wd.take (i + 1))).map (·.1)).Sublist ((mks wd).map (·.1)) := by
      refine List.Sublist.map _ ?_
      have h := congrArg mks (List.take_append_drop (i + 1) wd)
      unfold mks at h ⊢
      rw [List.flatMap_append] at h
      rw [← h]
      exact List.sublist_append_left _ _
    exact hn.sublist hs
  rw [mks_take e] at h
  have e2 : ((mks (wd.take i) ++ k.2).map (·.1))[(mks (wd.take i)).length + j]? = some m.1 := by
    rw [List.getElem?_map, List.getElem?_append_right (Nat.le_add_right _ _), Nat.add_sub_cancel_left, em]
    rfl
  have := nodup_take h e2
  rw [← List.map_take, List.take_append, List.take_of_length_le (Nat.le_add_right _ _), Nat.add_sub_cancel_left] at this
  exact this
section
variable {P : Program} {w : World} {K : PySem.W.Frag} {mg : Str → Option Value} {base : Heap}
abbrev kds (wd : Wood) : List Nam := wd.map (·.1)
def spTab : Sp := fun vs H Q _ => ∃ (p : Addr) (wd : Wood), vs = [.ref p] ∧ WdAt H p wd ∧ Good wd ∧ ∀ (l : Addr) (H' : Hp) (kvs : List (Key × V)), H l = none → Same H H' → H' l = some (.dK kvs) → Paired (RowAt H' (kds wd)) kvs (ents (kds wd) wd) → Q (.ref l) H'
theorem ok_table (T : Tx P K mg) : FnOk P w K mg base CX0 1 T.f_table T.fd_table ["wood"] spTab := by
  refine T.F_table.ok sc_table (fun vs H Q E h => ?_) (fun cdv A outer s H vs Q E hr h => ?_)
  · obtain ⟨a, b, rfl, _⟩ := h
    rfl
  · obtain ⟨p, wd, rfl, ⟨vs, ep, hw⟩, good, q⟩ := h
    refine ⟨_, (pss_cons (ps_set (i := 3) sc_table.nd rfl (.inr rfl) (pe_dc (own := [("number", 7), ("name", 1), ("makers", 2)]) (by rfl) sc_table.nd (EnT.pi_enumT (by rfl) T.m_enumerate (pa_cons (pv 0) pa_nil)) (blkOk_by (own := [("number", 7), ("name", 1), ("makers", 2)]) (N := ["wood", "name", "makers", "numbers", "table", "kind", "parts", "number", "part"]) (sc := defScope st_table) (by decide +kernel)) (fun _ _ _ _ _ => (KX.pg_tupK K (n := 2) rfl (pgs_cons (pg_name (i := 7) sc_table.nd rfl (.inl rfl)) (pgs_cons (KX.pg_tupK K (n := 2) rfl (pgs_cons (pg_name (i := 1) sc_table.nd rfl (.inl rfl)) (pgs_cons (pg_name (i := 2) sc_table.nd rfl (.inl rfl)) pgs_nil))) pgs_nil)))) (fun _ _ _ _ _ => pts_nil) (fun _ _ _ _ _ => (pv 1)) (fun _ _ _ _ _ => (pv 7)))) (pss_cons (ps_set (i := 4) sc_table.nd rfl (.inl rfl) pe_dnewK) (pss_cons (ps_for PassesOwn.never rfl (pi_tup (pv 0)) (pg_tup rfl (pgs_cons (pg_name (i := 5) sc_table.nd rfl (.inl rfl)) (pgs_cons (pg_name (i := 2) sc_table.nd rfl (.inl rfl)) pgs_nil))) (pss_one (ps_for PassesOwn.never rfl (pi_tup (pv 2)) (pg_tup rfl (pgs_cons (pg_name (i := 1) sc_table.nd rfl (.inl rfl)) (pgs_cons (pg_name (i := 6) sc_table.nd rfl (.inl rfl)) pgs_nil))) (pss_one (ps_dput (KX.hu hr) (pv 4) (pv 1) (pe_tup (pa_cons (pe_dget (KX.hu hr) (pv 3) (pv 5) (fun _ _ => rfl)) (pa_cons (pe_callTy call_tuple_of (by rfl) T.m_tuple (by decide +kernel) (pa_cons (pe_lc (own := [("part", 8)]) (by rfl) sc_table.nd (pi_tup (pv 6)) (blkOk_by (own := [("part", 8)]) (N := ["wood", "name", "makers", "numbers", "table", "kind", "parts", "number", "part"]) (sc := defScope st_table) (by decide +kernel)) (fun _ _ _ _ _ => (pg_name (i := 8) sc_table.nd rfl (.inl rfl))) (fun _ _ _ _ _ => pts_nil) (fun _ _ _ _ _ => (pe_dget (KX.hu hr) (pv 3) (pv 8) (fun _ _ => rfl)))) pa_nil)) pa_nil))) (by rfl)))))) (pss_one (ps_ret (pv 4)))))), ?_⟩
    have hkl : (kds wd).length = wd.length := List.length_map _
    -- the kinds' numbers
    refine ⟨_, rfl, p, vs, rfl, .inl (.inl ep), fun N nN => ?_⟩
    refine walk_it (walk_enumT (xs := vs)) (fun i Hx => Same H Hx ∧ Hx N = some (.dK (nums 0 ((kds wd).take i)))) ⟨same_new nN, upd_same⟩ (fun i Hx hi P => .inl (.inl (P.1 _ _ ep))) (fun i x Hx Hy hi P y => ?_) (fun Hx P => ?_)
    · obtain ⟨sx, eN⟩ := P
      obtain ⟨Tt, xi, xn, rfl, nTt, rfl, exi, exn⟩ := y
      cases Option.some.inj exi
      obtain ⟨⟨nm, ms⟩, enm, tk, tt, mvs, rfl, etk, ett, hms⟩ := paired_at hw exn
      have emap : (kds wd)[i]? = some nm := by
        rw [List.getElem?_map, enm]
        rfl
      have sT := same_new (o := .tup [.int (i : Nat), .ref tk]) nTt
      refine ⟨Tt, _, rfl, .inl (.inl upd_same), rfl, _, _, rfl, _, _, rfl, tk, _, rfl, .inl (.inl (sT _ _ (sx _ _ etk))), rfl, _, _, rfl, _, _, rfl, rfl, rfl, rfl, ?_⟩
      unfold tYes
      refine iteT ?_
      refine ⟨_, rfl, _, rfl, _, Ky nm, rfl, sT _ _ eN, ?_, fun b o e => ?_, ?_⟩
      · rw [nums_len, List.length_take]
        exact Nat.lt_of_le_of_lt (show _ ≤ 1000 by have := good.few; omega) (by decide)
      · rw [upd_ne (ne_of_none e nN)]
        exact sT _ _ (sx _ _ e)
      · have hil : i < (kds wd).length := (List.getElem?_eq_some_iff.mp emap).1
        rw [upd_same, putK_new (by rw [nums_val, if_neg (nodup_take good.kinds emap)]), List.take_add_one, emap]
        show _ = some (HO.dK (nums 0 ((kds wd).take i ++ [nm])))
        rw [nums_snoc, List.length_take, Nat.min_eq_left (by omega), Nat.zero_add]
    · obtain ⟨sx, eN⟩ := P
      rw [hw.length, ← hkl, List.take_length] at eN
      -- the table
      intro Tb nTb
      have nTbH : H Tb = none := Same.free sx nTb
      refine ⟨_, rfl, p, rfl, ⟨vs, .inl (.inl ((same_new nTb) _ _ (sx _ _ ep)))⟩, for_it (walk_tup (xs := vs)) (fun i σ H' => ∃ (y1 y2 y5 y6 : Option V) (kvs : List (Key × V)), σ = [some (.ref p), y1, y2, some (.ref N), some (.ref Tb), y5, y6, none, none] ∧ Same Hx H' ∧ H' Tb = some (.dK kvs) ∧ Paired (RowAt H' (kds wd)) kvs (ents (kds wd) (wd.take i)))
        ⟨none, none, none, none, [], rfl, same_new nTb, upd_same, .nil⟩ (fun i σ H' hi P => ?_) (fun i x σ H' H'' hi P y => ?_) (fun σ H' P => ?_)⟩
      · obtain ⟨_, _, _, _, _, _, s1, _⟩ := P
        exact .inl (.inl (s1 _ _ (sx _ _ ep)))
      · obtain ⟨y1, y2, y5, y6, kvs, rfl, s1, eT, hkv⟩ := P
        obtain ⟨rfl, ex⟩ := y
        obtain ⟨⟨nm, ms⟩, enm, tk, tt, mvs, rfl, etk, ett, hms⟩ := paired_at hw ex
        have emap : (kds wd)[i]? = some nm := by
          rw [List.getElem?_map, enm]
          rfl
        have hkm := List.mem_of_getElem? emap
        refine ⟨tk, _, rfl, .inl (.inl (s1 _ _ (sx _ _ etk))), rfl, _, _, rfl, _, _, rfl, rfl, ?_⟩
        refine ⟨_, rfl, tt, rfl, ⟨mvs, .inl (.inl (s1 _ _ (sx _ _ ett)))⟩, for_it (walk_tup (xs := mvs)) (fun j σ H' => ∃ (y1 y6 : Option V) (kvs : List (Key × V)), σ = [some (.ref p), y1, some (.ref tt), some (.ref N), some (.ref Tb), some (.str (S nm)), y6, none, none] ∧ Same Hx H' ∧ H' Tb = some (.dK kvs) ∧ Paired (RowAt H' (kds wd)) kvs (ents (kds wd) (wd.take i) ++ (ms.take j).map fun m => (m, (kds wd).idxOf nm)))
          ⟨y1, y6, kvs, rfl, s1, eT, by rw [List.take_zero, List.map_nil, List.append_nil]; exact hkv⟩ (fun j σ H' hj P => ?_) (fun j x σ H' H'' hj P y => ?_) (fun σ H' P => ?_)⟩
        · obtain ⟨_, _, _, _, s2, _⟩ := P
          exact .inl (.inl (s2 _ _ (sx _ _ ett)))
        · obtain ⟨y1, y6, kvs, rfl, s2, eT, hkv⟩ := P
          obtain ⟨rfl, ex'⟩ := y
          obtain ⟨⟨mn, ps⟩, emk, mk, mt, rfl, emk1, emt⟩ := paired_at hms ex'
          have hmem : (mn, ps) ∈ mks wd := by
            unfold mks
            exact List.mem_flatMap.mpr ⟨_, List.mem_of_getElem? enm, List.mem_of_getElem? emk⟩
          obtain ⟨hp2, hpk⟩ := good.parts _ hmem
          dsimp only at hp2 hpk
          refine ⟨mk, _, rfl, .inl (.inl (s2 _ _ (sx _ _ emk1))), rfl, _, _, rfl, _, _, rfl, rfl, ?_⟩
          have eN2 := s2 _ _ eN
          have emt2 := s2 _ _ (sx _ _ emt)
          have hpl : (nmsV ps).length = ps.length := by
            unfold nmsV
            rw [List.length_map]
          have dg : ∀ {Hq : Hp} {x : Nam}, Hq N = some (.dK (nums 0 (kds wd))) → x ∈ kds wd → DGet Hq N (.str (S x)) (some (.int (((kds wd).idxOf x : Nat) : Int))) := fun {Hq x} e hx => by
            have := DGet.k (k := Ky x) e
            rw [nums_val, if_pos hx, Nat.zero_add] at this
            exact this
          refine ⟨_, rfl, _, rfl, N, _, rfl, dg eN2 hkm, ?_⟩
          refine ⟨_, rfl, mt, rfl, ⟨_, .inl (.inl emt2)⟩, fun D nD => ?_⟩
          refine lc_pure (walk_tup (xs := nmsV ps)) nD (prts (kds wd) ps) (by unfold prts; rw [List.length_map, hpl]) (by rw [hpl]; omega) (fun Hq sq => .inl (.inl (sq _ _ emt2))) (fun j x y H3 H4 hy s3 hY => ?_) (fun x σ H Q Q' f h => f _ _ h) (fun σ H Q Q' f h => f _ _ h) (fun σ H Q Q' f h => ?_) (fun H3 s3 e3 => ?_)
          · obtain ⟨rfl, ex⟩ := hY
            unfold nmsV at ex
            unfold prts at hy
            rw [List.getElem?_map] at ex hy
            cases epj : ps[j]? with
            | none =>
              rw [epj] at ex
              cases ex
            | some pj =>
              rw [epj] at ex hy
              cases Option.some.inj ex
              cases Option.some.inj hy
              exact ⟨rfl, rfl, _, rfl, _, rfl, N, _, rfl, dg (s3 _ _ eN2) (hpk pj (List.mem_of_getElem? epj)), rfl, Same.refl _⟩
          · obtain ⟨v1, e1, v2, e2, z1, z2, z3, z4, z5⟩ := h
            exact ⟨v1, e1, v2, e2, z1, z2, z3, z4, f _ _ z5⟩
          refine ⟨D, _, rfl, .inl ⟨SqL.of e3, fun u nu => ?_⟩⟩
          refine ⟨B06.s2, fun t nt => ?_⟩
          have s4 : Same H'' (upd (upd H3 u (.tup (prts (kds wd) ps))) t (.tup [.int (((kds wd).idxOf nm : Nat) : Int), .ref u])) := (s3.trans (same_new nu)).trans (same_new nt)
          have eu : upd (upd H3 u (.tup (prts (kds wd) ps))) t (.tup [.int (((kds wd).idxOf nm : Nat) : Int), .ref u]) u = some (.tup (prts (kds wd) ps)) := (same_new nt) _ _ upd_same
          have et : upd (upd H3 u (.tup (prts (kds wd) ps))) t (.tup [.int (((kds wd).idxOf nm : Nat) : Int), .ref u]) t = some (.tup [.int (((kds wd).idxOf nm : Nat) : Int), .ref u]) := upd_same
          generalize upd (upd H3 u (.tup (prts (kds wd) ps))) t (.tup [.int (((kds wd).idxOf nm : Nat) : Int), .ref u]) = H5 at s4 eu et
          have eT5 := s4 _ _ eT
          have hnew : valV kvs (Ky mn) = none := by
            refine row_none hkv ?_
            have := new_name good.makers enm emk
            rw [List.map_append, List.map_map]
            rw [List.map_append, ← ents_fst (ks := kds wd), List.map_map] at this
            exact this
          have hkl5 : kvs.length ≤ 12 := by
            have h1 := mks_le (wd := wd) (i := i + 1)
            rw [mks_take enm, List.length_append] at h1
            dsimp only at h1
            have h2 := good.many
            rw [hkv.length, List.length_append, List.length_map, List.length_take, show (ents (kds wd) (wd.take i)).length = (mks (wd.take i)).length by rw [← ents_fst (ks := kds wd), List.length_map]]
            omega
          refine ⟨_, rfl, _, rfl, Tb, _, rfl, DPut.k (k := Ky mn) eT5 (Nat.lt_of_le_of_lt hkl5 (by decide)), ?_⟩
          rw [putK_new hnew]
          refine ⟨_, _, kvs ++ [(Ky mn, .ref t)], rfl, fun b o e => ?_, upd_same, ?_⟩
          · rw [upd_ne (ne_of_none e nTb)]
            exact s4 _ _ (s2 _ _ e)
          · have kt : KT H5 (upd H5 Tb (.dK (kvs ++ [(Ky mn, .ref t)]))) := KT.dict eT5
            rw [List.take_add_one, emk]
            show Paired _ _ (ents (kds wd) (wd.take i) ++ List.map _ (ms.take j ++ [(mn, ps)]))
            rw [List.map_append, ← List.append_assoc]
            exact paired_snoc (Paired.mapP hkv fun _ _ z => (z.mono (KT.of s4)).mono kt) ⟨t, u, rfl, kt _ _ et, kt _ _ eu⟩
        · obtain ⟨y1, y6, kvs, rfl, s2, eT, hkv⟩ := P
          refine ⟨_, _, _, _, kvs, rfl, s2, eT, ?_⟩
          rw [ents_take enm]
          rw [hms.length, List.take_length] at hkv
          exact hkv
      · obtain ⟨y1, y2, y5, y6, kvs, rfl, s1, eT, hkv⟩ := P
        rw [hw.length, List.take_length] at hkv
        exact ⟨_, rfl, q Tb H' kvs nTbH (sx.trans s1) eT hkv⟩
end

/-! ### makers_of, kind_of, parts_of -/
section
variable {P : Program} {w : World} {K : PySem.W.Frag} {mg : Str → Option Value} {base : Heap}
theorem ents_names {ks : List Nam} {w : Wood} : (ents ks w).map (·.1.1) = (mks w).map (·.1) := by
  rw [← ents_fst (ks := ks), List.map_map]
  rfl
def spMof : Sp := fun vs H Q _ => ∃ (p : Addr) (wd : Wood), vs = [.ref p] ∧ WdAt H p wd ∧ Good wd ∧ ∀ (l : Addr) (H' : Hp), H l = none → Same H H' → H' l = some (.lst (nmsV ((mks wd).map (·.1)))) → Q (.ref l) H'
theorem ok_makersof (T : Tx P K mg) : FnOk P w K mg base CX0 2 T.f_makersof T.fd_makersof ["wood"] spMof := by
  refine T.F_makersof.ok sc_makersof (fun vs H Q E h => ?_) (fun cdv A outer s H vs Q E hr h => ?_)
  · obtain ⟨a, b, rfl, _⟩ := h
    rfl
  · obtain ⟨p, wd, rfl, hw, good, q⟩ := h
    refine ⟨_, (pss_one (ps_ret (pe_callTy (call_list_dK rfl) (by rfl) T.m_list (by decide +kernel) (pa_cons (pe_call (ok_table T) (hr.mono (by decide) : Room 1 _) (by rfl) T.g_table T.F_table.kp T.b_table .nil pass0 (pa_cons (pv 0) pa_nil)) pa_nil)))), ?_⟩
    refine ⟨_, rfl, p, wd, rfl, hw, good, fun l H1 kvs nl s1 el hkv => ?_⟩
    refine ⟨l, kvs, rfl, el, fun r nr => q r _ (Same.free s1 nr) (s1.trans (same_new nr)) ?_⟩
    rw [upd_same, row_keys hkv, ents_names]
def spKof : Sp := fun vs H Q _ => ∃ (p : Addr) (wd : Wood) (e : Mk × Nat), vs = [.ref p, .str (S e.1.1)] ∧ WdAt H p wd ∧ Good wd ∧ e ∈ ents (kds wd) wd ∧ ∀ H', Same H H' → Q (.int (e.2 : Nat)) H'
theorem ok_kindof (T : Tx P K mg) : FnOk P w K mg base CX0 2 T.f_kindof T.fd_kindof ["wood", "maker"] spKof := by
  refine T.F_kindof.ok sc_kindof (fun vs H Q E h => ?_) (fun cdv A outer s H vs Q E hr h => ?_)
  · obtain ⟨a, b, e, rfl, _⟩ := h
    rfl
  · obtain ⟨p, wd, e, rfl, hw, good, he, q⟩ := h
    refine ⟨_, (pss_one (ps_ret (pe_ix ix_tup (pe_dget (KX.hu hr) (pe_call (ok_table T) (hr.mono (by decide) : Room 1 _) (by rfl) T.g_table T.F_table.kp T.b_table .nil pass0 (pa_cons (pv 0) pa_nil)) (pv 1) (fun _ _ => rfl)) pe_int (fun _ _ => rfl)))), ?_⟩
    refine ⟨_, rfl, p, wd, rfl, hw, good, fun l H1 kvs nl s1 el hkv => ?_⟩
    obtain ⟨t, u, ev, et, eu⟩ := row_some hkv (by rw [ents_names]; exact good.makers) e he
    refine ⟨_, rfl, l, .ref t, rfl, ?_, t, _, 0, .int (e.2 : Nat), rfl, rfl, .inl (.inl et), rfl, q _ s1⟩
    have := DGet.k (k := Ky e.1.1) el
    rw [ev] at this
    exact this
def spPof : Sp := fun vs H Q _ => ∃ (p : Addr) (wd : Wood) (e : Mk × Nat), vs = [.ref p, .str (S e.1.1)] ∧ WdAt H p wd ∧ Good wd ∧ e ∈ ents (kds wd) wd ∧ ∀ (u : Addr) (H' : Hp), Same H H' → H' u = some (.tup (prts (kds wd) e.1.2)) → Q (.ref u) H'
theorem ok_partsof (T : Tx P K mg) : FnOk P w K mg base CX0 2 T.f_partsof T.fd_partsof ["wood", "maker"] spPof := by
  refine T.F_partsof.ok sc_partsof (fun vs H Q E h => ?_) (fun cdv A outer s H vs Q E hr h => ?_)
  · obtain ⟨a, b, e, rfl, _⟩ := h
    rfl
  · obtain ⟨p, wd, e, rfl, hw, good, he, q⟩ := h
    refine ⟨_, (pss_one (ps_ret (pe_ix ix_tup (pe_dget (KX.hu hr) (pe_call (ok_table T) (hr.mono (by decide) : Room 1 _) (by rfl) T.g_table T.F_table.kp T.b_table .nil pass0 (pa_cons (pv 0) pa_nil)) (pv 1) (fun _ _ => rfl)) pe_int (fun _ _ => rfl)))), ?_⟩
    refine ⟨_, rfl, p, wd, rfl, hw, good, fun l H1 kvs nl s1 el hkv => ?_⟩
    obtain ⟨t, u, ev, et, eu⟩ := row_some hkv (by rw [ents_names]; exact good.makers) e he
    refine ⟨_, rfl, l, .ref t, rfl, ?_, t, _, 1, .ref u, rfl, rfl, .inl (.inl et), rfl, q u _ s1 eu⟩
    have := DGet.k (k := Ky e.1.1) el
    rw [ev] at this
    exact this
end

/-! ### what the law holds against -/
def SC_mk : Scope := { kind := ScopeKind.function, names := [(Str.ofString ".0", NameKind.local), (Str.ofString "_law_maker", NameKind.local), (Str.ofString "_law_parts", NameKind.local), (Str.ofString "tuple", NameKind.globalImplicit), (Str.ofString "_law_kind", NameKind.cell), (Str.ofString "_law_kinds", NameKind.cell)], isGenerator := false, isCoroutine := false }
section
variable {P : Program} {w : World} {K : PySem.W.Frag} {mg : Str → Option Value} {base : Heap}
def DueAt (H : Hp) (ks : List Nam) (v : V) (e : Mk × Nat) : Prop := ∃ t u, v = .ref t ∧ H t = some (.tup [.str (S e.1.1), .int (e.2 : Nat), .ref u]) ∧ H u = some (.tup (prts ks e.1.2))
theorem DueAt.mono {H H' : Hp} {ks : List Nam} {v : V} {e : Mk × Nat} (k : KT H H') (h : DueAt H ks v e) : DueAt H' ks v e := by
  obtain ⟨t, u, e1, h1, h2⟩ := h
  exact ⟨t, u, e1, k _ _ h1, k _ _ h2⟩
def spDue : Sp := fun vs H Q _ => ∃ (p : Addr) (wd : Wood), vs = [.ref p] ∧ WdAt H p wd ∧ Good wd ∧ ∀ (l : Addr) (H' : Hp) (ds : List V), H l = none → Same H H' → H' l = some (.lst ds) → Paired (DueAt H' (kds wd)) ds (ents (kds wd) wd) → Q (.ref l) H'
theorem paired_append {α β : Type} {F : α → β → Prop} {xs' : List α} {ys' : List β} (h' : Paired F xs' ys') : ∀ {xs : List α} {ys : List β}, Paired F xs ys → Paired F (xs ++ xs') (ys ++ ys')
  | _, _, .nil => h'
  | _, _, .cons a b => .cons a (paired_append h' b)
theorem idx_at {q : Nam} : ∀ {ks : List Nam}, q ∈ ks → ks[ks.idxOf q]? = some q ∧ ∀ m x, m < ks.idxOf q → ks[m]? = some x → x ≠ q
  | [], h => nomatch h
  | n :: r, h => by
    by_cases e : n = q
    · subst e
      rw [List.idxOf_cons_self]
      exact ⟨rfl, fun m x hm => absurd hm (Nat.not_lt_zero _)⟩
    · have h' : q ∈ r := by
        rcases List.mem_cons.mp h with z | z
        · exact absurd z.symm e
        · exact z
      obtain ⟨i1, i2⟩ := idx_at h'
      have : (n :: r).idxOf q = r.idxOf q + 1 := by
        rw [List.idxOf_cons, show (n == q) = false from beq_false_of_ne e]
        rfl
      rw [this]
      refine ⟨i1, fun m x hm hx => ?_⟩
      cases m with
      | zero =>
        cases Option.some.inj hx
        exact e
      | succ m => exact i2 m x (by omega) hx
theorem idx_of {ks : List Nam} {i : Nat} {q : Nam} (hn : ks.Nodup) (h : ks[i]? = some q) : ks.idxOf q = i := nd_ix hn (idx_at (List.mem_of_getElem? h)).1 h
theorem eqV_str {a b : Str} : eqV (.str a) (.str b) = decide (a = b) := by
  unfold eqV
  by_cases h : a = b
  · subst h
    simp
  · simp [h]
theorem nms_ix {ks : List Nam} {m : Nat} {z : V} (h : (nmsV ks)[m]? = some z) : ∃ x, ks[m]? = some x ∧ z = .str (S x) := by
  unfold nmsV at h
  rw [List.getElem?_map] at h
  cases e : ks[m]? with
  | none =>
    rw [e] at h
    cases h
  | some x =>
    rw [e] at h
    exact ⟨x, rfl, (Option.some.inj h).symm⟩
theorem ok_lmakers (T : Tx P K mg) : FnOk P w K mg base CX0 1 T.f_lmakers T.fd_lmakers ["_law_wood_here"] spDue := by
  refine T.F_lmakers.ok sc_lmakers (fun vs H Q E h => ?_) (fun cdv A outer s H vs Q E hr h => ?_)
  · obtain ⟨a, b, rfl, _⟩ := h
    rfl
  · obtain ⟨p, wd, rfl, ⟨vs, ep, hw⟩, good, q⟩ := h
    refine ⟨_, (pss_cons (ps_set (i := 3) sc_lmakers.nd rfl (.inr rfl) (pe_lc (own := [("_law_name", 1), ("_law_makers_here", 2)]) (by rfl) sc_lmakers.nd (pi_tup (pv 0)) (blkOk_by (own := [("_law_name", 1), ("_law_makers_here", 2)]) (N := ["_law_wood_here", "_law_name", "_law_makers_here", "_law_kinds", "_law_found", "_law_kind", "_law_maker", "_law_parts", "_law_part"]) (sc := defScope st_lmakers) (by decide +kernel)) (fun _ _ _ _ _ => (KX.pg_tupK K (n := 2) rfl (pgs_cons (pg_name (i := 1) sc_lmakers.nd rfl (.inl rfl)) (pgs_cons (pg_name (i := 2) sc_lmakers.nd rfl (.inl rfl)) pgs_nil)))) (fun _ _ _ _ _ => pts_nil) (fun _ _ _ _ _ => (pv 1)))) (pss_cons (ps_set (i := 4) sc_lmakers.nd rfl (.inl rfl) (pe_lst pa_nil)) (pss_cons (ps_for PassesOwn.never rfl (EnT.pi_enumT (by rfl) T.m_enumerate (pa_cons (pv 0) pa_nil)) (pg_tup rfl (pgs_cons (pg_name (i := 5) sc_lmakers.nd rfl (.inr rfl)) (pgs_cons (pg_tup rfl (pgs_cons (pg_name (i := 1) sc_lmakers.nd rfl (.inl rfl)) (pgs_cons (pg_name (i := 2) sc_lmakers.nd rfl (.inl rfl)) pgs_nil))) pgs_nil))) (pss_one (ps_expr (pe_bm PySem.F.plainAttrs_list PySem.F.slot_list_extend PySem.F.type_list_extend mt_extend (pv 4) (pa_cons (pe_lc (own := [("_law_maker", 6), ("_law_parts", 7)]) (by rfl) sc_lmakers.nd (pi_tup (pv 2)) (blkOk_by (own := [("_law_maker", 6), ("_law_parts", 7)]) (N := ["_law_wood_here", "_law_name", "_law_makers_here", "_law_kinds", "_law_found", "_law_kind", "_law_maker", "_law_parts", "_law_part"]) (sc := defScope st_lmakers) (by decide +kernel)) (fun _ _ _ _ _ => (KX.pg_tupK K (n := 2) rfl (pgs_cons (pg_name (i := 6) sc_lmakers.nd rfl (.inl rfl)) (pgs_cons (pg_name (i := 7) sc_lmakers.nd rfl (.inl rfl)) pgs_nil)))) (fun _ _ _ _ _ => pts_nil) (fun _ _ _ _ _ => (pe_tup (pa_cons (pv 6) (pa_cons (pv 5) (pa_cons (pe_callTy (KX.call_tuple_K K) (by rfl) T.m_tuple (by decide +kernel) (pa_cons (pe_lc (own := [("_law_part", 8)]) (by rfl) sc_lmakers.nd (KX.pi_tupK K (pv 7)) (blkOk_by (own := [("_law_part", 8)]) (N := ["_law_wood_here", "_law_name", "_law_makers_here", "_law_kinds", "_law_found", "_law_kind", "_law_maker", "_law_parts", "_law_part"]) (sc := SC_mk) (by decide +kernel)) (fun _ _ _ _ _ => (pg_name (i := 8) sc_lmakers.nd rfl (.inl rfl))) (fun _ _ _ _ _ => pts_nil) (fun _ _ _ _ _ => (KX.pe_bmK K PySem.F.plainAttrs_list PySem.F.slot_list_index PySem.F.type_list_index (KX.mt_indexK K) (pv 3) (pa_cons (pv 8) pa_nil)))) pa_nil)) pa_nil)))))) pa_nil))))) (pss_one (ps_ret (pv 4)))))), ?_⟩
    have hkl : (kds wd).length = wd.length := List.length_map _
    refine ⟨_, rfl, p, rfl, ⟨vs, .inl (.inl ep)⟩, fun Kd nKd => ?_⟩
    refine walk_it (walk_tup (xs := vs)) (fun i Hx => Same H Hx ∧ Hx Kd = some (.lst (nmsV ((kds wd).take i)))) ⟨same_new nKd, upd_same⟩ (fun i Hx hi P => .inl (.inl (P.1 _ _ ep))) (fun i x Hx Hy hi P y => ?_) (fun Hx P => ?_)
    · obtain ⟨sx, eK⟩ := P
      obtain ⟨rfl, ex⟩ := y
      obtain ⟨⟨nm, ms⟩, enm, tk, tt, mvs, rfl, etk, ett, hms⟩ := paired_at hw ex
      have emap : (kds wd)[i]? = some nm := by
        rw [List.getElem?_map, enm]
        rfl
      refine ⟨tk, _, rfl, .inl (.inl (sx _ _ etk)), rfl, _, _, rfl, _, _, rfl, rfl, rfl, ?_⟩
      unfold tYes
      refine iteT ?_
      refine ⟨_, rfl, _, eK, ?_, fun b o e => ?_, ?_⟩
      · unfold nmsV
        rw [List.length_map, List.length_take]
        exact Nat.lt_of_le_of_lt (show _ ≤ 1000 by have := good.few; omega) (by decide)
      · rw [upd_ne (ne_of_none e nKd)]
        exact sx _ _ e
      · rw [upd_same, List.take_add_one, emap]
        unfold nmsV
        rw [List.map_append]
        rfl
    obtain ⟨sx, eK⟩ := P
    rw [hw.length, ← hkl, List.take_length] at eK
    refine ⟨s0, fun F nF => ?_⟩
    have nFH : H F = none := Same.free sx nF
    refine ⟨_, rfl, p, vs, rfl, .inl (.inl ((same_new nF) _ _ (sx _ _ ep))), for_it (walk_enumT (xs := vs)) (fun i σ H' => ∃ (y1 y2 y5 : Option V) (ds : List V), σ = [some (.ref p), y1, y2, some (.ref Kd), some (.ref F), y5, none, none, none] ∧ Same Hx H' ∧ H' F = some (.lst ds) ∧ Paired (DueAt H' (kds wd)) ds (ents (kds wd) (wd.take i)))
      ⟨none, none, none, [], rfl, same_new nF, upd_same, .nil⟩ (fun i σ H' hi P => ?_) (fun i x σ H' H'' hi P y => ?_) (fun σ H' P => ?_)⟩
    · obtain ⟨_, _, _, _, _, s1, _⟩ := P
      exact .inl (.inl (s1 _ _ (sx _ _ ep)))
    · obtain ⟨y1, y2, y5, ds, rfl, s1, eF, hds⟩ := P
      obtain ⟨Tt, xi, xn, rfl, nTt, rfl, exi, exn⟩ := y
      cases Option.some.inj exi
      obtain ⟨⟨nm, ms⟩, enm, tk, tt, mvs, rfl, etk, ett, hms⟩ := paired_at hw exn
      have emap : (kds wd)[i]? = some nm := by
        rw [List.getElem?_map, enm]
        rfl
      have eidx : (kds wd).idxOf nm = i := idx_of good.kinds emap
      have sT := (s1.trans (same_new (o := .tup [.int (i : Nat), .ref tk]) nTt))
      have sT1 := same_new (o := .tup [.int (i : Nat), .ref tk]) nTt
      refine ⟨Tt, _, rfl, .inl (.inl upd_same), rfl, _, _, rfl, _, _, rfl, tk, _, rfl, .inl (.inl (sT _ _ (sx _ _ etk))), rfl, _, _, rfl, _, _, rfl, rfl, rfl, ?_⟩
      generalize upd H' Tt (.tup [.int (i : Nat), .ref tk]) = Ha at sT sT1
      have eFa := sT1 _ _ eF
      refine ⟨.ref F, rfl, .inl ⟨rfl, _, SqL.of eFa⟩, ?_⟩
      refine ⟨_, rfl, tt, rfl, ⟨mvs, .inl (.inl (sT _ _ (sx _ _ ett)))⟩, fun D nD => ?_⟩
      refine walk_it (walk_tup (xs := mvs)) (fun j Hz => Same Ha Hz ∧ ∃ es, Hz D = some (.lst es) ∧ Paired (DueAt Hz (kds wd)) es ((ms.take j).map fun m => (m, (kds wd).idxOf nm))) ⟨same_new nD, [], upd_same, .nil⟩ (fun j Hz hj P => .inl (.inl (P.1 _ _ (sT _ _ (sx _ _ ett))))) (fun j x Hz Hz' hj P y => ?_) (fun Hz P => ?_)
      · obtain ⟨sz, es, eD, hes⟩ := P
        obtain ⟨rfl, ex'⟩ := y
        obtain ⟨⟨mn, ps⟩, emk, mk, mt, rfl, emk1, emt⟩ := paired_at hms ex'
        have hmem : (mn, ps) ∈ mks wd := by
          unfold mks
          exact List.mem_flatMap.mpr ⟨_, List.mem_of_getElem? enm, List.mem_of_getElem? emk⟩
        obtain ⟨hp2, hpk⟩ := good.parts _ hmem
        dsimp only at hp2 hpk
        have s3 := sT.trans sz
        have emt3 := s3 _ _ (sx _ _ emt)
        have hpl : (nmsV ps).length = ps.length := by
          unfold nmsV
          rw [List.length_map]
        refine ⟨mk, _, rfl, .inl (.inl (s3 _ _ (sx _ _ emk1))), rfl, _, _, rfl, _, _, rfl, rfl, rfl, ?_⟩
        unfold tYes
        refine iteT ?_
        refine ⟨_, rfl, _, rfl, _, rfl, mt, rfl, ⟨_, .inl (.inl emt3)⟩, fun D2 nD2 => ?_⟩
        refine lc_pure (g := gName 8) (tt := tYes) (te := tBM K "list" (rIndex K) (tVar 3) (tCons (tVar 8) tNil)) (vs := [8]) (walk_tup (xs := nmsV ps)) nD2 (prts (kds wd) ps) (by unfold prts; rw [List.length_map, hpl]) (by rw [hpl]; omega) (fun Hq sq => .inl (.inl (sq _ _ emt3))) (fun j x y H3 H4 hy s4 hY => ?_) (fun x σ H Q Q' f h => f _ _ h) (fun σ H Q Q' f h => f _ _ h) (fun σ H Q Q' f h => ?_) (fun H3 s4 e3 => ?_)
        · obtain ⟨rfl, ex⟩ := hY
          obtain ⟨pj, epj, rfl⟩ := nms_ix ex
          unfold prts at hy
          rw [List.getElem?_map, epj] at hy
          cases Option.some.inj hy
          obtain ⟨i1, i2⟩ := idx_at (hpk pj (List.mem_of_getElem? epj))
          have eK4 := s4 _ _ (s3 _ _ eK)
          refine ⟨rfl, rfl, .ref Kd, rfl, .inl ⟨rfl, _, SqL.of eK4⟩, _, rfl, Kd, nmsV (kds wd), .str (S pj), (kds wd).idxOf pj, .str (S pj), rfl, rfl, SqL.of eK4, rfl, nms_flat _, ?_, by rw [eqV_str]; exact decide_eq_true rfl, fun m z hm hz => ?_, rfl, Same.refl _⟩
          · unfold nmsV
            rw [List.getElem?_map, i1]
            rfl
          · obtain ⟨x, ex, rfl⟩ := nms_ix hz
            rw [eqV_str]
            exact decide_eq_false fun z => i2 m x hm ex (S_inj.mp z)
        · obtain ⟨v1, e1, z0, v2, e2, z1, z2, z3, z4, z5, z6, z7, z8, z9, z10, z11, z12, z13, z14⟩ := h
          exact ⟨v1, e1, z0, v2, e2, z1, z2, z3, z4, z5, z6, z7, z8, z9, z10, z11, z12, z13, f _ _ z14⟩
        refine ⟨D2, _, rfl, .inl ⟨SqL.of e3, fun u nu => ?_⟩⟩
        refine ⟨B06.s3, fun t nt => ?_⟩
        have s5 : Same Hz' (upd (upd H3 u (.tup (prts (kds wd) ps))) t (.tup [.str (S mn), .int (i : Nat), .ref u])) := (s4.trans (same_new nu)).trans (same_new nt)
        have eu : upd (upd H3 u (.tup (prts (kds wd) ps))) t (.tup [.str (S mn), .int (i : Nat), .ref u]) u = some (.tup (prts (kds wd) ps)) := (same_new nt) _ _ upd_same
        have et : upd (upd H3 u (.tup (prts (kds wd) ps))) t (.tup [.str (S mn), .int (i : Nat), .ref u]) t = some (.tup [.str (S mn), .int (i : Nat), .ref u]) := upd_same
        generalize upd (upd H3 u (.tup (prts (kds wd) ps))) t (.tup [.str (S mn), .int (i : Nat), .ref u]) = H5 at s5 eu et
        refine ⟨es, s5 _ _ eD, ?_, fun b o e => ?_, _, upd_same, ?_⟩
        · rw [hes.length, List.length_map, List.length_take]
          have h1 := mks_le (wd := wd) (i := i + 1)
          rw [mks_take enm, List.length_append] at h1
          dsimp only at h1
          have h2 := good.many
          exact Nat.lt_of_le_of_lt (show _ ≤ 12 by omega) (by decide)
        · rw [upd_ne (ne_of_none e nD)]
          exact s5 _ _ (sz _ _ e)
        · have kt : KT H5 (upd H5 D (.lst (es ++ [.ref t]))) := KT.lst (s5 _ _ eD)
          rw [List.take_add_one, emk]
          show Paired _ _ (List.map _ (ms.take j ++ [(mn, ps)]))
          rw [List.map_append]
          refine paired_snoc (Paired.mapP hes fun _ _ z => (z.mono (KT.of s5)).mono kt) ⟨t, u, rfl, ?_, kt _ _ eu⟩
          dsimp only
          rw [eidx]
          exact kt _ _ et
      · obtain ⟨sz, es, eD, hes⟩ := P
        rw [hms.length, List.take_length] at hes
        have hlen : ds.length + es.length ≤ 12 := by
          rw [hds.length, hes.length, List.length_map, show (ents (kds wd) (wd.take i)).length = (mks (wd.take i)).length by rw [← ents_fst (ks := kds wd), List.length_map]]
          have h1 := mks_le (wd := wd) (i := i + 1)
          rw [mks_take enm, List.length_append] at h1
          dsimp only at h1
          have h2 := good.many
          dsimp only
          omega
        refine ⟨F, D, ds, es, rfl, rfl, sz _ _ eFa, eD, Nat.le_trans hlen (by decide), ?_⟩
        have kt : KT Hz (upd Hz F (.lst (ds ++ es))) := KT.lst (sz _ _ eFa)
        refine ⟨_, _, _, ds ++ es, rfl, fun b o e => ?_, upd_same, ?_⟩
        · rw [upd_ne (ne_of_none e nF)]
          exact sz _ _ (sT _ _ e)
        · rw [ents_take enm]
          exact paired_append (Paired.mapP hes fun _ _ z => z.mono kt) (Paired.mapP hds fun _ _ z => (z.mono (KT.of (sT1.trans sz))).mono kt)
    · obtain ⟨y1, y2, y5, ds, rfl, s1, eF, hds⟩ := P
      rw [hw.length, List.take_length] at hds
      exact ⟨_, rfl, q F H' ds nFH (sx.trans s1) eF hds⟩
end

/-! ### equal data: flat things, tuples -/
def flt1 : V → Bool
  | .non => true | .bl _ => true | .int _ => true | .str _ => true | _ => false
mutual
inductive Td (H : Hp) : V → V → Nat → Prop
  | flat {x : V} : flt1 x = true → Td H x x 1
  | tup {p q : Addr} {xs ys : List V} {n : Nat} : H p = some (.tup xs) → H q = some (.tup ys) → TdL H xs ys n → Td H (.ref p) (.ref q) (n + 1)
inductive TdL (H : Hp) : List V → List V → Nat → Prop
  | nil : TdL H [] [] 0
  | cons {x y : V} {xs ys : List V} {n m : Nat} : Td H x y n → TdL H xs ys m → TdL H (x :: xs) (y :: ys) (n + m)
end
mutual
theorem Td.mono {H H' : Hp} (s : Same H H') : ∀ {x y : V} {n : Nat}, Td H x y n → Td H' x y n
  | _, _, _, .flat h => .flat h
  | _, _, _, .tup h1 h2 l => .tup (s _ _ h1) (s _ _ h2) (TdL.mono s l)
theorem TdL.mono {H H' : Hp} (s : Same H H') : ∀ {x y : List V} {n : Nat}, TdL H x y n → TdL H' x y n
  | _, _, _, .nil => .nil
  | _, _, _, .cons h l => .cons (Td.mono s h) (TdL.mono s l)
end
theorem TdL.len {H : Hp} : ∀ {xs ys : List V} {n : Nat}, TdL H xs ys n → xs.length = ys.length
  | _, _, _, .nil => rfl
  | _, _, _, .cons _ l => by rw [List.length_cons, List.length_cons, TdL.len l]
/-- a pile of pairs of equal data, told by their whole size -/
inductive Pile (H0 H : Hp) : List Addr → Nat → Prop
  | nil : Pile H0 H [] 0
  | snoc {ts : List Addr} {t : Addr} {x y : V} {n m : Nat} : Pile H0 H ts m → H t = some (.tup [x, y]) → Td H0 x y n → Pile H0 H (ts ++ [t]) (m + n)
theorem Pile.mono {H0 H H' : Hp} {ts : List Addr} {m : Nat} (p : Pile H0 H ts m) (s : ∀ t xs, H t = some (.tup xs) → H' t = some (.tup xs)) : Pile H0 H' ts m := by
  induction p with
  | nil => exact .nil
  | snoc _ h d ih => exact .snoc ih (s _ _ h) d
theorem Pile.more {H0 H : Hp} : ∀ {us : List Addr} {xs ys : List V} {n m : Nat} {ts : List Addr}, Pile H0 H ts m → TdL H0 xs ys n → us.length = xs.length →
    (∀ (j : Nat) (t : Addr), us[j]? = some t → ∃ x y, xs[j]? = some x ∧ ys[j]? = some y ∧ H t = some (.tup [x, y])) → Pile H0 H (ts ++ us) (m + n)
  | [], _, _, _, _, ts, p, .nil, _, _ => by
    rw [List.append_nil]
    exact p
  | [], _, _, _, _, _, _, .cons _ _, h, _ => by cases h
  | u :: us, _, _, _, _, _, _, .nil, h, _ => by cases h
  | u :: us, _, _, _, m, ts, p, .cons (n := n1) (m := m1) d l, h, f => by
    obtain ⟨x', y', e1, e2, e3⟩ := f 0 u rfl
    have e1' := Option.some.inj e1
    have e2' := Option.some.inj e2
    subst e1' e2'
    have p1 := Pile.snoc p e3 d
    have r := Pile.more p1 l (Nat.succ.inj h) (fun j t hj => f (j + 1) t hj)
    rw [List.append_assoc] at r
    rw [show m + (n1 + m1) = m + n1 + m1 by omega]
    exact r
theorem Td.pos {H : Hp} {x y : V} {n : Nat} (d : Td H x y n) : 1 ≤ n := by
  cases d with
  | flat h => exact Nat.le_refl _
  | tup _ _ _ => exact Nat.succ_le_succ (Nat.zero_le _)
theorem Pile.len {H0 H : Hp} {ts : List Addr} {m : Nat} (p : Pile H0 H ts m) : ts.length ≤ m := by
  induction p with
  | nil => exact Nat.le_refl _
  | snoc _ _ d ih =>
    have := d.pos
    rw [List.length_append, List.length_singleton]
    omega
theorem TdL.size {H : Hp} : ∀ {xs ys : List V} {n : Nat}, TdL H xs ys n → xs.length ≤ n
  | _, _, _, .nil => Nat.le_refl _
  | _, _, _, .cons d l => by
    have h1 := d.pos
    have h2 := TdL.size l
    rw [List.length_cons]
    omega
theorem flat_ty {K : PySem.W.Frag} {H : Hp} {x : V} (h : flt1 x = true) : ∃ (T : String) (bb bi : Bool), TyX K H x (.type T) ∧ kitB T "tuple" = some false ∧ kitB T "list" = some false ∧ kitB T "bool" = some bb ∧ kitB T "int" = some bi ∧ scal x x = true := by
  cases x with
  | non => exact ⟨"NoneType", false, false, .base .non, by decide +kernel, by decide +kernel, by decide +kernel, by decide +kernel, rfl⟩
  | bl b => exact ⟨"bool", true, true, .base (.bl b), by decide +kernel, by decide +kernel, by decide +kernel, by decide +kernel, rfl⟩
  | int i => exact ⟨"int", false, true, .base (.int i), by decide +kernel, by decide +kernel, by decide +kernel, by decide +kernel, rfl⟩
  | str z => exact ⟨"str", false, false, .base (.str z), by decide +kernel, by decide +kernel, by decide +kernel, by decide +kernel, rfl⟩
  | byt b => cases h
  | flt b => cases h
  | ref a => cases h
  | ty n => cases h
section
variable {P : Program} {w : World} {K : PySem.W.Frag} {mg : Str → Option Value} {base : Heap}
def spAlike : Sp := fun vs H Q _ => ∃ (x y : V) (n : Nat), vs = [x, y] ∧ Td H x y n ∧ n ≤ 100000 ∧ ∀ H', Same H H' → Q (.bl true) H'
theorem ok_alike (T : Tx P K mg) : FnOk P w K mg base CX0 1 T.f_alike T.fd_alike ["_law_found", "_law_due"] spAlike := by
  refine T.F_alike.ok sc_alike (fun vs H Q E h => ?_) (fun cdv A outer s H vs Q E hr h => ?_)
  · obtain ⟨a, b, n, rfl, _⟩ := h
    rfl
  · obtain ⟨x, y, n, rfl, d, hn, q⟩ := h
    refine ⟨_, (pss_cons (ps_set (i := 2) sc_alike.nd rfl (.inl rfl) (pe_lst (pa_cons (pe_tup (pa_cons (pv 0) (pa_cons (pv 1) pa_nil))) pa_nil))) (pss_cons (ps_while PassesOwn.never (pt_cmpR op_gt (pe_callB call_len_seq (by rfl) T.m_len PySem.boot_len (pa_cons (pv 2) pa_nil)) pe_int (nomark _)) (pss_cons (ps_asg (pe_bm0 PySem.F.plainAttrs_list PySem.F.slot_list_pop PySem.F.type_list_pop mt_pop (pv 2)) (pg_tup rfl (pgs_cons (pg_name (i := 3) sc_alike.nd rfl (.inl rfl)) (pgs_cons (pg_name (i := 4) sc_alike.nd rfl (.inl rfl)) pgs_nil)))) (pss_one (ps_if (pt_val (pe_callB call_isi (by rfl) T.m_isinstance (by decide +kernel) (pa_cons (pv 4) (pa_cons (pe_bltn (v := .ty "tuple") (by rfl) T.m_tuple (by decide +kernel) rfl) pa_nil)))) (pss_cons (ps_if (PW.pt (pw_or (pt_not (pt_val (pe_callB call_isi (by rfl) T.m_isinstance (by decide +kernel) (pa_cons (pv 3) (pa_cons (pe_bltn (v := .ty "tuple") (by rfl) T.m_tuple (by decide +kernel) rfl) pa_nil))))) (pw_or1 (pt_cmpR op_ne (pe_callB call_len_seq (by rfl) T.m_len PySem.boot_len (pa_cons (pv 3) pa_nil)) (pe_callB call_len_seq (by rfl) T.m_len PySem.boot_len (pa_cons (pv 4) pa_nil)) (nomark _))))) (pss_one (ps_ret pe_bl)) pss_nil) (pss_one (ps_expr (pe_bm PySem.F.plainAttrs_list PySem.F.slot_list_extend PySem.F.type_list_extend mt_extend (pv 2) (pa_cons (ZL.pe_listZip rfl (by rfl) T.m_list (by rfl) T.m_zip (pa_cons (pv 3) (pa_cons (pv 4) pa_nil))) pa_nil))))) (pss_one (ps_if (PW.pt (pw_or (pt_val (pe_callB call_isi (by rfl) T.m_isinstance (by decide +kernel) (pa_cons (pv 3) (pa_cons (pe_bltn (v := .ty "tuple") (by rfl) T.m_tuple (by decide +kernel) rfl) pa_nil)))) (pw_or1 (pt_cmpR op_ne (pe_callB call_isi (by rfl) T.m_isinstance (by decide +kernel) (pa_cons (pv 3) (pa_cons (pe_bltn (v := .ty "bool") (by rfl) T.m_bool (by decide +kernel) rfl) pa_nil))) (pe_callB call_isi (by rfl) T.m_isinstance (by decide +kernel) (pa_cons (pv 4) (pa_cons (pe_bltn (v := .ty "bool") (by rfl) T.m_bool (by decide +kernel) rfl) pa_nil))) (nomark _))))) (pss_one (ps_ret pe_bl)) (pss_one (ps_if (PW.pt (pw_or (pt_cmpR op_ne (pe_callB call_isi (by rfl) T.m_isinstance (by decide +kernel) (pa_cons (pv 3) (pa_cons (pe_bltn (v := .ty "int") (by rfl) T.m_int (by decide +kernel) rfl) pa_nil))) (pe_callB call_isi (by rfl) T.m_isinstance (by decide +kernel) (pa_cons (pv 4) (pa_cons (pe_bltn (v := .ty "int") (by rfl) T.m_int (by decide +kernel) rfl) pa_nil))) (nomark _)) (pw_or1 (pt_cmpR op_ne (pv 3) (pv 4) (nomark _))))) (pss_one (ps_ret pe_bl)) pss_nil)))))))) (pss_one (ps_ret pe_bl)))), ?_⟩
    -- left = [(found, due)]
    refine ⟨_, rfl, _, rfl, s2, fun t ht => ⟨s1, fun L hL => ?_⟩⟩
    have s1' : Same H (upd H t (.tup [x, y])) := same_new ht
    have s2' : Same (upd H t (.tup [x, y])) (upd (upd H t (.tup [x, y])) L (.lst [.ref t])) := same_new hL
    have hLH : H L = none := s1'.free hL
    refine ⟨fun m σ H' => ∃ (y3 y4 : Option V) (ts : List Addr), σ = [some x, some y, some (.ref L), y3, y4] ∧ H' L = some (.lst (ts.map V.ref)) ∧ Pile H H' ts m ∧ Same H H' ∧ m ≤ n, ⟨0 + n, none, none, [t], rfl, upd_same, ?_, s1'.trans s2', by omega⟩, fun m σ H' hW => ?_⟩
    · have z := Pile.snoc (H0 := H) (H := upd (upd H t (.tup [x, y])) L (.lst [.ref t])) .nil (s2' _ _ upd_same) d
      exact z
    obtain ⟨y3, y4, ts, rfl, eL, pl, sm, hmn⟩ := hW
    refine ⟨.ref L, rfl, L, _, rfl, .inl (SqL.of eL), _, _, rfl, rfl, _, rfl, ?_⟩
    cases pl with
    | nil =>
      refine iteF ?_
      exact q _ sm
    | snoc pl et dt =>
      rename_i ts t x1 y1 n1 m1
      have hlen : decide ((0 : Int) < (((ts ++ [t]).map V.ref).length : Int)) = true := by
        rw [List.map_append, List.length_append]
        exact decide_eq_true (by simp)
      have hlast : ((ts ++ [t]).map V.ref)[((ts ++ [t]).map V.ref).length - 1]? = some (.ref t) := by
        rw [List.map_append, List.length_append, List.length_map]
        show (ts.map V.ref ++ [V.ref t])[ts.length + 1 - 1]? = some (.ref t)
        rw [Nat.add_sub_cancel, List.getElem?_append_right (by rw [List.length_map]; exact Nat.le_refl _), List.length_map, Nat.sub_self]
        rfl
      have hdrop : ((ts ++ [t]).map V.ref).dropLast = ts.map V.ref := by
        rw [List.map_append]
        exact List.dropLast_concat
      have ntL : t ≠ L := ne_of et eL (by intro z; cases z)
      rw [hlen]
      refine iteT ⟨fun σ' H2 => ∃ (z3 z4 : Option V) (us : List Addr) (k : Nat), σ' = [some x, some y, some (.ref L), z3, z4] ∧ H2 L = some (.lst (us.map V.ref)) ∧ Pile H H2 us k ∧ Same H H2 ∧ k < m1 + n1, fun σ' H2 ⟨z3, z4, us, k, e1, e2, e3, e4, e5⟩ => ⟨k, e5, z3, z4, us, e1, e2, e3, e4, by omega⟩, ?_⟩
      -- one, other = left.pop()
      have sP : Same H (upd H' L (.lst (ts.map V.ref))) := fun b o e => by
        rw [upd_ne (ne_of_none e hLH)]
        exact sm b o e
      have plP : Pile H (upd H' L (.lst (ts.map V.ref))) ts m1 := pl.mono fun u xs e => by
        rw [upd_ne (ne_of e eL (by intro z; cases z))]
        exact e
      refine ⟨.ref L, rfl, .inl ⟨rfl, _, SqL.of eL⟩, L, _, _, rfl, rfl, eL, hlast, ?_⟩
      rw [hdrop]
      have etP : upd H' L (.lst (ts.map V.ref)) t = some (.tup [x1, y1]) := by
        rw [upd_ne ntL]
        exact et
      generalize hHP : upd H' L (.lst (ts.map V.ref)) = HP at sP plP etP
      have eLP : HP L = some (.lst (ts.map V.ref)) := by
        rw [← hHP]
        exact upd_same
      refine ⟨t, [x1, y1], rfl, .inl (.inl etP), rfl, x1, [y1], rfl, y1, [], rfl, rfl, ?_⟩
      clear hHP
      cases dt with
      | flat hf =>
        -- a flat thing and itself
        obtain ⟨T2, bb2, bi2, ty2, kt2, kl2, kb2, ki2, sc⟩ := flat_ty (K := K) (H := HP) hf
        refine ⟨_, rfl, _, _, .type T2, _, false, rfl, .ty "tuple", ty2, kit_ty kt2, _, rfl, iteF ?_⟩
        refine ⟨_, rfl, _, _, .type T2, _, false, rfl, .ty "tuple", ty2, kit_ty kt2, _, rfl, iteF ?_⟩
        refine ⟨_, rfl, _, _, .type T2, _, bb2, rfl, .ty "bool", ty2, kit_ty kb2, _, rfl, _, _, .type T2, _, bb2, rfl, .ty "bool", ty2, kit_ty kb2, rfl, _, rfl, iteNS rfl ?_⟩
        refine ⟨_, rfl, _, _, .type T2, _, bi2, rfl, .ty "int", ty2, kit_ty ki2, _, rfl, _, _, .type T2, _, bi2, rfl, .ty "int", ty2, kit_ty ki2, rfl, _, rfl, iteNS rfl ?_⟩
        refine ⟨_, rfl, _, rfl, sc, _, rfl, iteNS rfl ?_⟩
        exact ⟨_, _, ts, m1, rfl, eLP, plP, sP, by omega⟩
      | tup ep eq l =>
        rename_i p q' xs ys n2
        have gp := sP _ _ ep
        have gq := sP _ _ eq
        have gL := eLP
        refine ⟨_, rfl, _, _, .type "tuple", _, true, rfl, .ty "tuple", .base (.tup gq), kit_ty (by decide +kernel), _, rfl, iteT ?_⟩
        refine ⟨_, rfl, _, _, .type "tuple", _, true, rfl, .ty "tuple", .base (.tup gp), kit_ty (by decide +kernel), _, rfl, iteF ?_⟩
        refine ⟨_, rfl, p, xs, rfl, .inr (SqT.of gp), _, rfl, q', ys, rfl, .inr (SqT.of gq), rfl, _, rfl, iteNS (by rw [l.len]) ?_⟩
        refine ⟨_, rfl, .inl ⟨rfl, _, SqL.of gL⟩, _, rfl, _, rfl, p, q', xs, ys, rfl, SqT.of gp, SqT.of gq, l.len, fun H2 c us zn => ?_⟩
        obtain ⟨zk, zc, zu, zn1, znd, zl, zlen, zp⟩ := zn
        have g2 := zk _ _ gL
        refine ⟨L, c, _, _, rfl, rfl, g2, zl, ?_, ?_⟩
        · have a1 := plP.len
          have a2 := l.size
          rw [List.length_map, List.length_map]
          exact Nat.le_trans (show ts.length + us.length ≤ 100000 by omega) (by decide)
        · have ncL : c ≠ L := fun z => by
            rw [z, gL] at zc
            cases zc
          have up : ∀ b o, b ≠ L → H2 b = some o → (upd H2 L (.lst (ts.map V.ref ++ us.map V.ref))) b = some o := fun b o nb e => by
            rw [upd_ne nb]
            exact e
          refine ⟨_, _, ts ++ us, m1 + n2, rfl, ?_, ?_, ?_, by omega⟩
          · rw [upd_same, List.map_append]
          · refine Pile.more (plP.mono fun v ws e => up v _ (ne_of e eLP (by intro z; cases z)) (zk _ _ e)) l zlen fun j v hj => ?_
            obtain ⟨x2, y2, f1, f2, f3⟩ := zp j v hj
            exact ⟨x2, y2, f1, f2, up v _ (fun z => by
              have := zu v (List.mem_of_getElem? hj)
              rw [z, gL] at this
              cases this) f3⟩
          · exact fun b o e => up b o (ne_of_none e hLH) (zk _ _ (sP _ _ e))
end

/-! ### _law_right -/
section
variable {P : Program} {w : World} {K : PySem.W.Frag} {mg : Str → Option Value} {base : Heap}
theorem TdL.ints {H : Hp} : ∀ (is : List Int), TdL H (is.map V.int) (is.map V.int) is.length
  | [] => .nil
  | i :: r => by
    have := TdL.cons (H := H) (.flat (x := .int i) rfl) (TdL.ints r)
    rw [Nat.add_comm] at this
    exact this
theorem prts_td {H : Hp} {ks ps : List Nam} : TdL H (prts ks ps) (prts ks ps) ps.length := by
  have := TdL.ints (H := H) (ps.map fun q => ((ks.idxOf q : Nat) : Int))
  rw [List.map_map, List.length_map] at this
  exact this
theorem nm_ok {n : Nam} (h : nmB (S n) = true) : PyData.strOk (S n) = true := ok_S.mpr fun c hc => abc_small ((nmB_S.mp h).2.2.2 c hc)
theorem nmsV_len {ns : List Nam} : (nmsV ns).length = ns.length := by
  unfold nmsV
  rw [List.length_map]
theorem nms_strs (ns : List Nam) : nmsV ns = (ns.map S).map V.str := by
  unfold nmsV
  rw [List.map_map]
  rfl
theorem WdAt.kt {H H' : Hp} {p : Addr} {w : Wood} (k : KT H H') (h : WdAt H p w) : WdAt H' p w := h.mono k
def spRight : Sp := fun vs H Q _ => ∃ (p : Addr) (wd : Wood), vs = [.ref p] ∧ WdAt H p wd ∧ Good wd ∧ ∀ H', Same H H' → Q (.bl true) H'
theorem ok_right (T : Tx P K mg) : FnOk P w K mg base CX0 4 T.f_right T.fd_right ["_law_wood_here"] spRight := by
  refine T.F_right.ok sc_right (fun vs H Q E h => ?_) (fun cdv A outer s H vs Q E hr h => ?_)
  · obtain ⟨a, b, rfl, _⟩ := h
    rfl
  · obtain ⟨p, wd, rfl, hw, good, q⟩ := h
    refine ⟨_, (pss_cons (ps_set (i := 1) sc_right.nd rfl (.inl rfl) (pe_call (ok_lmakers T) (hr.mono (by decide) : Room 1 _) (by rfl) T.g_lmakers T.F_lmakers.kp T.b_lmakers .nil pass0 (pa_cons (pv 0) pa_nil))) (pss_cons (ps_set (i := 2) sc_right.nd rfl (.inl rfl) (pe_call (ok_makersof T) (hr.mono (by decide) : Room 2 _) (by rfl) T.g_makersof T.F_makersof.kp T.b_makersof .nil pass0 (pa_cons (pv 0) pa_nil))) (pss_cons (ps_if (PW.pt (pw_or (pt_cmpR op_isnot_bl (pe_call (ok_lookwood T) (hr.mono (by decide) : Room 3 _) (by rfl) T.g_lookwood T.F_lookwood.kp T.b_lookwood .nil pass0 (pa_cons (pv 0) pa_nil)) pe_bl (nomark _)) (pw_or (pt_not (pt_val (pe_callB call_isi (by rfl) T.m_isinstance (by decide +kernel) (pa_cons (pv 2) (pa_cons (pe_bltn (v := .ty "list") (by rfl) T.m_list (by decide +kernel) rfl) pa_nil))))) (pw_or1 (pt_cmpR (op_neD hr.units) (pv 2) (pe_lc (own := [("_law_name", 3), ("_law_kind", 4), ("_law_parts", 5)]) (by rfl) sc_right.nd (pi_list (pv 1)) (blkOk_by (own := [("_law_name", 3), ("_law_kind", 4), ("_law_parts", 5)]) (N := ["_law_wood_here", "_law_due", "_law_found", "_law_name", "_law_kind", "_law_parts", "_law_makers_here"]) (sc := defScope st_right) (by decide +kernel)) (fun _ _ _ _ _ => (KX.pg_tupK K (n := 3) rfl (pgs_cons (pg_name (i := 3) sc_right.nd rfl (.inl rfl)) (pgs_cons (pg_name (i := 4) sc_right.nd rfl (.inl rfl)) (pgs_cons (pg_name (i := 5) sc_right.nd rfl (.inl rfl)) pgs_nil))))) (fun _ _ _ _ _ => pts_nil) (fun _ _ _ _ _ => (pv 3))) (nomark _)))))) (pss_one (ps_ret pe_bl)) pss_nil) (pss_cons (ps_expr (pe_bm0 PySem.F.plainAttrs_list PySem.F.slot_list_clear PySem.F.type_list_clear mt_clear (pv 2))) (pss_cons (ps_for PassesOwn.never rfl (pi_list (pv 1)) (pg_tup rfl (pgs_cons (pg_name (i := 3) sc_right.nd rfl (.inl rfl)) (pgs_cons (pg_name (i := 4) sc_right.nd rfl (.inl rfl)) (pgs_cons (pg_name (i := 5) sc_right.nd rfl (.inl rfl)) pgs_nil)))) (pss_one (ps_if (PW.pt (pw_or (pt_not (pt_val (pe_call (ok_alike T) (hr.mono (by decide) : Room 1 _) (by rfl) T.g_alike T.F_alike.kp T.b_alike .nil pass0 (pa_cons (pe_call (ok_kindof T) (hr.mono (by decide) : Room 2 _) (by rfl) T.g_kindof T.F_kindof.kp T.b_kindof .nil pass0 (pa_cons (pv 0) (pa_cons (pv 3) pa_nil))) (pa_cons (pv 4) pa_nil))))) (pw_or1 (pt_not (pt_val (pe_call (ok_alike T) (hr.mono (by decide) : Room 1 _) (by rfl) T.g_alike T.F_alike.kp T.b_alike .nil pass0 (pa_cons (pe_call (ok_partsof T) (hr.mono (by decide) : Room 2 _) (by rfl) T.g_partsof T.F_partsof.kp T.b_partsof .nil pass0 (pa_cons (pv 0) (pa_cons (pv 3) pa_nil))) (pa_cons (pv 5) pa_nil)))))))) (pss_one (ps_ret pe_bl)) pss_nil))) (pss_one (ps_ret (pe_callB (cr_all rfl) (by rfl) T.m_all (by decide +kernel) (pa_cons (pe_lc (own := [("_law_name", 3)]) (by rfl) sc_right.nd (pi_list (pe_op op_cat (pe_call (ok_makersof T) (hr.mono (by decide) : Room 2 _) (by rfl) T.g_makersof T.F_makersof.kp T.b_makersof .nil pass0 (pa_cons (pv 0) pa_nil)) (pe_lc (own := [("_law_name", 3), ("_law_makers_here", 6)]) (by rfl) sc_right.nd (pi_tup (pv 0)) (blkOk_by (own := [("_law_name", 3), ("_law_makers_here", 6)]) (N := ["_law_wood_here", "_law_due", "_law_found", "_law_name", "_law_kind", "_law_parts", "_law_makers_here"]) (sc := defScope st_right) (by decide +kernel)) (fun _ _ _ _ _ => (KX.pg_tupK K (n := 2) rfl (pgs_cons (pg_name (i := 3) sc_right.nd rfl (.inl rfl)) (pgs_cons (pg_name (i := 6) sc_right.nd rfl (.inl rfl)) pgs_nil)))) (fun _ _ _ _ _ => pts_nil) (fun _ _ _ _ _ => (pv 3))))) (blkOk_by (own := [("_law_name", 3)]) (N := ["_law_wood_here", "_law_due", "_law_found", "_law_name", "_law_kind", "_law_parts", "_law_makers_here"]) (sc := defScope st_right) (by decide +kernel)) (fun _ _ _ _ _ => (pg_name (i := 3) sc_right.nd rfl (.inl rfl))) (fun _ _ _ _ _ => pts_nil) (fun _ _ _ _ _ => (pe_cmpR op_is_bl (pe_call (ok_isname T) (hr.mono (by decide) : Room 1 _) (by rfl) T.g_isname T.F_isname.kp T.b_isname .nil pass0 (pa_cons (pv 3) pa_nil)) pe_bl (nomark _)))) pa_nil))))))))), ?_⟩
    refine ⟨_, rfl, p, wd, rfl, hw, good, fun Ld H1 ds nLd s1 eLd hds => ?_⟩
    refine ⟨_, rfl, p, wd, rfl, hw.mono (KT.of s1), good, fun Lf H2 nLf s2 eLf => ?_⟩
    refine ⟨_, rfl, p, wd, rfl, hw.mono (KT.of (s1.trans s2)), good, fun H3 s3 => ?_⟩
    refine ⟨_, _, rfl, rfl, _, rfl, iteF ?_⟩
    have eLf3 := s3 _ _ eLf
    have eLd3 := s3 _ _ (s2 _ _ eLd)
    refine ⟨_, rfl, _, _, .type "list", _, true, rfl, .ty "list", .base (.lst eLf3), kit_ty (by decide +kernel), _, rfl, iteF ?_⟩
    refine ⟨_, rfl, _, rfl, Ld, rfl, ⟨ds, SqL.of eLd3⟩, fun D nD => ?_⟩
    have enn : (ents (kds wd) wd).map (·.1.1) = (mks wd).map (·.1) := ents_names
    have hdl : ds.length = ((mks wd).map (·.1)).length := by rw [hds.length, ← enn, List.length_map]
    have hmany : ((mks wd).map (·.1)).length ≤ 12 := by rw [List.length_map]; exact good.many
    refine walk_it (walk_list (xs := ds)) (fun i Hx => Same H3 Hx ∧ Hx D = some (.lst (nmsV (((mks wd).map (·.1)).take i)))) ⟨same_new nD, upd_same⟩ (fun i Hx hi P => SqL.of (P.1 _ _ eLd3)) (fun i x Hx Hy hi P y => ?_) (fun Hx P => ?_)
    · obtain ⟨sx, eD⟩ := P
      obtain ⟨rfl, ex⟩ := y
      obtain ⟨e, ee, t, u, rfl, et, eu⟩ := paired_at hds ex
      have emap : ((mks wd).map (·.1))[i]? = some e.1.1 := by
        rw [← enn, List.getElem?_map, ee]
        rfl
      refine ⟨t, _, rfl, .inl (.inl (sx _ _ (s3 _ _ (s2 _ _ et)))), rfl, _, _, rfl, _, _, rfl, _, _, rfl, rfl, rfl, ?_⟩
      unfold tYes
      refine iteT ?_
      refine ⟨_, rfl, _, eD, ?_, fun b o e => ?_, ?_⟩
      · unfold nmsV
        rw [List.length_map, List.length_take]
        exact Nat.lt_of_le_of_lt (show _ ≤ 1000 by omega) (by decide)
      · rw [upd_ne (ne_of_none e nD)]
        exact sx _ _ e
      · rw [upd_same, List.take_add_one, emap]
        unfold nmsV
        rw [List.map_append]
        rfl
    obtain ⟨sx, eD⟩ := P
    rw [hdl, List.take_length] at eD
    have okn : ∀ u ∈ ((mks wd).map (·.1)).map S, PyData.strOk u = true := fun u hu => by
      obtain ⟨n, hn, rfl⟩ := List.mem_map.mp hu
      exact nm_ok (good.makerN n hn)
    refine ⟨.list _, .list _, .lst (SqL.of (by rw [sx _ _ eLf3, nms_strs])) (dpAll_strs _), .lst (SqL.of (by rw [eD, nms_strs])) (dpAll_strs _), shaped_list (flat_strs okn), shaped_list (flat_strs okn), _, rfl, ?_⟩
    rw [show PyData.eqv (.list ((((mks wd).map (·.1)).map S).map PyData.str)) (.list ((((mks wd).map (·.1)).map S).map PyData.str)) = true by
      show PyData.eqvAll _ _ = true
      rw [eqv_strs]
      exact decide_eq_true rfl]
    refine iteF ?_
    -- emptied
    refine ⟨.ref Lf, rfl, .inl ⟨rfl, _, SqL.of (sx _ _ eLf3)⟩, Lf, _, rfl, rfl, sx _ _ eLf3, ?_⟩
    have nLfH : H Lf = none := Same.free s1 nLf
    have kc : KT H1 (upd Hx Lf (.lst [])) := (KT.of ((s2.trans s3).trans sx)).trans (KT.lst (sx _ _ eLf3))
    have sc : Same H (upd Hx Lf (.lst [])) := fun b o e => by
      rw [upd_ne (ne_of_none e nLfH)]
      exact sx _ _ (s3 _ _ (s2 _ _ (s1 _ _ e)))
    have ndf : Ld ≠ Lf := ne_of_none eLd nLf
    have eLdc : upd Hx Lf (.lst []) Ld = some (.lst ds) := by
      rw [upd_ne ndf]
      exact sx _ _ eLd3
    generalize upd Hx Lf (.lst []) = Hc at kc sc eLdc
    have hwc : WdAt Hc p wd := hw.mono (KT.of sc)
    have hdc : Paired (DueAt Hc (kds wd)) ds (ents (kds wd) wd) := Paired.mapP hds fun _ _ z => z.mono kc
    refine ⟨_, rfl, Ld, rfl, ⟨ds, SqL.of eLdc⟩, for_it (walk_list (xs := ds)) (fun i σ H' => ∃ (y3 y4 y5 : Option V), σ = [some (.ref p), some (.ref Ld), some (.ref Lf), y3, y4, y5, none] ∧ Same Hc H') ⟨none, none, none, rfl, Same.refl _⟩ (fun i σ H' hi P => ?_) (fun i x σ H' H'' hi P y => ?_) (fun σ H' P => ?_)⟩
    · obtain ⟨_, _, _, _, s4⟩ := P
      exact SqL.of (s4 _ _ eLdc)
    · obtain ⟨y3, y4, y5, rfl, s4⟩ := P
      obtain ⟨rfl, ex⟩ := y
      obtain ⟨e, ee, t, u, rfl, et, eu⟩ := paired_at hdc ex
      refine ⟨t, _, rfl, .inl (.inl (s4 _ _ et)), rfl, _, _, rfl, _, _, rfl, _, _, rfl, rfl, ?_⟩
      refine ⟨_, rfl, _, rfl, p, wd, e, rfl, hwc.mono (KT.of s4), good, List.mem_of_getElem? ee, fun H5 s5 => ?_⟩
      refine ⟨_, rfl, _, _, 1, rfl, .flat rfl, by decide, fun H6 s6 => ⟨_, rfl, iteF ?_⟩⟩
      have s46 := (s4.trans s5).trans s6
      refine ⟨_, rfl, _, rfl, p, wd, e, rfl, hwc.mono (KT.of s46), good, List.mem_of_getElem? ee, fun u2 H7 s7 e7 => ?_⟩
      refine ⟨_, rfl, _, _, e.1.2.length + 1, rfl, .tup e7 (s7 _ _ (s46 _ _ eu)) prts_td, ?_, fun H8 s8 => ⟨_, rfl, iteF ?_⟩⟩
      · have : e.1 ∈ mks wd := by
          rw [← ents_fst (ks := kds wd)]
          exact List.mem_map.mpr ⟨e, List.mem_of_getElem? ee, rfl⟩
        have := (good.parts _ this).1
        omega
      · exact ⟨_, _, _, rfl, (s46.trans s7).trans s8⟩
    · obtain ⟨y3, y4, y5, rfl, s4⟩ := P
      refine ⟨_, rfl, p, wd, rfl, hwc.mono (KT.of s4), good, fun L2 H5 nL2 s5 eL2 => ?_⟩
      obtain ⟨vs, ep, hwv⟩ := hwc
      have s45 := s4.trans s5
      refine ⟨_, rfl, p, rfl, ⟨vs, .inl (.inl (s45 _ _ ep))⟩, fun D2 nD2 => ?_⟩
      have hkl : (kds wd).length = wd.length := List.length_map _
      have hfew := good.few
      refine walk_it (walk_tup (xs := vs)) (fun i Hx => Same H5 Hx ∧ Hx D2 = some (.lst (nmsV ((kds wd).take i)))) ⟨same_new nD2, upd_same⟩ (fun i Hx hi P => .inl (.inl (P.1 _ _ (s45 _ _ ep)))) (fun i x Hx Hy hi P y => ?_) (fun H6 P => ?_)
      · obtain ⟨sx, eK⟩ := P
        obtain ⟨rfl, ex⟩ := y
        obtain ⟨⟨nm, ms⟩, enm, tk, tt, mvs, rfl, etk, ett, hms⟩ := paired_at hwv ex
        have emap : (kds wd)[i]? = some nm := by
          rw [List.getElem?_map, enm]
          rfl
        refine ⟨tk, _, rfl, .inl (.inl (sx _ _ (s45 _ _ etk))), rfl, _, _, rfl, _, _, rfl, rfl, rfl, ?_⟩
        unfold tYes
        refine iteT ?_
        refine ⟨_, rfl, _, eK, ?_, fun b o e => ?_, ?_⟩
        · unfold nmsV
          rw [List.length_map, List.length_take]
          exact Nat.lt_of_le_of_lt (show _ ≤ 1000 by omega) (by decide)
        · rw [upd_ne (ne_of_none e nD2)]
          exact sx _ _ e
        · rw [upd_same, List.take_add_one, emap]
          unfold nmsV
          rw [List.map_append]
          rfl
      obtain ⟨s6, eK⟩ := P
      rw [hwv.length, ← hkl, List.take_length] at eK
      refine ⟨L2, D2, _, _, rfl, rfl, s6 _ _ eL2, eK, ?_, fun L3 nL3 => ?_⟩
      · rw [nmsV_len, nmsV_len]
        exact Nat.le_trans (show _ ≤ 100 by omega) (by decide)
      have hall : ∀ n ∈ (mks wd).map (·.1) ++ kds wd, nmB (S n) = true := fun n hn => by
        rcases List.mem_append.mp hn with h | h
        · exact good.makerN n h
        · exact good.kindN n h
      have hal : ((mks wd).map (·.1) ++ kds wd).length ≤ 100 := by
        rw [List.length_append]
        omega
      rw [show nmsV ((mks wd).map (·.1)) ++ nmsV (kds wd) = nmsV ((mks wd).map (·.1) ++ kds wd) by unfold nmsV; rw [List.map_append]]
      generalize (mks wd).map (·.1) ++ kds wd = al at hall hal
      have hall' : (nmsV al).length = al.length := by
        unfold nmsV
        rw [List.length_map]
      have s7 : Same H6 (upd H6 L3 (.lst (nmsV al))) := same_new nL3
      have e7 : upd H6 L3 (.lst (nmsV al)) L3 = some (.lst (nmsV al)) := upd_same
      generalize upd H6 L3 (.lst (nmsV al)) = H7 at s7 e7
      refine ⟨L3, rfl, ⟨nmsV al, SqL.of e7⟩, fun D3 nD3 => ?_⟩
      refine lc_pure (walk_list (xs := nmsV al)) nD3 (al.map fun _ => V.bl true) (by rw [List.length_map, hall']) (by rw [hall']; omega) (fun Hq sq => SqL.of (sq _ _ e7)) (fun j x y H8 H9 hy s8 hY => ?_) (fun x σ H Q Q' f h => f _ _ h) (fun σ H Q Q' f h => f _ _ h) (fun σ H Q Q' f h => ?_) (fun H8 s8 e8 => ?_)
      · obtain ⟨rfl, ex⟩ := hY
        obtain ⟨n, en, rfl⟩ := nms_ix ex
        rw [List.getElem?_map, en] at hy
        cases Option.some.inj hy
        have hn := hall n (List.mem_of_getElem? en)
        refine ⟨rfl, rfl, _, rfl, S n, rfl, nm_short hn, fun H10 s10 => ?_⟩
        rw [hn]
        exact ⟨_, _, rfl, rfl, rfl, s10⟩
      · obtain ⟨v1, e1, z, e2, e3, k⟩ := h
        refine ⟨v1, e1, z, e2, e3, fun H' sH => ?_⟩
        obtain ⟨a, b, f1, f2, f3⟩ := k H' sH
        exact ⟨a, b, f1, f2, f _ _ f3⟩
      refine ⟨D3, al.map fun _ => true, rfl, SqL.of (by rw [e8, List.map_map]; rfl), ?_⟩
      rw [show (al.map fun _ => true).all id = true by rw [List.all_map, List.all_eq_true]; exact fun _ _ => rfl]
      exact q H8 ((((sc.trans s45).trans s6).trans s7).trans s8)
end

/-! ### the law -/
def spLaw (K : PySem.W.Frag) : Sp := fun vs H Q _ => ∃ (a : Addr) (ns : List Int), vs = [.ref a] ∧ SqL K H a (ns.map V.int) ∧ ns.length ≤ 63 ∧ ∀ H', Q (.bl true) H'
theorem cut_to (xs : List V) : cutV xs none (some 1) = xs.take 1 := by
  unfold cutV
  rw [show HT.sIx xs.length xs.length (some 1) = min 1 xs.length from HT.sIx_nat xs.length xs.length 1, HT.sIx_none]
  show List.take (min 1 xs.length - 0) (xs.drop 0) = xs.take 1
  rw [List.drop_zero, Nat.sub_zero]
  cases xs with
  | nil => rfl
  | cons x r => rw [show min 1 (x :: r).length = 1 by rw [List.length_cons]; omega]
def GWd (H : Hp) (v : V) : Prop := ∃ p wd, v = .ref p ∧ WdAt H p wd ∧ Good wd
theorem GWd.mono {H H' : Hp} {v : V} (k : KT H H') (h : GWd H v) : GWd H' v := by
  obtain ⟨p, wd, e, h1, h2⟩ := h
  exact ⟨p, wd, e, h1.mono k, h2⟩
section
variable {P : Program} {w : World} {K : PySem.W.Frag} {mg : Str → Option Value} {base : Heap}
theorem ok_law (T : Tx P K mg) {f : Addr} {fd : FuncData} (F : Fun K "law" "law" st_law f fd) : FnOk P w K mg base CX0 5 f fd ["_law_script"] (spLaw K) := by
  refine F.ok sc_law (fun vs H Q E h => ?_) (fun cdv A outer s H vs Q E hr h => ?_)
  · obtain ⟨a, ns, rfl, _⟩ := h
    rfl
  · obtain ⟨a, ns, rfl, hS, hlen63, q⟩ := h
    refine ⟨_, (pss_cons (ps_set (i := 1) sc_law.nd rfl (.inl rfl) (pe_lst pa_nil)) (pss_cons (ps_for PassesOwn.never rfl (pi_range1 (by rfl) T.m_range (pa_cons (pe_callB (call_max2 rfl) (by rfl) T.m_max (by decide +kernel) (pa_cons pe_int (pa_cons (pe_callB (call_min2 rfl) (by rfl) T.m_min (by decide +kernel) (pa_cons pe_int (pa_cons (pe_callB call_len_seq (by rfl) T.m_len PySem.boot_len (pa_cons (pv 0) pa_nil)) pa_nil))) pa_nil))) pa_nil)) (pg_name (i := 2) sc_law.nd rfl (.inl rfl)) (pss_cons (ps_set (i := 3) sc_law.nd rfl (.inl rfl) (pe_call (ok_box T) (hr.mono (by decide) : Room 1 _) (by rfl) T.g_box T.F_box.kp T.b_box .nil pass0 (pa_cons (pv 0) (pa_cons (pv 2) pa_nil)))) (pss_cons (ps_expr (pe_bm PySem.F.plainAttrs_list PySem.F.slot_list_append PySem.F.type_list_append mt_append (pv 1) (pa_cons (pe_call (ok_wood T) (hr.mono (by decide) : Room 3 _) (by rfl) T.g_wood T.F_wood.kp T.b_wood .nil pass0 (pa_cons (pv 3) (pa_cons pe_int pa_nil))) pa_nil))) (pss_one (ps_for PassesOwn.never rfl (pi_range1 (by rfl) T.m_range (pa_cons pe_int pa_nil)) (pg_name (i := 4) sc_law.nd rfl (.inl rfl)) (pss_cons (ps_set (i := 5) sc_law.nd rfl (.inl rfl) (pe_call (ok_anytext T) (hr.mono (by decide) : Room 2 _) (by rfl) T.g_anytext T.F_anytext.kp T.b_anytext .nil pass0 (pa_cons (pv 3) pa_nil))) (pss_one (ps_if (pt_not (pt_val (pe_call (ok_alike T) (hr.mono (by decide) : Room 1 _) (by rfl) T.g_alike T.F_alike.kp T.b_alike .nil pass0 (pa_cons (pe_call (ok_isname T) (hr.mono (by decide) : Room 1 _) (by rfl) T.g_isname T.F_isname.kp T.b_isname .nil pass0 (pa_cons (pv 5) pa_nil)) (pa_cons (pe_call (ok_lisname T) (hr.mono (by decide) : Room 1 _) (by rfl) T.g_lisname T.F_lisname.kp T.b_lisname .nil pass0 (pa_cons (pv 5) pa_nil)) pa_nil))))) (pss_one (ps_ret pe_bl)) pss_nil)))))))) (pss_one (ps_ret (pe_callB (cr_all rfl) (by rfl) T.m_all (by decide +kernel) (pa_cons (pe_lc (own := [("_law_wood_here", 6)]) (by rfl) sc_law.nd (pi_list (pe_op op_cat (pv 1) (pe_slice sl_list (pv 1) po_none (po_some pe_int)))) (blkOk_by (own := [("_law_wood_here", 6)]) (N := ["_law_script", "_law_woods", "_law_k", "_law_box_here", "_law_turn", "_law_text", "_law_wood_here"]) (sc := defScope st_law) (by decide +kernel)) (fun _ _ _ _ _ => (pg_name (i := 6) sc_law.nd rfl (.inl rfl))) (fun _ _ _ _ _ => pts_nil) (fun _ _ _ _ _ => (pe_call (ok_right T) (hr.mono (by decide) : Room 4 _) (by rfl) T.g_right T.F_right.kp T.b_right .nil pass0 (pa_cons (pv 6) pa_nil)))) pa_nil)))))), ?_⟩
    refine ⟨s0, fun L nL => ?_⟩
    have s1 : Same H (upd H L (.lst [])) := same_new nL
    refine ⟨.ref a, rfl, a, _, rfl, .inl (s1.seq hS), _, _, rfl, _, _, rfl, ?_⟩
    rw [List.length_map]
    obtain ⟨n, hn, hn3, hn8⟩ : ∃ n : Nat, (if (if (ns.length : Int) < 6 then (ns.length : Int) else 6) > 2 then (if (ns.length : Int) < 6 then (ns.length : Int) else 6) else 2) = (n : Int) ∧ 2 ≤ n ∧ n ≤ 6 := by
      refine ⟨max 2 (min 6 ns.length), ?_, by omega, by omega⟩
      split <;> split at * <;> omega
    rw [hn]
    refine ⟨_, rfl, by omega, by omega, for_range (lo := 0) (n := (n : Int).toNat) (fun i σ H' => ∃ (y2 y3 y4 y5 : Option V) (ws : List V), σ = [some (.ref a), some (.ref L), y2, y3, y4, y5, none] ∧ H' L = some (.lst ws) ∧ ws.length = i ∧ Same H H' ∧ ∀ v ∈ ws, GWd H' v)
      ⟨none, none, none, none, [], rfl, upd_same, rfl, s1, fun p hp => nomatch hp⟩ (fun i σ H' hi hP => ?_) (fun σ H' hP => ?_)⟩
    · obtain ⟨y2, y3, y4, y5, ws, rfl, eL, hlen, sm, hws⟩ := hP
      have hin : i < 6 := by omega
      refine ⟨.ref a, rfl, _, rfl, a, ns, _, rfl, sm.seq hS, by omega, by omega, fun b H1 nb s1 db => ?_⟩
      have nbL : L ≠ b := ne_of_none eL nb
      have eL1 := s1 _ _ eL
      refine ⟨.ref L, rfl, .inl ⟨rfl, _, SqL.of eL1⟩, ?_⟩
      refine ⟨_, rfl, b, 12, rfl, db, by decide, by decide, fun p H2 wd g2 hw good => ?_⟩
      have eL2 := g2.1 _ _ nbL eL1
      have kt2 : KT H' H2 := (KT.of s1).trans (KT.gr db g2)
      have sm2 : Same H H2 := fun c o e => g2.1 _ _ (ne_of_none (sm _ _ e) nb) (s1 _ _ (sm _ _ e))
      refine ⟨L, _, _, rfl, rfl, eL2, Nat.lt_of_le_of_lt (show ws.length ≤ 100 by omega) (by decide), ?_⟩
      have kt3 : KT H2 (upd H2 L (.lst (ws ++ [.ref p]))) := KT.lst eL2
      have e3 : upd H2 L (.lst (ws ++ [.ref p])) L = some (.lst (ws ++ [.ref p])) := upd_same
      have sm3 : Same H (upd H2 L (.lst (ws ++ [.ref p]))) := fun c o e => by
        rw [upd_ne (ne_of_none e nL)]
        exact sm2 _ _ e
      have db3 : Drw (upd H2 L (.lst (ws ++ [.ref p]))) b := by
        obtain ⟨x, y, z, e⟩ := g2.2
        exact ⟨x, y, z, by rw [upd_ne nbL.symm]; exact e⟩
      have hws3 : ∀ v ∈ ws ++ [V.ref p], GWd (upd H2 L (.lst (ws ++ [.ref p]))) v := fun v hv => by
        rcases List.mem_append.mp hv with h | h
        · exact (hws v h).mono (kt2.trans kt3)
        · rw [List.mem_singleton.mp h]
          exact ⟨p, wd, rfl, hw.mono kt3, good⟩
      generalize upd H2 L (.lst (ws ++ [.ref p])) = H3 at kt3 e3 sm3 db3 hws3
      have nbH : H b = none := by
        cases e : H b with
        | none => rfl
        | some o =>
          rw [sm _ _ e] at nb
          cases nb
      refine ⟨6, rfl, by decide, by decide, for_range (lo := 0) (n := 6) (fun j σ H' => ∃ (y4 y5 : Option V), σ = [some (.ref a), some (.ref L), some (.int (0 + (i : Int))), some (.ref b), y4, y5, none] ∧ Gr b H3 H') ⟨y4, y5, rfl, Gr.of (Same.refl _) db3⟩ (fun j σ H' hj hP => ?_) (fun σ H' hP => ?_)⟩
      · obtain ⟨y4, y5, rfl, g4⟩ := hP
        refine ⟨_, rfl, b, rfl, g4.2, fun z H5 hz ho g5 => ?_⟩
        refine ⟨_, rfl, z, rfl, by omega, fun H6 s6 => ?_⟩
        refine ⟨_, rfl, z, rfl, by omega, ho, fun H7 s7 => ?_⟩
        refine ⟨_, _, 1, rfl, .flat rfl, by decide, fun H8 s8 => ⟨_, rfl, iteF ?_⟩⟩
        exact ⟨_, _, rfl, (g4.trans g5).trans (Gr.of ((s6.trans s7).trans s8) g5.2)⟩
      · obtain ⟨y4, y5, rfl, g4⟩ := hP
        refine ⟨_, _, _, _, ws ++ [.ref p], rfl, g4.1 _ _ nbL e3, by rw [List.length_append, hlen]; rfl, fun c o e => g4.1 _ _ (ne_of_none e nbH) (sm3 _ _ e), fun v hv => (hws3 v hv).mono (KT.gr db3 g4)⟩
    · obtain ⟨y2, y3, y4, y5, ws, rfl, eL, hlen, sm, hws⟩ := hP
      refine ⟨.ref L, rfl, .ref L, rfl, 1, rfl, L, _, rfl, SqL.of eL, fun M hM => ?_⟩
      rw [cut_to]
      have sM := same_new (o := .lst (ws.take 1)) hM
      refine ⟨L, M, ws, ws.take 1, rfl, rfl, sM _ _ eL, upd_same, ?_, fun A2 hA => ?_⟩
      · rw [List.length_take]
        exact Nat.le_trans (show _ ≤ 100 by omega) (by decide)
      have s2 : Same H' (upd (upd H' M (.lst (ws.take 1))) A2 (.lst (ws ++ ws.take 1))) := sM.trans (same_new hA)
      have eA : upd (upd H' M (.lst (ws.take 1))) A2 (.lst (ws ++ ws.take 1)) A2 = some (.lst (ws ++ ws.take 1)) := upd_same
      generalize upd (upd H' M (.lst (ws.take 1))) A2 (.lst (ws ++ ws.take 1)) = H2 at s2 eA
      have hall : ∀ v ∈ ws ++ ws.take 1, GWd H2 v := fun v hv => by
        have : v ∈ ws := by
          rcases List.mem_append.mp hv with h | h
          · exact h
          · exact List.mem_of_mem_take h
        exact (hws v this).mono (KT.of s2)
      have hal : (ws ++ ws.take 1).length ≤ 100 := by
        rw [List.length_append, List.length_take]
        omega
      generalize ws ++ ws.take 1 = al at hall hal eA
      refine ⟨A2, rfl, ⟨al, SqL.of eA⟩, fun D nD => ?_⟩
      refine lc_pure (walk_list (xs := al)) nD (al.map fun _ => V.bl true) (by rw [List.length_map]) (by omega) (fun Hq sq => SqL.of (sq _ _ eA)) (fun j x y H8 H9 hy s8 hY => ?_) (fun x σ H Q Q' f h => f _ _ h) (fun σ H Q Q' f h => f _ _ h) (fun σ H Q Q' f h => ?_) (fun H8 s8 e8 => ?_)
      · obtain ⟨rfl, ex⟩ := hY
        rw [List.getElem?_map, ex] at hy
        cases Option.some.inj hy
        obtain ⟨p, wd, rfl, hw, good⟩ := hall x (List.mem_of_getElem? ex)
        exact ⟨rfl, rfl, _, rfl, p, wd, rfl, hw.mono (KT.of s8), good, fun H10 s10 => ⟨rfl, s10⟩⟩
      · obtain ⟨v1, e1, p, wd, e2, h1, h2, k⟩ := h
        exact ⟨v1, e1, p, wd, e2, h1, h2, fun H' sH => f _ _ (k H' sH)⟩
      refine ⟨D, al.map fun _ => true, rfl, SqL.of (by rw [e8, List.map_map]; rfl), ?_⟩
      rw [show (al.map fun _ => true).all id = true by rw [List.all_map, List.all_eq_true]; exact fun _ _ => rfl]
      exact q H8
end

theorem all_mk {l : PySem.W.OpenLaw} {w : World} {K : PySem.W.Frag} {h : Heap} {mg : Str → Option Value} {fa : Addr} (X : K.In h) (G : h.Ns mainGlobals mg) (hfa : mg "law" = some (.ref fa))
    {f_isname : Addr} {od_isname an_isname : Option Addr} {sl_isname : Array (Option Value)} {oc_isname kV_isname dc_isname pm_isname cd_isname ct_isname : Value}
    (a_isname : PySem.W.nsIn K mainGlobals "is_name" = some (some (.ref f_isname))) (l_isname : K.lookup f_isname = some ⟨oc_isname, od_isname, .func (PySem.W.fnOf "is_name" "is_name" (defArgs st_isname) (defBody st_isname) (defScope st_isname) .none kV_isname dc_isname pm_isname an_isname cd_isname ct_isname), sl_isname⟩) (c_isname : PySem.W.codeIn K cd_isname "is_name" = true) (k_isname : PySem.W.keepIn K (.ref f_isname) = true)
    {f_lookwood : Addr} {od_lookwood an_lookwood : Option Addr} {sl_lookwood : Array (Option Value)} {oc_lookwood kV_lookwood dc_lookwood pm_lookwood cd_lookwood ct_lookwood : Value}
    (a_lookwood : PySem.W.nsIn K mainGlobals "look_wood" = some (some (.ref f_lookwood))) (l_lookwood : K.lookup f_lookwood = some ⟨oc_lookwood, od_lookwood, .func (PySem.W.fnOf "look_wood" "look_wood" (defArgs st_lookwood) (defBody st_lookwood) (defScope st_lookwood) .none kV_lookwood dc_lookwood pm_lookwood an_lookwood cd_lookwood ct_lookwood), sl_lookwood⟩) (c_lookwood : PySem.W.codeIn K cd_lookwood "look_wood" = true) (k_lookwood : PySem.W.keepIn K (.ref f_lookwood) = true)
    {f_lookkinds : Addr} {od_lookkinds an_lookkinds : Option Addr} {sl_lookkinds : Array (Option Value)} {oc_lookkinds kV_lookkinds dc_lookkinds pm_lookkinds cd_lookkinds ct_lookkinds : Value}
    (a_lookkinds : PySem.W.nsIn K mainGlobals "look_kinds" = some (some (.ref f_lookkinds))) (l_lookkinds : K.lookup f_lookkinds = some ⟨oc_lookkinds, od_lookkinds, .func (PySem.W.fnOf "look_kinds" "look_kinds" (defArgs st_lookkinds) (defBody st_lookkinds) (defScope st_lookkinds) .none kV_lookkinds dc_lookkinds pm_lookkinds an_lookkinds cd_lookkinds ct_lookkinds), sl_lookkinds⟩) (c_lookkinds : PySem.W.codeIn K cd_lookkinds "look_kinds" = true) (k_lookkinds : PySem.W.keepIn K (.ref f_lookkinds) = true)
    {f_lookmakers : Addr} {od_lookmakers an_lookmakers : Option Addr} {sl_lookmakers : Array (Option Value)} {oc_lookmakers kV_lookmakers dc_lookmakers pm_lookmakers cd_lookmakers ct_lookmakers : Value}
    (a_lookmakers : PySem.W.nsIn K mainGlobals "look_makers" = some (some (.ref f_lookmakers))) (l_lookmakers : K.lookup f_lookmakers = some ⟨oc_lookmakers, od_lookmakers, .func (PySem.W.fnOf "look_makers" "look_makers" (defArgs st_lookmakers) (defBody st_lookmakers) (defScope st_lookmakers) .none kV_lookmakers dc_lookmakers pm_lookmakers an_lookmakers cd_lookmakers ct_lookmakers), sl_lookmakers⟩) (c_lookmakers : PySem.W.codeIn K cd_lookmakers "look_makers" = true) (k_lookmakers : PySem.W.keepIn K (.ref f_lookmakers) = true)
    {f_table : Addr} {od_table an_table : Option Addr} {sl_table : Array (Option Value)} {oc_table kV_table dc_table pm_table cd_table ct_table : Value}
    (a_table : PySem.W.nsIn K mainGlobals "maker_table" = some (some (.ref f_table))) (l_table : K.lookup f_table = some ⟨oc_table, od_table, .func (PySem.W.fnOf "maker_table" "maker_table" (defArgs st_table) (defBody st_table) (defScope st_table) .none kV_table dc_table pm_table an_table cd_table ct_table), sl_table⟩) (c_table : PySem.W.codeIn K cd_table "maker_table" = true) (k_table : PySem.W.keepIn K (.ref f_table) = true)
    {f_makersof : Addr} {od_makersof an_makersof : Option Addr} {sl_makersof : Array (Option Value)} {oc_makersof kV_makersof dc_makersof pm_makersof cd_makersof ct_makersof : Value}
    (a_makersof : PySem.W.nsIn K mainGlobals "makers_of" = some (some (.ref f_makersof))) (l_makersof : K.lookup f_makersof = some ⟨oc_makersof, od_makersof, .func (PySem.W.fnOf "makers_of" "makers_of" (defArgs st_makersof) (defBody st_makersof) (defScope st_makersof) .none kV_makersof dc_makersof pm_makersof an_makersof cd_makersof ct_makersof), sl_makersof⟩) (c_makersof : PySem.W.codeIn K cd_makersof "makers_of" = true) (k_makersof : PySem.W.keepIn K (.ref f_makersof) = true)
    {f_kindof : Addr} {od_kindof an_kindof : Option Addr} {sl_kindof : Array (Option Value)} {oc_kindof kV_kindof dc_kindof pm_kindof cd_kindof ct_kindof : Value}
    (a_kindof : PySem.W.nsIn K mainGlobals "kind_of" = some (some (.ref f_kindof))) (l_kindof : K.lookup f_kindof = some ⟨oc_kindof, od_kindof, .func (PySem.W.fnOf "kind_of" "kind_of" (defArgs st_kindof) (defBody st_kindof) (defScope st_kindof) .none kV_kindof dc_kindof pm_kindof an_kindof cd_kindof ct_kindof), sl_kindof⟩) (c_kindof : PySem.W.codeIn K cd_kindof "kind_of" = true) (k_kindof : PySem.W.keepIn K (.ref f_kindof) = true)
    {f_partsof : Addr} {od_partsof an_partsof : Option Addr} {sl_partsof : Array (Option Value)} {oc_partsof kV_partsof dc_partsof pm_partsof cd_partsof ct_partsof : Value}
    (a_partsof : PySem.W.nsIn K mainGlobals "parts_of" = some (some (.ref f_partsof))) (l_partsof : K.lookup f_partsof = some ⟨oc_partsof, od_partsof, .func (PySem.W.fnOf "parts_of" "parts_of" (defArgs st_partsof) (defBody st_partsof) (defScope st_partsof) .none kV_partsof dc_partsof pm_partsof an_partsof cd_partsof ct_partsof), sl_partsof⟩) (c_partsof : PySem.W.codeIn K cd_partsof "parts_of" = true) (k_partsof : PySem.W.keepIn K (.ref f_partsof) = true)
    {f_box : Addr} {od_box an_box : Option Addr} {sl_box : Array (Option Value)} {oc_box kV_box dc_box pm_box cd_box ct_box : Value}
    (a_box : PySem.W.nsIn K mainGlobals "_law_box" = some (some (.ref f_box))) (l_box : K.lookup f_box = some ⟨oc_box, od_box, .func (PySem.W.fnOf "_law_box" "_law_box" (defArgs st_box) (defBody st_box) (defScope st_box) .none kV_box dc_box pm_box an_box cd_box ct_box), sl_box⟩) (c_box : PySem.W.codeIn K cd_box "_law_box" = true) (k_box : PySem.W.keepIn K (.ref f_box) = true)
    {f_take : Addr} {od_take an_take : Option Addr} {sl_take : Array (Option Value)} {oc_take kV_take dc_take pm_take cd_take ct_take : Value}
    (a_take : PySem.W.nsIn K mainGlobals "_law_take" = some (some (.ref f_take))) (l_take : K.lookup f_take = some ⟨oc_take, od_take, .func (PySem.W.fnOf "_law_take" "_law_take" (defArgs st_take) (defBody st_take) (defScope st_take) .none kV_take dc_take pm_take an_take cd_take ct_take), sl_take⟩) (c_take : PySem.W.codeIn K cd_take "_law_take" = true) (k_take : PySem.W.keepIn K (.ref f_take) = true)
    {f_names : Addr} {od_names an_names : Option Addr} {sl_names : Array (Option Value)} {oc_names kV_names dc_names pm_names cd_names ct_names : Value}
    (a_names : PySem.W.nsIn K mainGlobals "_law_names" = some (some (.ref f_names))) (l_names : K.lookup f_names = some ⟨oc_names, od_names, .func (PySem.W.fnOf "_law_names" "_law_names" (defArgs st_names) (defBody st_names) (defScope st_names) .none kV_names dc_names pm_names an_names cd_names ct_names), sl_names⟩) (c_names : PySem.W.codeIn K cd_names "_law_names" = true) (k_names : PySem.W.keepIn K (.ref f_names) = true)
    {f_wood : Addr} {od_wood an_wood : Option Addr} {sl_wood : Array (Option Value)} {oc_wood kV_wood dc_wood pm_wood cd_wood ct_wood : Value}
    (a_wood : PySem.W.nsIn K mainGlobals "_law_wood" = some (some (.ref f_wood))) (l_wood : K.lookup f_wood = some ⟨oc_wood, od_wood, .func (PySem.W.fnOf "_law_wood" "_law_wood" (defArgs st_wood) (defBody st_wood) (defScope st_wood) .none kV_wood dc_wood pm_wood an_wood cd_wood ct_wood), sl_wood⟩) (c_wood : PySem.W.codeIn K cd_wood "_law_wood" = true) (k_wood : PySem.W.keepIn K (.ref f_wood) = true)
    {f_lmakers : Addr} {od_lmakers an_lmakers : Option Addr} {sl_lmakers : Array (Option Value)} {oc_lmakers kV_lmakers dc_lmakers pm_lmakers cd_lmakers ct_lmakers : Value}
    (a_lmakers : PySem.W.nsIn K mainGlobals "_law_makers" = some (some (.ref f_lmakers))) (l_lmakers : K.lookup f_lmakers = some ⟨oc_lmakers, od_lmakers, .func (PySem.W.fnOf "_law_makers" "_law_makers" (defArgs st_lmakers) (defBody st_lmakers) (defScope st_lmakers) .none kV_lmakers dc_lmakers pm_lmakers an_lmakers cd_lmakers ct_lmakers), sl_lmakers⟩) (c_lmakers : PySem.W.codeIn K cd_lmakers "_law_makers" = true) (k_lmakers : PySem.W.keepIn K (.ref f_lmakers) = true)
    {f_lisname : Addr} {od_lisname an_lisname : Option Addr} {sl_lisname : Array (Option Value)} {oc_lisname kV_lisname dc_lisname pm_lisname cd_lisname ct_lisname : Value}
    (a_lisname : PySem.W.nsIn K mainGlobals "_law_is_name" = some (some (.ref f_lisname))) (l_lisname : K.lookup f_lisname = some ⟨oc_lisname, od_lisname, .func (PySem.W.fnOf "_law_is_name" "_law_is_name" (defArgs st_lisname) (defBody st_lisname) (defScope st_lisname) .none kV_lisname dc_lisname pm_lisname an_lisname cd_lisname ct_lisname), sl_lisname⟩) (c_lisname : PySem.W.codeIn K cd_lisname "_law_is_name" = true) (k_lisname : PySem.W.keepIn K (.ref f_lisname) = true)
    {f_anytext : Addr} {od_anytext an_anytext : Option Addr} {sl_anytext : Array (Option Value)} {oc_anytext kV_anytext dc_anytext pm_anytext cd_anytext ct_anytext : Value}
    (a_anytext : PySem.W.nsIn K mainGlobals "_law_any_text" = some (some (.ref f_anytext))) (l_anytext : K.lookup f_anytext = some ⟨oc_anytext, od_anytext, .func (PySem.W.fnOf "_law_any_text" "_law_any_text" (defArgs st_anytext) (defBody st_anytext) (defScope st_anytext) .none kV_anytext dc_anytext pm_anytext an_anytext cd_anytext ct_anytext), sl_anytext⟩) (c_anytext : PySem.W.codeIn K cd_anytext "_law_any_text" = true) (k_anytext : PySem.W.keepIn K (.ref f_anytext) = true)
    {f_alike : Addr} {od_alike an_alike : Option Addr} {sl_alike : Array (Option Value)} {oc_alike kV_alike dc_alike pm_alike cd_alike ct_alike : Value}
    (a_alike : PySem.W.nsIn K mainGlobals "_law_alike" = some (some (.ref f_alike))) (l_alike : K.lookup f_alike = some ⟨oc_alike, od_alike, .func (PySem.W.fnOf "_law_alike" "_law_alike" (defArgs st_alike) (defBody st_alike) (defScope st_alike) .none kV_alike dc_alike pm_alike an_alike cd_alike ct_alike), sl_alike⟩) (c_alike : PySem.W.codeIn K cd_alike "_law_alike" = true) (k_alike : PySem.W.keepIn K (.ref f_alike) = true)
    {f_right : Addr} {od_right an_right : Option Addr} {sl_right : Array (Option Value)} {oc_right kV_right dc_right pm_right cd_right ct_right : Value}
    (a_right : PySem.W.nsIn K mainGlobals "_law_right" = some (some (.ref f_right))) (l_right : K.lookup f_right = some ⟨oc_right, od_right, .func (PySem.W.fnOf "_law_right" "_law_right" (defArgs st_right) (defBody st_right) (defScope st_right) .none kV_right dc_right pm_right an_right cd_right ct_right), sl_right⟩) (c_right : PySem.W.codeIn K cd_right "_law_right" = true) (k_right : PySem.W.keepIn K (.ref f_right) = true)
    {f_law : Addr} {od_law an_law : Option Addr} {sl_law : Array (Option Value)} {oc_law kV_law dc_law pm_law cd_law ct_law : Value}
    (a_law : PySem.W.nsIn K mainGlobals "law" = some (some (.ref f_law))) (l_law : K.lookup f_law = some ⟨oc_law, od_law, .func (PySem.W.fnOf "law" "law" (defArgs st_law) (defBody st_law) (defScope st_law) .none kV_law dc_law pm_law an_law cd_law ct_law), sl_law⟩) (c_law : PySem.W.codeIn K cd_law "law" = true) (k_law : PySem.W.keepIn K (.ref f_law) = true)
    (z_len : PySem.W.nsIn K mainGlobals "len" = some none)
    (z_int : PySem.W.nsIn K mainGlobals "int" = some none)
    (z_bool : PySem.W.nsIn K mainGlobals "bool" = some none)
    (z_list : PySem.W.nsIn K mainGlobals "list" = some none)
    (z_tuple : PySem.W.nsIn K mainGlobals "tuple" = some none)
    (z_zip : PySem.W.nsIn K mainGlobals "zip" = some none)
    (z_isinstance : PySem.W.nsIn K mainGlobals "isinstance" = some none)
    (z_max : PySem.W.nsIn K mainGlobals "max" = some none)
    (z_min : PySem.W.nsIn K mainGlobals "min" = some none)
    (z_range : PySem.W.nsIn K mainGlobals "range" = some none)
    (z_enumerate : PySem.W.nsIn K mainGlobals "enumerate" = some none)
    (z_all : PySem.W.nsIn K mainGlobals "all" = some none)
    {t_LETTERS t_MOST_LETTERS t_MOST_KINDS t_MOST_MAKERS t_MOST_PARTS : Tok}
    (a_LETTERS : PySem.W.nsIn K mainGlobals "LETTERS" = some (some (.str (Str.ofString "abcdefghijklmnopqrstuvwxyz") t_LETTERS)))
    (a_MOST_LETTERS : PySem.W.nsIn K mainGlobals "MOST_LETTERS" = some (some (.int 6 t_MOST_LETTERS)))
    (a_MOST_KINDS : PySem.W.nsIn K mainGlobals "MOST_KINDS" = some (some (.int 4 t_MOST_KINDS)))
    (a_MOST_MAKERS : PySem.W.nsIn K mainGlobals "MOST_MAKERS" = some (some (.int 12 t_MOST_MAKERS)))
    (a_MOST_PARTS : PySem.W.nsIn K mainGlobals "MOST_PARTS" = some (some (.int 2 t_MOST_PARTS)))
    : ∃ fd : FuncData, (∀ (s : Shared) (v : Value), BindsTo s fd ⟨[v], []⟩ [("_law_script", v)]) ∧ ∀ base : Heap, K.In base → base.Ns mainGlobals mg → FnOk l.prog w K mg base CX0 5 fa fd ["_law_script"] (spLaw K) := by
  have e := hfa.symm.trans (PySem.W.mg_of X G a_law)
  cases e
  have F_isname := fun_mk (st := st_isname) l_isname c_isname k_isname
  have b_isname := F_isname.binds (ps := ["text"]) fun _ _ _ _ _ _ us hl => match us, hl with | [_], _ => rfl
  have F_lookwood := fun_mk (st := st_lookwood) l_lookwood c_lookwood k_lookwood
  have b_lookwood := F_lookwood.binds (ps := ["wood"]) fun _ _ _ _ _ _ us hl => match us, hl with | [_], _ => rfl
  have F_lookkinds := fun_mk (st := st_lookkinds) l_lookkinds c_lookkinds k_lookkinds
  have b_lookkinds := F_lookkinds.binds (ps := ["wood"]) fun _ _ _ _ _ _ us hl => match us, hl with | [_], _ => rfl
  have F_lookmakers := fun_mk (st := st_lookmakers) l_lookmakers c_lookmakers k_lookmakers
  have b_lookmakers := F_lookmakers.binds (ps := ["kinds", "makers"]) fun _ _ _ _ _ _ us hl => match us, hl with | [_, _], _ => rfl
  have F_table := fun_mk (st := st_table) l_table c_table k_table
  have b_table := F_table.binds (ps := ["wood"]) fun _ _ _ _ _ _ us hl => match us, hl with | [_], _ => rfl
  have F_makersof := fun_mk (st := st_makersof) l_makersof c_makersof k_makersof
  have b_makersof := F_makersof.binds (ps := ["wood"]) fun _ _ _ _ _ _ us hl => match us, hl with | [_], _ => rfl
  have F_kindof := fun_mk (st := st_kindof) l_kindof c_kindof k_kindof
  have b_kindof := F_kindof.binds (ps := ["wood", "maker"]) fun _ _ _ _ _ _ us hl => match us, hl with | [_, _], _ => rfl
  have F_partsof := fun_mk (st := st_partsof) l_partsof c_partsof k_partsof
  have b_partsof := F_partsof.binds (ps := ["wood", "maker"]) fun _ _ _ _ _ _ us hl => match us, hl with | [_, _], _ => rfl
  have F_box := fun_mk (st := st_box) l_box c_box k_box
  have b_box := F_box.binds (ps := ["_law_script", "_law_k"]) fun _ _ _ _ _ _ us hl => match us, hl with | [_, _], _ => rfl
  have F_take := fun_mk (st := st_take) l_take c_take k_take
  have b_take := F_take.binds (ps := ["_law_box_here", "_law_many"]) fun _ _ _ _ _ _ us hl => match us, hl with | [_, _], _ => rfl
  have F_names := fun_mk (st := st_names) l_names c_names k_names
  have b_names := F_names.binds (ps := ["_law_box_here", "_law_many"]) fun _ _ _ _ _ _ us hl => match us, hl with | [_, _], _ => rfl
  have F_wood := fun_mk (st := st_wood) l_wood c_wood k_wood
  have b_wood := F_wood.binds (ps := ["_law_box_here", "_law_most"]) fun _ _ _ _ _ _ us hl => match us, hl with | [_, _], _ => rfl
  have F_lmakers := fun_mk (st := st_lmakers) l_lmakers c_lmakers k_lmakers
  have b_lmakers := F_lmakers.binds (ps := ["_law_wood_here"]) fun _ _ _ _ _ _ us hl => match us, hl with | [_], _ => rfl
  have F_lisname := fun_mk (st := st_lisname) l_lisname c_lisname k_lisname
  have b_lisname := F_lisname.binds (ps := ["_law_text"]) fun _ _ _ _ _ _ us hl => match us, hl with | [_], _ => rfl
  have F_anytext := fun_mk (st := st_anytext) l_anytext c_anytext k_anytext
  have b_anytext := F_anytext.binds (ps := ["_law_box_here"]) fun _ _ _ _ _ _ us hl => match us, hl with | [_], _ => rfl
  have F_alike := fun_mk (st := st_alike) l_alike c_alike k_alike
  have b_alike := F_alike.binds (ps := ["_law_found", "_law_due"]) fun _ _ _ _ _ _ us hl => match us, hl with | [_, _], _ => rfl
  have F_right := fun_mk (st := st_right) l_right c_right k_right
  have b_right := F_right.binds (ps := ["_law_wood_here"]) fun _ _ _ _ _ _ us hl => match us, hl with | [_], _ => rfl
  have F_law := fun_mk (st := st_law) l_law c_law k_law
  have T : Tx l.prog K mg := { f_isname := f_isname, fd_isname := _, F_isname := F_isname, g_isname := PySem.W.mg_of X G a_isname, b_isname := b_isname, f_lookwood := f_lookwood, fd_lookwood := _, F_lookwood := F_lookwood, g_lookwood := PySem.W.mg_of X G a_lookwood, b_lookwood := b_lookwood, f_lookkinds := f_lookkinds, fd_lookkinds := _, F_lookkinds := F_lookkinds, g_lookkinds := PySem.W.mg_of X G a_lookkinds, b_lookkinds := b_lookkinds, f_lookmakers := f_lookmakers, fd_lookmakers := _, F_lookmakers := F_lookmakers, g_lookmakers := PySem.W.mg_of X G a_lookmakers, b_lookmakers := b_lookmakers, f_table := f_table, fd_table := _, F_table := F_table, g_table := PySem.W.mg_of X G a_table, b_table := b_table, f_makersof := f_makersof, fd_makersof := _, F_makersof := F_makersof, g_makersof := PySem.W.mg_of X G a_makersof, b_makersof := b_makersof, f_kindof := f_kindof, fd_kindof := _, F_kindof := F_kindof, g_kindof := PySem.W.mg_of X G a_kindof, b_kindof := b_kindof, f_partsof := f_partsof, fd_partsof := _, F_partsof := F_partsof, g_partsof := PySem.W.mg_of X G a_partsof, b_partsof := b_partsof, f_box := f_box, fd_box := _, F_box := F_box, g_box := PySem.W.mg_of X G a_box, b_box := b_box, f_take := f_take, fd_take := _, F_take := F_take, g_take := PySem.W.mg_of X G a_take, b_take := b_take, f_names := f_names, fd_names := _, F_names := F_names, g_names := PySem.W.mg_of X G a_names, b_names := b_names, f_wood := f_wood, fd_wood := _, F_wood := F_wood, g_wood := PySem.W.mg_of X G a_wood, b_wood := b_wood, f_lmakers := f_lmakers, fd_lmakers := _, F_lmakers := F_lmakers, g_lmakers := PySem.W.mg_of X G a_lmakers, b_lmakers := b_lmakers, f_lisname := f_lisname, fd_lisname := _, F_lisname := F_lisname, g_lisname := PySem.W.mg_of X G a_lisname, b_lisname := b_lisname, f_anytext := f_anytext, fd_anytext := _, F_anytext := F_anytext, g_anytext := PySem.W.mg_of X G a_anytext, b_anytext := b_anytext, f_alike := f_alike, fd_alike := _, F_alike := F_alike, g_alike := PySem.W.mg_of X G a_alike, b_alike := b_alike, f_right := f_right, fd_right := _, F_right := F_right, g_right := PySem.W.mg_of X G a_right, b_right := b_right, m_len := PySem.W.mg_none_of X G z_len, m_int := PySem.W.mg_none_of X G z_int, m_bool := PySem.W.mg_none_of X G z_bool, m_list := PySem.W.mg_none_of X G z_list, m_tuple := PySem.W.mg_none_of X G z_tuple, m_zip := PySem.W.mg_none_of X G z_zip, m_isinstance := PySem.W.mg_none_of X G z_isinstance, m_max := PySem.W.mg_none_of X G z_max, m_min := PySem.W.mg_none_of X G z_min, m_range := PySem.W.mg_none_of X G z_range, m_enumerate := PySem.W.mg_none_of X G z_enumerate, m_all := PySem.W.mg_none_of X G z_all, t_LETTERS := t_LETTERS, c_LETTERS := PySem.W.mg_of X G a_LETTERS, t_MOST_LETTERS := t_MOST_LETTERS, c_MOST_LETTERS := PySem.W.mg_of X G a_MOST_LETTERS, t_MOST_KINDS := t_MOST_KINDS, c_MOST_KINDS := PySem.W.mg_of X G a_MOST_KINDS, t_MOST_MAKERS := t_MOST_MAKERS, c_MOST_MAKERS := PySem.W.mg_of X G a_MOST_MAKERS, t_MOST_PARTS := t_MOST_PARTS, c_MOST_PARTS := PySem.W.mg_of X G a_MOST_PARTS }
  exact ⟨PySem.W.fnOf "law" "law" (defArgs st_law) (defBody st_law) (defScope st_law) .none kV_law dc_law pm_law an_law cd_law ct_law, fun s v => .of_eq rfl, fun base _ _ => ok_law T F_law⟩
end B06
open PySem PySem.W PyProof.Rows
set_option maxRecDepth 100000 in
set_option maxHeartbeats 0 in
theorem PySem.Challenge.cw_boughkept_k06_woods_and_names_holds : PySem.Challenge.rw_boughkept_k06_woods_and_names.Holds := by
  w_on; o_law; k_head; (case hw => w_witness2)
  k_fill
  refine L2.walk_of (l := PySem.Challenge.rw_boughkept_k06_woods_and_names) (n := 63) (k := 5) (x := "_law_script") (CX := fun _ => L2.CX0) (sp := fun w => B06.spLaw _) rfl (by decide) rfl ⟨rfl, by decide, by decide⟩ (fun w h Y => PySem.W.kIn_of Y) ?F (fun _ _ a ns hl _ hS => ⟨a, ns, rfl, hS, hl, fun _ => rfl⟩) (fun _ _ _ _ _ h => h)
  case F =>
    intro w mg fa h KX G hmg
    refine' B06.all_mk KX G hmg ?a_isname ?l_isname ?c_isname ?k_isname ?a_lookwood ?l_lookwood ?c_lookwood ?k_lookwood ?a_lookkinds ?l_lookkinds ?c_lookkinds ?k_lookkinds ?a_lookmakers ?l_lookmakers ?c_lookmakers ?k_lookmakers ?a_table ?l_table ?c_table ?k_table ?a_makersof ?l_makersof ?c_makersof ?k_makersof ?a_kindof ?l_kindof ?c_kindof ?k_kindof ?a_partsof ?l_partsof ?c_partsof ?k_partsof ?a_box ?l_box ?c_box ?k_box ?a_take ?l_take ?c_take ?k_take ?a_names ?l_names ?c_names ?k_names ?a_wood ?l_wood ?c_wood ?k_wood ?a_lmakers ?l_lmakers ?c_lmakers ?k_lmakers ?a_lisname ?l_lisname ?c_lisname ?k_lisname ?a_anytext ?l_anytext ?c_anytext ?k_anytext ?a_alike ?l_alike ?c_alike ?k_alike ?a_right ?l_right ?c_right ?k_right ?a_law ?l_law ?c_law ?k_law ?z_len ?z_int ?z_bool ?z_list ?z_tuple ?z_zip ?z_isinstance ?z_max ?z_min ?z_range ?z_enumerate ?z_all ?a_LETTERS ?a_MOST_LETTERS ?a_MOST_KINDS ?a_MOST_MAKERS ?a_MOST_PARTS
    (case a_isname => k_is)
    (case l_isname => k_is)
    (case c_isname => k_is)
    (case k_isname => k_is)
    (case a_lookwood => k_is)
    (case l_lookwood => k_is)
    (case c_lookwood => k_is)
    (case k_lookwood => k_is)
    (case a_lookkinds => k_is)
    (case l_lookkinds => k_is)
    (case c_lookkinds => k_is)
    (case k_lookkinds => k_is)
    (case a_lookmakers => k_is)
    (case l_lookmakers => k_is)
    (case c_lookmakers => k_is)
    (case k_lookmakers => k_is)
    (case a_table => k_is)
    (case l_table => k_is)
    (case c_table => k_is)
    (case k_table => k_is)
    (case a_makersof => k_is)
    (case l_makersof => k_is)
    (case c_makersof => k_is)
    (case k_makersof => k_is)
    (case a_kindof => k_is)
    (case l_kindof => k_is)
    (case c_kindof => k_is)
    (case k_kindof => k_is)
    (case a_partsof => k_is)
    (case l_partsof => k_is)
    (case c_partsof => k_is)
    (case k_partsof => k_is)
    (case a_box => k_is)
    (case l_box => k_is)
    (case c_box => k_is)
    (case k_box => k_is)
    (case a_take => k_is)
    (case l_take => k_is)
    (case c_take => k_is)
    (case k_take => k_is)
    (case a_names => k_is)
    (case l_names => k_is)
    (case c_names => k_is)
    (case k_names => k_is)
    (case a_wood => k_is)
    (case l_wood => k_is)
    (case c_wood => k_is)
    (case k_wood => k_is)
    (case a_lmakers => k_is)
    (case l_lmakers => k_is)
    (case c_lmakers => k_is)
    (case k_lmakers => k_is)
    (case a_lisname => k_is)
    (case l_lisname => k_is)
    (case c_lisname => k_is)
    (case k_lisname => k_is)
    (case a_anytext => k_is)
    (case l_anytext => k_is)
    (case c_anytext => k_is)
    (case k_anytext => k_is)
    (case a_alike => k_is)
    (case l_alike => k_is)
    (case c_alike => k_is)
    (case k_alike => k_is)
    (case a_right => k_is)
    (case l_right => k_is)
    (case c_right => k_is)
    (case k_right => k_is)
    (case a_law => k_is)
    (case l_law => k_is)
    (case c_law => k_is)
    (case k_law => k_is)
    (case z_len => k_is)
    (case z_int => k_is)
    (case z_bool => k_is)
    (case z_list => k_is)
    (case z_tuple => k_is)
    (case z_zip => k_is)
    (case z_isinstance => k_is)
    (case z_max => k_is)
    (case z_min => k_is)
    (case z_range => k_is)
    (case z_enumerate => k_is)
    (case z_all => k_is)
    (case a_LETTERS => k_is)
    (case a_MOST_LETTERS => k_is)
    (case a_MOST_KINDS => k_is)
    (case a_MOST_MAKERS => k_is)
    (case a_MOST_PARTS => k_is)
