import PyProof.Rows.All
import Wide.All
import OpenK.AllK
import Wide.FinOn
import KE.KDictZip
import KE.GoesZip
import KE.GoesMore
import KE.GoesEnum
import PyProof.TupleOfGen
import HandS.Base
import HandS.ForMost
import HandS.ForExc
import HandS.Wide
import HandS.WideBits
import HandS.Defaults
import HandS.IsInst
import HandS.TryOnly
import HandS.ExcIs
import HandS.Codes
import PyProof.ReprRoads
import HandS.FStrTup
import HandS.Sort
import HandS.Conv
import HandS.SortKw
import HandS.Lambda
import HandS.EndTab
import HandS.ExcValue
import KE.SortKeyHeap
import HandS.Walk
import HandS.Style
import HandS.SortInts
import HandS.TupAny
import PyProof.StrLawsRepr
import HandS.Zip
import KE.GoesEnumKw
import HandS.HotCalls
import HandS.ExcCtx
import PyProof.Rows.StrOr
import KE.KIntText
import HandS.FStr
import HandS.Text
import HandS.More
import KE.DataMinMax
import KE.DataFind
import HandS.SetFor
import PyProof.Claim2Refuses
import HandS.Strs
import HandS.Dict
import KE.KDictPairs
import HandS.DictComp
import KE.SortData
import PyProof.Transfer
import PySem.Challenge.RW_whoserves_k55_whole_joined_and_parted_ag
set_option Elab.async false
set_option linter.all false
set_option maxRecDepth 100000
set_option maxHeartbeats 4000000
namespace WS
open PySem PySem.Spec PyProof.Rows L2
/-! list(zip(a, b)), tuple(zip(a, b)): each of both a list or a tuple -/
theorem zip_no_len : typeLookup (.type "zip") "__len__" = pure none := am_miss_of_fast (by decide +kernel)
theorem zip_no_hint : typeLookup (.type "zip") "__length_hint__" = pure none := am_miss_of_fast (by decide +kernel)
section
variable {prog : Program} {w : World} {A : Around} {E : Value → Shared → Prop} {s : Shared} {z TI TO i1 i2 : Addr} {fp1 fp2 : List Addr} {n1 n2 i : Nat} {P1 P2 : Nat → Value → Prop} {St1 St2 : Nat → Heap → Prop}
theorem zh_item {Q : Value → Shared → Prop} {T : Addr} {f : Bool} {oT : Obj} (S : ZipSep2 z TI TO i1 i2 fp1 fp2) (D1 : Draws prog w A i1 fp1 n1 P1 St1) (D2 : Draws prog w A i2 fp2 n2 P2 St2)
    (hz : IsZipHeld s.heap z TI TO T f) (hT : s.heap.get? T = some oT) (hTI : IsTupOf2 s.heap TI (.ref i1) (.ref i2)) (st1 : St1 i s.heap) (st2 : St2 i s.heap) (hlt1 : i < n1) (hlt2 : i < n2)
    (hQ : ∀ x1 x2 h' tk, P1 i x1 → P2 i x2 → IsZipHeld h' z TI TO T true → St1 (i + 1) h' → St2 (i + 1) h' → IsTupOf2 h' s.heap.objs.size x1 x2 → h'.objs.size = s.heap.objs.size + 1 →
      (∀ c o, c ≠ z → c ≠ i1 → c ≠ i2 → s.heap.get? c = some o → h'.get? c = some o) → Q (.ref s.heap.objs.size) { s with heap := h', toks := tk }) :
    wpAny (model prog w) A (Builtin.«zip.__next__» ⟨[.ref z], []⟩) (fun fin s' => ∃ v, fin = .done (.ret v) ∧ Q v s') E s := by
  obtain ⟨hp, g, d, tk0, os⟩ := s
  show wpAny _ _ (field (.ref z) 2 >>= _) _ _ _
  refine wpAny_bind (wpAny_field hz rfl (x := .bool false) rfl ?_)
  show wpAny _ _ (field (.ref z) 3 >>= _) _ _ _
  refine wpAny_bind (wpAny_field hz rfl (x := .ref TI) rfl ?_)
  refine wpAny_bind (wpAny_seqItems hTI rfl ?_)
  show wpAny _ _ (Builtin.SmallTypes.ownedTupleIsFree (.ref z) >>= _) _ _ _
  refine wpAny_bind (wpAny_tupleHeld_zip hz hT fun g0 hz0 hs0 => ?_)
  replace hs0 : Heap.SameBut z hp g0 := hs0
  simp only [Bool.false_eq_true, if_false]
  refine wpAny_bind ?_
  rw [← Array.forIn_toList]
  simp only [List.forIn_cons, List.forIn_nil]
  refine wpAny_bind (wpAny_bind (wpAny_holding ?_))
  show wpAny _ _ (Builtin.SmallTypes.nextOf (.ref i1) >>= _) _ _ ⟨g0, g, d, tk0, os⟩
  refine wpAny_bind (D1.item i _ _ _ hlt1 (D1.over st1 hs0 S.zf1) fun x1 p1 tk1 hx1 sn1 hp1 => wpAny_pure ?_)
  replace hp1 : Heap.SameBut i1 g0 p1 := hp1
  refine wpAny_pure ?_
  refine wpAny_bind (wpAny_bind (wpAny_holding ?_))
  show wpAny _ _ (Builtin.SmallTypes.nextOf (.ref i2) >>= _) _ _ ⟨p1, g, d, tk1, os⟩
  refine wpAny_bind (D2.item i _ _ _ hlt2 (D2.over (D2.over st2 hs0 S.zf2) hp1 S.sep1_2) fun x2 p2 tk2 hx2 sn2 hp2 => wpAny_pure ?_)
  replace hp2 : Heap.SameBut i2 p1 p2 := hp2
  refine wpAny_pure (wpAny_pure ?_)
  show wpAny _ _ (newTuple [x1, x2] >>= _) _ _ ⟨p2, g, d, tk2, os⟩
  refine wpAny_bind (wpAny_newTuple ?_)
  have hsz : p2.objs.size = hp.objs.size := by rw [hp2.1, hp1.1, hs0.1]
  have hzz : IsZipHeld p2 z TI TO T true := hp2.extBut _ _ S.zi2 (hp1.extBut _ _ S.zi1 hz0)
  have hkk : ∀ c o, c ≠ z → c ≠ i1 → c ≠ i2 → hp.get? c = some o → p2.get? c = some o := fun c o cz c1 c2 e => hp2.extBut _ _ c2 (hp1.extBut _ _ c1 (hs0.extBut _ _ cz e))
  have hj1 : St1 (i + 1) p2 := D1.over sn1 hp2 S.sep2_1
  refine wpAny_pure ⟨_, rfl, ?_⟩
  show Q (.ref p2.objs.size) ⟨p2.push { cls := .type "tuple", data := .seq #[x1, x2] }, g, d, tk2, os⟩
  have hp' : IsTupOf2 (p2.push { cls := .type "tuple", data := .seq #[x1, x2] }) p2.objs.size x1 x2 := Heap.get?_push_size _ rfl
  have hz4 : (p2.push { cls := .type "tuple", data := .seq #[x1, x2] }).objs.size = p2.objs.size + 1 := Heap.size_push ..
  rw [hsz] at hp' hz4 ⊢
  exact hQ x1 x2 _ tk2 hx1 hx2 (Heap.get?_push_of_some _ hzz) (D1.frame _ _ _ hj1 fun b _ o e => Heap.get?_push_of_some _ e) (D2.frame _ _ _ sn2 fun b _ o e => Heap.get?_push_of_some _ e) hp' hz4 fun c o c1 c2 c3 e => Heap.get?_push_of_some _ (hkk c o c1 c2 c3 e)
theorem zh_end {Q : Fin → Shared → Prop} {T : Addr} {f : Bool} {oT : Obj} (S : ZipSep2 z TI TO i1 i2 fp1 fp2) (D1 : Draws prog w A i1 fp1 n1 P1 St1) (D2 : Draws prog w A i2 fp2 n2 P2 St2)
    (hz : IsZipHeld s.heap z TI TO T f) (hT : s.heap.get? T = some oT) (hTI : IsTupOf2 s.heap TI (.ref i1) (.ref i2)) (st1 : St1 i s.heap) (st2 : St2 i s.heap) (hle1 : i ≤ n1) (hle2 : i ≤ n2) (hend : i = n1 ∨ i = n2)
    (hE : ∀ h' tk e, (∀ c o, c ≠ z → c ≠ i1 → c ≠ i2 → s.heap.get? c = some o → h'.get? c = some o) → (∃ o, h'.get? e = some o ∧ o.cls = .type "StopIteration") → E (.ref e) { s with heap := h', toks := tk }) :
    wpAny (model prog w) A (Builtin.«zip.__next__» ⟨[.ref z], []⟩) Q E s := by
  obtain ⟨hp, g, d, tk0, os⟩ := s
  show wpAny _ _ (field (.ref z) 2 >>= _) _ _ _
  refine wpAny_bind (wpAny_field hz rfl (x := .bool false) rfl ?_)
  show wpAny _ _ (field (.ref z) 3 >>= _) _ _ _
  refine wpAny_bind (wpAny_field hz rfl (x := .ref TI) rfl ?_)
  refine wpAny_bind (wpAny_seqItems hTI rfl ?_)
  show wpAny _ _ (Builtin.SmallTypes.ownedTupleIsFree (.ref z) >>= _) _ _ _
  refine wpAny_bind (wpAny_tupleHeld_zip hz hT fun g0 hz0 hs0 => ?_)
  replace hs0 : Heap.SameBut z hp g0 := hs0
  simp only [Bool.false_eq_true, if_false]
  refine wpAny_bind ?_
  rw [← Array.forIn_toList]
  simp only [List.forIn_cons, List.forIn_nil]
  refine wpAny_bind (wpAny_bind (wpAny_holding ?_))
  show wpAny _ _ (Builtin.SmallTypes.nextOf (.ref i1) >>= _) _ _ ⟨g0, g, d, tk0, os⟩
  by_cases hlt1 : i < n1
  · refine wpAny_bind (D1.item i _ _ _ hlt1 (D1.over st1 hs0 S.zf1) fun x1 p1 tk1 hx1 sn1 hp1 => wpAny_pure ?_)
    replace hp1 : Heap.SameBut i1 g0 p1 := hp1
    have hi2 : i = n2 := by omega
    refine wpAny_pure ?_
    refine wpAny_bind (wpAny_bind (wpAny_holding ?_))
    show wpAny _ _ (Builtin.SmallTypes.nextOf (.ref i2) >>= _) _ _ ⟨p1, g, d, tk1, os⟩
    refine wpAny_bind (D2.done ⟨p1, g, d, tk1, os⟩ _ _ (by rw [← hi2]; exact D2.over (D2.over st2 hs0 S.zf2) hp1 S.sep1_2) fun q e hq he => ?_)
    replace hq : Heap.ExtBut i2 p1 q := hq
    exact hE q tk1 e (fun c o cz c1 c2 x => hq _ _ c2 (hp1.extBut _ _ c1 (hs0.extBut _ _ cz x))) he
  · have hi1 : i = n1 := by omega
    refine wpAny_bind (D1.done ⟨g0, g, d, tk0, os⟩ _ _ (by rw [← hi1]; exact (D1.over st1 hs0 S.zf1)) fun q e hq he => ?_)
    replace hq : Heap.ExtBut i1 g0 q := hq
    exact hE q tk0 e (fun c o cz c1 c2 x => hq _ _ c1 (hs0.extBut _ _ cz x)) he
theorem zh_next {Q : Option Value → Shared → Prop} {T : Addr} {f : Bool} {oT : Obj} (S : ZipSep2 z TI TO i1 i2 fp1 fp2) (D1 : Draws prog w A.in1 i1 fp1 n1 P1 St1) (D2 : Draws prog w A.in1 i2 fp2 n2 P2 St2)
    (hz : IsZipHeld s.heap z TI TO T f) (hT : s.heap.get? T = some oT) (hTI : IsTupOf2 s.heap TI (.ref i1) (.ref i2)) (st1 : St1 i s.heap) (st2 : St2 i s.heap) (hlt1 : i < n1) (hlt2 : i < n2)
    (hQ : ∀ x1 x2 h' tk, P1 i x1 → P2 i x2 → IsZipHeld h' z TI TO T true → St1 (i + 1) h' → St2 (i + 1) h' → IsTupOf2 h' s.heap.objs.size x1 x2 → h'.objs.size = s.heap.objs.size + 1 →
      (∀ c o, c ≠ z → c ≠ i1 → c ≠ i2 → s.heap.get? c = some o → h'.get? c = some o) → Q (some (.ref s.heap.objs.size)) { s with heap := h', toks := tk }) :
    wpAny (model prog w) A (pyNext (.ref z)) Q E s := by
  have hTy : s.TypeIs (.ref z) "zip" := ⟨_, hz, rfl⟩
  unfold pyNext
  exact wpAny_bind (wpAny_attempt (wpAny_callSpecial?_slot (name := Str.ofString "__next__") hTy PySem.F.slot_zip_next
    (wpAny_call_entry PySem.F.slot_zip_next hTy PySem.F.entry_zip_next
      (zh_item S D1 D2 hz hT hTI st1 st2 hlt1 hlt2 fun x1 x2 h' tk y1 y2 b1 d1 d2 b5 b6 b7 => wpAny_pure (hQ x1 x2 h' tk y1 y2 b1 d1 d2 b5 b6 b7)) (PySem.F.args_zip_next_1 _))))
theorem zh_stop {Q : Option Value → Shared → Prop} {T : Addr} {f : Bool} {oT : Obj} (S : ZipSep2 z TI TO i1 i2 fp1 fp2) (D1 : Draws prog w A.in1 i1 fp1 n1 P1 St1) (D2 : Draws prog w A.in1 i2 fp2 n2 P2 St2)
    (hz : IsZipHeld s.heap z TI TO T f) (hT : s.heap.get? T = some oT) (hTI : IsTupOf2 s.heap TI (.ref i1) (.ref i2)) (st1 : St1 i s.heap) (st2 : St2 i s.heap) (hle1 : i ≤ n1) (hle2 : i ≤ n2) (hend : i = n1 ∨ i = n2)
    (hQ : ∀ h' tk, (∀ c o, c ≠ z → c ≠ i1 → c ≠ i2 → s.heap.get? c = some o → h'.get? c = some o) → Q none { s with heap := h', toks := tk }) : wpAny (model prog w) A (pyNext (.ref z)) Q E s := by
  have hTy : s.TypeIs (.ref z) "zip" := ⟨_, hz, rfl⟩
  unfold pyNext
  refine wpAny_bind (wpAny_attempt (wpAny_callSpecial?_slot (name := Str.ofString "__next__") hTy PySem.F.slot_zip_next
    (wpAny_call_entry PySem.F.slot_zip_next hTy PySem.F.entry_zip_next (zh_end S D1 D2 hz hT hTI st1 st2 hle1 hle2 hend fun h' tk e hk he => ?_) (PySem.F.args_zip_next_1 _))))
  obtain ⟨o, ho, hc⟩ := he
  refine wpAny_bind (wpAny_isInstance (T := "StopIteration") (b := true) ⟨o, ho, hc⟩ isSubtype_stop ?_)
  exact wpAny_pure (hQ _ _ hk)
end
/-- a zip underway, its last tuple free or held -/
def ZSt (S z TI TO i1 i2 : Addr) (St1 St2 : Nat → Heap → Prop) (i : Nat) (h : Heap) : Prop :=
  IsTupOf2 h TI (.ref i1) (.ref i2) ∧ St1 i h ∧ St2 i h ∧ ((IsZip h z TI TO .none ∧ ∃ a b, IsTupOf2 h TO a b) ∨ ∃ T f oT, IsZipHeld h z TI TO T f ∧ h.get? T = some oT ∧ T ≠ z ∧ T ≠ i1 ∧ T ≠ i2 ∧ T ≠ S)
structure ZlG (P1 P2 : Nat → Value → Prop) (lo : Addr) (h : Heap) (as : List Addr) : Prop where
  rise : as.Pairwise (· < ·)
  above : ∀ a ∈ as, lo < a
  pairs : ∀ (j : Nat) (a : Addr), as[j]? = some a → ∃ x y, P1 j x ∧ P2 j y ∧ IsTupOf2 h a x y
theorem ZlG.there {P1 P2 : Nat → Value → Prop} {lo : Addr} {h : Heap} {as : List Addr} (g : ZlG P1 P2 lo h as) {a : Addr} (ha : a ∈ as) : a < h.objs.size := by
  obtain ⟨j, hj⟩ := List.mem_iff_getElem?.mp ha
  obtain ⟨_, _, _, _, e⟩ := g.pairs j a hj
  exact Heap.lt_size e
section
variable {prog : Program} {w : World} {A : Around} {s : Shared} {R : Result → Shared → Prop} {S z TI TO i1 i2 : Addr} {fp1 fp2 : List Addr} {n1 n2 : Nat} {P1 P2 : Nat → Value → Prop} {St1 St2 : Nat → Heap → Prop}
theorem zst_frame {i : Nat} {h h' : Heap} (D1 : Draws prog w A i1 fp1 n1 P1 St1) (D2 : Draws prog w A i2 fp2 n2 P2 St2) (hS1 : S ∉ fp1) (hS2 : S ∉ fp2) (hz : z ≠ S) (hI : TI ≠ S) (hO : TO ≠ S)
    (st : ZSt S z TI TO i1 i2 St1 St2 i h) (k : ∀ b o, b ≠ S → h.get? b = some o → h'.get? b = some o) : ZSt S z TI TO i1 i2 St1 St2 i h' := by
  obtain ⟨a, b, c, d⟩ := st
  refine ⟨k _ _ hI a, D1.frame _ _ _ b fun x hx o e => k x o (fun q => hS1 (q ▸ hx)) e, D2.frame _ _ _ c fun x hx o e => k x o (fun q => hS2 (q ▸ hx)) e, ?_⟩
  rcases d with ⟨d1, x, y, d2⟩ | ⟨T, f, oT, d1, d2, r1, r2, r3, r4⟩
  · exact .inl ⟨k _ _ hz d1, x, y, k _ _ hO d2⟩
  · exact .inr ⟨T, f, oT, k _ _ hz d1, k _ _ r4 d2, r1, r2, r3, r4⟩
theorem zl_loop (Z : ZipSep2 z TI TO i1 i2 fp1 fp2) (D1 : Draws prog w A.in1.in1 i1 fp1 n1 P1 St1) (D2 : Draws prog w A.in1.in1 i2 fp2 n2 P2 St2) (hS1 : S ∉ fp1) (hS2 : S ∉ fp2) (hz : z < S) (hI : TI < S) (hO : TO < S) (h1 : i1 < S) (h2 : i2 < S)
    (hn : min n1 n2 ≤ sizeLine) (res : Value) {h₁ : Heap}
    (hR : ∀ h' tk acc c as, (∀ b o, b ≠ S → b ≠ z → b ≠ TO → b ≠ i1 → b ≠ i2 → h₁.get? b = some o → h'.get? b = some o) → h'.get? S = some { cls := .type "list", dict := none, data := .seq acc c, slots := #[] } → as.length = min n1 n2 → ZlG P1 P2 S h' as →
      acc.toList = as.map Value.ref → R (.ok (.ret res)) { s with heap := h', toks := tk }) :
    ∀ (k i : Nat) (h : Heap) (tk c : Nat) (acc : Array Value) (as : List Addr), min n1 n2 - i = k → i ≤ min n1 n2 → ZSt S z TI TO i1 i2 St1 St2 i h → (∀ b o, b ≠ S → b ≠ z → b ≠ TO → b ≠ i1 → b ≠ i2 → h₁.get? b = some o → h.get? b = some o) →
      h.get? S = some { cls := .type "list", dict := none, data := .seq acc c, slots := #[] } → acc.toList = as.map Value.ref → as.length = i → ZlG P1 P2 S h as →
      codeAny (model prog w) A (.builtin "list.extend.loop" ⟨[.ref S, .ref z, res], []⟩) R { s with heap := h, toks := tk } := by
  have nz := Nat.ne_of_lt hz
  have nO := Nat.ne_of_lt hO
  have nI := Nat.ne_of_lt hI
  have m1 := Nat.ne_of_lt h1
  have m2 := Nat.ne_of_lt h2
  intro k
  induction k with
  | zero =>
    intro i h tk c acc as hk hi hst hkeep hS hacc hal hG
    have hin : i = min n1 n2 := by omega
    refine codeAny_builtin PySem.F.entry_extend_loop ?_
    rw [Around.under_plainId PySem.F.plain_extend_loop _]
    show wpAny _ A.in1 (pyNext (.ref z) >>= _) _ _ _
    obtain ⟨a, b, c', d⟩ := hst
    have fin : ∀ h' tk', (∀ b o, b ≠ z → b ≠ TO → b ≠ i1 → b ≠ i2 → h.get? b = some o → h'.get? b = some o) → R (.ok (.ret res)) { s with heap := h', toks := tk' } := fun h' tk' he => by
      refine hR h' tk' acc c as (fun b o e0 e1 e2 e3 e4 e => he b o e1 e2 e3 e4 (hkeep b o e0 e1 e2 e3 e4 e)) (he S _ (Ne.symm nz) (Ne.symm nO) (Ne.symm m1) (Ne.symm m2) hS) (by omega) ⟨hG.rise, hG.above, fun j a hj => ?_⟩ hacc
      obtain ⟨x, y, px, py, e3⟩ := hG.pairs j a hj
      have hb := hG.above a (List.mem_of_getElem? hj)
      exact ⟨x, y, px, py, he a _ (Nat.ne_of_gt (Nat.lt_trans hz hb)) (Nat.ne_of_gt (Nat.lt_trans hO hb)) (Nat.ne_of_gt (Nat.lt_trans h1 hb)) (Nat.ne_of_gt (Nat.lt_trans h2 hb)) e3⟩
    rcases d with ⟨d1, x, y, d2⟩ | ⟨T, f, oT, d1, d2, r1, r2, r3, r4⟩
    · exact wpAny_bind (wpAny_pyNext_zipD2_end (s := { s with heap := h, toks := tk }) (A := A.in1) Z D1 D2 d1 a d2 b c' (by omega) (by omega) (by omega) fun h' tk' he => wpAny_pure (fin h' tk' he))
    · exact wpAny_bind (zh_stop (s := { s with heap := h, toks := tk }) (A := A.in1) Z D1 D2 d1 d2 a b c' (by omega) (by omega) (by omega) fun h' tk' he => wpAny_pure (fin h' tk' fun b o e1 _ e3 e4 e => he b o e1 e3 e4 e))
  | succ k ih =>
    intro i h tk c acc as hk hi hst hkeep hS hacc hal hG
    have hlt : i < min n1 n2 := by omega
    have hsz : acc.size = i := by rw [← Array.length_toList, hacc, List.length_map, hal]
    have hSl : S < h.objs.size := Heap.lt_size hS
    refine codeAny_builtin PySem.F.entry_extend_loop ?_
    rw [Around.under_plainId PySem.F.plain_extend_loop _]
    show wpAny _ A.in1 (pyNext (.ref z) >>= _) _ _ _
    have step : ∀ x1 x2 h' tk', P1 i x1 → P2 i x2 → ZSt S z TI TO i1 i2 St1 St2 (i + 1) h' → IsTupOf2 h' h.objs.size x1 x2 → (∀ b o, b ≠ z → b ≠ TO → b ≠ i1 → b ≠ i2 → h.get? b = some o → h'.get? b = some o) →
        wpAny (model prog w) A.in1 (updateSeq S (·.push (Value.ref h.objs.size)) >>= fun _ => again (.builtin "list.extend.loop" ⟨[.ref S, .ref z, res], []⟩))
          (fun fin s' => match fin with | .done f => R (.ok f) s' | .again c' => c'.quiet = true ∧ codeAny (model prog w) A c' R s') (fun e s' => R (.error e) s') { s with heap := h', toks := tk' } := by
      intro x1 x2 h' tk' p1 p2 hst' ht hkp
      have hS' := hkp S _ (Ne.symm nz) (Ne.symm nO) (Ne.symm m1) (Ne.symm m2) hS
      have up : ∀ b o, b ≠ S → h'.get? b = some o → (h'.update S (Obj.mapSeq (·.push (Value.ref h.objs.size)))).get? b = some o := fun b o hb e => (Heap.get?_update_other _ _ (Ne.symm hb)).trans e
      refine wpAny_bind ?_
      refine wpAny_updateSeq hS' rfl (wpAny_pure ⟨plainId_quiet PySem.F.plain_extend_loop _, ih (i + 1) _ tk' _ (acc.push (Value.ref h.objs.size)) (as ++ [h.objs.size]) (by omega) hlt (zst_frame D1 D2 hS1 hS2 nz nI nO hst' up)
        (fun b o e0 e1 e2 e3 e4 e => up b o e0 (hkp b o e1 e2 e3 e4 (hkeep b o e0 e1 e2 e3 e4 e))) (Heap.get?_update_self _ hS' rfl) (by rw [Array.toList_push, hacc, List.map_append]; rfl) (by rw [List.length_append, hal]; rfl) ⟨?_, ?_, ?_⟩⟩) (by rw [hsz]; omega) (by show (acc.push (Value.ref h.objs.size)).size ≤ sizeLine + 1; rw [Array.size_push, hsz]; omega)
      · refine List.pairwise_append.mpr ⟨hG.rise, List.pairwise_singleton _ _, fun a ha b hb => ?_⟩
        rw [List.mem_singleton.mp hb]
        exact hG.there ha
      · intro a ha
        rcases List.mem_append.mp ha with ha | ha
        · exact hG.above a ha
        · rw [List.mem_singleton.mp ha]; exact hSl
      · intro j b hj
        rcases Nat.lt_trichotomy j as.length with e1 | e1 | e1
        · rw [List.getElem?_append_left e1] at hj
          obtain ⟨x, y, px, py, e3⟩ := hG.pairs j b hj
          have hb := hG.above b (List.mem_of_getElem? hj)
          exact ⟨x, y, px, py, up b _ (Nat.ne_of_gt hb) (hkp b _ (Nat.ne_of_gt (Nat.lt_trans hz hb)) (Nat.ne_of_gt (Nat.lt_trans hO hb)) (Nat.ne_of_gt (Nat.lt_trans h1 hb)) (Nat.ne_of_gt (Nat.lt_trans h2 hb)) e3)⟩
        · subst e1
          have hb : h.objs.size = b := by simpa using hj
          subst hb
          subst hal
          exact ⟨x1, x2, p1, p2, up _ _ (Nat.ne_of_gt hSl) ht⟩
        · have hnone : (as ++ [h.objs.size])[j]? = none := List.getElem?_eq_none (by rw [List.length_append, List.length_singleton]; omega)
          rw [hnone] at hj; cases hj
    obtain ⟨a, b, c', d⟩ := hst
    have lz : ∀ {c o}, h.get? c = some o → h.objs.size ≠ c := fun e => Nat.ne_of_gt (Heap.lt_size e)
    have l1 : h.objs.size ≠ i1 := by obtain ⟨o, e⟩ := D1.live _ _ b; exact lz e
    have l2 : h.objs.size ≠ i2 := by obtain ⟨o, e⟩ := D2.live _ _ c'; exact lz e
    rcases d with ⟨d1, x, y, d2⟩ | ⟨T, f, oT, d1, d2, r1, r2, r3, r4⟩
    · refine wpAny_bind (wpAny_pyNext_zipD2_item (s := { s with heap := h, toks := tk }) (A := A.in1) Z D1 D2 d1 a d2 b c' (by omega) (by omega) fun x1 x2 h' tk' y1 y2 b1 b2 e1 e2 b5 b6 b7 => ?_)
      exact step x1 x2 h' tk' y1 y2 ⟨b7 _ _ Z.TIz Z.TITO Z.TIi1 Z.TIi2 a, e1, e2, .inr ⟨h.objs.size, false, _, b1, b5, lz d1, l1, l2, Nat.ne_of_gt hSl⟩⟩ b5 b7
    · refine wpAny_bind (zh_next (s := { s with heap := h, toks := tk }) (A := A.in1) Z D1 D2 d1 d2 a b c' (by omega) (by omega) fun x1 x2 h' tk' y1 y2 b1 e1 e2 b5 b6 b7 => ?_)
      exact step x1 x2 h' tk' y1 y2 ⟨b7 _ _ Z.TIz Z.TIi1 Z.TIi2 a, e1, e2, .inr ⟨T, true, oT, b1, b7 _ _ r1 r2 r3 d2, r1, r2, r3, r4⟩⟩ b5 fun b o q1 _ q3 q4 e => b7 b o q1 q3 q4 e
theorem zl_extend (Z : ZipSep2 z TI TO i1 i2 fp1 fp2) (D1 : Draws prog w A.in1.in1 i1 fp1 n1 P1 St1) (D2 : Draws prog w A.in1.in1 i2 fp2 n2 P2 St2) (hS1 : S ∉ fp1) (hS2 : S ∉ fp2) (hz : z < S) (hI : TI < S) (hO : TO < S) (h1 : i1 < S) (h2 : i2 < S)
    (hn : min n1 n2 ≤ sizeLine) (res : Value) (c₀ : Nat) (d1 : IsZip s.heap z TI TO .none) (d2 : IsTupOf2 s.heap TI (.ref i1) (.ref i2)) (d3 : ∃ a b, IsTupOf2 s.heap TO a b) (st1 : St1 0 s.heap) (st2 : St2 0 s.heap) (hS : s.heap.get? S = some { cls := .type "list", data := .seq #[] c₀ })
    (hR : ∀ h' tk acc c as, (∀ b o, b ≠ S → b ≠ z → b ≠ TO → b ≠ i1 → b ≠ i2 → s.heap.get? b = some o → h'.get? b = some o) → h'.get? S = some { cls := .type "list", dict := none, data := .seq acc c, slots := #[] } → as.length = min n1 n2 → ZlG P1 P2 S h' as →
      acc.toList = as.map Value.ref → R (.ok (.ret res)) { s with heap := h', toks := tk }) :
    wpAny (model prog w) A.in1 (Builtin.List.listExtendWith (.ref S) (.ref z) res)
      (fun fin s' => match fin with | .done f => R (.ok f) s' | .again c' => c'.quiet = true ∧ codeAny (model prog w) A c' R s') (fun e s' => R (.error e) s') s := by
  have hT : s.TypeIs (.ref z) "zip" := ⟨_, d1, rfl⟩
  have hne : S ≠ z := Nat.ne_of_gt hz
  unfold Builtin.List.listExtendWith
  refine wpAny_bind (wpAny_typeOf hT ?_)
  have h1' : Builtin.List.listSameRef (.ref S) (.ref z) = false := by simp [Builtin.List.listSameRef, hne]
  have h2' : (Value.type "zip" == Value.type "list") = false := by decide
  have h3' : (Value.type "zip" == Value.type "tuple") = false := by decide
  simp only [h1', h2', h3', Bool.or_false, Bool.false_eq_true, if_false]
  refine wpAny_bind (wpAny_pyIter_zip d1 ?_)
  refine wpAny_bind (wpAny_holding ?_)
  unfold Builtin.List.listLengthHint
  refine wpAny_bind (wpAny_specialOf hT zip_no_len ?_)
  show wpAny _ A.in1 (specialOf (Value.ref z) (Str.ofString "__length_hint__") >>= _) _ _ _
  refine wpAny_bind (wpAny_specialOf hT zip_no_hint ?_)
  refine wpAny_pure ?_
  show wpAny _ A.in1 (rule "list.extend.makes-room" >>= fun _ => Builtin.List.listTouch (.ref S) >>= fun _ =>
    again (.builtin "list.extend.loop" ⟨[.ref S, .ref z, res], []⟩)) _ _ _
  refine wpAny_bind (wpAny_rule ?_)
  refine wpAny_bind ?_
  show wpAny _ A.in1 (updateSeq S (·.push .none) >>= fun _ => updateSeq S (·.pop)) _ _ _
  refine wpAny_bind (wpAny_updateSeq hS rfl ?_)
  have hS₂ := Heap.get?_update_self (Obj.mapSeq (·.push Value.none)) hS rfl
  refine wpAny_updateSeq (hz := by seq_fits) hS₂ rfl ?_
  have hS₃ := Heap.get?_update_self (Obj.mapSeq (·.pop)) hS₂ rfl
  have oth : ∀ b o, b ≠ S → s.heap.get? b = some o → ((s.heap.update S (Obj.mapSeq (·.push Value.none))).update S (Obj.mapSeq (·.pop))).get? b = some o :=
    fun b o hb e => (Heap.get?_update_other _ _ (Ne.symm hb)).trans ((Heap.get?_update_other _ _ (Ne.symm hb)).trans e)
  refine wpAny_pure ⟨plainId_quiet PySem.F.plain_extend_loop _, ?_⟩
  exact zl_loop (s := s) (h₁ := s.heap) Z D1 D2 hS1 hS2 hz hI hO h1 h2 hn res hR _ 0 _ s.toks _ #[] [] rfl (Nat.zero_le _) (zst_frame D1 D2 hS1 hS2 (Nat.ne_of_lt hz) (Nat.ne_of_lt hI) (Nat.ne_of_lt hO) ⟨d2, st1, st2, .inl ⟨d1, d3⟩⟩ oth)
    (fun b o e0 _ _ _ _ e => oth b o e0 e) hS₃ rfl rfl ⟨List.Pairwise.nil, (fun _ ha => nomatch ha), (fun j a hj => by simp at hj)⟩
end
end WS
namespace WS
/-! lowest terms -/
def lo (a b : Int) : Int × Int := (a / (Int.gcd a b : Int), b / (Int.gcd a b : Int))
def Lowest (a b : Int) : Prop := 0 < b ∧ Int.gcd a b = 1
theorem gcd_pos {a b : Int} (h : b ≠ 0) : 0 < Int.gcd a b := by
  have := (Int.gcd_pos_iff (a := a) (b := b)).mpr (Or.inr h)
  exact this
theorem lo_fst (a b : Int) : (lo a b).1 * (Int.gcd a b : Int) = a := Int.ediv_mul_cancel (Int.gcd_dvd_left a b)
theorem lo_snd (a b : Int) : (lo a b).2 * (Int.gcd a b : Int) = b := Int.ediv_mul_cancel (Int.gcd_dvd_right a b)
theorem lo_lowest {a b : Int} (h : 0 < b) : Lowest (lo a b).1 (lo a b).2 := by
  have g : 0 < Int.gcd a b := gcd_pos (by omega)
  refine ⟨?_, Int.gcd_ediv_gcd_ediv_gcd g⟩
  have e := lo_snd a b
  apply Decidable.byContradiction
  intro n
  have : (lo a b).2 * (Int.gcd a b : Int) ≤ 0 := Int.mul_nonpos_of_nonpos_of_nonneg (by omega) (by omega)
  omega
theorem lo_cross (a b : Int) : (lo a b).1 * b = a * (lo a b).2 := by
  have e1 := lo_fst a b
  have e2 := lo_snd a b
  have h1 : (lo a b).1 * b = (lo a b).1 * ((lo a b).2 * (Int.gcd a b : Int)) := by rw [e2]
  have h2 : a * (lo a b).2 = ((lo a b).1 * (Int.gcd a b : Int)) * (lo a b).2 := by rw [e1]
  rw [h1, h2]
  simp only [Int.mul_assoc, Int.mul_comm, Int.mul_left_comm]
theorem dvd_cop {a b y : Int} (hg : Int.gcd a b = 1) (h : b ∣ a * y) : b ∣ y := by
  have h1 : b.natAbs ∣ a.natAbs * y.natAbs := by
    rw [← Int.natAbs_mul]
    exact Int.natAbs_dvd_natAbs.mpr h
  have c : Nat.Coprime b.natAbs a.natAbs := by
    have : Nat.gcd a.natAbs b.natAbs = 1 := hg
    exact (Nat.gcd_comm _ _).trans this
  exact Int.natAbs_dvd_natAbs.mp (c.dvd_of_dvd_mul_left h1)
theorem lowest_unique {a b x y : Int} (h : Lowest a b) (k : Lowest x y) (e : x * b = a * y) : x = a ∧ y = b := by
  have d1 : b ∣ y := dvd_cop h.2 (by rw [← e]; exact Int.dvd_mul_left _ _)
  have d2 : y ∣ b := dvd_cop k.2 (by rw [e]; exact Int.dvd_mul_left _ _)
  have hb := h.1
  have hy := k.1
  have l1 : b ≤ y := Int.le_of_dvd hy d1
  have l2 : y ≤ b := Int.le_of_dvd hb d2
  have ey : y = b := by omega
  refine ⟨?_, ey⟩
  rw [ey] at e
  exact Int.eq_of_mul_eq_mul_right (by omega) e
theorem lo_eq {a b x y : Int} (h : Lowest a b) (hy : 0 < y) (e : x * b = a * y) : lo x y = (a, b) := by
  have k := lo_lowest (a := x) hy
  have c := lo_cross x y
  have g : (lo x y).1 * b = a * (lo x y).2 := by
    have : ((lo x y).1 * b) * y = (a * (lo x y).2) * y := by
      calc ((lo x y).1 * b) * y = ((lo x y).1 * y) * b := by simp only [Int.mul_assoc, Int.mul_comm, Int.mul_left_comm]
        _ = (x * (lo x y).2) * b := by rw [c]
        _ = (x * b) * (lo x y).2 := by simp only [Int.mul_assoc, Int.mul_comm, Int.mul_left_comm]
        _ = (a * y) * (lo x y).2 := by rw [e]
        _ = (a * (lo x y).2) * y := by simp only [Int.mul_assoc, Int.mul_comm, Int.mul_left_comm]
    exact Int.eq_of_mul_eq_mul_right (by omega) this
  have u := lowest_unique h k g
  exact Prod.ext u.1 u.2
theorem lo_of {a b : Int} (h : Lowest a b) : lo a b = (a, b) := lo_eq h h.1 rfl
theorem ediv_natAbs_le (a : Int) (g : Nat) : (a / (g : Int)).natAbs ≤ a.natAbs := by
  cases g with
  | zero => simp
  | succ g => exact Int.natAbs_ediv_le_natAbs _ _
theorem lo_fst_le (a b : Int) : (lo a b).1.natAbs ≤ a.natAbs := ediv_natAbs_le a _
theorem lo_snd_le (a b : Int) : (lo a b).2.natAbs ≤ b.natAbs := ediv_natAbs_le b _
/-! bits -/
def Bt (n : Nat) (a : Int) : Prop := a.natAbs < 2 ^ n
theorem Bt.mono {n m : Nat} {a : Int} (h : Bt n a) (k : n ≤ m) : Bt m a := Nat.lt_of_lt_of_le h (Nat.pow_le_pow_right (by decide) k)
theorem Bt.of_le {n : Nat} {a b : Int} (h : Bt n b) (k : a.natAbs ≤ b.natAbs) : Bt n a := Nat.lt_of_le_of_lt k h
theorem Bt.mul {n m : Nat} {a b : Int} (h : Bt n a) (k : Bt m b) : Bt (n + m) (a * b) := by
  unfold Bt
  rw [Int.natAbs_mul, Nat.pow_add]
  exact Nat.mul_lt_mul'' h k
theorem Bt.add {n : Nat} {a b : Int} (h : Bt n a) (k : Bt n b) : Bt (n + 1) (a + b) := by
  unfold Bt at *
  have := Int.natAbs_add_le a b
  rw [Nat.pow_succ]
  omega
theorem Bt.sub {n : Nat} {a b : Int} (h : Bt n a) (k : Bt n b) : Bt (n + 1) (a - b) := by
  unfold Bt at *
  have : (a - b).natAbs ≤ a.natAbs + b.natAbs := Int.natAbs_sub_le a b
  rw [Nat.pow_succ]
  omega
theorem Bt.neg {n : Nat} {a : Int} (h : Bt n a) : Bt n (-a) := by
  unfold Bt at *
  rw [Int.natAbs_neg]
  exact h
theorem Bt.lo1 {n : Nat} {a b : Int} (h : Bt n a) : Bt n (lo a b).1 := h.of_le (lo_fst_le a b)
theorem Bt.lo2 {n : Nat} {a b : Int} (h : Bt n b) : Bt n (lo a b).2 := h.of_le (lo_snd_le a b)
theorem Bt.of_lt {n : Nat} {a : Int} (h0 : -(2 ^ n) < a) (h : a < 2 ^ n) : Bt n a := by
  unfold Bt
  have e : ((2 ^ n : Nat) : Int) = 2 ^ n := by simp
  omega
/-! the loop of the greatest number that goes into both -/
theorem gcd_step {x y : Int} (hx : 0 ≤ x) (hy : 0 < y) : Int.gcd y (x % y) = Int.gcd x y := by
  show Nat.gcd y.natAbs (x % y).natAbs = Nat.gcd x.natAbs y.natAbs
  have e : (x % y).natAbs = x.natAbs % y.natAbs := by
    have : x % y = ((x.natAbs % y.natAbs : Nat) : Int) := by
      rw [Int.natCast_emod]
      rw [Int.natAbs_of_nonneg hx, Int.natAbs_of_nonneg (by omega)]
    rw [this]
    rfl
  rw [e, Nat.gcd_comm y.natAbs, ← Nat.gcd_rec, Nat.gcd_comm]
theorem gcd_zero {x : Int} (hx : 0 ≤ x) : (Int.gcd x 0 : Int) = x := by
  have : Int.gcd x 0 = x.natAbs := Int.gcd_zero_right x
  rw [this]
  exact Int.natAbs_of_nonneg hx
theorem gcd_abs (a b : Int) : Int.gcd (if a < 0 then -a else a) b = Int.gcd a b := by
  split
  · exact Int.neg_gcd
  · rfl
/-! sums of parts -/
def pl (p q : Int × Int) : Int × Int := lo (p.1 * q.2 + q.1 * p.2) (p.2 * q.2)
theorem lo_neg_den {a b : Int} : lo a b = lo a b := rfl
end WS
set_option Elab.async false
set_option linter.all false
set_option maxRecDepth 100000
set_option maxHeartbeats 4000000
namespace WS
open PySem PySem.Spec PyProof.Rows L2
/-! heaps: what is new beside what stood; a pot that changes -/
theorem same_new {H : Hp} {p : Addr} {o : HO} (h : H p = none) : Same H (upd H p o) := fun b x e => by
  rw [upd_ne (ne_of_none e h)]
  exact e
theorem Same.tup {K : PySem.W.Frag} {H H' : Hp} {a : Addr} {xs : List V} (e : Same H H') (h : SqT K H a xs) : SqT K H' a xs := by
  rcases h with (h | ⟨o, h⟩) | h
  · exact .inl (.inl (e _ _ h))
  · exact .inl (.inr ⟨o, e _ _ h⟩)
  · exact .inr h
def SameX (p : Addr) (H H' : Hp) : Prop := ∀ b o, b ≠ p → H b = some o → H' b = some o
theorem SameX.refl (p : Addr) (H : Hp) : SameX p H H := fun _ _ _ h => h
theorem SameX.trans {p : Addr} {H H1 H2 : Hp} (a : SameX p H H1) (b : SameX p H1 H2) : SameX p H H2 := fun c o n h => b c o n (a c o n h)
theorem Same.x {p : Addr} {H H1 : Hp} (a : Same H H1) : SameX p H H1 := fun c o _ h => a c o h
theorem samex_set {p : Addr} {H : Hp} {o : HO} : SameX p H (upd H p o) := fun b x n e => by
  rw [upd_ne n]
  exact e
/-- a pot: two numbers, from which digits are drawn -/
def PotAt (H : Hp) (p : Addr) : Prop := ∃ x y : Int, H p = some (.lst [.int x, .int y]) ∧ 0 ≤ x ∧ 0 ≤ y ∧ y < 2147483648
theorem SameX.tup {K : PySem.W.Frag} {p : Addr} {H H' : Hp} {a : Addr} {xs : List V} (e : SameX p H H') (hp : PotAt H p) (h : SqT K H a xs) : SqT K H' a xs := by
  obtain ⟨x, y, hp, _⟩ := hp
  rcases h with (h | ⟨o, h⟩) | h
  · exact .inl (.inl (e _ _ (ne_of h hp (by intro z; cases z)) h))
  · exact .inl (.inr ⟨o, e _ _ (ne_of h hp (by intro z; cases z)) h⟩)
  · exact .inr h
theorem SameX.lst {K : PySem.W.Frag} {p : Addr} {H H' : Hp} {a : Addr} {xs : List V} (e : SameX p H H') (n : a ≠ p) (h : SqL K H a xs) : SqL K H' a xs := by
  rcases h with (h | ⟨o, h⟩) | h
  · exact .inl (.inl (e _ _ n h))
  · exact .inl (.inr ⟨o, e _ _ n h⟩)
  · exact .inr h
theorem PotAt.same {H H' : Hp} {p : Addr} (h : PotAt H p) (s : Same H H') : PotAt H' p := by
  obtain ⟨x, y, e, r⟩ := h
  exact ⟨x, y, s _ _ e, r⟩
/-! pairs of numbers -/
def TupI (K : PySem.W.Frag) (H : Hp) (v : V) (a b : Int) : Prop := ∃ t, v = .ref t ∧ SqT K H t [.int a, .int b]
theorem TupI.same {K : PySem.W.Frag} {H H' : Hp} {v : V} {a b : Int} (h : TupI K H v a b) (s : Same H H') : TupI K H' v a b := by
  obtain ⟨t, e, h⟩ := h
  exact ⟨t, e, Same.tup s h⟩
theorem TupI.x {K : PySem.W.Frag} {H H' : Hp} {p : Addr} {v : V} {a b : Int} (h : TupI K H v a b) (s : SameX p H H') (hp : PotAt H p) : TupI K H' v a b := by
  obtain ⟨t, e, h⟩ := h
  exact ⟨t, e, SameX.tup s hp h⟩
theorem TupI.new {K : PySem.W.Frag} {H : Hp} {p : Addr} {a b : Int} : TupI K (upd H p (.tup [.int a, .int b])) (.ref p) a b := ⟨p, rfl, .inl (.inl upd_same)⟩
def NewT (K : PySem.W.Frag) (H : Hp) (x y : Int) (Q : VK) : Prop := ∀ v H', Same H H' → TupI K H' v x y → Q v H'
/-! kinds -/
theorem sqt_ty {K : PySem.W.Frag} {H : Hp} {a : Addr} {xs : List V} (h : SqT K H a xs) : TyX K H (.ref a) (.type "tuple") := by
  rcases h with (h | ⟨o, h⟩) | ⟨o, its, n, h1, h2, _⟩
  · exact .base (.tup h)
  · exact .fTuple h
  · exact .kTuple h1 h2
/-- whether a thing is a whole number -/
def WholeIs (K : PySem.W.Frag) (H : Hp) (v : V) (b : Bool) : Prop := ∃ t b1 b2, TyX K H v t ∧ PySem.W.kitOne K t (.type "int") = some b1 ∧ PySem.W.kitOne K t (.type "bool") = some b2 ∧ b = (b1 && !b2)
theorem whole_int {K : PySem.W.Frag} {H : Hp} {i : Int} : WholeIs K H (.int i) true := ⟨_, true, false, .base (.int i), kit_ty (by decide +kernel), kit_ty (by decide +kernel), rfl⟩
theorem whole_non {K : PySem.W.Frag} {H : Hp} : WholeIs K H .non false := ⟨_, false, false, .base .non, kit_ty (by decide +kernel), kit_ty (by decide +kernel), rfl⟩
theorem whole_bl {K : PySem.W.Frag} {H : Hp} {b : Bool} : WholeIs K H (.bl b) false := ⟨_, true, true, .base (.bl b), kit_ty (by decide +kernel), kit_ty (by decide +kernel), rfl⟩
theorem whole_str {K : PySem.W.Frag} {H : Hp} {z : Str} : WholeIs K H (.str z) false := ⟨_, false, false, .base (.str z), kit_ty (by decide +kernel), kit_ty (by decide +kernel), rfl⟩
theorem whole_tup {K : PySem.W.Frag} {H : Hp} {a : Addr} {xs : List V} (h : SqT K H a xs) : WholeIs K H (.ref a) false := ⟨_, false, false, sqt_ty h, kit_ty (by decide +kernel), kit_ty (by decide +kernel), rfl⟩
theorem whole_lst {K : PySem.W.Frag} {H : Hp} {a : Addr} {xs : List V} (h : H a = some (.lst xs)) : WholeIs K H (.ref a) false := ⟨_, false, false, .base (.lst h), kit_ty (by decide +kernel), kit_ty (by decide +kernel), rfl⟩
/-! sizes -/
theorem Bt.cdiv {n : Nat} {i j : Int} (h : 0 < j) (hb : Bt n j) (h9 : n ≤ 8999) : CDivW i j := wide_div (b := n + 1) h (hb.mono (Nat.le_succ n)) (Nat.succ_pos n) (by omega)
theorem Bt.cmul {n m : Nat} {i j : Int} (ha : Bt n i) (hb : Bt m j) (h : n + m ≤ 900000) : CMulW i j := wide_mul (a := n + 1) (b := m + 1) (ha.mono (Nat.le_succ n)) (hb.mono (Nat.le_succ m)) (Nat.succ_pos n) (Nat.succ_pos m) (by omega)
theorem gcd_bt {n : Nat} {a b : Int} (h : 0 < b) (hb : Bt n b) : Bt n (Int.gcd a b : Int) := by
  refine hb.of_le ?_
  have : Int.gcd a b ≤ b.natAbs := Nat.le_of_dvd (by omega) (Nat.gcd_dvd_right a.natAbs b.natAbs)
  simpa using this
/-! promises -/
def spWhole (K : PySem.W.Frag) : Sp := fun vs H Q _ => ∃ v b, vs = [v] ∧ WholeIs K H v b ∧ Q (.bl b) H
def spGcd : Sp := fun vs H Q _ => ∃ x y : Int, vs = [.int x, .int y] ∧ 0 ≤ x ∧ 0 ≤ y ∧ Q (.int (Int.gcd x y)) H
def spLow (K : PySem.W.Frag) : Sp := fun vs H Q _ => ∃ a b : Int, vs = [.int a, .int b] ∧ 0 < b ∧ Bt 8999 b ∧ NewT K H (lo a b).1 (lo a b).2 Q
/-- two pairs and what is made of them -/
def spTwo (K : PySem.W.Frag) (f : Int → Int → Int → Int → Int × Int) : Sp := fun vs H Q _ => ∃ u v a b c d, vs = [u, v] ∧ TupI K H u a b ∧ TupI K H v c d ∧ 0 < b ∧ 0 < d ∧ Bt 400000 a ∧ Bt 4400 b ∧ Bt 400000 c ∧ Bt 4400 d ∧ NewT K H (f a b c d).1 (f a b c d).2 Q
def spTimes (K : PySem.W.Frag) : Sp := fun vs H Q _ => ∃ u a b m, vs = [u, .int m] ∧ TupI K H u a b ∧ 0 < b ∧ Bt 400000 a ∧ Bt 4400 b ∧ Bt 400000 m ∧ NewT K H (lo (a * m) b).1 (lo (a * m) b).2 Q
def Bad (K : PySem.W.Frag) (H : Hp) (m : V) : Prop := WholeIs K H m false ∨ ∃ i : Int, m = .int i ∧ i < 1
def spShared (K : PySem.W.Frag) (C : Addr) : Sp := fun vs H Q E => ∃ u a b m, vs = [u, m] ∧ TupI K H u a b ∧ ((Bad K H m ∧ E (.ref C) none H) ∨ ∃ i : Int, m = .int i ∧ 1 ≤ i ∧ 0 < b ∧ Bt 4400 a ∧ Bt 4400 b ∧ Bt 4400 i ∧ NewT K H (lo a (b * i)).1 (lo a (b * i)).2 Q)
def spDigit : Sp := fun vs H Q _ => ∃ p m, vs = [.ref p, .int m] ∧ PotAt H p ∧ 0 < m ∧ Bt 8999 m ∧ ∀ d H', 0 ≤ d → d < m → SameX p H H' → PotAt H' p → Q (.int d) H'
def spPot (K : PySem.W.Frag) : Sp := fun vs H Q _ => ∃ (a : Addr) (ns : List Int) (k : Int), vs = [.ref a, .int k] ∧ SqL K H a (ns.map V.int) ∧ 0 ≤ k ∧ k < 100 ∧ ∀ p H', Same H H' → H p = none → PotAt H' p → Q (.ref p) H'
/-! all tuples stay -/
def KT (H H' : Hp) : Prop := (∀ a xs, H a = some (.tup xs) → H' a = some (.tup xs)) ∧ (∀ a o xs, H a = some (.frz o (.tup xs)) → H' a = some (.frz o (.tup xs)))
theorem KT.refl (H : Hp) : KT H H := ⟨fun _ _ h => h, fun _ _ _ h => h⟩
theorem KT.trans {H H1 H2 : Hp} (a : KT H H1) (b : KT H1 H2) : KT H H2 := ⟨fun c o h => b.1 c o (a.1 c o h), fun c o x h => b.2 c o x (a.2 c o x h)⟩
theorem kt_same {H H' : Hp} (s : Same H H') : KT H H' := ⟨fun _ _ h => s _ _ h, fun _ _ _ h => s _ _ h⟩
theorem kt_x {p : Addr} {H H' : Hp} (s : SameX p H H') (hp : PotAt H p) : KT H H' := by
  obtain ⟨x, y, hp, _⟩ := hp
  exact ⟨fun a xs h => s _ _ (ne_of h hp (by intro z; cases z)) h, fun a o xs h => s _ _ (ne_of h hp (by intro z; cases z)) h⟩
theorem kt_set {H : Hp} {D : Addr} {xs ys : List V} (h : H D = some (.lst xs)) : KT H (upd H D (.lst ys)) :=
  ⟨fun a zs e => by rw [upd_ne (ne_of e h (by intro z; cases z))]; exact e, fun a o zs e => by rw [upd_ne (ne_of e h (by intro z; cases z))]; exact e⟩
theorem kt_new {H : Hp} {D : Addr} {o : HO} (h : H D = none) : KT H (upd H D o) := kt_same (same_new h)
theorem KT.sqt {K : PySem.W.Frag} {H H' : Hp} {a : Addr} {xs : List V} (e : KT H H') (h : SqT K H a xs) : SqT K H' a xs := by
  rcases h with (h | ⟨o, h⟩) | h
  · exact .inl (.inl (e.1 _ _ h))
  · exact .inl (.inr ⟨o, e.2 _ _ _ h⟩)
  · exact .inr h
theorem TupI.k {K : PySem.W.Frag} {H H' : Hp} {v : V} {a b : Int} (h : TupI K H v a b) (s : KT H H') : TupI K H' v a b := by
  obtain ⟨t, e, h⟩ := h
  exact ⟨t, e, s.sqt h⟩
/-- values that are pairs -/
def Parts (K : PySem.W.Frag) (H : Hp) (rs : List V) (ps : List (Int × Int)) : Prop := rs.length = ps.length ∧ ∀ (i : Nat) v, rs[i]? = some v → ∃ p, ps[i]? = some p ∧ TupI K H v p.1 p.2
theorem Parts.k {K : PySem.W.Frag} {H H' : Hp} {rs : List V} {ps : List (Int × Int)} (h : Parts K H rs ps) (s : KT H H') : Parts K H' rs ps :=
  ⟨h.1, fun i v e => by obtain ⟨p, e1, e2⟩ := h.2 i v e; exact ⟨p, e1, e2.k s⟩⟩
theorem Parts.nil {K : PySem.W.Frag} {H : Hp} : Parts K H [] [] := ⟨rfl, fun i v e => by simp at e⟩
theorem Parts.cons {K : PySem.W.Frag} {H : Hp} {v : V} {rs : List V} {p : Int × Int} {ps : List (Int × Int)} (h : TupI K H v p.1 p.2) (k : Parts K H rs ps) : Parts K H (v :: rs) (p :: ps) :=
  ⟨by simp [k.1], fun i x e => by
    cases i with
    | zero => exact ⟨p, rfl, by have e : v = x := Option.some.inj e; rw [← e]; exact h⟩
    | succ i => exact k.2 i x e⟩
theorem Parts.add {K : PySem.W.Frag} {H : Hp} {v : V} {rs : List V} {p : Int × Int} {ps : List (Int × Int)} (k : Parts K H rs ps) (h : TupI K H v p.1 p.2) : Parts K H (rs ++ [v]) (ps ++ [p]) :=
  ⟨by simp [k.1], fun i x e => by
    by_cases hi : i < rs.length
    · rw [List.getElem?_append_left hi] at e
      obtain ⟨q, e1, e2⟩ := k.2 i x e
      exact ⟨q, by rw [List.getElem?_append_left (by rw [← k.1]; exact hi)]; exact e1, e2⟩
    · rw [List.getElem?_append_right (by omega)] at e
      have hl := k.1
      have z : i - rs.length = 0 := by
        cases hz : i - rs.length with
        | zero => rfl
        | succ n => rw [hz] at e; simp at e
      rw [z] at e
      have e : v = x := Option.some.inj e
      refine ⟨p, ?_, by rw [← e]; exact h⟩
      rw [List.getElem?_append_right (by omega), show i - ps.length = 0 by omega]
      rfl⟩
/-- a number with a below, of at most n bits -/
def Okp (n : Nat) (p : Int × Int) : Prop := 0 < p.2 ∧ Bt n p.1 ∧ Bt n p.2
theorem Okp.mono {n m : Nat} {p : Int × Int} (h : Okp n p) (k : n ≤ m) : Okp m p := ⟨h.1, h.2.1.mono k, h.2.2.mono k⟩
theorem Okp.pl {n m : Nat} {p q : Int × Int} (h : Okp n p) (k : Okp m q) : Okp (n + m + 1) (pl p q) := by
  have hy : 0 < p.2 * q.2 := Int.mul_pos h.1 k.1
  refine ⟨(lo_lowest hy).1, Bt.lo1 ?_, Bt.lo2 ?_⟩
  · have a := h.2.1.mul k.2.2
    have b := (k.2.1.mul h.2.2).mono (show m + n ≤ n + m by omega)
    exact a.add b
  · exact (h.2.2.mul k.2.2).mono (by omega)
theorem fold_okp {n m : Nat} : ∀ (ps : List (Int × Int)) (p : Int × Int), Okp n p → (∀ q ∈ ps, Okp m q) → Okp (n + ps.length * (m + 1)) (ps.foldl pl p)
  | [], p, h, _ => by simpa using h
  | q :: r, p, h, k => by
    have h1 := h.pl (k q (by simp))
    have := fold_okp r (pl p q) h1 (fun x hx => k x (by simp [hx]))
    refine this.mono ?_
    simp only [List.length_cons, Nat.add_mul, Nat.one_mul]
    omega
theorem take_fold {i : Nat} {ps : List (Int × Int)} {p q : Int × Int} (h : ps[i]? = some q) : (ps.take (i + 1)).foldl pl p = pl ((ps.take i).foldl pl p) q := by
  rw [List.take_add_one, h, List.foldl_append]
  rfl
theorem pick {xs : List V} {d : Int} (h0 : 0 ≤ d) (h : d < xs.length) : ∃ v, atI xs d = some v ∧ v ∈ xs :=
  ⟨xs[d.toNat]'(by omega), at_of (j := d.toNat) (by omega) (List.getElem?_eq_getElem _), List.getElem_mem _⟩
def spSum (K : PySem.W.Frag) (n : Nat) : Sp := fun vs H Q _ => ∃ (l : Addr) (rs : List V) (ps : List (Int × Int)), vs = [.ref l] ∧ SqL K H l rs ∧ Parts K H rs ps ∧ (∀ q ∈ ps, Okp n q) ∧ (ps.length + 1) * (n + 1) ≤ 4400 ∧ ∀ v H', Same H H' → TupI K H' v (ps.foldl pl (0, 1)).1 (ps.foldl pl (0, 1)).2 → Q v H'
def spTotal (K : PySem.W.Frag) (n : Nat) : Sp := fun vs H Q _ => ∃ (l : Addr) (u : V) (a b : Int) (rs : List V) (ps : List (Int × Int)), vs = [.ref l, u] ∧ SqT K H l rs ∧ TupI K H u a b ∧ Okp n (a, b) ∧ Parts K H rs ps ∧ (∀ q ∈ ps, Okp n q) ∧ (ps.length + 1) * (n + 1) ≤ 4400 ∧ ∀ v H', Same H H' → TupI K H' v (ps.foldl pl (a, b)).1 (ps.foldl pl (a, b)).2 → Q v H'
def spNum (n : Nat) : Sp := fun vs H Q _ => ∃ p, vs = [.ref p] ∧ PotAt H p ∧ ∀ i H', Bt n i → SameX p H H' → PotAt H' p → Q (.int i) H'
def spDraw (K : PySem.W.Frag) (n : Nat) : Sp := fun vs H Q _ => ∃ p, vs = [.ref p] ∧ PotAt H p ∧ ∀ v a b H', Lowest a b → Bt n a → Bt n b → TupI K H' v a b → SameX p H H' → PotAt H' p → Q v H'
def spIs (K : PySem.W.Frag) : Sp := fun vs H Q _ => ∃ u v a b, vs = [u, v] ∧ TupI K H u a b ∧ TupI K H v a b ∧ Q (.bl true) H
theorem PotAt.ne {H : Hp} {p z : Addr} (h : PotAt H p) (n : H z = none) : z ≠ p := by
  obtain ⟨x, y, e, _⟩ := h
  intro q
  rw [q, e] at n
  cases n
theorem eqv_pair (a b : Int) : PyData.eqv (.tuple [.int a, .int b]) (.tuple [.int a, .int b]) = true := by simp [PyData.eqv, PyData.eqvAll]
theorem share_back {a b i : Int} (h : Lowest a b) (hi : 1 ≤ i) : lo ((lo a (b * i)).1 * i) (lo a (b * i)).2 = (a, b) := by
  have hy : 0 < b * i := Int.mul_pos h.1 (by omega)
  refine lo_eq h (lo_lowest hy).1 ?_
  have c := lo_cross a (b * i)
  calc (lo a (b * i)).1 * i * b = (lo a (b * i)).1 * (b * i) := by simp only [Int.mul_assoc, Int.mul_comm, Int.mul_left_comm]
    _ = a * (lo a (b * i)).2 := c
/-! promises that are kept where no repr is under way -/
def Calm (A : Around) : Prop := A.guards = some []
theorem Calm.down {A : Around} (h : Calm A) (env : Env) : Calm (A.deeper env) := h
structure FnAt (A : Around) (P : Program) (w : World) (K : PySem.W.Frag) (mg : Str → Option Value) (base : Heap) (CX : CXT) (k : Nat) (f : Addr) (fd : FuncData) (ps : List Str) (sp : Sp) : Prop where
  len : ∀ vs H Q E, sp vs H Q E → vs.length = ps.length
  go : ∀ (outer : List Env) (s : Shared) (H : Hp) (args : Args) (us : List Value) (vs : List V) (Q : VK) (E : XK),
    Room k A → Env0 P w K mg base A outer s H → BindsTo s fd args (ps.zip us) → Vals vs us → sp vs H Q E →
    codeAny (model P w) A (.call (.ref f) args) (CR CX outer P w H s Q E) s
theorem fnat_of {A : Around} {P : Program} {w : World} {K : PySem.W.Frag} {mg : Str → Option Value} {base : Heap} {CX : CXT} {k : Nat} {f : Addr} {fd : FuncData} {ps : List Str} {sp : Sp}
    (F : FnOk P w K mg base CX k f fd ps sp) : FnAt A P w K mg base CX k f fd ps sp := ⟨F.len, F.run A⟩
/-- a def by its body, at one place -/
theorem fun_at {A : Around} {P : Program} {w : World} {K : PySem.W.Frag} {mg : Str → Option Value} {base : Heap} {CX : CXT} {x qual : Str} {st : Stmt} {f : Addr} {fd : FuncData} {N ps : List Str} {k : Nat} {sp : Sp}
    (F : Fun K x qual st f fd) (S : FnScope N ps (defScope st)) (len : ∀ vs H Q E, sp vs H Q E → vs.length = ps.length)
    (B : ∀ (cdv : Value) (outer : List Env) (s : Shared) (H : Hp) (vs : List V) (Q : VK) (E : XK),
      Room k (A.deeper (envOfC qual (defScope st) s.heap.objs.size f cdv)) → sp vs H Q E →
      ∃ t, PSs (cxOf CX P w K mg base N qual (defScope st) f cdv A outer s H E) (defBody st) t ∧ t ⟨fun _ H' => Q .non H', Q, fun _ _ => False, fun _ _ => False⟩ (start N vs) H) :
    FnAt A P w K mg base CX (k + 1) f fd ps sp := by
  obtain ⟨oc, od, kV, doc, pm, an, cdv, ct, osl, rfl, at_f, code⟩ := F.ex
  refine ⟨len, ?_⟩
  intro outer s H args us vs Q E room env0 bt vals want
  have inK : K.In s.heap := env0.mod.kin.keeps (fun b o e => (env0.bs b o e).1)
  have kinds : ∀ y ∈ ps.zip us, (defScope st).names.lookup y.1 = some .local ∨ ((defScope st).names.lookup y.1 = some .cell ∧ ((cellsFrom (s.heap.objs.size + 1) (defScope st).names []).lookup y.1).isSome = true) := by
    rintro ⟨n, v⟩ hy
    rcases S.par n (List.of_mem_zip hy).1 with l | c
    · exact .inl l
    · exact .inr ⟨c, PySem.W.cellsFrom_some _ _ _ (.inl c)⟩
  refine codeAny_call_function room.depth (inK _ _ at_f) rfl S.co S.gen rfl (PySem.W.codeRec_of inK code) (bt _ _ _ _ ?_)
  refine wpAny_newFunctionEnv_cells S.kind kinds ?_
  rintro env rfl s1 ic
  refine ⟨(env0.mod.nolimit.keeps fun b o e => (env0.bs b o e).1).keeps ic.toInCall.keep, codeAny_func ?_⟩
  obtain ⟨t, pss, reading⟩ := B cdv outer s H vs Q E (room.deeper _) want
  have inv := inv_start (CX := CX) (E := E) S room.hd env0 (len _ _ _ _ want) vals ic
  refine wpAny_mono (pss.run [] s1 (start N vs) H _ inv reading) ?_ (fun _ _ z => z)
  intro fl s' z
  match fl, z with
  | .ret u, ⟨v, σ', H', J, rv, q⟩ => exact ⟨v, H', J.os, J.bare, J.base, J.hok, rv, q⟩
  | .next, ⟨σ', H', J, q⟩ => exact ⟨.non, H', J.os, J.bare, J.base, J.hok, rfl, q⟩
  | .brk, ⟨_, _, _, q⟩ => exact q.elim
  | .cont, ⟨_, _, _, q⟩ => exact q.elim
/-- f(e, ..) where f keeps its promise at this place -/
theorem pe_callA {X : Cx} {CX : CXT} {k : Nat} {f : Addr} {fd : FuncData} {ps : List Str} {sp : Sp} {dvs : List V} {ds : List Value} {E : XK} {x : Str} {p pos : Pos} {e : Expr} {es : List Expr} {t : TA}
    (F : FnAt X.A X.prog X.w X.K X.mg X.base CX k f fd ps sp) (room : Room k X.A) (gl : Gl X x) (at_x : X.mg x = some (.ref f)) (kp : PySem.W.keepIn X.K (.ref f) = true)
    (bi : Binds X.K fd ps ds) (vd : Vals dvs ds) (ex : Passes CX X E) (args : PA X (e :: es) t)
    (nodbg : (x == ("__debug__" : Str)) = false := by decide) (one : starEach (e :: es) X.env = (false, eval e X.env) :: starEach es X.env := by rfl) (nostar : (backTo pos (starEach es X.env)).any (·.1) = false := by rfl) :
    PE X (.Call (.Name x p) (e :: es) [] pos) (tCall sp dvs E t) := by
  constructor
  intro pins s σ H Q inv want
  refine wpAny_Call_Name_kw (ld_glob inv gl at_x ?_ nodbg)
  refine PySem.W.callWith_K (h₀ := X.base) inv.ok.mod.kin kp (thn (args.run pos pins s σ H _ inv want) ?_) one nostar
  rintro us s1 ⟨vs, H1, inv1, vals, want1⟩
  refine ⟨inv1.kIn, ?_⟩
  have both : Vals (vs ++ dvs) (us ++ ds) := vals.append vd
  have size : (us ++ ds).length = ps.length := both.length.symm.trans (F.len _ _ _ _ want1)
  refine wpAny_call (codeAny_mono (F.go X.stack s1 H1 ⟨us, []⟩ _ _ Q E room inv1.env0 (bi s1 us inv1.kIn size) both want1) ?_)
  intro r s' z
  match r, z with
  | .error er, z => exact ex pins σ H1 s1 er s' inv1 z
  | .ok (.ret u), z => exact inv1.after z
  | .ok .next, z => exact z.elim
  | .ok .brk, z => exact z.elim
  | .ok .cont, z => exact z.elim
/-- repr of data -/
def rRepr (X : Cx) : List V → Hp → VK → Prop := fun xs H Q => ∃ v d, xs = [v] ∧ Dp X.K H v d ∧ d.showable = true ∧ d.hasDict = false ∧ d.depth ≤ 60 ∧ d.shown.length ≤ sizeLine ∧ Q (.str d.shown) H
theorem call_reprD {X : Cx} (g : Calm X.A) (hu : X.A.units + 64 < cLine) : CallR X (.builtin "repr") (rRepr X) := by
  intro pins s σ H xs us Q inv vals want
  obtain ⟨v, d, rfl, dp, sh, nd, dep, len, q⟩ := want
  cases vals with
  | cons rv rest =>
    cases rest
    obtain ⟨as, rd⟩ := Dp.reads inv d v _ dp rv
    have nomod : d.hasDict = true → sysModules ∉ as := fun e => by rw [nd] at e; cases e
    cases dp with
    | non => cases rv; exact PySem.P.repr_of_none ⟨.str _, H, inv.tok _, ⟨_, rfl⟩, q⟩
    | bl b => cases rv; exact PySem.P.repr_of_bool ⟨.str _, H, inv.tok _, ⟨_, rfl⟩, q⟩
    | int i =>
      obtain ⟨t, rfl⟩ := rv
      exact PySem.P.repr_of_int (of_decide_eq_true sh) ⟨.str _, H, inv.tok _, ⟨_, rfl⟩, q⟩
    | str z =>
      obtain ⟨t, rfl⟩ := rv
      exact PySem.P.repr_of_str ⟨.str _, H, inv.tok _, ⟨_, rfl⟩, q⟩ len
    | lst h1 h2 =>
      cases rv
      exact repr_of_reads' rd sh nomod g (by omega) (fun _ _ z => z) (fun h' u tk keep => ⟨.str _, H, inv.kept keep, ⟨_, rfl⟩, q⟩) len
    | tup h1 h2 =>
      cases rv
      exact repr_of_reads' rd sh nomod g (by omega) (fun _ _ z => z) (fun h' u tk keep => ⟨.str _, H, inv.kept keep, ⟨_, rfl⟩, q⟩) len
/-! the end of a law whose def keeps its promise where the law is called -/
theorem begin_at {P : Program} {w : World} {K : PySem.W.Frag} {mg mb : Str → Option Value} {k : Nat} {fa a : Addr} {fd : FuncData} {x : Str} {sp : Sp} {s : Shared} {vs : List Value} {H : Hp}
    (inK : K.In s.heap) (gns : s.heap.Ns mainGlobals mg) (bns : s.heap.Ns builtinsNs mb) (bb : ∀ x : Str, x ≠ "__name__" → mb x = bootBuiltins x) (lim : s.heap.NoLimit) (nogen : s.gens = #[])
    (script : s.heap.get? a = some { cls := .type "list", data := .seq vs.toArray }) (room : Room k callerA)
    (F : ∀ base : Heap, K.In base → base.Ns mainGlobals mg → FnAt callerA P w K mg base CX0 k fa fd [x] sp) (bind1 : ∀ (s : Shared) (u : Value), BindsTo s fd ⟨[u], []⟩ [(x, u)])
    (only : ∀ b u, H b = some u → b = a ∧ K.lookup a = none ∧ ∃ o xs, u = .frz o (.lst xs)) (fits : HOk P w H s.heap)
    (want : sp [.ref a] H (fun v _ => v = .bl true) fun _ _ _ => False) :
    codeAny (model P w) callerA (.call (.ref fa) ⟨[.ref a], []⟩) (fun r s' => r = .ok (.ret (.bool true)) ∧ OldK s.heap s'.heap ∧ s'.os = s.os ∧ AllBare s'.gens) s := by
  have plain : ∀ {b : Addr}, b ≠ a → H b = none := fun {b} nb => by
    cases z : H b with
    | none => rfl
    | some u => exact absurd (only b u z).1 nb
  have noDict : ∀ {b : Addr} {o : Obj} {es : Array DictEntry} {ep : Nat}, s.heap.get? b = some o → o.data = .dict es ep → H b = none := by
    intro b o es ep e de
    refine plain ?_
    rintro rfl
    rw [script] at e
    cases e
    cases de
  have nsb : ∀ {b : Addr} {m : Str → Option Value}, s.heap.Ns b m → (hidT s.heap H).Ns b m := by
    rintro b m ⟨o, es, ep, e, de, rest⟩
    exact ⟨o, es, ep, hidT_get e (noDict e de), de, rest⟩
  have kb : K.In (hidT s.heap H) := by
    intro b o e
    refine hidT_get (inK b o e) ?_
    cases z : H b with
    | none => rfl
    | some u =>
      obtain ⟨rfl, nk, _⟩ := only b u z
      rw [nk] at e
      cases e
  obtain ⟨mc, l1, l2⟩ := lim
  have modu : Mod K mg (hidT s.heap H) := ⟨kb, nsb gns, ⟨mb, nsb bns, bb⟩, ⟨mc, nsb l1, l2⟩⟩
  have noEnv : ∀ b ∈ frs [], H b = none := fun b z => absurd (show b ∈ ([] : List Addr) from z) List.not_mem_nil
  have env0 : Env0 P w K mg (hidT s.heap H) callerA [] s H := ⟨rfl, modu, fun b o e => of_hidT e, Nat.le_of_eq (hidT_size _ _), trivial, noEnv, fits, .of_eq nogen⟩
  refine codeAny_mono ((F _ kb (nsb gns)).go [] s H ⟨[.ref a], []⟩ [.ref a] [.ref a] _ _ room env0 (bind1 s (.ref a)) (.cons rfl .nil) want) ?_
  intro r s' z
  match r, z with
  | .error er, z => exact z.elim
  | .ok .next, z => exact z.elim
  | .ok .brk, z => exact z.elim
  | .ok .cont, z => exact z.elim
  | .ok (.ret u), ⟨v, H', os, bare, un, fits', rel, q⟩ =>
    have q : v = .bl true := q
    subst q
    obtain rfl : u = Value.bool true := rel
    refine ⟨rfl, OldK.of_keep ?_, os, bare⟩
    intro b o e
    cases zb : H b with
    | none => exact un.keep b o e zb (fun z => absurd (show b ∈ ([] : List Addr) from z) List.not_mem_nil) List.not_mem_nil
    | some u =>
      obtain ⟨_, _, ob, xs, rfl⟩ := only b u zb
      have now := (fits' b _ (un.frzs b ob _ zb)).1
      have then_ := (fits b _ zb).1
      rw [e] at then_
      cases then_
      exact now
theorem walk_G {l : PySem.W.OpenLaw} {n k : Nat} {q : Program} {loose : List Str} {XP : (Str → Option Value) → Heap → Prop} {YP : World → Heap → Prop} {d : DefRec} {K : Params → PySem.W.Frag} {sp : World → Sp} {x : Str}
    (most : l.most = some n) (small : n ≤ sizeLine) (nodefault : d.params.defaults = []) (room : Room k callerA)
    (Y : ∀ (w : World) (h : Heap), YP w h → (K w.params).In h)
    (F : ∀ (w : World) (mg : Str → Option Value) (fa : Addr) (h : Heap), (K w.params).In h → h.Ns mainGlobals mg → mg d.name = some (.ref fa) →
      ∃ fd : FuncData, (∀ (s : Shared) (u : Value), BindsTo s fd ⟨[u], []⟩ [(x, u)]) ∧ ∀ base : Heap, (K w.params).In base → base.Ns mainGlobals mg → FnAt callerA l.prog w (K w.params) mg base CX0 k fa fd [x] (sp w))
    (want : ∀ (w : World) (H : Hp) (a : Addr) (ns : List Int), ns.length ≤ n → SqL (K w.params) H a (ns.map V.int) → sp w [.ref a] H (fun v _ => v = .bl true) fun _ _ _ => False) :
    PySem.W.WalkO q loose XP YP l.row.toRowW d [] (fun f vs => PySem.call f vs) := by
  refine Att.attach_call most nodefault ?_
  intro w s0 s mg mb fa o pm cd doc a vs ns G y _ _ _ at_law script hi len nogen
  have inK := Y w _ y
  obtain ⟨fd, b1, f⟩ := F w mg fa _ inK G.T.g at_law
  have rel : Vals (ns.map V.int) vs := vals_ints hi
  have sz : ns.length ≤ sizeLine := Nat.le_trans len small
  cases look : (K w.params).lookup a with
  | some ob =>
    have same := inK a ob look
    rw [script] at same
    cases same
    refine begin_at (H := fun _ => none) inK G.T.g G.T.b G.T.builtins G.T.nolimit nogen script room f b1 (fun b u z => ?_) (fun b u z => ?_) (want w _ a ns len (.inr ⟨_, vs.toArray, _, look, rfl, rfl, rfl, ?_, ?_⟩))
    · have z : (none : Option HO) = some u := z
      cases z
    · have z : (none : Option HO) = some u := z
      cases z
    · rw [List.size_toArray, hi.length]
      exact sz
    · simpa using rel
  | none =>
    have here : ∀ b u, (if b = a then some (HO.frz { cls := .type "list", data := .seq vs.toArray } (.lst (ns.map V.int))) else none) = some u → b = a ∧ u = HO.frz { cls := .type "list", data := .seq vs.toArray } (.lst (ns.map V.int)) := by
      intro b u z
      by_cases hb : b = a
      · rw [if_pos hb] at z
        exact ⟨hb, (Option.some.inj z).symm⟩
      · rw [if_neg hb] at z
        cases z
    refine begin_at (H := fun b => if b = a then some (.frz { cls := .type "list", data := .seq vs.toArray } (.lst (ns.map V.int))) else none) inK G.T.g G.T.b G.T.builtins G.T.nolimit nogen script room f b1 (fun b u z => ?_) (fun b u z => ?_) (want w _ a ns len (.inl (.inr ⟨_, if_pos rfl⟩)))
    · obtain ⟨e1, e2⟩ := here b u z
      exact ⟨e1, look, _, _, e2⟩
    · obtain ⟨rfl, rfl⟩ := here b u z
      exact ⟨script, by rw [List.length_map]; exact sz, vs, _, rel, script⟩
theorem tyes {σ : L2.St} {H : Hp} {F : Bool → Hp → Prop} (h : F true H) : tYes σ H F := h
/-- the script can be read where what it was stays -/
theorem seq_keep {K : PySem.W.Frag} {H H' : Hp} {a : Addr} {xs : List V} (h : SqL K H a xs) (s : ∀ o, H a = some o → H' a = some o) : SqL K H' a xs := by
  rcases h with (h | ⟨o, h⟩) | h
  · exact .inl (.inl (s _ h))
  · exact .inl (.inr ⟨o, s _ h⟩)
  · exact .inr h
theorem all_true : ∀ n : Nat, (List.replicate n true).all id = true
  | 0 => rfl
  | n + 1 => by simp [List.replicate_succ]
theorem pl_zero {a b : Int} (h : Lowest a b) : pl (0, 1) (a, b) = (a, b) := by
  show lo (0 * b + a * 1) (1 * b) = (a, b)
  rw [Int.zero_mul, Int.zero_add, Int.mul_one, Int.one_mul]
  exact lo_of h
def spOne : Sp := fun vs H Q _ => ∃ p, vs = [.ref p] ∧ PotAt H p ∧ ∀ H', SameX p H H' → Q (.bl true) H'
def spLaw (K : PySem.W.Frag) : Sp := fun vs H Q _ => ∃ (a : Addr) (ns : List Int), vs = [.ref a] ∧ SqL K H a (ns.map V.int) ∧ ns.length ≤ 63 ∧ ∀ H', Q (.bl true) H'
/-! parts by what they stand for -/
theorem lo_congr {x y x' y' : Int} (hy : 0 < y) (hy' : 0 < y') (e : x * y' = x' * y) : lo x y = lo x' y' := by
  have c := lo_cross x' y'
  refine (lo_eq (lo_lowest (a := x') hy') hy ?_).trans (Prod.eta _)
  have h : (x * (lo x' y').2) * y' = ((lo x' y').1 * y) * y' := by
    calc (x * (lo x' y').2) * y' = (x * y') * (lo x' y').2 := by simp only [Int.mul_assoc, Int.mul_comm, Int.mul_left_comm]
      _ = (x' * y) * (lo x' y').2 := by rw [e]
      _ = (x' * (lo x' y').2) * y := by simp only [Int.mul_assoc, Int.mul_comm, Int.mul_left_comm]
      _ = ((lo x' y').1 * y') * y := by rw [c]
      _ = ((lo x' y').1 * y) * y' := by simp only [Int.mul_assoc, Int.mul_comm, Int.mul_left_comm]
  exact Int.eq_of_mul_eq_mul_right (by omega) h
theorem lo_pl {a b c d : Int} (hb : 0 < b) (hd : 0 < d) : pl (lo a b) (lo c d) = lo (a * d + c * b) (b * d) := by
  have b' := (lo_lowest (a := a) hb).1
  have d' := (lo_lowest (a := c) hd).1
  have e1 := lo_cross a b
  have e2 := lo_cross c d
  show lo ((lo a b).1 * (lo c d).2 + (lo c d).1 * (lo a b).2) ((lo a b).2 * (lo c d).2) = _
  refine lo_congr (Int.mul_pos b' d') (Int.mul_pos hb hd) ?_
  generalize (lo a b).1 = p at *
  generalize (lo a b).2 = q at *
  generalize (lo c d).1 = r at *
  generalize (lo c d).2 = t at *
  have h1 : p * t * (b * d) = a * q * t * d := by rw [← e1]; simp only [Int.mul_assoc, Int.mul_comm, Int.mul_left_comm]
  have h2 : r * q * (b * d) = c * t * q * b := by rw [← e2]; simp only [Int.mul_assoc, Int.mul_comm, Int.mul_left_comm]
  rw [Int.add_mul, Int.add_mul, h1, h2]
  simp only [Int.mul_assoc, Int.mul_comm, Int.mul_left_comm]
theorem lo_times {a b m : Int} (hb : 0 < b) : lo ((lo a b).1 * m) (lo a b).2 = lo (a * m) b := by
  refine lo_congr (lo_lowest hb).1 hb ?_
  have e := lo_cross a b
  calc (lo a b).1 * m * b = ((lo a b).1 * b) * m := by simp only [Int.mul_assoc, Int.mul_comm, Int.mul_left_comm]
    _ = (a * (lo a b).2) * m := by rw [e]
    _ = a * m * (lo a b).2 := by simp only [Int.mul_assoc, Int.mul_comm, Int.mul_left_comm]
theorem lo_less {a b c d : Int} (hb : 0 < b) (hd : 0 < d) : (lo a b).1 * (lo c d).2 < (lo c d).1 * (lo a b).2 ↔ a * d < c * b := by
  have b' := (lo_lowest (a := a) hb).1
  have d' := (lo_lowest (a := c) hd).1
  have e1 := lo_cross a b
  have e2 := lo_cross c d
  generalize (lo a b).1 = p at *
  generalize (lo a b).2 = q at *
  generalize (lo c d).1 = r at *
  generalize (lo c d).2 = t at *
  have h1 : (p * t) * (b * d) = (a * d) * (q * t) := by
    calc (p * t) * (b * d) = (p * b) * (t * d) := by simp only [Int.mul_assoc, Int.mul_comm, Int.mul_left_comm]
      _ = (a * q) * (t * d) := by rw [e1]
      _ = (a * d) * (q * t) := by simp only [Int.mul_assoc, Int.mul_comm, Int.mul_left_comm]
  have h2 : (r * q) * (b * d) = (c * b) * (q * t) := by
    calc (r * q) * (b * d) = (r * d) * (q * b) := by simp only [Int.mul_assoc, Int.mul_comm, Int.mul_left_comm]
      _ = (c * t) * (q * b) := by rw [e2]
      _ = (c * b) * (q * t) := by simp only [Int.mul_assoc, Int.mul_comm, Int.mul_left_comm]
  have pb : 0 < b * d := Int.mul_pos hb hd
  have pq : 0 < q * t := Int.mul_pos b' d'
  constructor
  · intro h
    have := Int.mul_lt_mul_of_pos_right h pb
    rw [h1, h2] at this
    exact Int.lt_of_mul_lt_mul_right this (Int.le_of_lt pq)
  · intro h
    have := Int.mul_lt_mul_of_pos_right h pq
    rw [← h1, ← h2] at this
    exact Int.lt_of_mul_lt_mul_right this (Int.le_of_lt pb)
def spMost (K : PySem.W.Frag) : Sp := fun vs H Q _ => ∃ a n k : Int, vs = [.int a, .int n, .int k] ∧ Bt 200 a ∧ Bt 200 n ∧ Bt 200 k ∧ NewT K H (lo (a * k * (n - k)) 2).1 (lo (a * k * (n - k)) 2).2 Q
def spLess (K : PySem.W.Frag) : Sp := fun vs H Q _ => ∃ u v a b c d, vs = [u, v] ∧ TupI K H u a b ∧ TupI K H v c d ∧ Bt 400000 a ∧ Bt 4400 b ∧ Bt 400000 c ∧ Bt 4400 d ∧ Q (.bl (decide (a * d < c * b))) H
/-! how long a repr is -/
theorem text_len : ∀ (ts : List Str) (k : Nat) (acc : Str), (textFrom k acc ts).length ≤ acc.length + piled ts
  | [], k, acc => by show acc.length ≤ _; omega
  | t :: r, k, acc => by
    have ih := text_len r (k + 1) (acc ++ (if k > 0 then ", " else "" : String) ++ t)
    have e : ((if k > 0 then ", " else "" : String) : Str).length ≤ 2 := by split <;> decide +kernel
    show (textFrom (k + 1) (acc ++ (if k > 0 then ", " else "" : String) ++ t) r).length ≤ _
    rw [strLen_append, strLen_append] at ih
    rw [piled_cons]
    omega
theorem shown_int_len {n : Nat} {i : Int} (hn : 0 < n) (h : Bt n i) : (PyData.shown (.int i)).length ≤ n + 1 := by
  have e := int_text_length_le (a := i) hn (PySem.Flt.log2_lt_of hn h)
  show (Str.ofString (toString i)).length ≤ n + 1
  rw [PySem.ofString_length]
  exact e
theorem shown_tup_len (ds : List PyData) : (PyData.shown (.tuple ds)).length ≤ piled (PyData.shownAll ds) + 2 := PySem.fmt_text _
theorem shown_lst_len (ds : List PyData) : (PyData.shown (.list ds)).length ≤ piled (PyData.shownAll ds) + 2 := by
  show (textFrom 0 "[" (PyData.shownAll ds) ++ ("]" : Str)).length ≤ _
  have h := text_len (PyData.shownAll ds) 0 "["
  have e1 : (("[" : String) : Str).length = 1 := rfl
  have e2 : (("]" : String) : Str).length = 1 := rfl
  rw [strLen_append]
  omega
/-- the pair as data -/
def pd (a b : Int) : PyData := .tuple [.int a, .int b]
theorem pd_len {n : Nat} {a b : Int} (hn : 0 < n) (h : Bt n a) (k : Bt n b) : (pd a b).shown.length ≤ 2 * n + 8 := by
  have e := shown_tup_len [.int a, .int b]
  have h1 := shown_int_len hn h
  have h2 := shown_int_len hn k
  have e2 : piled (PyData.shownAll [.int a, .int b]) = (PyData.shown (.int a)).length + 2 + ((PyData.shown (.int b)).length + 2 + 0) := by
    show piled [PyData.shown (.int a), PyData.shown (.int b)] = _
    rw [piled_cons, piled_cons, piled_nil]
  show (PyData.shown (.tuple [.int a, .int b])).length ≤ _
  omega
theorem bt_show {i : Int} (h : Bt 1900 i) : (PyData.int i).showable = true := decide_eq_true (Nat.lt_of_lt_of_le (PySem.Flt.log2_lt_of (by decide) h) (by decide))
theorem pd_show {a b : Int} (h : Bt 1900 a) (k : Bt 1900 b) : (pd a b).showable = true := by
  show ((PyData.int a).showable && ((PyData.int b).showable && true)) = true
  rw [bt_show h, bt_show k]
  rfl
theorem pd_dp {K : PySem.W.Frag} {H : Hp} {v : V} {a b : Int} (h : TupI K H v a b) : Dp K H v (pd a b) := by
  obtain ⟨t, rfl, h⟩ := h
  exact .tup h (.cons (.int a) (.cons (.int b) .nil))
def spIsR (K : PySem.W.Frag) : Sp := fun vs H Q _ => ∃ u v a b, vs = [u, v] ∧ TupI K H u a b ∧ TupI K H v a b ∧ Bt 1900 a ∧ Bt 1900 b ∧ Q (.bl true) H
def spNumW (lo_ hi_ : Int) : Sp := fun vs H Q _ => ∃ p, vs = [.ref p] ∧ PotAt H p ∧ ∀ i H', lo_ ≤ i → i < hi_ → SameX p H H' → PotAt H' p → Q (.int i) H'
def spMany : Sp := fun vs H Q _ => ∃ p m, vs = [.ref p, .int m] ∧ PotAt H p ∧ 0 ≤ m ∧ m < 1000 ∧ ∀ i H', 0 ≤ i → i ≤ m → SameX p H H' → PotAt H' p → Q (.int i) H'
/-! behind the last argument -/
theorem nil2 {σ : L2.St} {H : Hp} {F : List V → Hp → Prop} (h : F [] H) : tNil σ H F := h
/-! a value that stands for x / y -/
def Rp (K : PySem.W.Frag) (H : Hp) (v : V) (x y : Int) (n : Nat) : Prop := TupI K H v (lo x y).1 (lo x y).2 ∧ 0 < y ∧ Bt n x ∧ Bt n y
theorem Rp.same {K : PySem.W.Frag} {H H' : Hp} {v : V} {x y : Int} {n : Nat} (h : Rp K H v x y n) (s : Same H H') : Rp K H' v x y n := ⟨h.1.same s, h.2⟩
theorem Rp.k {K : PySem.W.Frag} {H H' : Hp} {v : V} {x y : Int} {n : Nat} (h : Rp K H v x y n) (s : KT H H') : Rp K H' v x y n := ⟨h.1.k s, h.2⟩
theorem Rp.x {K : PySem.W.Frag} {H H' : Hp} {p : Addr} {v : V} {x y : Int} {n : Nat} (h : Rp K H v x y n) (s : SameX p H H') (hp : PotAt H p) : Rp K H' v x y n := ⟨h.1.x s hp, h.2⟩
theorem Rp.mono {K : PySem.W.Frag} {H : Hp} {v : V} {x y : Int} {n m : Nat} (h : Rp K H v x y n) (k : n ≤ m) : Rp K H v x y m := ⟨h.1, h.2.1, h.2.2.1.mono k, h.2.2.2.mono k⟩
theorem Rp.of {K : PySem.W.Frag} {H : Hp} {v : V} {a b : Int} {n : Nat} (h : TupI K H v a b) (l : Lowest a b) (ba : Bt n a) (bb : Bt n b) : Rp K H v a b n := ⟨by rw [lo_of l]; exact h, l.1, ba, bb⟩
theorem Rp.same_as {K : PySem.W.Frag} {H : Hp} {v : V} {x y x' y' : Int} {n m : Nat} (h : Rp K H v x y n) (hy : 0 < y') (bx : Bt m x') (b_y : Bt m y') (e : x * y' = x' * y) : Rp K H v x' y' m :=
  ⟨by rw [← lo_congr h.2.1 hy e]; exact h.1, hy, bx, b_y⟩
section
variable {K : PySem.W.Frag} {H : Hp} {u v : V} {x y x' y' : Int} {n m : Nat} {Q : VK}
theorem plus_rp (h : Rp K H u x y n) (k : Rp K H v x' y' m) (hn : n ≤ 4400) (hm : m ≤ 4400) (q : ∀ w H', Same H H' → Rp K H' w (x * y' + x' * y) (y * y') (n + m + 1) → Q w H') :
    spTwo K (fun a b c d => lo (a * d + c * b) (b * d)) [u, v] H Q E0 := by
  refine ⟨u, v, _, _, _, _, rfl, h.1, k.1, (lo_lowest h.2.1).1, (lo_lowest k.2.1).1, (Bt.lo1 h.2.2.1).mono (by omega), (Bt.lo2 h.2.2.2).mono hn, (Bt.lo1 k.2.2.1).mono (by omega), (Bt.lo2 k.2.2.2).mono hm, fun w H' s hw => q w H' s ⟨?_, Int.mul_pos h.2.1 k.2.1, ?_, ?_⟩⟩
  · have e : pl (lo x y) (lo x' y') = lo (x * y' + x' * y) (y * y') := lo_pl h.2.1 k.2.1
    have hw : TupI K H' w (pl (lo x y) (lo x' y')).1 (pl (lo x y) (lo x' y')).2 := hw
    rw [e] at hw
    exact hw
  · exact (h.2.2.1.mul k.2.2.2).add ((k.2.2.1.mul h.2.2.2).mono (by omega))
  · exact (h.2.2.2.mul k.2.2.2).mono (by omega)
theorem times_rp {i : Int} (h : Rp K H u x y n) (bi : Bt m i) (hn : n ≤ 4400) (hm : m ≤ 4400) (q : ∀ w H', Same H H' → Rp K H' w (x * i) y (n + m) → Q w H') : spTimes K [u, .int i] H Q E0 := by
  refine ⟨u, _, _, i, rfl, h.1, (lo_lowest h.2.1).1, (Bt.lo1 h.2.2.1).mono (by omega), (Bt.lo2 h.2.2.2).mono hn, bi.mono (by omega), fun w H' s hw => q w H' s ⟨?_, h.2.1, h.2.2.1.mul bi, h.2.2.2.mono (by omega)⟩⟩
  rw [lo_times h.2.1] at hw
  exact hw
theorem less_rp (h : Rp K H u x y n) (k : Rp K H v x' y' m) (hn : n ≤ 4400) (hm : m ≤ 4400) (q : Q (.bl (decide (x * y' < x' * y))) H) : spLess K [u, v] H Q E0 := by
  refine ⟨u, v, _, _, _, _, rfl, h.1, k.1, (Bt.lo1 h.2.2.1).mono (by omega), (Bt.lo2 h.2.2.2).mono hn, (Bt.lo1 k.2.2.1).mono (by omega), (Bt.lo2 k.2.2.2).mono hm, ?_⟩
  rw [decide_eq_decide.mpr (lo_less h.2.1 k.2.1)]
  exact q
theorem most_rp {a b c : Int} (ba : Bt 200 a) (bb : Bt 200 b) (bc : Bt 200 c) (q : ∀ w H', Same H H' → Rp K H' w (a * c * (b - c)) 2 700 → Q w H') : spMost K [.int a, .int b, .int c] H Q E0 :=
  ⟨a, b, c, rfl, ba, bb, bc, fun w H' s hw => q w H' s ⟨hw, by decide, ((ba.mul bc).mul (bb.sub bc)).mono (by decide), by unfold Bt; decide +kernel⟩⟩
theorem low_rp {a b : Int} (hb : 0 < b) (ba : Bt n a) (bb : Bt n b) (hn : n ≤ 8999) (q : ∀ w H', Same H H' → Rp K H' w a b n → Q w H') : spLow K [.int a, .int b] H Q E0 :=
  ⟨a, b, rfl, hb, bb.mono hn, fun w H' s hw => q w H' s ⟨hw, hb, ba, bb⟩⟩
theorem is_rp (h : Rp K H u x y n) (k : Rp K H v x' y' m) (hn : n ≤ 1900) (e : x * y' = x' * y) (q : Q (.bl true) H) : spIsR K [u, v] H Q E0 := by
  refine ⟨u, v, _, _, rfl, h.1, ?_, (Bt.lo1 h.2.2.1).mono hn, (Bt.lo2 h.2.2.2).mono hn, q⟩
  rw [lo_congr h.2.1 k.2.1 e]
  exact k.1
theorem eqd_rp (h : Rp K H u x y n) (k : Rp K H v x' y' m) (e : x * y' = x' * y) : ∃ d d', Dp K H u d ∧ Dp K H v d' ∧ SeqAt.shaped d = true ∧ SeqAt.shaped d' = true ∧ PyData.eqv d d' = true := by
  have k1 := k.1
  rw [← lo_congr h.2.1 k.2.1 e] at k1
  exact ⟨_, _, pd_dp h.1, pd_dp k1, rfl, rfl, eqv_pair _ _⟩
end
end WS
set_option Elab.async false
set_option linter.all false
set_option maxRecDepth 100000
set_option maxHeartbeats 4000000
namespace WS
open PySem PySem.Spec PyProof.Rows L2
/-! ### sorted(range(len(xs)), key=lambda place: (-xs[place], place)) -/
open PySem.W in
/-- the lambda called on the place i -/
theorem lam_key {prog : Program} {w : World} {A : Around} {s : Shared} {f c' c l : Addr} {q : Str} {params : Arguments} {scope : Scope} {clo : List (Str × Addr)} {pm ctv : Value} {i : Nat} {ti tz : Tok} {z : Int} {its : List Value} {xs pl : Str} {p1 p2 p3 p4 p5 p6 : Pos} {k : Nat}
    (hf : s.heap.get? f = some (kla_obj "<lambda>" q params (.Tuple [.UnaryOp .USub (.Subscript (.Name xs p1) (.Name pl p2) p3) p4, .Name pl p5] k p6) scope clo pm c' ctv))
    (hcode : s.heap.CodeRec (.ref c') q) (hdepth : A.depth < recursionLimit) (lim : s.heap.NoLimit)
    (hbind : ∀ v : Value, bindArgs (kla_fn "<lambda>" q params (.Tuple [.UnaryOp .USub (.Subscript (.Name xs p1) (.Name pl p2) p3) p4, .Name pl p5] k p6) scope clo pm (.ref c') ctv) ⟨[v], []⟩ = pure [(pl, v)])
    (hk : scope.kind = .function) (hco : scope.isCoroutine = false) (hgen : scope.isGenerator = false) (hnc : ∀ y ∈ scope.names, y.2 ≠ .cell)
    (hpl : scope.names.lookup pl = some .local) (hxs : scope.names.lookup xs = some .free) (hclo : clo.lookup xs = some c) (hcell : s.heap.IsCell c (some (.ref l)))
    (hl : s.heap.IsList l its.toArray) (hi : its[i]? = some (.int z tz)) (hi63 : (i : Int) < 2 ^ 63)
    (hd1 : (xs == ("__debug__" : Str)) = false) (hd2 : (pl == ("__debug__" : Str)) = false) (hd3 : (xs == ("__classdict__" : Str)) = false) :
    wpAny (model prog w) A (call (.ref f) [.int i ti]) (KeyPure (.tuple [.int (-z), .int i]) s) (fun _ _ => False) s := by
  refine wpAny_call (kla_callFunE hdepth hf rfl hco hgen rfl hcode ?_)
  rw [hbind]
  refine wpAny_pure (wpAny_newFunctionEnv hnc (fun y hy => ?_) (fun h₁ hns hsb => ⟨lim.fresh _ hsb, ?_⟩) hk)
  · obtain rfl := List.mem_singleton.mp hy
    exact hpl
  have kp : ∀ b o, s.heap.get? b = some o → h₁.get? b = some o := fun b o e => hsb.extBut b o (Nat.ne_of_lt (Heap.lt_size e)) (Heap.get?_push_of_some _ e)
  refine kla_codeExpr ?_
  refine wpAny_Tuple (Calls.spliced_cons ?_)
  have look : ∀ {h : Heap} {t : Nat} {Q : Value → Shared → Prop} {E : Value → Shared → Prop} {p : Pos}, h.Ns s.heap.objs.size (fun x => [(pl, Value.int (i : Int) ti)].reverse.lookup x) → Q (.int i ti) { s with heap := h, toks := t } →
      wpAny (model prog w) (A.deeper (newEnv scope s.heap.objs.size mainGlobals clo (q ++ ".<locals>.") (some f) (.ref c') none builtinsNs)) (eval (.Name pl p) (newEnv scope s.heap.objs.size mainGlobals clo (q ++ ".<locals>.") (some f) (.ref c') none builtinsNs)) Q E { s with heap := h, toks := t } := by
    intro h t Q E p hn hq
    exact wpAny_Name (wpAny_loadName_local hk hpl hn (by simp) hq) hd2
  refine wpAny_UnaryOp (wpAny_Subscript_Name (T := "list") F.slot_list_getitem.lookup ?_)
  refine wpAny_Name (wpAny_loadName_free hk hxs hclo (v := .ref l) ?_ ?_ hd3) hd1
  · obtain ⟨o, e, d⟩ := hcell
    exact ⟨o, kp _ _ e, d⟩
  refine look hns ?_
  obtain ⟨o, e1, e2, no, e3⟩ := hl
  have hl' : h₁.IsList l its.toArray := ⟨o, kp _ _ e1, e2, no, e3⟩
  refine ⟨⟨o, kp _ _ e1, e2⟩, getItem_listL hl' (by omega) hi63 (by simpa using hi) (neg_int ?_)⟩
  refine Calls.spliced_cons (look hns ?_)
  refine Calls.spliced_nil ⟨by show 2 ≤ sizeLine; decide, _, _, rfl, fun b o e => Heap.get?_push_of_some _ (kp b o e), ?_⟩
  exact Reads.tuple (as := []) (Heap.get?_push_size _ rfl) rfl rfl (.cons (.int _ _) (.cons (.int _ _) .nil))
/-- the places by their numbers, the greatest first, of equal ones the lesser -/
def Ranked (es : List Int) (ord : List Nat) : Prop := ord.Perm (List.range es.length) ∧ ord.Pairwise fun i j => es.getD j 0 < es.getD i 0 ∨ (es.getD i 0 = es.getD j 0 ∧ i < j)
def keyD (es : List Int) (j : Nat) : PyData := .tuple [.int (-(es.getD j 0)), .int j]
theorem ranked_sort (es : List Int) : Ranked es ((List.range es.length).mergeSort (PySem.W.dataLe false (keyD es))) := by
  have e : PySem.W.dataLe false (keyD es) = fun p q : Nat => decide (-(es.getD p 0) < -(es.getD q 0) ∨ (-(es.getD p 0) = -(es.getD q 0) ∧ (p : Int) ≤ q)) := PySem.W.dataLe_ii (fun j : Nat => -(es.getD j 0)) (fun j : Nat => (j : Int))
  rw [e]
  refine ⟨List.mergeSort_perm _ _, ?_⟩
  have sd : List.Pairwise (fun p q : Nat => decide (-(es.getD p 0) < -(es.getD q 0) ∨ (-(es.getD p 0) = -(es.getD q 0) ∧ (p : Int) ≤ q)) = true) ((List.range es.length).mergeSort fun p q : Nat => decide (-(es.getD p 0) < -(es.getD q 0) ∨ (-(es.getD p 0) = -(es.getD q 0) ∧ (p : Int) ≤ q))) := by
    refine List.pairwise_mergeSort (fun a b c h1 h2 => ?_) (fun a b => ?_) _
    · have h1 := of_decide_eq_true h1
      have h2 := of_decide_eq_true h2
      exact decide_eq_true (by omega)
    · rw [Bool.or_eq_true, decide_eq_true_eq, decide_eq_true_eq]
      omega
  have nd : ((List.range es.length).mergeSort fun p q : Nat => decide (-(es.getD p 0) < -(es.getD q 0) ∨ (-(es.getD p 0) = -(es.getD q 0) ∧ (p : Int) ≤ q))).Nodup := (List.mergeSort_perm _ _).nodup_iff.mpr List.nodup_range
  refine (sd.and nd).imp fun {a b} ⟨h, n⟩ => ?_
  have h := of_decide_eq_true h
  have n : a ≠ b := n
  omega
theorem each_range {vs : Array Value} {n : Nat} (h : ItemsOf (fun i v => ∃ t, v = .int (0 + i * 1) t) vs n) : PySem.W.EachIs (fun (v : Value) (j : Nat) => ∃ t, v = .int j t) vs.toList (List.range n) := by
  have go : ∀ (l : List Value) (k : Nat), (∀ j v, l[j]? = some v → ∃ t, v = Value.int ((k + j : Nat) : Int) t) → PySem.W.EachIs (fun (v : Value) (j : Nat) => ∃ t, v = .int j t) l (List.range' k l.length) := by
    intro l
    induction l with
    | nil => intro k _; exact .nil
    | cons v r ih =>
      intro k hk
      refine .cons (by simpa using hk 0 v rfl) (ih (k + 1) fun j u e => ?_)
      obtain ⟨t, e2⟩ := hk (j + 1) u (by simpa using e)
      exact ⟨t, by rw [e2]; congr 1; omega⟩
  have e : n = vs.toList.length := by rw [Array.length_toList]; exact h.1.symm
  rw [List.range_eq_range', e]
  refine go _ 0 fun j v hj => ?_
  obtain ⟨t, e⟩ := h.2 j v (by simpa using hj)
  exact ⟨t, by rw [e]; congr 1; omega⟩
open PySem.W in
/-- sorted(range(n), key=f) -/
theorem sorted_range {prog : Program} {w : World} {A : Around} {E : Value → Shared → Prop} {s : Shared} {r f : Addr} {n : Nat} {t u v : Tok} {Q : Value → Shared → Prop} (k : Nat → PyData) (hh : A.handled = none) (hr : IsRange s.heap r 0 n 1 t u v) (hn : n ≤ 1000000)
    (hal : AllAlike ((List.range n).map k)) (hk : Sortable ((List.range n).map k)) (hu : ∀ x, x ∈ List.range n → A.units + 2 + (k x).depth < cLine)
    (turn : ∀ (ti : Tok) (x : Nat), x < n → ∀ (h : Heap) (tk : Nat), (∀ b o, s.heap.get? b = some o → h.get? b = some o) →
      wpAny (model prog w) A.in1.in1 (call (.ref f) [.int x ti]) (KeyPure (k x) { s with heap := h, toks := tk }) (fun _ _ => False) { s with heap := h, toks := tk })
    (h : ∀ out c h' tk p, (∀ b o, s.heap.get? b = some o → h'.get? b = some o) → s.heap.get? p = none → h'.get? p = some (seqObj "list" (List.toArray out) c) → out.length = n →
      EachIs (fun (v : Value) (j : Nat) => ∃ t, v = .int j t) out ((List.range n).mergeSort (dataLe false k)) → Q (.ref p) { s with heap := h', toks := tk }) :
    wpAny (model prog w) A (call (.builtin "sorted") [.ref r] [(Str.ofString "key", .ref f)]) Q E s := by
  refine call_function_entry_kw kind_sorted plain_sorted entry_sorted (ksk_s1 _ _) ?_
  unfold Builtin.«sorted»
  refine wpAny_bind (m := checkCount "sorted" 1 1 _) (wpAny_pure ?_)
  have hs24 : n ≤ 2 ^ 24 := by omega
  have hsz : n ≤ sizeLine := by rw [sizeLine_eq]; omega
  refine wpAny_bind (L2.collect_range (n := n) hh hr (small_one (by omega) (by omega) (by omega) (by omega)) (by have := rangeSize_nat 0 (n : Int); simpa using this) hs24 fun h1 tk1 acc kp1 hacc => ?_)
  have ea := each_range hacc
  have hla : acc.toList.length = n := by rw [Array.length_toList]; exact hacc.1
  refine wpAny_bind (wpAny_newList ?_ (by rw [hla]; exact hsz))
  have hL : (h1.push (seqObj "list" acc.toList.toArray 0)).get? h1.objs.size = some (seqObj "list" acc.toList.toArray 0) := Heap.get?_push_size _ rfl
  have kp2 : ∀ b o, s.heap.get? b = some o → (h1.push (seqObj "list" acc.toList.toArray 0)).get? b = some o := fun b o e => Heap.get?_push_of_some _ (kp1 b o e)
  have ge : s.heap.get? h1.objs.size = none := by
    cases z : s.heap.get? h1.objs.size with
    | none => rfl
    | some o => exact absurd (Heap.lt_size (kp1 _ _ z)) (Nat.lt_irrefl _)
  refine wpAny_bind (wpAny_holding (wpAny_call_entry_kw slot_list_sort ⟨_, hL, rfl⟩ entry_list_sort ?body (ksk_l1 _ _)))
  case body =>
    rw [ksk_t1]
    have up : ∀ {g : Heap}, KeepsBut h1.objs.size (h1.push (seqObj "list" acc.toList.toArray 0)) g → ∀ b o, s.heap.get? b = some o → g.get? b = some o := fun {g} kp b o q => kp b o (Nat.ne_of_lt (Heap.lt_size (kp1 b o q))) (kp2 b o q)
    refine keyH_tree (kz := (List.range n).map k) (s := { s with heap := h1.push (seqObj "list" acc.toList.toArray 0), toks := tk1 }) hL (by rw [List.length_map, List.length_range, hla]) (by rw [hla]; exact hsz) hal hk (bound_map (A := A.in1.in1) hu)
      (keyH_turns (s := { s with heap := h1.push (seqObj "list" acc.toList.toArray 0), toks := tk1 }) ea fun v x hR hx h tk kp => ?_) fun h' tk out c kp hD ko => ?_
    · obtain ⟨ti, rfl⟩ := hR
      exact turn ti x (List.mem_range.mp hx) h tk (up kp)
    · refine ⟨_, rfl, wpAny_pure ⟨_, rfl, ?_⟩⟩
      exact h out c h' tk _ (up kp) ge hD ((ko.length (by rw [List.length_map, List.length_range, hla])).trans hla) (keyedOut_each k ko ea)

theorem obj_there {P : Program} {w : World} {H : Hp} {h : Heap} {a : Addr} {o : HO} (x : ObjOk P w H h a o) : ∃ u, h.get? a = some u := by
  cases o with
  | lst xs => obtain ⟨_, _, _, _, e⟩ := x; exact ⟨_, e⟩
  | tup xs => obtain ⟨_, _, _, _, e, _⟩ := x; exact ⟨_, e⟩
  | dK kvs => obtain ⟨_, _, _, _, o, _, _, e, _⟩ := x; exact ⟨_, e⟩
  | dT kvs => obtain ⟨_, _, _, _, o, _, _, e, _⟩ := x; exact ⟨_, e⟩
  | set S n => obtain ⟨o, _, _, _, e, _⟩ := x; exact ⟨_, e⟩
  | ins C dx fs => obtain ⟨_, _, _, e, _⟩ := x; exact ⟨_, e⟩
  | own y => obtain ⟨_, e⟩ := x; exact ⟨_, e⟩
  | xd fs => obtain ⟨_, ⟨_, _, _, e, _⟩, _⟩ := x; exact ⟨_, e⟩
  | rng lo hi => obtain ⟨_, _, _, e⟩ := x; exact ⟨_, e⟩
  | frz ob u => obtain ⟨e, _⟩ := x; exact ⟨_, e⟩
  | tbl ps => exact ⟨_, x⟩
  | met f y => exact ⟨_, x⟩
  | ext φ => obtain ⟨_, ⟨_, e⟩, _⟩ := x; exact ⟨_, e⟩
theorem cr_range1 {X : Cx} : CallR X (.type "range") (fun vs H Q => ∃ j, vs = [V.int j] ∧ ∀ p, H p = none → Q (.ref p) (upd H p (.rng 0 j))) := by
  intro pins s σ H vs us Q I r h
  obtain ⟨j, rfl, q⟩ := h
  obtain ⟨u1, rfl, ri⟩ := vals1 r
  obtain ⟨t, rfl⟩ := ri
  refine call_range_1 ⟨.ref s.heap.objs.size, upd H s.heap.objs.size (.rng 0 j), I.laid (t' := s.toks + 2) (fun b o e => Heap.get?_push_of_some _ e) (Nat.le_refl _) ?_, rfl, q _ (I.hok.fresh (Nat.le_refl _))⟩
  exact ⟨_, _, _, Heap.get?_push_size _ rfl⟩
theorem vals_at : ∀ {xs : List V} {us : List Value} {i : Nat} {v : V}, Vals xs us → xs[i]? = some v → ∃ u, us[i]? = some u ∧ RelV v u
  | _, _, 0, v, .cons r _, e => ⟨_, rfl, by simp at e; subst e; exact r⟩
  | _, _, i + 1, v, .cons _ t, e => by
    obtain ⟨u, e1, e2⟩ := vals_at t (by simpa using e)
    exact ⟨u, by simpa using e1, e2⟩
theorem vals_each : ∀ {out : List Value} {ord : List Nat}, PySem.W.EachIs (fun (v : Value) (j : Nat) => ∃ t, v = .int j t) out ord → Vals (ord.map fun j : Nat => V.int j) out
  | _, _, .nil => .nil
  | _, _, .cons ⟨t, e⟩ r => .cons ⟨t, e⟩ (vals_each r)
abbrev keyBody (xs pl : Str) (p1 p2 p3 p4 p5 p6 : Pos) (k : Nat) : Expr := .Tuple [.UnaryOp .USub (.Subscript (.Name xs p1) (.Name pl p2) p3) p4, .Name pl p5] k p6
def tSrt (T : List (Addr × Str)) (i : Nat) (tr : TE) : TE := fun σ H Q => tr σ H fun v H1 => ∃ (r l : Addr) (es : List Int), v = .ref r ∧ H1 r = some (.rng 0 es.length) ∧ σ[i]? = some (some (.ref l)) ∧ H1 l = some (.lst (es.map V.int)) ∧ es.length ≤ 1000000 ∧ LamX.Tabs T H1 ∧
  ∀ H2 p ord, LamX.ExtN H1 H2 → LamX.Tabs T H2 → H2 p = none → Ranked es ord → Q (.ref p) (upd H2 p (.lst (ord.map fun j : Nat => V.int j)))
theorem pe_sortedLam {X : Cx} {T : List (Addr × Str)} {tr : TE} {er : Expr} {xs pl : Str} {params : Arguments} {scope : Scope} {c P : Addr} {i k m : Nat} {p pos lpos kpos p1 p2 p3 p4 p5 p6 : Pos}
    (hcalm : X.calm = true) (hg : Gl X "sorted") (hm : X.mg "sorted" = none) (hr : PE X er tr) (room : Room m X.A)
    (TB : LamX.TabB X.base X.mg c P) (hcode : X.env.code = .ref c) (hmT : (P, X.env.qual ++ "<lambda>") ∈ T) (hu : ∀ p ∈ T, p.1 = P → p.2 = X.env.qual ++ "<lambda>")
    (hN : X.N[i]? = some xs) (hv : X.env.scope.names.lookup xs = some .cell) (hdef : defaultsOf params X.env = ([], []))
    (hbind : ∀ (q : Str) (cl : List (Str × Addr)) (pm cv ctv v : Value), bindArgs (PySem.W.kla_fn "<lambda>" q params (keyBody xs pl p1 p2 p3 p4 p5 p6 k) scope cl pm cv ctv) ⟨[v], []⟩ = pure [(pl, v)])
    (hk : scope.kind = .function) (hco : scope.isCoroutine = false) (hgen : scope.isGenerator = false) (hnames : scope.names = [(pl, .local), (xs, .free)]) (hne : (pl == xs) = false)
    (hd1 : (xs == ("__debug__" : Str)) = false) (hd2 : (pl == ("__debug__" : Str)) = false) (hd3 : (xs == ("__classdict__" : Str)) = false)
    (na : backTo pos (starEach [er] X.env) = (false, eval er X.env) :: backTo pos (starEach [] X.env) := by rfl) :
    PE X (.Call (.Name "sorted" p) [er] [⟨some "key", .Lambda params (keyBody xs pl p1 p2 p3 p4 p5 p6 k) scope lpos, kpos⟩] pos) (tSrt T i tr) := by
  refine ⟨fun pins s σ H Q I h => ?_⟩
  have hne2 : (xs == pl) = false := by
    rw [beq_eq_false_iff_ne] at hne ⊢
    exact fun z => hne z.symm
  refine wpAny_Call_Name_kw (ld_blt I hg hm (by rfl) ?_)
  refine PyProof.Rows.callWith_kw ?_ na (by rw [na]; rfl)
  rw [na]
  refine Calls.spliced_cons (thn (hr.run pins s σ H _ I h) fun u s1 ⟨v, H1, I1, r1, q1⟩ => ?_)
  obtain ⟨r, l, es, rfl, hrng, hσ, hlst, hlen, hT, q⟩ := q1
  obtain rfl : u = Value.ref r := r1
  refine Calls.spliced_nil ?_
  show wpAny _ _ (evalAll [do let v ← eval (.Lambda params (keyBody xs pl p1 p2 p3 p4 p5 p6 k) scope lpos) X.env; standAt pos; pure v]) _ _ _
  refine evalAll_cons (wpAny_bind (LamX.lam_make2 I1 TB hcode hmT hu hT hdef (fun y hy e => ?_) fun f c' pm ctv H2 s2 I2 eN T2 hf hfn hfr hco' => wpAny_bind (wpAny_standAt (wpAny_pure (evalAll_nil ?_)))))
  · rw [hnames] at hy
    simp only [List.mem_cons, List.not_mem_nil, or_false] at hy
    rcases hy with rfl | rfl
    · cases e
    · exact I1.ok.has _ (.inl hv)
  show wpAny _ _ (call (.builtin "sorted") [.ref r] [(Str.ofString "key", .ref f)]) _ _ _
  have hrng2 := eN _ _ hrng (fun ps z => by cases z)
  have hlst2 := eN _ _ hlst (fun ps z => by cases z)
  obtain ⟨t, u, v, hro⟩ := I2.hok r _ hrng2
  obtain ⟨hz, its, n, hvals, hlo⟩ := I2.hok l _ hlst2
  obtain ⟨⟨oc, vs, tq, c1, c2, c3⟩, _, _⟩ := I2.hok c' _ hco'
  obtain ⟨mm, _, hloc⟩ := I2.loc
  obtain ⟨ul, ru, hlook⟩ := hloc i xs _ hN hσ (.inr (.inl hv))
  obtain rfl : ul = Value.ref l := ru
  obtain ⟨cc, hcc, hcell⟩ : ∃ c, X.env.cells.lookup xs = some c ∧ s2.heap.IsCell c (some (.ref l)) := by
    rcases hlook with ⟨z, _⟩ | ⟨_, z⟩
    · have z : X.env.scope.names.lookup xs = some .local := z
      rw [hv] at z
      cases z
    · exact z
  have hclo : (cloFrom X.env.cells scope.names []).lookup xs = some cc := by
    rw [hnames]
    show (cloFrom X.env.cells [(pl, NameKind.local), (xs, NameKind.free)] []).lookup xs = some cc
    simp [cloFrom, hcc]
  refine sorted_range (n := es.length) (keyD es) (I.ok.hd hcalm) (r := r) hro hlen ?_ ?_ ?_ ?_ ?_
  · intro d hd d' hd'
    obtain ⟨a, _, rfl⟩ := List.mem_map.mp hd
    obtain ⟨b, _, rfl⟩ := List.mem_map.mp hd'
    simp [keyD, PySem.W.alike, PySem.W.alikeAll]
  · refine .inl fun d hd => ?_
    obtain ⟨a, _, rfl⟩ := List.mem_map.mp hd
    exact ⟨_, _, rfl⟩
  · intro x _
    have := room.un
    have e : (keyD es x).depth ≤ 10 := by simp [keyD, PyData.depth, PyData.depthAll]
    omega
  · intro ti x hx h tk kp
    have hz' : (es.map V.int)[x]? = some (.int (es.getD x 0)) := by
      rw [List.getElem?_map, List.getElem?_eq_getElem hx, List.getD_eq_getElem?_getD, List.getElem?_eq_getElem hx]
      rfl
    obtain ⟨u, hu1, tz, rfl⟩ := vals_at hvals hz'
    refine lam_key (s := { s2 with heap := h, toks := tk }) (c := cc) (l := l) (its := its) (kp _ _ hf) ⟨c', oc, vs, tq, rfl, kp _ _ c1, c2, c3⟩ (by have := room.dp; show X.A.depth < _; omega) (I2.nolimit.keeps kp) (fun v => hbind _ _ _ _ _ v) hk hco hgen (fun y hy => ?_) ?_ ?_ hclo ?_ ⟨_, kp _ _ hlo, rfl, n, rfl⟩ hu1 (by omega) hd1 hd2 hd3
    · rw [hnames] at hy
      simp only [List.mem_cons, List.not_mem_nil, or_false] at hy
      rcases hy with rfl | rfl <;> exact fun z => by cases z
    · rw [hnames]
      simp
    · rw [hnames]
      simp [List.lookup, hne2]
    · obtain ⟨o, e, d⟩ := hcell
      exact ⟨o, kp _ _ e, d⟩
  · intro out c h' tk p kp fresh hp hout each
    have nH : H2 p = none := by
      cases z : H2 p with
      | none => rfl
      | some o =>
        obtain ⟨u, e⟩ := obj_there (I2.hok p o z)
        rw [fresh] at e
        cases e
    have rk := ranked_sort es
    refine ⟨.ref p, _, Inv.laidN I2 kp fresh nH ?_, rfl, q H2 p _ eN T2 nH rk⟩
    refine ⟨?_, out, c, vals_each each, hp⟩
    rw [List.length_map, List.length_mergeSort, List.length_range, sizeLine_eq]
    omega
end WS
set_option Elab.async false
set_option linter.all false
set_option maxRecDepth 100000
set_option maxHeartbeats 4000000
namespace WS
open PySem PySem.Spec PyProof.Rows L2
/-! ### a def whose code object is known; the end of a law with one table -/
theorem fun_cd {CX : CXT} {P : Program} {w : World} {K : PySem.W.Frag} {mg : Str → Option Value} {base : Heap} {x qual : Str} {st : Stmt} {f : Addr} {fd : FuncData} {N ps : List Str} {k : Nat} {sp : Sp}
    (F : Fun K x qual st f fd) (S : FnScope N ps (defScope st)) (len : ∀ vs H Q E, sp vs H Q E → vs.length = ps.length)
    (B : ∀ (cdv : Value) (A : Around) (outer : List Env) (s : Shared) (H : Hp) (vs : List V) (Q : VK) (E : XK), fd.code = cdv → Room k (A.deeper (envOfC qual (defScope st) s.heap.objs.size f cdv)) → sp vs H Q E →
      ∃ t, PSs (cxOf CX P w K mg base N qual (defScope st) f cdv A outer s H E) (defBody st) t ∧ t ⟨fun _ H' => Q .non H', Q, fun _ _ => False, fun _ _ => False⟩ (start N vs) H) : FnOk P w K mg base CX (k + 1) f fd ps sp := by
  obtain ⟨oc, od, kV, doc, pm, an, cdv, ct, osl, rfl, lk, code⟩ := F.ex
  exact fn_of lk code S len (fun A outer s H vs Q E hr h => B cdv A outer s H vs Q E rfl hr h)
theorem begin_tab {P : Program} {w : World} {K : PySem.W.Frag} {mg mb : Str → Option Value} {k : Nat} {fa a c0 P0 : Addr} {fd : FuncData} {x : Str} {sp : Sp} {s : Shared} {vs : List Value} {H : Hp}
    (inK : K.In s.heap) (gns : s.heap.Ns mainGlobals mg) (bns : s.heap.Ns builtinsNs mb) (bb : ∀ x : Str, x ≠ "__name__" → mb x = bootBuiltins x) (lim : s.heap.NoLimit) (nogen : s.gens = #[])
    (hT : s.heap.get? P0 = some { cls := .none, data := .fields #[] }) (nT : K.lookup P0 = none) (C : PySem.W.CodeHd s.heap c0 P0)
    (hbm : ∃ (bm : Addr) (ob : Obj), mg "__builtins__" = some (.ref bm) ∧ bm ≠ builtinsNs ∧ s.heap.get? bm = some ob ∧ ob.cls = .type "module" ∧ ob.dict = some builtinsNs ∧ ob.data = .plain)
    (script : s.heap.get? a = some { cls := .type "list", data := .seq vs.toArray }) (room : Room k callerA)
    (F : ∀ base : Heap, K.In base → base.Ns mainGlobals mg → LamX.TabB base mg c0 P0 → FnAt callerA P w K mg base CX0 k fa fd [x] sp) (bind1 : ∀ (s : Shared) (u : Value), BindsTo s fd ⟨[u], []⟩ [(x, u)])
    (only : ∀ b u, H b = some u → (b = a ∧ K.lookup a = none ∧ ∃ o xs, u = .frz o (.lst xs)) ∨ b = P0) (tab : H P0 = some (.tbl #[])) (fits : HOk P w H s.heap)
    (want : sp [.ref a] H (fun v _ => v = .bl true) fun _ _ _ => False) :
    codeAny (model P w) callerA (.call (.ref fa) ⟨[.ref a], []⟩) (fun r s' => r = .ok (.ret (.bool true)) ∧ OldK s.heap s'.heap ∧ s'.os = s.os ∧ AllBare s'.gens) s := by
  have noD : ∀ {b : Addr} {o : Obj}, s.heap.get? b = some o → (∀ vs n, o.data ≠ .seq vs n) → o.data ≠ .fields #[] → H b = none := by
    intro b o e h1 h2
    cases z : H b with
    | none => rfl
    | some u =>
      rcases only b u z with ⟨rfl, _⟩ | rfl
      · rw [script] at e
        cases e
        exact (h1 _ _ rfl).elim
      · rw [hT] at e
        cases e
        exact (h2 rfl).elim
  have nsb : ∀ {b : Addr} {m : Str → Option Value}, s.heap.Ns b m → (hidT s.heap H).Ns b m := by
    rintro b m ⟨o, es, ep, e, de, rest⟩
    exact ⟨o, es, ep, hidT_get e (noD e (fun vs n z => by rw [de] at z; cases z) (fun z => by rw [de] at z; cases z)), de, rest⟩
  have kb : K.In (hidT s.heap H) := by
    intro b o e
    refine hidT_get (inK b o e) ?_
    cases z : H b with
    | none => rfl
    | some u =>
      rcases only b u z with ⟨rfl, nk, _⟩ | rfl
      · rw [nk] at e
        cases e
      · rw [nT] at e
        cases e
  obtain ⟨mc, l1, l2⟩ := lim
  have modu : Mod K mg (hidT s.heap H) := ⟨kb, nsb gns, ⟨mb, nsb bns, bb⟩, ⟨mc, nsb l1, l2⟩⟩
  have noEnv : ∀ b ∈ frs [], H b = none := fun b z => absurd (show b ∈ ([] : List Addr) from z) List.not_mem_nil
  have env0 : Env0 P w K mg (hidT s.heap H) callerA [] s H := ⟨rfl, modu, fun b o e => of_hidT e, Nat.le_of_eq (hidT_size _ _), trivial, noEnv, fits, .of_eq nogen⟩
  have TB : LamX.TabB (hidT s.heap H) mg c0 P0 := by
    refine ⟨?_, ?_, fun z => ?_⟩
    · obtain ⟨o, us, file, tf, flags, tg, inF, text, tt, e1, r1, r2, r3, r4, r5, r6, r7, r8, hne⟩ := C
      refine ⟨o, us, file, tf, flags, tg, inF, text, tt, hidT_get e1 (noD e1 (fun vs n z => ?_) fun z => ?_), r1, r2, r3, r4, r5, r6, r7, r8, hne⟩
      · rw [r2] at z
        cases z
      · rw [r2] at z
        cases z
        simp at r3
    · obtain ⟨bm, ob, b1, b2, b3, b4, b5, b6⟩ := hbm
      have nG : bm ≠ mainGlobals := fun q => by
        obtain ⟨o, es, ep, e, hd, _⟩ := gns
        rw [q, e] at b3
        cases b3
        rw [hd] at b6
        cases b6
      have nP : bm ≠ P0 := fun q => by
        rw [q, hT] at b3
        cases b3
        cases b6
      exact ⟨bm, ob, b1, b2, nG, nP, hidT_get b3 (noD b3 (fun vs n z => by rw [b6] at z; cases z) fun z => by rw [b6] at z; cases z), b4, b5, b6⟩
    · obtain ⟨o, es, ep, e, hd, _⟩ := gns
      rw [z, hT] at e
      cases e
      cases hd
  refine codeAny_mono ((F _ kb (nsb gns) TB).go [] s H ⟨[.ref a], []⟩ [.ref a] [.ref a] _ _ room env0 (bind1 s (.ref a)) (.cons rfl .nil) want) ?_
  intro r s' z
  match r, z with
  | .error er, z => exact z.elim
  | .ok .next, z => exact z.elim
  | .ok .brk, z => exact z.elim
  | .ok .cont, z => exact z.elim
  | .ok (.ret u), ⟨v, H', os, bare, un, fits', rel, q⟩ =>
    have q : v = .bl true := q
    subst q
    obtain rfl : u = Value.bool true := rel
    have key : ∀ b o, b ≠ P0 → s.heap.get? b = some o → s'.heap.get? b = some o := by
      intro b o nb e
      cases zb : H b with
      | none => exact un.keep b o e zb (fun z => absurd (show b ∈ ([] : List Addr) from z) List.not_mem_nil) List.not_mem_nil
      | some u =>
        rcases only b u zb with ⟨_, _, ob, xs, rfl⟩ | z
        · have now := (fits' b _ (un.frzs b ob _ zb)).1
          have then_ := (fits b _ zb).1
          rw [e] at then_
          cases then_
          exact now
        · exact absurd z nb
    obtain ⟨more, zt⟩ := un.tbls P0 #[] tab
    have grown := fits' P0 _ zt
    refine ⟨rfl, ⟨fun b o e => ?_, fun b o e => ?_⟩, os, bare⟩
    · by_cases hb : b = P0
      · subst hb
        rw [hT] at e
        cases e
        exact .inr (.inl ⟨(C.tab hT).isCodeTable, rfl, #[], more, rfl, by rw [Array.empty_append] at grown ⊢; exact grown⟩)
      · exact .inl (key b o hb e)
    · by_cases hb : b = P0
      · subst hb
        exact ⟨_, grown⟩
      · exact ⟨o, key b o hb e⟩
theorem walk_T {l : PySem.W.OpenLaw} {n k : Nat} {q : Program} {loose : List Str} {XP : (Str → Option Value) → Heap → Prop} {YP : World → Heap → Prop} {d dg : DefRec} {K : Params → PySem.W.Frag} {x : Str} (g : Str)
    (most : l.most = some n) (small : n ≤ sizeLine) (nodefault : d.params.defaults = []) (room : Room k callerA) (rec : (recsOf q).find? (fun e => e.name == g) = some dg)
    (Y : ∀ (w : World) (h : Heap), YP w h → (K w.params).In h)
    (F : ∀ (w : World) (mg : Str → Option Value) (fa : Addr) (h : Heap), (K w.params).In h → h.Ns mainGlobals mg → mg d.name = some (.ref fa) →
      ∃ (fd : FuncData) (c0 P0 : Addr) (sp : Sp), PySem.W.tabIn (K w.params) g = some (c0, P0) ∧ (K w.params).lookup P0 = none ∧ (∀ (s : Shared) (u : Value), BindsTo s fd ⟨[u], []⟩ [(x, u)]) ∧
        (∀ (H : Hp) (a : Addr) (ns : List Int), ns.length ≤ n → H P0 = some (.tbl #[]) → SqL (K w.params) H a (ns.map V.int) → sp [.ref a] H (fun v _ => v = .bl true) fun _ _ _ => False) ∧
        ∀ base : Heap, (K w.params).In base → base.Ns mainGlobals mg → LamX.TabB base mg c0 P0 → FnAt callerA l.prog w (K w.params) mg base CX0 k fa fd [x] sp) :
    PySem.W.WalkO q loose XP YP l.row.toRowW d [] (fun f vs => PySem.call f vs) := by
  refine Att.attach_call most nodefault ?_
  intro w s0 s mg mb fa o pm cd doc a vs ns G y _ _ _ at_law script hi len nogen
  have inK := Y w _ y
  obtain ⟨fd, c0, P0, sp, ht, nT, b1, want, f⟩ := F w mg fa _ inK G.T.g at_law
  obtain ⟨C, hT⟩ := PySem.W.tab_of G.T inK rec ht
  have rel : Vals (ns.map V.int) vs := vals_ints hi
  have sz : ns.length ≤ sizeLine := Nat.le_trans len small
  have aP : a ≠ P0 := by
    rintro rfl
    rw [script] at hT
    cases hT
  cases look : (K w.params).lookup a with
  | some ob =>
    have same := inK a ob look
    rw [script] at same
    cases same
    refine begin_tab (H := fun b => if b = P0 then some (.tbl #[]) else none) inK G.T.g G.T.b G.T.builtins G.T.nolimit nogen hT nT C G.T.bmain script room f b1 (fun b u z => .inr ?_) (if_pos rfl) (fun b u z => ?_) (want _ a ns len (if_pos rfl) (.inr ⟨_, vs.toArray, _, look, rfl, rfl, rfl, ?_, ?_⟩))
    · replace z : (if b = P0 then some (HO.tbl #[]) else none) = some u := z
      by_cases hb : b = P0
      · exact hb
      · rw [if_neg hb] at z
        cases z
    · replace z : (if b = P0 then some (HO.tbl #[]) else none) = some u := z
      by_cases hb : b = P0
      · rw [if_pos hb] at z
        cases z
        rw [hb]
        exact hT
      · rw [if_neg hb] at z
        cases z
    · rw [List.size_toArray, hi.length]
      exact sz
    · simpa using rel
  | none =>
    refine begin_tab (H := fun b => if b = a then some (.frz { cls := .type "list", data := .seq vs.toArray } (.lst (ns.map V.int))) else if b = P0 then some (.tbl #[]) else none) inK G.T.g G.T.b G.T.builtins G.T.nolimit nogen hT nT C G.T.bmain script room f b1 (fun b u z => ?_) ?_ (fun b u z => ?_) (want _ a ns len ?_ (.inl (.inr ⟨_, if_pos rfl⟩)))
    · replace z : (if b = a then some (HO.frz { cls := .type "list", data := .seq vs.toArray } (.lst (ns.map V.int))) else if b = P0 then some (.tbl #[]) else none) = some u := z
      by_cases hb : b = a
      · rw [if_pos hb] at z
        exact .inl ⟨hb, look, _, _, (Option.some.inj z).symm⟩
      · rw [if_neg hb] at z
        by_cases hp : b = P0
        · exact .inr hp
        · rw [if_neg hp] at z
          cases z
    · show (if P0 = a then _ else _) = _
      rw [if_neg (fun z => aP z.symm), if_pos rfl]
    · replace z : (if b = a then some (HO.frz { cls := .type "list", data := .seq vs.toArray } (.lst (ns.map V.int))) else if b = P0 then some (.tbl #[]) else none) = some u := z
      by_cases hb : b = a
      · rw [if_pos hb] at z
        cases z
        subst hb
        exact ⟨script, by rw [List.length_map]; exact sz, vs, _, rel, script⟩
      · rw [if_neg hb] at z
        by_cases hp : b = P0
        · rw [if_pos hp] at z
          cases z
          subst hp
          exact hT
        · rw [if_neg hp] at z
          cases z
    · show (if P0 = a then _ else _) = _
      rw [if_neg (fun z => aP z.symm), if_pos rfl]
/-! ### tables through steps -/
open LamX in
theorem TabS.x {p P : Addr} {q : Str} {H H' : Hp} (t : TabS H P q) (s : SameX p H H') (hp : PotAt H p) : TabS H' P q := by
  obtain ⟨x, y, e, _⟩ := hp
  obtain ⟨ps, h1, h2, h3⟩ := t
  refine ⟨ps, s _ _ (fun z => ?_) h1, h2, fun pos cv hc => ?_⟩
  · rw [z, e] at h1
    cases h1
  · obtain ⟨c, e1, e2⟩ := h3 pos cv hc
    refine ⟨c, e1, s _ _ (fun z => ?_) e2⟩
    rw [z, e] at e2
    unfold CodeO at e2
    cases e2
open LamX in
theorem TabS.set {P D : Addr} {q : Str} {H : Hp} {xs ys : List V} (t : TabS H P q) (h : H D = some (.lst xs)) : TabS (upd H D (.lst ys)) P q := by
  obtain ⟨ps, h1, h2, h3⟩ := t
  refine ⟨ps, ?_, h2, fun pos cv hc => ?_⟩
  · rw [upd_ne (fun z => by rw [z, h] at h1; cases h1)]
    exact h1
  · obtain ⟨c, e1, e2⟩ := h3 pos cv hc
    refine ⟨c, e1, ?_⟩
    rw [upd_ne (fun z => by rw [z, h] at e2; unfold CodeO at e2; cases e2)]
    exact e2
open LamX in
theorem TabS.tabs {P : Addr} {q : Str} {H : Hp} (t : TabS H P q) : Tabs [(P, q)] H := fun p hp => by
  obtain rfl := List.mem_singleton.mp hp
  exact t
open LamX in
theorem ExtN.same {H H' : Hp} (e : Same H H') : ExtN H H' := fun b o h _ => e b o h
open LamX in
theorem ExtN.kt {H H' : Hp} (e : ExtN H H') : KT H H' := ⟨fun _ _ h => e _ _ h (fun _ z => by cases z), fun _ _ _ h => e _ _ h (fun _ z => by cases z)⟩
open LamX in
theorem ExtN.sql {K : PySem.W.Frag} {H H' : Hp} {a : Addr} {xs : List V} (e : ExtN H H') (h : SqL K H a xs) : SqL K H' a xs := by
  rcases h with (h | ⟨o, h⟩) | h
  · exact .inl (.inl (e _ _ h (fun _ z => by cases z)))
  · exact .inl (.inr ⟨o, e _ _ h (fun _ z => by cases z)⟩)
  · exact .inr h
open LamX in
theorem ExtN.pot {H H' : Hp} {p : Addr} (e : ExtN H H') (h : PotAt H p) : PotAt H' p := by
  obtain ⟨x, y, z, r⟩ := h
  exact ⟨x, y, e _ _ z (fun _ z => by cases z), r⟩
end WS
set_option Elab.async false
set_option linter.all false
set_option maxRecDepth 100000
set_option maxHeartbeats 4000000
namespace WS
open PySem PySem.Spec PyProof.Rows L2
/-! ### rows by their greatest -/
abbrev qLam : Str := ("greatest_first" : Str) ++ ".<locals>." ++ "<lambda>"
def RankedP (ps : List (Int × Int)) (ord : List Nat) : Prop := ord.Perm (List.range ps.length) ∧ ord.Pairwise fun i j =>
  (ps.getD j (0, 1)).1 * (ps.getD i (0, 1)).2 < (ps.getD i (0, 1)).1 * (ps.getD j (0, 1)).2 ∨ ((ps.getD i (0, 1)).1 * (ps.getD j (0, 1)).2 = (ps.getD j (0, 1)).1 * (ps.getD i (0, 1)).2 ∧ i < j)
theorem cross_lt {a b a' b' c : Int} (hb : 0 < b) (hb' : 0 < b') (h : b ∣ c) (h' : b' ∣ c) (hc : 0 < c) : a * (c / b) < a' * (c / b') ↔ a * b' < a' * b := by
  obtain ⟨m, rfl⟩ := h
  obtain ⟨n, e⟩ := h'
  rw [Int.mul_ediv_cancel_left _ (by omega)]
  rw [show b * m / b' = n by rw [e, Int.mul_ediv_cancel_left _ (by omega)]]
  have k : 0 < b * b' := Int.mul_pos hb hb'
  have e1 : a * m * (b * b') = a * b' * (b * m) := by grind
  have e2 : a' * n * (b * b') = a' * b * (b * m) := by rw [e]; grind
  constructor
  · intro h
    have := Int.mul_lt_mul_of_pos_right h k
    rw [e1, e2] at this
    exact Int.lt_of_mul_lt_mul_right this (Int.le_of_lt hc)
  · intro h
    have := Int.mul_lt_mul_of_pos_right h hc
    rw [← e1, ← e2] at this
    exact Int.lt_of_mul_lt_mul_right this (Int.le_of_lt k)
theorem cross_eq {a b a' b' c : Int} (hb : 0 < b) (hb' : 0 < b') (h : b ∣ c) (h' : b' ∣ c) (hc : 0 < c) : a * (c / b) = a' * (c / b') ↔ a * b' = a' * b := by
  have h1 := cross_lt (a := a) (a' := a') hb hb' h h' hc
  have h2 := cross_lt (a := a') (a' := a) hb' hb h' h hc
  omega
def overC (c : Int) (p : Int × Int) : Int := p.1 * (c / p.2)
theorem ranked_c {ps : List (Int × Int)} {c : Int} {ord : List Nat} (hc : 0 < c) (hp : ∀ p ∈ ps, 0 < p.2 ∧ p.2 ∣ c) : Ranked (ps.map (overC c)) ord ↔ RankedP ps ord := by
  unfold Ranked RankedP
  rw [List.length_map]
  refine and_congr_right fun hperm => ?_
  have at_ : ∀ i ∈ ord, (ps.map (overC c)).getD i 0 = overC c (ps.getD i (0, 1)) ∧ 0 < (ps.getD i (0, 1)).2 ∧ (ps.getD i (0, 1)).2 ∣ c := by
    intro i hi
    have hi : i < ps.length := List.mem_range.mp (hperm.mem_iff.mp hi)
    rw [List.getD_eq_getElem?_getD, List.getD_eq_getElem?_getD, List.getElem?_map, List.getElem?_eq_getElem hi]
    exact ⟨rfl, hp _ (List.getElem_mem hi)⟩
  constructor
  · intro h
    refine List.Pairwise.imp_of_mem (fun {i j} hi hj h => ?_) h
    obtain ⟨e1, p1, d1⟩ := at_ i hi
    obtain ⟨e2, p2, d2⟩ := at_ j hj
    rw [e1, e2] at h
    unfold overC at h
    rw [cross_lt p2 p1 d2 d1 hc, cross_eq p1 p2 d1 d2 hc] at h
    exact h
  · intro h
    refine List.Pairwise.imp_of_mem (fun {i j} hi hj h => ?_) h
    obtain ⟨e1, p1, d1⟩ := at_ i hi
    obtain ⟨e2, p2, d2⟩ := at_ j hj
    rw [e1, e2]
    unfold overC
    rw [cross_lt p2 p1 d2 d1 hc, cross_eq p1 p2 d1 d2 hc]
    exact h
theorem lcm_step {f b : Int} (hf : 0 < f) (hb : 0 < b) : 0 < f / (Int.gcd f b : Int) * b ∧ f ∣ f / (Int.gcd f b : Int) * b ∧ b ∣ f / (Int.gcd f b : Int) * b := by
  have g : (0 : Int) < (Int.gcd f b : Int) := by have := gcd_pos (a := f) (b := b) (by omega); omega
  have d1 : (Int.gcd f b : Int) ∣ f := Int.gcd_dvd_left f b
  have d2 : (Int.gcd f b : Int) ∣ b := Int.gcd_dvd_right f b
  generalize (Int.gcd f b : Int) = G at *
  obtain ⟨m, rfl⟩ := d1
  obtain ⟨k, rfl⟩ := d2
  rw [Int.mul_ediv_cancel_left m (by omega)]
  have hm0 : 0 < m := Int.pos_of_mul_pos_right hf (by omega)
  exact ⟨Int.mul_pos hm0 hb, ⟨k, by grind⟩, Int.dvd_mul_left m _⟩
/-- what stands at p, if anything, is a table -/
def New (H : Hp) (p : Addr) : Prop := ∀ o, H p = some o → ∃ ps, o = .tbl ps
theorem New.ne {H : Hp} {p b : Addr} {o : HO} (n : New H p) (h : H b = some o) (t : ∀ ps, o ≠ .tbl ps) : b ≠ p := by
  rintro rfl
  obtain ⟨ps, e⟩ := n o h
  exact t ps e
theorem New.of {H : Hp} {p : Addr} (h : H p = none) : New H p := fun o e => by rw [h] at e; cases e
def spCommon (K : PySem.W.Frag) : Sp := fun vs H Q _ => ∃ (n : Nat) (l : Addr) (rs : List V) (ps : List (Int × Int)), vs = [.ref l] ∧ n ≤ 8999 ∧ SqT K H l rs ∧ Parts K H rs ps ∧ (∀ q ∈ ps, Okp n q) ∧ (ps.length + 2) * (n + 1) ≤ 800000 ∧ ∀ c, 0 < c → (∀ q ∈ ps, q.2 ∣ c) → Bt (1 + ps.length * n) c → Q (.int c) H
def spFirst (K : PySem.W.Frag) (P : Addr) : Sp := fun vs H Q _ => ∃ (n : Nat) (l : Addr) (rs : List V) (ps : List (Int × Int)), vs = [.ref l] ∧ n ≤ 8999 ∧ SqT K H l rs ∧ Parts K H rs ps ∧ (∀ q ∈ ps, Okp n q) ∧ (ps.length + 2) * (n + 1) ≤ 800000 ∧ LamX.TabS H P qLam ∧
  ∀ H' p ord, LamX.ExtN H H' → LamX.TabS H' P qLam → New H p → H' p = some (.lst (ord.map fun j : Nat => V.int j)) → RankedP ps ord → Q (.ref p) H'
def spLawT (K : PySem.W.Frag) (P : Addr) : Sp := fun vs H Q _ => ∃ (a : Addr) (ns : List Int), vs = [.ref a] ∧ SqL K H a (ns.map V.int) ∧ ns.length ≤ 63 ∧ LamX.TabS H P qLam ∧ ∀ H', Q (.bl true) H'
end WS
set_option Elab.async false
set_option linter.all false
set_option maxRecDepth 100000
set_option maxHeartbeats 4000000
namespace WS
open PySem PySem.Spec PyProof.Rows L2
/-! ### sets of places, and the greatest -/
def gd (xs : List Int) (i : Nat) : Int := xs.getD i 0
theorem perm_sum {xs ys : List Int} (h : xs.Perm ys) : xs.sum = ys.sum := by
  induction h with
  | nil => rfl
  | cons a _ ih => rw [List.sum_cons, List.sum_cons, ih]
  | swap a b l => simp only [List.sum_cons]; omega
  | trans _ _ h1 h2 => rw [h1, h2]
def setsL : Nat → List (List Nat)
  | 0 => [[]]
  | k + 1 => setsL k ++ (setsL k).map (· ++ [k])
theorem setsL_len : ∀ n, (setsL n).length = 2 ^ n
  | 0 => rfl
  | n + 1 => by rw [setsL, List.length_append, List.length_map, setsL_len n, Nat.pow_succ]; omega
theorem setsL_lt : ∀ {n : Nat} {s : List Nat}, s ∈ setsL n → (∀ i ∈ s, i < n) ∧ s.length ≤ n
  | 0, s, h => by
    obtain rfl : s = [] := by simpa [setsL] using h
    exact ⟨fun i hi => by simp at hi, Nat.le_refl _⟩
  | n + 1, s, h => by
    rw [setsL] at h
    rcases List.mem_append.mp h with h | h
    · obtain ⟨h1, h2⟩ := setsL_lt h
      exact ⟨fun i hi => Nat.lt_succ_of_lt (h1 i hi), Nat.le_succ_of_le h2⟩
    · obtain ⟨t, ht, rfl⟩ := List.mem_map.mp h
      obtain ⟨h1, h2⟩ := setsL_lt ht
      refine ⟨fun i hi => ?_, by rw [List.length_append]; exact Nat.succ_le_succ h2⟩
      rcases List.mem_append.mp hi with hi | hi
      · exact Nat.lt_succ_of_lt (h1 i hi)
      · rw [List.mem_singleton.mp hi]
        exact Nat.lt_succ_self n
theorem take_gd {xs : List Int} {m : Nat} (h : m < xs.length) : xs.take (m + 1) = xs.take m ++ [gd xs m] := by
  rw [List.take_add_one, List.getElem?_eq_getElem h]
  unfold gd
  rw [List.getD_eq_getElem?_getD, List.getElem?_eq_getElem h]
  rfl
theorem sets_sub (xs : List Int) : ∀ m, m ≤ xs.length → (∀ s ∈ setsL m, (s.map (gd xs)).Sublist (xs.take m)) ∧ ∀ ys : List Int, ys.Sublist (xs.take m) → ∃ s ∈ setsL m, s.map (gd xs) = ys
  | 0, _ => by
    refine ⟨fun s hs => ?_, fun ys hy => ⟨[], by simp [setsL], ?_⟩⟩
    · obtain rfl : s = [] := by simpa [setsL] using hs
      simp
    · have : ys = [] := by simpa using hy
      rw [this]
      rfl
  | m + 1, h => by
    obtain ⟨a, b⟩ := sets_sub xs m (by omega)
    rw [take_gd (by omega)]
    refine ⟨fun s hs => ?_, fun ys hy => ?_⟩
    · rw [setsL] at hs
      rcases List.mem_append.mp hs with hs | hs
      · exact (a s hs).trans (List.sublist_append_left _ _)
      · obtain ⟨t, ht, rfl⟩ := List.mem_map.mp hs
        rw [List.map_append]
        exact (a t ht).append (List.Sublist.refl _)
    · obtain ⟨y1, y2, rfl, h1, h2⟩ := List.sublist_append_iff.mp hy
      obtain ⟨s, hs, rfl⟩ := b y1 h1
      cases h2 with
      | cons _ h2 =>
        have : y2 = [] := by simpa using h2
        subst this
        exact ⟨s, by rw [setsL]; exact List.mem_append_left _ hs, by simp⟩
      | cons_cons _ h2 =>
        rename_i l
        have : l = [] := by simpa using h2
        subst this
        exact ⟨s ++ [m], by rw [setsL]; exact List.mem_append_right _ (List.mem_map.mpr ⟨s, hs, rfl⟩), by rw [List.map_append]; rfl⟩
theorem sum_take_mono {z : Int} : ∀ {zs : List Int} {k : Nat}, (∀ y ∈ zs, y ≤ z) → zs.Pairwise (fun a b => b ≤ a) → k ≤ zs.length → (zs.take k).sum ≤ ((z :: zs).take k).sum
  | zs, 0, _, _, _ => by simp
  | [], k + 1, _, _, h => by simp at h
  | y :: zs, k + 1, h, p, hk => by
    have p' := List.pairwise_cons.mp p
    rw [List.take_succ_cons, List.take_succ_cons, List.sum_cons, List.sum_cons]
    have h1 := sum_take_mono (z := y) (zs := zs) (k := k) p'.1 p'.2 (by simpa using hk)
    have h2 := h y List.mem_cons_self
    omega
theorem sub_le_take : ∀ {zs ys : List Int}, zs.Pairwise (fun a b => b ≤ a) → ys.Sublist zs → ys.sum ≤ (zs.take ys.length).sum := by
  intro zs ys p h
  induction h with
  | slnil => simp
  | cons z h ih =>
    have p' := List.pairwise_cons.mp p
    exact Int.le_trans (ih p'.2) (sum_take_mono p'.1 p'.2 h.length_le)
  | cons_cons z h ih =>
    have p' := List.pairwise_cons.mp p
    rw [List.length_cons, List.take_succ_cons, List.sum_cons, List.sum_cons]
    have := ih p'.2
    omega
theorem others : ∀ {ys xs : List Int}, ys.Sublist xs → ∃ zs : List Int, zs.Sublist xs ∧ zs.sum = xs.sum - ys.sum ∧ zs.length = xs.length - ys.length := by
  intro ys xs h
  induction h with
  | slnil => exact ⟨[], .slnil, rfl, rfl⟩
  | cons x h ih =>
    obtain ⟨zs, h1, h2, h3⟩ := ih
    have := h.length_le
    exact ⟨x :: zs, .cons_cons x h1, by rw [List.sum_cons, List.sum_cons, h2]; omega, by rw [List.length_cons, List.length_cons, h3]; omega⟩
  | cons_cons x h ih =>
    obtain ⟨zs, h1, h2, h3⟩ := ih
    exact ⟨zs, .cons x h1, by rw [List.sum_cons, List.sum_cons, h2]; omega, by rw [List.length_cons, List.length_cons, h3]; omega⟩
/-- no set of places comes to more than the most -/
def Fair (M : Nat → Int) (xs : List Int) : Prop := ∀ ys : List Int, ys.Sublist xs → ys.sum ≤ M ys.length
theorem Fair.perm {M : Nat → Int} {xs xs' : List Int} (h : Fair M xs) (p : xs.Perm xs') : Fair M xs' := fun ys hy => by
  obtain ⟨zs, h1, h2⟩ := List.exists_perm_sublist hy p.symm
  rw [← perm_sum h1, ← h1.length_eq]
  exact h zs h2
def tops (xs : List Int) (ord : List Nat) (k : Nat) : Int := ((ord.take k).map (gd xs)).sum
theorem map_range_gd (xs : List Int) : (List.range xs.length).map (gd xs) = xs := by
  apply List.ext_getElem
  · simp
  · intro i h1 h2
    simp [gd, List.getD_eq_getElem?_getD, List.getElem?_eq_getElem h2]
theorem ranked_zs {xs : List Int} {ord : List Nat} (h : Ranked xs ord) : (ord.map (gd xs)).Perm xs ∧ (ord.map (gd xs)).Pairwise fun a b => b ≤ a := by
  refine ⟨?_, ?_⟩
  · have := h.1.map (gd xs)
    rwa [map_range_gd] at this
  · refine List.pairwise_map.mpr (h.2.imp fun {a b} h => ?_)
    unfold gd
    omega
theorem fair_tops {M : Nat → Int} {xs : List Int} {ord : List Nat} (h : Ranked xs ord) : (∀ k, k ≤ xs.length → tops xs ord k ≤ M k) ↔ Fair M xs := by
  obtain ⟨p, d⟩ := ranked_zs h
  have len : ord.length = xs.length := by rw [h.1.length_eq, List.length_range]
  constructor
  · intro t ys hy
    obtain ⟨zs, h1, h2⟩ := List.exists_perm_sublist hy p.symm
    rw [← perm_sum h1, ← h1.length_eq]
    have h3 := sub_le_take d h2
    have h4 := h2.length_le
    rw [List.length_map, len] at h4
    have h5 := t zs.length h4
    unfold tops at h5
    rw [List.map_take] at h5
    exact Int.le_trans h3 h5
  · intro f k hk
    have f' := f.perm p.symm
    have := f' _ (List.take_sublist k _)
    rw [List.length_take, List.length_map, len, Nat.min_eq_left hk, ← List.map_take] at this
    exact this
theorem fair_sets {M : Nat → Int} {xs : List Int} : (∀ s ∈ setsL xs.length, (s.map (gd xs)).sum ≤ M s.length) ↔ Fair M xs := by
  obtain ⟨a, b⟩ := sets_sub xs xs.length (Nat.le_refl _)
  rw [List.take_length] at a b
  constructor
  · intro h ys hy
    obtain ⟨s, hs, rfl⟩ := b ys hy
    rw [List.length_map]
    exact h s hs
  · intro f s hs
    have := f _ (a s hs)
    rwa [List.length_map] at this
theorem fair_low {M : Nat → Int} {xs : List Int} (f : Fair M xs) (z : xs.sum = 0) (sy : ∀ k, k ≤ xs.length → M (xs.length - k) = M k) {s : List Nat} (hs : s ∈ setsL xs.length) : -(M s.length) ≤ (s.map (gd xs)).sum := by
  obtain ⟨a, _⟩ := sets_sub xs xs.length (Nat.le_refl _)
  rw [List.take_length] at a
  obtain ⟨zs, h1, h2, h3⟩ := others (a s hs)
  have h4 := f zs h1
  rw [h3, List.length_map, sy _ (setsL_lt hs).2, h2, z] at h4
  omega
/-! ### sums of parts over one below -/
theorem pl_over {x c : Int} {q : Int × Int} (hc : 0 < c) (hq : 0 < q.2) (d : q.2 ∣ c) : pl (lo x c) q = lo (x + overC c q) c := by
  unfold pl overC
  have l2 := (lo_lowest (a := x) hc).1
  have e := lo_cross x c
  obtain ⟨m, hm⟩ := d
  have em : c / q.2 = m := by rw [hm, Int.mul_ediv_cancel_left _ (by omega)]
  rw [em]
  refine lo_congr (Int.mul_pos l2 hq) hc ?_
  generalize (lo x c).1 = L1 at *
  generalize (lo x c).2 = L2 at *
  have : (L1 * q.2 + q.1 * L2) * c = L1 * c * q.2 + q.1 * L2 * c := by grind
  rw [this, e, hm]
  grind
theorem fold_over {c : Int} (hc : 0 < c) : ∀ (qs : List (Int × Int)) (x : Int), (∀ q ∈ qs, 0 < q.2 ∧ q.2 ∣ c) → qs.foldl pl (lo x c) = lo (x + (qs.map (overC c)).sum) c
  | [], x, _ => by simp
  | q :: qs, x, h => by
    obtain ⟨h1, h2⟩ := h q List.mem_cons_self
    rw [List.foldl_cons, pl_over hc h1 h2, fold_over hc qs _ fun r hr => h r (List.mem_cons_of_mem _ hr), List.map_cons, List.sum_cons, Int.add_assoc]
theorem lo_zero {c : Int} (hc : 0 < c) : lo 0 c = (0, 1) := lo_eq ⟨by decide, by decide⟩ hc (by omega)
theorem sum_over {c : Int} (hc : 0 < c) (qs : List (Int × Int)) (h : ∀ q ∈ qs, 0 < q.2 ∧ q.2 ∣ c) : qs.foldl pl (0, 1) = lo ((qs.map (overC c)).sum) c := by
  rw [← lo_zero hc, fold_over hc qs 0 h, Int.zero_add]
/-- a number into which all belows go -/
def cmul : List (Int × Int) → Int
  | [] => 1
  | q :: qs => q.2 * cmul qs
theorem cmul_ok : ∀ (qs : List (Int × Int)), (∀ q ∈ qs, 0 < q.2) → 0 < cmul qs ∧ ∀ q ∈ qs, 0 < q.2 ∧ q.2 ∣ cmul qs
  | [], _ => ⟨by decide, fun q hq => by simp at hq⟩
  | q :: qs, h => by
    obtain ⟨a, b⟩ := cmul_ok qs fun r hr => h r (List.mem_cons_of_mem _ hr)
    have hq := h q List.mem_cons_self
    refine ⟨Int.mul_pos hq a, fun r hr => ?_⟩
    rcases List.mem_cons.mp hr with rfl | hr
    · exact ⟨hq, Int.dvd_mul_right _ _⟩
    · exact ⟨(b r hr).1, Int.dvd_trans (b r hr).2 (Int.dvd_mul_left _ _)⟩
def gp (ps : List (Int × Int)) (i : Nat) : Int × Int := ps.getD i (0, 1)
theorem map_gp {ps : List (Int × Int)} {c : Int} {s : List Nat} (h : ∀ i ∈ s, i < ps.length) : (s.map (gp ps)).map (overC c) = s.map (gd (ps.map (overC c))) := by
  rw [List.map_map]
  refine List.map_congr_left fun i hi => ?_
  have := h i hi
  simp [gp, gd, List.getD_eq_getElem?_getD, List.getElem?_map, List.getElem?_eq_getElem this]
theorem gp_mem {ps : List (Int × Int)} {i : Nat} (h : i < ps.length) : gp ps i ∈ ps := by
  unfold gp
  rw [List.getD_eq_getElem?_getD, List.getElem?_eq_getElem h]
  exact List.getElem_mem h
theorem sum_places {ps : List (Int × Int)} {c : Int} {s : List Nat} (hc : 0 < c) (hp : ∀ q ∈ ps, 0 < q.2 ∧ q.2 ∣ c) (h : ∀ i ∈ s, i < ps.length) : (s.map (gp ps)).foldl pl (0, 1) = lo ((s.map (gd (ps.map (overC c)))).sum) c := by
  rw [sum_over hc, map_gp h]
  intro q hq
  obtain ⟨i, hi, rfl⟩ := List.mem_map.mp hq
  exact hp _ (gp_mem (h i hi))
end WS
set_option Elab.async false
set_option linter.all false
set_option maxRecDepth 100000
set_option maxHeartbeats 4000000
namespace WS
open PySem PySem.Spec PyProof.Rows L2
/-! ### promises of sums_ahead, fall, is_within -/
def sumK (ps : List (Int × Int)) (ord : List Nat) (k : Nat) : Int × Int := ((ord.take k).map (gp ps)).foldl pl (0, 1)
def sumsP (ps : List (Int × Int)) (ord : List Nat) : List (Int × Int) := (List.range (ps.length + 1)).map (sumK ps ord)
def spMostW (K : PySem.W.Frag) : Sp := fun vs H Q _ => ∃ a n k : Int, vs = [.int a, .int n, .int k] ∧ Bt 2000 a ∧ Bt 200 n ∧ Bt 200 k ∧ NewT K H (lo (a * k * (n - k)) 2).1 (lo (a * k * (n - k)) 2).2 Q
/-- a row at l whose parts are ps, small enough -/
def RowAt (K : PySem.W.Frag) (H : Hp) (l : Addr) (ps : List (Int × Int)) : Prop := ∃ (n : Nat) (rs : List V), SqT K H l rs ∧ Parts K H rs ps ∧ (∀ q ∈ ps, Okp n q) ∧ (ps.length + 2) * (n + 1) ≤ 4400
theorem RowAt.k {K : PySem.W.Frag} {H H' : Hp} {l : Addr} {ps : List (Int × Int)} (h : RowAt K H l ps) (s : KT H H') : RowAt K H' l ps := by
  obtain ⟨n, rs, a, b, c⟩ := h
  exact ⟨n, rs, s.sqt a, b.k s, c⟩
def spAhead (K : PySem.W.Frag) (P : Addr) : Sp := fun vs H Q _ => ∃ (l : Addr) (ps : List (Int × Int)), vs = [.ref l] ∧ RowAt K H l ps ∧ LamX.TabS H P qLam ∧
  ∀ H' p ts ord, LamX.ExtN H H' → LamX.TabS H' P qLam → New H p → H' p = some (.lst ts) → Parts K H' ts (sumsP ps ord) → RankedP ps ord → Q (.ref p) H'
def fallsAt (w : Int) (ps : List (Int × Int)) (ord : List Nat) (k : Nat) : Bool := decide ((lo (w * k * ((ps.length : Int) - k)) 2).1 * (sumK ps ord k).2 < (sumK ps ord k).1 * (lo (w * k * ((ps.length : Int) - k)) 2).2)
def fallV (w : Int) (ps : List (Int × Int)) (ord : List Nat) : V := match (List.range (ps.length + 1)).find? (fallsAt w ps ord) with
  | some k => .int (k : Nat)
  | none => .non
def spFall (K : PySem.W.Frag) (P : Addr) : Sp := fun vs H Q _ => ∃ (w : Int) (l : Addr) (ps : List (Int × Int)), vs = [.int w, .ref l] ∧ Bt 2000 w ∧ RowAt K H l ps ∧ LamX.TabS H P qLam ∧
  ∀ H' ord, LamX.ExtN H H' → LamX.TabS H' P qLam → RankedP ps ord → Q (fallV w ps ord) H'
def Mo (c w : Int) (n : Nat) (k : Nat) : Int := w * k * ((n : Int) - k) * c / 2
def WithinC (c w : Int) (ps : List (Int × Int)) : Prop := (ps.map (overC c)).sum = 0 ∧ Fair (Mo c w ps.length) (ps.map (overC c))
def spWithin (K : PySem.W.Frag) (P : Addr) : Sp := fun vs H Q _ => ∃ (w : Int) (l : Addr) (ps : List (Int × Int)), vs = [.int w, .ref l] ∧ Bt 2000 w ∧ RowAt K H l ps ∧ (∀ q ∈ ps, Okp 250 q) ∧ ps.length ≤ 16 ∧ LamX.TabS H P qLam ∧
  ∀ H' b, LamX.ExtN H H' → LamX.TabS H' P qLam → (∀ c, 0 < c → (∀ q ∈ ps, 0 < q.2 ∧ q.2 ∣ c) → (b = true ↔ WithinC c w ps)) → Q (.bl b) H'
theorem RankedP.lt {ps : List (Int × Int)} {ord : List Nat} (h : RankedP ps ord) : ord.length = ps.length ∧ ∀ i ∈ ord, i < ps.length :=
  ⟨by rw [h.1.length_eq, List.length_range], fun _ hi => List.mem_range.mp (h.1.mem_iff.mp hi)⟩
theorem sumK_over {ps : List (Int × Int)} {ord : List Nat} {c : Int} (h : RankedP ps ord) (hc : 0 < c) (hp : ∀ q ∈ ps, 0 < q.2 ∧ q.2 ∣ c) (k : Nat) : sumK ps ord k = lo (tops (ps.map (overC c)) ord k) c :=
  sum_places hc hp fun i hi => h.lt.2 i (List.mem_of_mem_take hi)
theorem fallsAt_iff {w : Int} {ps : List (Int × Int)} {ord : List Nat} {c : Int} (h : RankedP ps ord) (hc : 0 < c) (hp : ∀ q ∈ ps, 0 < q.2 ∧ q.2 ∣ c) (k : Nat) : fallsAt w ps ord k = true ↔ ¬ tops (ps.map (overC c)) ord k ≤ Mo c w ps.length k := by
  unfold fallsAt
  rw [decide_eq_true_eq, sumK_over h hc hp k, lo_less (by decide) hc]
  unfold Mo
  omega
theorem fallV_none {w : Int} {ps : List (Int × Int)} {ord : List Nat} {c : Int} (h : RankedP ps ord) (hc : 0 < c) (hp : ∀ q ∈ ps, 0 < q.2 ∧ q.2 ∣ c) : fallV w ps ord = .non ↔ Fair (Mo c w ps.length) (ps.map (overC c)) := by
  have rk := (ranked_c hc hp).mpr h
  rw [← fair_tops rk, List.length_map]
  unfold fallV
  cases z : (List.range (ps.length + 1)).find? (fallsAt w ps ord) with
  | none =>
    refine ⟨fun _ k hk => ?_, fun _ => rfl⟩
    have := List.find?_eq_none.mp z k (List.mem_range.mpr (by omega))
    rw [fallsAt_iff h hc hp] at this
    exact Decidable.not_not.mp this
  | some k =>
    refine ⟨fun e => (by cases e), fun f => ?_⟩
    have h1 := List.find?_some z
    have h2 := List.mem_range.mp (List.mem_of_find?_eq_some z)
    rw [fallsAt_iff h hc hp] at h1
    exact absurd (f k (by omega)) h1
theorem sumK_succ {ps : List (Int × Int)} {ord : List Nat} {k j : Nat} (h : ord[k]? = some j) : sumK ps ord (k + 1) = pl (sumK ps ord k) (gp ps j) := by
  unfold sumK
  rw [List.take_add_one, h]
  simp
theorem sumK_okp {n : Nat} {ps : List (Int × Int)} {ord : List Nat} (h : RankedP ps ord) (hk : ∀ q ∈ ps, Okp n q) (hn : (ps.length + 2) * (n + 1) ≤ 4400) (k : Nat) : Okp 4400 (sumK ps ord k) := by
  have o := fold_okp (n := n + 1) (m := n) ((ord.take k).map (gp ps)) (0, 1) ⟨by decide, by unfold Bt; exact Nat.two_pow_pos (n + 1), by unfold Bt; exact Nat.one_lt_two_pow (by omega)⟩ (fun z hz => by
    obtain ⟨i, hi, rfl⟩ := List.mem_map.mp hz
    exact hk _ (gp_mem (h.lt.2 i (List.mem_of_mem_take hi))))
  refine o.mono ?_
  rw [List.length_map, List.length_take]
  have h1 : min k ord.length ≤ ps.length := by rw [h.lt.1]; exact Nat.min_le_right _ _
  have h2 := Nat.mul_le_mul_right (n + 1) h1
  rw [Nat.add_mul] at hn
  omega
theorem eqv_pairs (a b c d : Int) : PyData.eqv (pd a b) (pd c d) = decide (a = c ∧ b = d) := by
  simp [pd, PyData.eqv, PyData.eqvAll, Bool.beq_eq_decide_eq]
theorem lo_is_zero {x c : Int} (hc : 0 < c) : lo x c = (0, 1) ↔ x = 0 := by
  constructor
  · intro h
    have := lo_cross x c
    rw [h] at this
    simp at this
    omega
  · rintro rfl
    exact lo_zero hc
theorem find_at {p : Nat → Bool} {n k : Nat} (h : k < n) (hk : p k = true) (hb : ∀ j, j < k → p j = false) : (List.range n).find? p = some k := by
  rw [List.find?_range_eq_some]
  exact ⟨hk, List.mem_range.mpr h, fun j hj => by rw [hb j hj]; rfl⟩
theorem find_no {p : Nat → Bool} {n : Nat} (hb : ∀ j, j < n → p j = false) : (List.range n).find? p = none := by
  rw [List.find?_range_eq_none]
  exact fun j hj => by rw [hb j hj]; rfl
end WS
set_option Elab.async false
set_option linter.all false
set_option maxRecDepth 100000
set_option maxHeartbeats 4000000
namespace WS
open PySem PySem.Spec PyProof.Rows L2
/-! ### lists of numbers, of parts, of lists -/
theorem same_upd {H H' : Hp} {F : Addr} {o : HO} (s : Same H H') (n : H F = none) : Same H (upd H' F o) := fun b x e => by
  rw [upd_ne (ne_of_none e n)]
  exact s b x e
theorem dpall_ints {K : PySem.W.Frag} {H : Hp} : ∀ ns : List Int, DpAll K H (ns.map V.int) (ns.map PyData.int)
  | [] => .nil
  | n :: ns => .cons (.int n) (dpall_ints ns)
theorem lay_ints : ∀ ns : List Int, PyData.canLayAll0 (ns.map PyData.int) = true ∧ PyData.depthAll (ns.map PyData.int) ≤ 1
  | [] => ⟨by simp [PyData.canLayAll0], by simp [PyData.depthAll]⟩
  | n :: ns => by
    obtain ⟨a, b⟩ := lay_ints ns
    refine ⟨by simp [PyData.canLayAll0, PyData.canLay0, a], ?_⟩
    simp only [List.map_cons, PyData.depthAll, PyData.depth]
    omega
theorem shaped_ints (ns : List Int) : SeqAt.shaped (.list (ns.map PyData.int)) = true := by
  obtain ⟨a, b⟩ := lay_ints ns
  unfold SeqAt.shaped
  rw [show (PyData.list (ns.map PyData.int)).canLay0 = true from by simp only [PyData.canLay0]; exact a, show (PyData.list (ns.map PyData.int)).depth = PyData.depthAll (ns.map PyData.int) + 1 from by simp only [PyData.depth], Bool.true_and, decide_eq_true_eq]
  omega
theorem ints_dp {K : PySem.W.Frag} {H : Hp} {l : Addr} {ns : List Int} (h : SqL K H l (ns.map V.int)) : Dp K H (.ref l) (.list (ns.map PyData.int)) := .lst h (dpall_ints ns)
theorem nats_int (ns : List Nat) : ns.map (fun j : Nat => V.int j) = (ns.map fun j : Nat => (j : Int)).map V.int := by rw [List.map_map]; rfl
def pdP (p : Int × Int) : PyData := pd p.1 p.2
theorem dpall_parts {K : PySem.W.Frag} {H : Hp} : ∀ {rs : List V} {ps : List (Int × Int)}, Parts K H rs ps → DpAll K H rs (ps.map pdP)
  | [], [], _ => .nil
  | r :: rs, p :: ps, h => by
    obtain ⟨p', e, t⟩ := h.2 0 r rfl
    obtain rfl : p = p' := by simpa using e
    exact .cons (pd_dp t) (dpall_parts ⟨by have := h.1; simpa using this, fun i v hv => by simpa using h.2 (i + 1) v (by simpa using hv)⟩)
  | [], p :: ps, h => by have := h.1; simp at this
  | r :: rs, [], h => by have := h.1; simp at this
theorem lay_parts : ∀ ps : List (Int × Int), PyData.canLayAll0 (ps.map pdP) = true ∧ PyData.depthAll (ps.map pdP) ≤ 4
  | [] => ⟨by simp [PyData.canLayAll0], by simp [PyData.depthAll]⟩
  | n :: ns => by
    obtain ⟨a, b⟩ := lay_parts ns
    refine ⟨by simp [PyData.canLayAll0, PyData.canLay0, pdP, pd, a], ?_⟩
    simp only [List.map_cons, PyData.depthAll, PyData.depth, pdP, pd]
    omega
theorem shaped_parts (ps : List (Int × Int)) : SeqAt.shaped (.list (ps.map pdP)) = true ∧ SeqAt.shaped (.tuple (ps.map pdP)) = true := by
  obtain ⟨a, b⟩ := lay_parts ps
  unfold SeqAt.shaped
  constructor
  · rw [show (PyData.list (ps.map pdP)).canLay0 = true from by simp only [PyData.canLay0]; exact a, show (PyData.list (ps.map pdP)).depth = PyData.depthAll (ps.map pdP) + 1 from by simp only [PyData.depth], Bool.true_and, decide_eq_true_eq]
    omega
  · rw [show (PyData.tuple (ps.map pdP)).canLay0 = true from by simp only [PyData.canLay0]; exact a, show (PyData.tuple (ps.map pdP)).depth = PyData.depthAll (ps.map pdP) + 1 from by simp only [PyData.depth], Bool.true_and, decide_eq_true_eq]
    omega
theorem eqv_nil {α : Type} (f : α → PyData) (ns : List α) : PyData.eqv (.list (ns.map f)) (.list []) = ns.isEmpty := by
  cases ns <;> simp [PyData.eqv, PyData.eqvAll]
theorem dp_nil {K : PySem.W.Frag} {H : Hp} {l : Addr} (h : SqL K H l []) : Dp K H (.ref l) (.list []) := .lst h .nil
theorem shaped_nil : SeqAt.shaped (.list []) = true := rfl
theorem rgV_nat (n : Nat) : rgV 0 (n : Int) = (List.range n).map fun j : Nat => V.int j := by
  unfold rgV
  simp
/-- lists of places -/
def Lists (H : Hp) (vs : List V) (ss : List (List Nat)) : Prop := vs.length = ss.length ∧ ∀ (i : Nat) v, vs[i]? = some v → ∃ a s, v = .ref a ∧ ss[i]? = some s ∧ H a = some (.lst (s.map fun j : Nat => V.int j))
theorem Lists.same {H H' : Hp} {vs : List V} {ss : List (List Nat)} (h : Lists H vs ss) (s : Same H H') : Lists H' vs ss := ⟨h.1, fun i v e => by
  obtain ⟨a, t, h1, h2, h3⟩ := h.2 i v e
  exact ⟨a, t, h1, h2, s _ _ h3⟩⟩
theorem Lists.upd {H : Hp} {D : Addr} {o : HO} {vs : List V} {ss : List (List Nat)} (h : Lists H vs ss) (n : ∀ v ∈ vs, v ≠ .ref D) : Lists (upd H D o) vs ss := ⟨h.1, fun i v e => by
  obtain ⟨a, t, h1, h2, h3⟩ := h.2 i v e
  refine ⟨a, t, h1, h2, ?_⟩
  rw [upd_ne fun z => n v (List.mem_of_getElem? e) (by rw [h1, z])]
  exact h3⟩
theorem Lists.add {H : Hp} {vs : List V} {ss : List (List Nat)} {a : Addr} {s : List Nat} (h : Lists H vs ss) (ha : H a = some (.lst (s.map fun j : Nat => V.int j))) : Lists H (vs ++ [.ref a]) (ss ++ [s]) := by
  refine ⟨by simp [h.1], fun i v e => ?_⟩
  rcases Nat.lt_or_ge i vs.length with hi | hi
  · rw [List.getElem?_append_left hi] at e
    obtain ⟨b, t, h1, h2, h3⟩ := h.2 i v e
    exact ⟨b, t, h1, by rw [List.getElem?_append_left (by rw [← h.1]; exact hi)]; exact h2, h3⟩
  · rw [List.getElem?_append_right hi] at e
    have hi2 : i - vs.length = 0 := by
      rcases Nat.eq_zero_or_pos (i - vs.length) with z | z
      · exact z
      · rw [List.getElem?_eq_none (show [V.ref a].length ≤ _ from z)] at e; cases e
    rw [hi2] at e
    refine ⟨a, s, by simpa using e.symm, ?_, ha⟩
    rw [List.getElem?_append_right (by rw [← h.1]; exact hi), ← h.1, hi2]
    rfl
theorem Lists.append {H : Hp} {vs vs' : List V} {ss ss' : List (List Nat)} (h : Lists H vs ss) (k : Lists H vs' ss') : Lists H (vs ++ vs') (ss ++ ss') := by
  refine ⟨by simp [h.1, k.1], fun i v e => ?_⟩
  rcases Nat.lt_or_ge i vs.length with hi | hi
  · rw [List.getElem?_append_left hi] at e
    obtain ⟨b, t, h1, h2, h3⟩ := h.2 i v e
    exact ⟨b, t, h1, by rw [List.getElem?_append_left (by rw [← h.1]; exact hi)]; exact h2, h3⟩
  · rw [List.getElem?_append_right hi] at e
    obtain ⟨b, t, h1, h2, h3⟩ := k.2 _ v e
    exact ⟨b, t, h1, by rw [List.getElem?_append_right (by rw [← h.1]; exact hi), ← h.1]; exact h2, h3⟩
def spSets : Sp := fun vs H Q _ => ∃ n : Nat, vs = [.int n] ∧ n ≤ 12 ∧ ∀ H' p as, Same H H' → H p = none → H' p = some (.lst as) → Lists H' as (setsL n) → Q (.ref p) H'
def spFirstL (K : PySem.W.Frag) : Sp := fun vs H Q _ => ∃ (l : Addr) (rs : List V) (ps : List (Int × Int)), vs = [.ref l] ∧ SqL K H l rs ∧ Parts K H rs ps ∧ (∀ q ∈ ps, Okp 4400 q) ∧ ps.length ≤ 1000 ∧
  ∀ (H' : Hp) (p : Addr) (os : List Nat), Same H H' → H p = none → H' p = some (.lst (os.map fun j : Nat => V.int j)) → (∀ o ∈ os, o < ps.length) → Q (.ref p) H'
theorem Parts.at {K : PySem.W.Frag} {H : Hp} {rs : List V} {ps : List (Int × Int)} (h : Parts K H rs ps) {i : Nat} (hi : i < ps.length) : ∃ v, rs[i]? = some v ∧ gp ps i ∈ ps ∧ TupI K H v (gp ps i).1 (gp ps i).2 := by
  obtain ⟨v, hv⟩ : ∃ v, rs[i]? = some v := ⟨_, List.getElem?_eq_getElem (by rw [h.1]; exact hi)⟩
  obtain ⟨p, hp, t⟩ := h.2 i v hv
  have e : gp ps i = p := by unfold gp; rw [List.getD_eq_getElem?_getD, hp]; rfl
  exact ⟨v, hv, gp_mem hi, by rw [e]; exact t⟩
end WS
set_option Elab.async false
set_option linter.all false
set_option maxRecDepth 100000
set_option maxHeartbeats 4000000
namespace WS
open PySem PySem.Spec PyProof.Rows L2
/-! ### bounds of sums over small belows; due -/
def Okq (n d : Nat) (p : Int × Int) : Prop := 0 < p.2 ∧ Bt n p.1 ∧ Bt d p.2
theorem Okq.pl {n d m e : Nat} {p q : Int × Int} (h : Okq n d p) (k : Okq m e q) : Okq (max (n + e) (m + d) + 1) (d + e) (pl p q) := by
  have hp : 0 < p.2 * q.2 := Int.mul_pos h.1 k.1
  refine ⟨(lo_lowest hp).1, ?_, (h.2.2.mul k.2.2).lo2⟩
  exact (((h.2.1.mul k.2.2).mono (Nat.le_max_left _ _)).add ((k.2.1.mul h.2.2).mono (Nat.le_max_right _ _))).lo1
theorem Okq.mono {n d m e : Nat} {p : Int × Int} (h : Okq n d p) (a : n ≤ m) (b : d ≤ e) : Okq m e p := ⟨h.1, h.2.1.mono a, h.2.2.mono b⟩
theorem Okq.okp {n d m : Nat} {p : Int × Int} (h : Okq n d p) (a : n ≤ m) (b : d ≤ m) : Okp m p := ⟨h.1, h.2.1.mono a, h.2.2.mono b⟩
theorem fold_okq : ∀ (ps : List (Int × Int)) (i : Nat) (p : Int × Int), Okq (98 + 7 * i) (1 + 6 * i) p → (∀ q ∈ ps, Okq 97 6 q) → Okq (98 + 7 * (i + ps.length)) (1 + 6 * (i + ps.length)) (ps.foldl pl p)
  | [], i, p, h, _ => by simpa using h
  | q :: ps, i, p, h, k => by
    have h1 := (h.pl (k q List.mem_cons_self)).mono (m := 98 + 7 * (i + 1)) (e := 1 + 6 * (i + 1)) (by omega) (by omega)
    have h2 := fold_okq ps (i + 1) _ h1 fun r hr => k r (List.mem_cons_of_mem _ hr)
    rw [List.foldl_cons, List.length_cons]
    exact h2.mono (by omega) (by omega)
theorem lo_neg (a b : Int) : lo (0 - a) b = (0 - (lo a b).1, (lo a b).2) := by
  unfold lo
  rw [Int.zero_sub, Int.neg_gcd, Int.zero_sub, Int.neg_ediv_of_dvd (Int.gcd_dvd_left a b)]
def spRowL (K : PySem.W.Frag) : Sp := fun vs H Q _ => ∃ (p : Addr) (m : Nat), vs = [.ref p, .int m] ∧ PotAt H p ∧ m ≤ 7 ∧ ∀ H' D rs ps, SameX p H H' → PotAt H' p → H D = none → H' D = some (.lst rs) → Parts K H' rs ps → ps.length = m → (∀ q ∈ ps, Lowest q.1 q.2 ∧ Okq 160 60 q) → Q (.ref D) H'
def spWeightL (K : PySem.W.Frag) : Sp := fun vs H Q _ => ∃ (l : Addr) (rs : List V) (ps : List (Int × Int)), vs = [.ref l] ∧ SqL K H l rs ∧ Parts K H rs ps ∧ (∀ q ∈ ps, Okp 200 q) ∧ ps.length ≤ 7 ∧ ∀ H' i, Same H H' → 1 ≤ i → Bt 1990 i → Q (.int i) H'
def spDueL (K : PySem.W.Frag) : Sp := fun vs H Q _ => ∃ (wt : Int) (l : Addr) (rs : List V) (ps : List (Int × Int)), vs = [.int wt, .ref l] ∧ Bt 2000 wt ∧ SqL K H l rs ∧ Parts K H rs ps ∧ (∀ q ∈ ps, Okp 250 q) ∧ ps.length ≤ 7 ∧
  ∀ H' b, Same H H' → (∀ c, 0 < c → (∀ q ∈ ps, 0 < q.2 ∧ q.2 ∣ c) → (b = true ↔ WithinC c wt ps)) → Q (.bl b) H'
def spTurnedL (K : PySem.W.Frag) : Sp := fun vs H Q _ => ∃ (p l : Addr) (rs : List V) (ps : List (Int × Int)), vs = [.ref p, .ref l] ∧ PotAt H p ∧ p ≠ l ∧ SqL K H l rs ∧ Parts K H rs ps ∧ ps.length ≤ 7 ∧
  ∀ H' t rs' ps', SameX p H H' → PotAt H' p → SqT K H' t rs' → Parts K H' rs' ps' → ps'.Perm ps → Q (.ref t) H'
/-- what a set of places comes to is within the most, both sides -/
def okSet (wt : Int) (ps : List (Int × Int)) (s : List Nat) : Bool :=
  !decide ((lo (wt * (s.length : Nat) * ((ps.length : Int) - (s.length : Nat))) 2).1 * ((s.map (gp ps)).foldl pl (0, 1)).2 < ((s.map (gp ps)).foldl pl (0, 1)).1 * (lo (wt * (s.length : Nat) * ((ps.length : Int) - (s.length : Nat))) 2).2) &&
  !decide (((s.map (gp ps)).foldl pl (0, 1)).1 * (lo (wt * (s.length : Nat) * ((ps.length : Int) - (s.length : Nat))) 2).2 < (0 - (lo (wt * (s.length : Nat) * ((ps.length : Int) - (s.length : Nat))) 2).1) * ((s.map (gp ps)).foldl pl (0, 1)).2)
theorem okSet_iff {wt c : Int} {ps : List (Int × Int)} {s : List Nat} (hs : s ∈ setsL ps.length) (hc : 0 < c) (hp : ∀ q ∈ ps, 0 < q.2 ∧ q.2 ∣ c) :
    okSet wt ps s = true ↔ (s.map (gd (ps.map (overC c)))).sum ≤ Mo c wt ps.length s.length ∧ 2 * -((s.map (gd (ps.map (overC c)))).sum) ≤ wt * (s.length : Nat) * ((ps.length : Int) - (s.length : Nat)) * c := by
  unfold okSet
  rw [sum_places hc hp fun i hi => (setsL_lt hs).1 i hi]
  generalize hS : (s.map (gd (ps.map (overC c)))).sum = S
  generalize hA : wt * (s.length : Nat) * ((ps.length : Int) - (s.length : Nat)) = A
  have h1 := lo_less (a := A) (b := 2) (c := S) (d := c) (by decide) hc
  have h2 := lo_less (a := S) (b := c) (c := 0 - A) (d := 2) hc (by decide)
  rw [lo_neg] at h2
  rw [Bool.and_eq_true, Bool.not_eq_true', Bool.not_eq_true', decide_eq_false_iff_not, decide_eq_false_iff_not, h1]
  have h2' : ((lo S c).1 * (lo A 2).2 < (0 - (lo A 2).1) * (lo S c).2) ↔ S * 2 < (0 - A) * c := h2
  rw [h2']
  unfold Mo
  rw [hA]
  have e : (0 - A) * c = -(A * c) := by grind
  rw [e]
  generalize A * c = B
  omega
theorem due_iff {wt c : Int} {ps : List (Int × Int)} (hc : 0 < c) (hp : ∀ q ∈ ps, 0 < q.2 ∧ q.2 ∣ c) (hz : (ps.map (overC c)).sum = 0) : (∀ s ∈ setsL ps.length, okSet wt ps s = true) ↔ WithinC c wt ps := by
  have len : (ps.map (overC c)).length = ps.length := List.length_map _
  constructor
  · intro h
    refine ⟨hz, fair_sets.mp fun s hs => ?_⟩
    rw [len] at hs
    exact ((okSet_iff hs hc hp).mp (h s hs)).1
  · intro h s hs
    rw [okSet_iff hs hc hp]
    refine ⟨?_, ?_⟩
    · exact fair_sets.mpr h.2 s (by rw [len]; exact hs)
    · have l := fair_low h.2 h.1 (fun k hk => ?_) (s := s) (by rw [len]; exact hs)
      · unfold Mo at l
        generalize wt * (s.length : Nat) * ((ps.length : Int) - (s.length : Nat)) * c = B at *
        omega
      · rw [len] at hk ⊢
        unfold Mo
        have e : ((ps.length - k : Nat) : Int) = (ps.length : Int) - k := by omega
        rw [e]
        congr 1
        grind
theorem WithinC.perm {c wt : Int} {ps ps' : List (Int × Int)} (p : ps'.Perm ps) : WithinC c wt ps' ↔ WithinC c wt ps := by
  have q := p.map (overC c)
  unfold WithinC
  rw [perm_sum q, p.length_eq]
  exact and_congr_right fun _ => ⟨fun f => f.perm q, fun f => f.perm q.symm⟩
theorem mem_cutV {xs : List V} {a b : Option Int} {x : V} (h : x ∈ cutV xs a b) : x ∈ xs := List.mem_of_mem_drop (List.mem_of_mem_take h)
theorem cutV_to (xs : List V) (k : Nat) : (cutV xs none (some (k : Int))).length ≤ k := by
  unfold cutV
  rw [HT.sIx_none, HT.sIx_nat, List.length_take]
  omega
theorem Parts.erase {K : PySem.W.Frag} {H : Hp} {rs : List V} {ps : List (Int × Int)} (h : Parts K H rs ps) (k : Nat) : Parts K H (rs.eraseIdx k) (ps.eraseIdx k) := by
  refine ⟨by rw [List.length_eraseIdx, List.length_eraseIdx, h.1], fun i v e => ?_⟩
  rw [List.getElem?_eraseIdx] at e ⊢
  split at e
  · rename_i c
    rw [if_pos c]
    exact h.2 i v e
  · rename_i c
    rw [if_neg c]
    exact h.2 _ v e
theorem erase_perm {α : Type} : ∀ (l : List α) (k : Nat) (x : α), l[k]? = some x → (x :: l.eraseIdx k).Perm l
  | [], k, x, h => by simp at h
  | a :: l, 0, x, h => by
    obtain rfl : a = x := by simpa using h
    exact .refl _
  | a :: l, k + 1, x, h => by
    have h := erase_perm l k x (by simpa using h)
    exact (List.Perm.swap a x _).trans (h.cons a)
theorem Parts.rev {K : PySem.W.Frag} {H : Hp} {rs : List V} {ps : List (Int × Int)} (h : Parts K H rs ps) : Parts K H rs.reverse ps.reverse := by
  refine ⟨by simp [h.1], fun i v e => ?_⟩
  have hi : i < rs.length := by
    have := (List.getElem?_eq_some_iff.mp e).1
    simpa using this
  rw [List.getElem?_reverse hi] at e
  rw [List.getElem?_reverse (by rw [← h.1]; exact hi), ← h.1]
  exact h.2 _ v e
def spOneT (P : Addr) : Sp := fun vs H Q _ => ∃ p, vs = [.ref p] ∧ PotAt H p ∧ LamX.TabS H P qLam ∧ ∀ H', (∀ b o, b ≠ p → H b = some o → (∀ ps, o ≠ .tbl ps) → H' b = some o) → LamX.TabS H' P qLam → Q (.bl true) H'
theorem seq_keepN {K : PySem.W.Frag} {H H' : Hp} {a : Addr} {xs : List V} (h : SqL K H a xs) (s : ∀ o, H a = some o → (∀ ps, o ≠ .tbl ps) → H' a = some o) : SqL K H' a xs := by
  rcases h with (h | ⟨o, h⟩) | h
  · exact .inl (.inl (s _ h (fun _ z => by cases z)))
  · exact .inl (.inr ⟨o, s _ h (fun _ z => by cases z)⟩)
  · exact .inr h
end WS
set_option Elab.async false
set_option linter.all false
set_option maxRecDepth 100000
set_option maxHeartbeats 4000000
namespace WS
open PySem PySem.Spec PyProof.Rows L2
/-! ### reprs of rows; the best of the sets; sorted places -/
theorem parts_show {n : Nat} (hn : 0 < n) (h19 : n ≤ 1900) : ∀ (qs : List (Int × Int)), (∀ q ∈ qs, Bt n q.1 ∧ Bt n q.2) → PyData.showableAll (qs.map pdP) = true ∧ PyData.hasDictAll (qs.map pdP) = false ∧ piled (PyData.shownAll (qs.map pdP)) ≤ qs.length * (2 * n + 10)
  | [], _ => ⟨by simp [PyData.showableAll], by simp [PyData.hasDictAll], by simp [PyData.shownAll, piled]⟩
  | q :: qs, h => by
    obtain ⟨a, b, c⟩ := parts_show hn h19 qs fun r hr => h r (List.mem_cons_of_mem _ hr)
    obtain ⟨h1, h2⟩ := h q List.mem_cons_self
    refine ⟨?_, ?_, ?_⟩
    · show ((pdP q).showable && PyData.showableAll (qs.map pdP)) = true
      rw [a, show (pdP q).showable = true from pd_show (h1.mono h19) (h2.mono h19)]
      rfl
    · show ((pdP q).hasDict || PyData.hasDictAll (qs.map pdP)) = false
      rw [b]
      rfl
    · show piled ((pdP q).shown :: PyData.shownAll (qs.map pdP)) ≤ _
      rw [piled_cons, List.length_cons, Nat.succ_mul]
      have := pd_len hn h1 h2
      show (pd q.1 q.2).shown.length + 2 + _ ≤ _
      omega
theorem lst_show {n : Nat} (hn : 0 < n) (h19 : n ≤ 1900) {qs : List (Int × Int)} (h : ∀ q ∈ qs, Bt n q.1 ∧ Bt n q.2) (hl : qs.length ≤ 100) :
    (PyData.list (qs.map pdP)).showable = true ∧ (PyData.list (qs.map pdP)).hasDict = false ∧ (PyData.list (qs.map pdP)).depth ≤ 60 ∧ (PyData.list (qs.map pdP)).shown.length ≤ sizeLine := by
  obtain ⟨a, b, c⟩ := parts_show hn h19 qs h
  refine ⟨a, b, ?_, ?_⟩
  · have := (lay_parts qs).2
    rw [show (PyData.list (qs.map pdP)).depth = PyData.depthAll (qs.map pdP) + 1 from by simp only [PyData.depth]]
    omega
  · have e := shown_lst_len (qs.map pdP)
    rw [sizeLine_eq]
    have : qs.length * (2 * n + 10) ≤ 100 * 3810 := Nat.mul_le_mul hl (by omega)
    omega
theorem tup_show {n : Nat} (hn : 0 < n) (h19 : n ≤ 1900) {qs : List (Int × Int)} (h : ∀ q ∈ qs, Bt n q.1 ∧ Bt n q.2) (hl : qs.length ≤ 100) :
    (PyData.tuple (qs.map pdP)).showable = true ∧ (PyData.tuple (qs.map pdP)).hasDict = false ∧ (PyData.tuple (qs.map pdP)).depth ≤ 60 ∧ (PyData.tuple (qs.map pdP)).shown.length ≤ sizeLine := by
  obtain ⟨a, b, c⟩ := parts_show hn h19 qs h
  refine ⟨a, b, ?_, ?_⟩
  · have := (lay_parts qs).2
    rw [show (PyData.tuple (qs.map pdP)).depth = PyData.depthAll (qs.map pdP) + 1 from by simp only [PyData.depth]]
    omega
  · have e := shown_tup_len (qs.map pdP)
    rw [sizeLine_eq]
    have : qs.length * (2 * n + 10) ≤ 100 * 3810 := Nat.mul_le_mul hl (by omega)
    omega
theorem sumK_okq {ps : List (Int × Int)} {ord : List Nat} (h : RankedP ps ord) (hk : ∀ q ∈ ps, Okq 97 6 q) (hn : ps.length ≤ 7) (k : Nat) : Okq 147 43 (sumK ps ord k) := by
  have o := fold_okq ((ord.take k).map (gp ps)) 0 (0, 1) ⟨by decide, by unfold Bt; decide +kernel, by unfold Bt; decide +kernel⟩ (fun z hz => by
    obtain ⟨i, hi, rfl⟩ := List.mem_map.mp hz
    exact hk _ (gp_mem (h.lt.2 i (List.mem_of_mem_take hi))))
  have h1 : min k ord.length ≤ 7 := by rw [h.lt.1]; omega
  rw [List.length_map, List.length_take] at o
  exact o.mono (by omega) (by omega)
theorem sumsP_at {ps : List (Int × Int)} {ord : List Nat} {k : Nat} (h : k ≤ ps.length) : (sumsP ps ord)[k]? = some (sumK ps ord k) := by
  unfold sumsP
  rw [List.getElem?_map, List.getElem?_range (by omega)]
  rfl
theorem sumsP_len (ps : List (Int × Int)) (ord : List Nat) : (sumsP ps ord).length = ps.length + 1 := by
  unfold sumsP
  rw [List.length_map, List.length_range]
theorem sumsP_mem {ps : List (Int × Int)} {ord : List Nat} {q : Int × Int} (h : q ∈ sumsP ps ord) : ∃ k, q = sumK ps ord k := by
  obtain ⟨k, _, rfl⟩ := List.mem_map.mp h
  exact ⟨k, rfl⟩
/-- a set that comes to the k greatest; no set of as many comes to more -/
theorem tops_set {xs : List Int} {ord : List Nat} (h : Ranked xs ord) {k : Nat} (hk : k ≤ xs.length) : ∃ s ∈ setsL xs.length, s.length = k ∧ (s.map (gd xs)).sum = tops xs ord k := by
  obtain ⟨p, d⟩ := ranked_zs h
  have len : ord.length = xs.length := by rw [h.1.length_eq, List.length_range]
  obtain ⟨ys, h1, h2⟩ := List.exists_perm_sublist (List.take_sublist k (ord.map (gd xs))) p
  obtain ⟨_, b⟩ := sets_sub xs xs.length (Nat.le_refl _)
  rw [List.take_length] at b
  obtain ⟨s, hs, e⟩ := b ys h2
  refine ⟨s, hs, ?_, ?_⟩
  · have : (s.map (gd xs)).length = k := by rw [e, h1.length_eq, List.length_take, List.length_map, len, Nat.min_eq_left hk]
    rwa [List.length_map] at this
  · rw [e, perm_sum h1]
    unfold tops
    rw [List.map_take]
theorem set_le_tops {xs : List Int} {ord : List Nat} (h : Ranked xs ord) {s : List Nat} (hs : s ∈ setsL xs.length) : (s.map (gd xs)).sum ≤ tops xs ord s.length := by
  obtain ⟨p, d⟩ := ranked_zs h
  obtain ⟨a, _⟩ := sets_sub xs xs.length (Nat.le_refl _)
  rw [List.take_length] at a
  obtain ⟨ys, h1, h2⟩ := List.exists_perm_sublist (a s hs) p.symm
  have h3 := sub_le_take d h2
  rw [h1.length_eq, List.length_map, perm_sum h1] at h3
  unfold tops
  rw [List.map_take]
  exact h3
def setSum (ps : List (Int × Int)) (s : List Nat) : Int × Int := (s.map (gp ps)).foldl pl (0, 1)
def valC (ps : List (Int × Int)) (s : List Nat) : Int := (s.map (gd (ps.map (overC (cmul ps))))).sum
theorem setSum_val {ps : List (Int × Int)} {s : List Nat} (hp : ∀ q ∈ ps, 0 < q.2) (hs : s ∈ setsL ps.length) : setSum ps s = lo (valC ps s) (cmul ps) := by
  obtain ⟨c0, cd⟩ := cmul_ok ps hp
  exact sum_places c0 cd fun i hi => (setsL_lt hs).1 i hi
theorem less_val {ps : List (Int × Int)} {s t : List Nat} (hp : ∀ q ∈ ps, 0 < q.2) (hs : s ∈ setsL ps.length) (ht : t ∈ setsL ps.length) : (setSum ps s).1 * (setSum ps t).2 < (setSum ps t).1 * (setSum ps s).2 ↔ valC ps s < valC ps t := by
  obtain ⟨c0, cd⟩ := cmul_ok ps hp
  rw [setSum_val hp hs, setSum_val hp ht, lo_less c0 c0]
  exact ⟨fun h => Int.lt_of_mul_lt_mul_right h (Int.le_of_lt c0), fun h => Int.mul_lt_mul_of_pos_right h c0⟩
/-- v is the best of the sets of k places among ss -/
def BestOf (K : PySem.W.Frag) (H : Hp) (ps : List (Int × Int)) (ss : List (List Nat)) (k : Nat) (v : V) : Prop :=
  (v = .non ∧ ∀ s ∈ ss, s.length ≠ k) ∨ ∃ s ∈ ss, s.length = k ∧ TupI K H v (setSum ps s).1 (setSum ps s).2 ∧ ∀ s' ∈ ss, s'.length = k → valC ps s' ≤ valC ps s
theorem BestOf.k {K : PySem.W.Frag} {H H' : Hp} {ps : List (Int × Int)} {ss : List (List Nat)} {k : Nat} {v : V} (h : BestOf K H ps ss k v) (s : KT H H') : BestOf K H' ps ss k v := by
  rcases h with h | ⟨t, a, b, c, d⟩
  · exact .inl h
  · exact .inr ⟨t, a, b, c.k s, d⟩
theorem BestOf.other {K : PySem.W.Frag} {H : Hp} {ps : List (Int × Int)} {ss : List (List Nat)} {st : List Nat} {k : Nat} {v : V} (h : BestOf K H ps ss k v) (n : st.length ≠ k) : BestOf K H ps (ss ++ [st]) k v := by
  rcases h with ⟨h1, h2⟩ | ⟨t, a, b, c, d⟩
  · refine .inl ⟨h1, fun s hs => ?_⟩
    rcases List.mem_append.mp hs with hs | hs
    · exact h2 s hs
    · rw [List.mem_singleton.mp hs]; exact n
  · refine .inr ⟨t, List.mem_append_left _ a, b, c, fun s hs l => ?_⟩
    rcases List.mem_append.mp hs with hs | hs
    · exact d s hs l
    · rw [List.mem_singleton.mp hs] at l; exact absurd l n
theorem BestOf.stay {K : PySem.W.Frag} {H : Hp} {ps : List (Int × Int)} {ss : List (List Nat)} {st s0 : List Nat} {k : Nat} {v : V} (m : s0 ∈ ss) (l0 : s0.length = k) (t : TupI K H v (setSum ps s0).1 (setSum ps s0).2) (mx : ∀ s' ∈ ss, s'.length = k → valC ps s' ≤ valC ps s0) (n : ¬ valC ps s0 < valC ps st) : BestOf K H ps (ss ++ [st]) k v := by
  refine .inr ⟨s0, List.mem_append_left _ m, l0, t, fun s hs l => ?_⟩
  rcases List.mem_append.mp hs with hs | hs
  · exact mx s hs l
  · rw [List.mem_singleton.mp hs]; omega
theorem BestOf.put {K : PySem.W.Frag} {H : Hp} {ps : List (Int × Int)} {ss : List (List Nat)} {st : List Nat} {k : Nat} {t : V} (l : st.length = k) (tt : TupI K H t (setSum ps st).1 (setSum ps st).2) (mx : ∀ s' ∈ ss, s'.length = k → valC ps s' ≤ valC ps st) : BestOf K H ps (ss ++ [st]) k t := by
  refine .inr ⟨st, List.mem_append_right _ (List.mem_singleton.mpr rfl), l, tt, fun s hs l => ?_⟩
  rcases List.mem_append.mp hs with hs | hs
  · exact mx s hs l
  · rw [List.mem_singleton.mp hs]; exact Int.le_refl _
theorem best_is {K : PySem.W.Frag} {H : Hp} {ps : List (Int × Int)} {k : Nat} {v : V} {ord : List Nat} (hp : ∀ q ∈ ps, 0 < q.2) (rk : RankedP ps ord) (hk : k ≤ ps.length) (h : BestOf K H ps (setsL ps.length) k v) : TupI K H v (sumK ps ord k).1 (sumK ps ord k).2 := by
  obtain ⟨c0, cd⟩ := cmul_ok ps hp
  have rk' := (ranked_c c0 cd).mpr rk
  have len : (ps.map (overC (cmul ps))).length = ps.length := List.length_map _
  obtain ⟨s0, m0, l0, e0⟩ := tops_set rk' (k := k) (by rw [len]; exact hk)
  rw [len] at m0
  rcases h with ⟨_, h⟩ | ⟨s, ms, ls, t, mx⟩
  · exact absurd l0 (h s0 m0)
  · have h1 := mx s0 m0 l0
    have h2 := set_le_tops rk' (s := s) (by rw [len]; exact ms)
    rw [ls] at h2
    have e0 : valC ps s0 = tops (ps.map (overC (cmul ps))) ord k := e0
    have h2 : valC ps s ≤ tops (ps.map (overC (cmul ps))) ord k := h2
    rw [sumK_over rk c0 cd k]
    rw [setSum_val hp ms] at t
    have : valC ps s = tops (ps.map (overC (cmul ps))) ord k := by omega
    rw [← this]
    exact t
theorem sorted_range_eq {ns : List Int} {n : Nat} (p : ns.Perm ((List.range n).map fun j : Nat => (j : Int))) (s : ns.Pairwise (· ≤ ·)) : ns = (List.range n).map fun j : Nat => (j : Int) := by
  refine List.Perm.eq_of_pairwise (le := fun a b => decide (a ≤ b)) (fun a b _ _ h1 h2 => ?_) (s.imp fun h => by simpa using h) ?_ p
  · simp at h1 h2
    omega
  · refine List.pairwise_map.mpr (List.pairwise_lt_range.imp fun h => ?_)
    simp
    omega
def spRow17 (K : PySem.W.Frag) : Sp := fun vs H Q _ => ∃ p : Addr, vs = [.ref p] ∧ PotAt H p ∧ ∀ H' t rs ps, SameX p H H' → PotAt H' p → SqT K H' t rs → Parts K H' rs ps → ps.length ≤ 7 → (∀ q ∈ ps, Lowest q.1 q.2 ∧ Okq 97 6 q) → Q (.ref t) H'
def spDue17 (K : PySem.W.Frag) : Sp := fun vs H Q _ => ∃ (l : Addr) (rs : List V) (ps : List (Int × Int)), vs = [.ref l] ∧ SqT K H l rs ∧ Parts K H rs ps ∧ (∀ q ∈ ps, Okq 97 6 q) ∧ ps.length ≤ 7 ∧
  ∀ H' D bs, Same H H' → H D = none → H' D = some (.lst bs) → (∀ ord, RankedP ps ord → Parts K H' bs (sumsP ps ord)) → Q (.ref D) H'
def spOrd (K : PySem.W.Frag) : Sp := fun vs H Q _ => ∃ (l o : Addr) (rs : List V) (ps : List (Int × Int)) (ord : List Nat), vs = [.ref l, .ref o] ∧ SqT K H l rs ∧ Parts K H rs ps ∧ (∀ q ∈ ps, Okp 4400 q) ∧ ps.length ≤ 1000 ∧ H o = some (.lst (ord.map fun j : Nat => V.int j)) ∧ RankedP ps ord ∧ ∀ H', Same H H' → Q (.bl true) H'
def spWeight17 (K : PySem.W.Frag) : Sp := fun vs H Q _ => ∃ (p D : Addr) (bs : List V) (qs : List (Int × Int)), vs = [.ref p, .ref D] ∧ PotAt H p ∧ D ≠ p ∧ H D = some (.lst bs) ∧ Parts K H bs qs ∧ (∀ q ∈ qs, Okq 147 43 q) ∧ 1 ≤ qs.length ∧ qs.length ≤ 8 ∧ ∀ H' i, SameX p H H' → PotAt H' p → Bt 2000 i → Q (.int i) H'
theorem eqvall_refl_ints : ∀ ns : List Int, PyData.eqvAll (ns.map PyData.int) (ns.map PyData.int) = true
  | [] => by simp [PyData.eqvAll]
  | n :: ns => by
    have := eqvall_refl_ints ns
    simp [PyData.eqvAll, PyData.eqv, this]
theorem eqv_refl_ints (ns : List Int) : PyData.eqv (.list (ns.map PyData.int)) (.list (ns.map PyData.int)) = true := by
  rw [show PyData.eqv (.list (ns.map PyData.int)) (.list (ns.map PyData.int)) = PyData.eqvAll (ns.map PyData.int) (ns.map PyData.int) from by simp only [PyData.eqv]]
  exact eqvall_refl_ints ns
theorem cutV_one (xs : List V) : cutV xs (some 1) none = xs.drop 1 := by
  unfold cutV
  have e : HT.sIx xs.length 0 (some ((1 : Nat) : Int)) = min 1 xs.length := HT.sIx_nat _ _ _
  have e : HT.sIx xs.length 0 (some 1) = min 1 xs.length := e
  rw [e, HT.sIx_none]
  cases xs with
  | nil => simp
  | cons x xs => simp
theorem pair_at {α : Type} {R : α → α → Prop} : ∀ {l : List α} {i j : Nat} {a b : α}, l.Pairwise R → l[i]? = some a → l[j]? = some b → i < j → R a b := by
  intro l i j a b p ha hb hij
  obtain ⟨h1, rfl⟩ := List.getElem?_eq_some_iff.mp ha
  obtain ⟨h2, rfl⟩ := List.getElem?_eq_some_iff.mp hb
  exact (List.pairwise_iff_getElem.mp p) i j h1 h2 hij
theorem rankedP_one {ps : List (Int × Int)} {a b : List Nat} (ha : RankedP ps a) (hb : RankedP ps b) : a = b := by
  refine List.Perm.eq_of_pairwise (fun i j _ _ h1 h2 => ?_) ha.2 hb.2 (ha.1.trans hb.1.symm)
  omega
theorem cutV_take (xs : List V) (k : Nat) : cutV xs none (some (k : Int)) = xs.take k := by
  unfold cutV
  rw [HT.sIx_none, HT.sIx_nat, List.drop_zero, Nat.sub_zero]
  rcases Nat.le_total k xs.length with h | h
  · rw [Nat.min_eq_left h]
  · rw [Nat.min_eq_right h, List.take_length, List.take_of_length_le h]
theorem int_show {i : Int} (h : Bt 100 i) : (PyData.int i).showable = true ∧ (PyData.int i).hasDict = false ∧ (PyData.int i).depth ≤ 60 ∧ (PyData.int i).shown.length ≤ sizeLine :=
  ⟨bt_show (h.mono (by decide)), rfl, by simp [PyData.depth], by have := shown_int_len (n := 100) (by decide) h; rw [sizeLine_eq]; omega⟩
theorem none_show : (PyData.none).showable = true ∧ (PyData.none).hasDict = false ∧ (PyData.none).depth ≤ 60 ∧ (PyData.none).shown.length ≤ sizeLine := ⟨rfl, rfl, by simp [PyData.depth], by rw [sizeLine_eq]; decide⟩
/-- what stands in H but p and the tables stands in H' -/
def ExtX (p : Addr) (H H' : Hp) : Prop := ∀ b o, b ≠ p → H b = some o → (∀ ps, o ≠ .tbl ps) → H' b = some o
theorem ExtX.trans {p : Addr} {H H1 H2 : Hp} (a : ExtX p H H1) (b : ExtX p H1 H2) : ExtX p H H2 := fun c o n h t => b c o n (a c o n h t) t
theorem ExtX.x {p : Addr} {H H1 : Hp} (s : SameX p H H1) : ExtX p H H1 := fun c o n h _ => s c o n h
theorem ExtX.n {p : Addr} {H H1 : Hp} (s : LamX.ExtN H H1) : ExtX p H H1 := fun c o _ h t => s c o h t
theorem ExtX.s {p : Addr} {H H1 : Hp} (s : Same H H1) : ExtX p H H1 := fun c o _ h _ => s c o h
theorem ExtX.w {p Z : Addr} {H H1 H2 : Hp} {o' : HO} (a : ExtX p H H1) (b : ExtX p H1 H2) (n : New H1 Z) : ExtX p H (upd H2 Z o') := fun c o nc h t => by
  have h1 := a c o nc h t
  rw [upd_ne (n.ne h1 t)]
  exact b c o nc h1 t
def rLenK (K : PySem.W.Frag) : List V → Hp → VK → Prop := fun xs H Q => ∃ p ys, xs = [.ref p] ∧ (SqL K H p ys ∨ SqT K H p ys) ∧ Q (.int ys.length) H
end WS
set_option Elab.async false
set_option linter.all false
set_option maxRecDepth 100000
set_option maxHeartbeats 4000000
namespace WS
open PySem PySem.Spec PyProof.Rows L2
/-! ### t[::-1] of a tuple -/
section
variable {prog : Program} {w : World} {A : Around} {E : Value → Shared → Prop} {s : Shared}
open HT in
theorem sliceApplied_rev {sl : Addr} {vl vu vs : Value} {n : Nat} {Q : Int × Int × Nat → Shared → Prop} (hs : s.heap.IsSliceOf sl vl vu vs) (pl : IsPart vl none) (pu : IsPart vu none) (ps : IsPart vs (some (-1)))
    (h : Q ((n : Int) - 1, -1, n) s) : wpAny (model prog w) A (Builtin.Slice.sliceApplied (.ref sl) (pure (n : Int))) Q E s := by
  obtain ⟨os, hos, hcs, hds⟩ := id hs
  unfold Builtin.Slice.sliceApplied Builtin.Slice.sliceFields
  refine wpAny_bind (wpAny_bind (wpAny_field hos hds (x := vl) rfl (wpAny_bind (wpAny_field hos hds (x := vu) rfl (wpAny_bind (wpAny_field hos hds (x := vs) rfl (wpAny_pure ?_)))))))
  refine wpAny_bind (slicePart_ ps ?_)
  show wpAny _ _ (if ((-1 : Int) == 0) = true then _ else _) _ _ s
  rw [if_neg (by decide)]
  refine wpAny_bind (slicePart_ pl (wpAny_bind (slicePart_ pu (wpAny_bind (wpAny_pure ?_)))))
  show wpAny _ _ (match Builtin.Slice.sliceAdjust none none (-1) (n : Int) with | (lo, hi) => pure (lo, (-1 : Int), Builtin.Slice.slicePlaces lo hi (-1))) _ _ s
  have e1 : Builtin.Slice.sliceAdjust none none (-1) (n : Int) = ((n : Int) - 1, -1) := rfl
  rw [e1]
  show wpAny _ _ (pure ((n : Int) - 1, (-1 : Int), Builtin.Slice.slicePlaces ((n : Int) - 1) (-1) (-1))) _ _ s
  have e2 : Builtin.Slice.slicePlaces ((n : Int) - 1) (-1) (-1) = n := by
    unfold Builtin.Slice.slicePlaces
    rw [if_neg (by decide)]
    simp only [Int.neg_neg, Int.ediv_one]
    split <;> omega
  rw [e2]
  exact wpAny_pure h
theorem fm_congr {α β : Type} {f g : α → Option β} : ∀ {l : List α}, (∀ x ∈ l, f x = g x) → l.filterMap f = l.filterMap g
  | [], _ => rfl
  | x :: l, h => by rw [List.filterMap_cons, List.filterMap_cons, h x List.mem_cons_self, fm_congr fun y hy => h y (List.mem_cons_of_mem _ hy)]
theorem pick_rev (xs : Array Value) : ((List.range xs.size).filterMap fun (k : Nat) => xs[((xs.size : Int) - 1 + (k : Int) * -1).toNat]?).toArray = xs.toList.reverse.toArray := by
  congr 1
  have h : ∀ (n : Nat) (l : List Value), l.length = n → (List.range n).filterMap (fun (k : Nat) => l[((n : Int) - 1 + (k : Int) * -1).toNat]?) = l.reverse := by
    intro n l hl
    have e : (List.range n).filterMap (fun (k : Nat) => l[((n : Int) - 1 + (k : Int) * -1).toNat]?) = (List.range n).filterMap (fun k => l.reverse[k]?) := by
      refine fm_congr fun k hk => ?_
      have hk := List.mem_range.mp hk
      rw [List.getElem?_reverse (by omega)]
      congr 1
      omega
    rw [e]
    have : ∀ (m : List Value), (List.range m.length).filterMap (fun k => m[k]?) = m := by
      intro m
      induction m with
      | nil => rfl
      | cons x m ih =>
        rw [List.length_cons, List.range_succ_eq_map, List.filterMap_cons]
        simp only [List.getElem?_cons_zero, List.filterMap_map]
        congr 1
    have := this l.reverse
    rwa [List.length_reverse, hl] at this
  have := h xs.size xs.toList (by simp)
  simpa using this
open HT in
theorem getItem_tuple_rev {t sl : Addr} {items : Array Value} {vl vu vs : Value} {Q : Value → Shared → Prop} (ht : IsTup s.heap t items) (hs : s.heap.IsSliceOf sl vl vu vs) (pl : IsPart vl none) (pu : IsPart vu none) (ps : IsPart vs (some (-1)))
    (h : Q (.ref s.heap.objs.size) { s with heap := s.heap.push { cls := .type "tuple", data := .seq items.toList.reverse.toArray } })
    (hsz : items.size ≤ sizeLine) : wpAny (model prog w) A (getItem (.ref t) (.ref sl)) Q E s := by
  have htake : sizeOk (.seq items.toList.reverse.toArray) := by
    show items.toList.reverse.toArray.size ≤ sizeLine
    rw [List.size_toArray, List.length_reverse, Array.length_toList]
    exact hsz
  obtain ⟨os, hos, hcs, hds⟩ := id hs
  have hTs : s.TypeIs (.ref sl) "slice" := ⟨os, hos, hcs⟩
  unfold getItem
  try with_reducible refine wpAny_holding ?_
  first | refine wpAny_bind (wpAny_pure ?_) | skip
  refine wpAny_bind (wpAny_sequenceKey ht.typeIs (by decide) ?_)
  refine wpAny_bind (wpAny_callSpecial?_slot (name := Str.ofString "__getitem__") ht.typeIs PyProof.Rows.slot_tuple_getitem
    (wpAny_call_entry PyProof.Rows.slot_tuple_getitem ht.typeIs entry_tuple_getitem ?_ (args_tuple_getitem _ _)))
  show wpAny _ _ (Builtin.Tuple.tupleItemsOf (.ref t) >>= _) _ _ s
  refine wpAny_bind (tupleItemsOf_ ht ?_)
  refine wpAny_bind (wpAny_typeOf hTs ?_)
  rw [if_pos (by decide)]
  refine wpAny_bind (sliceApplied_rev hs pl pu ps ?_)
  have hno : ¬ (((items.size : Int) - 1 == 0 && (-1 : Int) == 1 && items.size == items.size) = true) := by
    rw [show ((-1 : Int) == 1) = false from rfl, Bool.and_false, Bool.false_and]
    exact Bool.false_ne_true
  show wpAny _ _ (if ((items.size : Int) - 1 == 0 && (-1 : Int) == 1 && items.size == items.size) = true then _ else _) _ _ s
  rw [if_neg hno, pick_rev]
  first
    | exact wpAny_bind (m := Builtin.Tuple.tupleExact _) (wpAny_newObj_type (wpAny_pure ⟨_, rfl, wpAny_pure h⟩) htake)
    | exact wpAny_bind (m := Builtin.Tuple.tupleExact _) (wpAny_newObj_type (wpAny_bind (wpAny_pure (wpAny_pure ⟨_, rfl, wpAny_pure h⟩))) htake)
end
def tRevT (K : PySem.W.Frag) (te : TE) : TE := fun σ H Q => te σ H fun x H1 => ∃ a xs, x = .ref a ∧ SqT K H1 a xs ∧ ∀ p, H1 p = none → Q (.ref p) (upd H1 p (.tup xs.reverse))
theorem pe_revT {X : Cx} {e : Expr} {te : TE} {k : Nat} {p1 p2 p3 pos : Pos} (he : PE X e te) : PE X (.Subscript e (.Slice none none (some (.UnaryOp .USub (.Constant (.int 1) k p1) p2)) p3) pos) (tRevT X.K te) := by
  refine ⟨fun pins s σ H Q I h => ?_⟩
  refine Subscript_ (thn (he.run pins s σ H _ I h) fun v s1 ⟨x, H1, I1, r1, q1⟩ => ?_)
  obtain ⟨a, xs, ex, hx, q⟩ := q1
  subst ex
  cases r1
  have hst : PO X (some (.UnaryOp .USub (.Constant (.int 1) k p1) p2)) (tPart (tUn (rU fun i => .int (-i)) (tC (.int 1)))) := po_some (pe_un un_neg pe_int)
  refine wpAny_Slice (thn (po_none.run pins s1 σ H1 (fun o H2 => o = none ∧ H2 = H1) I1 ⟨rfl, rfl⟩) fun vl s2 ⟨l, H2, I2, pl, el, e2⟩ => ?_)
  subst el e2
  refine thn (po_none.run pins s2 σ H2 (fun o H3 => o = none ∧ H3 = H2) I2 ⟨rfl, rfl⟩) fun vu s3 ⟨u, H3, I3, pu, eu, e3⟩ => ?_
  subst eu e3
  refine thn (hst.run pins s3 σ H3 (fun o H4 => o = some (-1) ∧ H4 = H3) I3 ⟨1, rfl, -1, rfl, rfl, rfl⟩) fun vs s4 ⟨o, H4, I4, ps, eo, e4⟩ => ?_
  subst eo e4
  have I5 : Inv X pins σ H4 { s4 with heap := s4.heap.push { cls := .type "slice", data := .fields #[vl, vu, vs] } } := I4.kept (t' := s4.toks) fun b ob q => Heap.get?_push_of_some _ q
  obtain ⟨its, r, ht, hz⟩ := I5.tuple hx
  have hlen := r.length
  show wpAny (model X.prog X.w) X.A (subscriptTail e (.Slice none none (some (.UnaryOp .USub (.Constant (.int 1) k p1) p2)) p3) (.ref a) (.ref s4.heap.objs.size)) (EP X pins σ Q) X.xe { s4 with heap := s4.heap.push { cls := .type "slice", data := .fields #[vl, vu, vs] } }
  refine tail_any (ops := [.ref a, .ref s4.heap.objs.size]) ht.typeIs (PyProof.Rows.slot_tuple_getitem.lookup) ?_ (by with_unfolding_all rfl)
  refine getItem_tuple_rev ht (Heap.IsSliceOf.new _ vl vu vs) pl pu ps ?_ (by rw [List.size_toArray]; omega)
  refine ⟨.ref _, _, I5.laid (t' := s4.toks) (o := .tup xs.reverse) (fun b ob q => Heap.get?_push_of_some _ q) (Nat.le_refl _) ?_, rfl, q _ (I5.hok.fresh (Nat.le_refl _))⟩
  refine ⟨by rw [List.length_reverse]; exact hz, its.reverse, r.reverse, ?_⟩
  exact ⟨_, Heap.get?_push_size _ rfl, rfl, _, rfl⟩

/-! ### t[lo:hi] of a tuple, the whole of it or not -/
def rSlB (K : PySem.W.Frag) : V → Option Int → Option Int → Hp → VK → Prop := fun x lo hi H Q => ∃ a xs, x = .ref a ∧ SqT K H a xs ∧ ∀ p H', Same H H' → SqT K H' p (cutV xs lo hi) → Q (.ref p) H'
theorem sl_tupB {X : Cx} : SlR X (rSlB X.K) := by
  intro pins s σ H x v vl vu lo hi sl Q I rx hs pl pu h
  obtain ⟨a, xs, rfl, hx, q⟩ := h
  refine sl_tupA pins s σ H _ v vl vu lo hi sl Q I rx hs pl pu ⟨a, xs, rfl, hx, fun hw => q a H (Same.refl H) ?_, fun _ p np => q p _ (same_new np) (.inl (.inl upd_same))⟩
  unfold cutV
  rw [hw.1, hw.2, List.drop_zero, Nat.sub_zero, List.take_length]
  exact hx
def AllParts (K : PySem.W.Frag) (H : Hp) (rs : List V) : Prop := ∀ v ∈ rs, ∃ a b, TupI K H v a b ∧ Bt 4400 a ∧ Bt 4400 b
def Okl (p : Int × Int) : Prop := Lowest p.1 p.2 ∧ Okp 202 p
def spTold (K : PySem.W.Frag) : Sp := fun vs H Q _ => ∃ (l : Addr) (rs : List V), vs = [.ref l] ∧ SqT K H l rs ∧ AllParts K H rs ∧ Q (.bl true) H
def spNear (K : PySem.W.Frag) : Sp := fun vs H Q _ => ∃ (p : Addr) (v : V) (a b : Int), vs = [.ref p, v] ∧ PotAt H p ∧ TupI K H v a b ∧ Okl (a, b) ∧ ∀ v' a' b' H', TupI K H' v' a' b' → Okl (a', b') → SameX p H H' → PotAt H' p → Q v' H'
def spDrawL (K : PySem.W.Frag) : Sp := fun vs H Q _ => ∃ p : Addr, vs = [.ref p] ∧ PotAt H p ∧ ∀ v' a' b' H', TupI K H' v' a' b' → Okl (a', b') → SameX p H H' → PotAt H' p → Q v' H'
def spParts13 (K : PySem.W.Frag) : Sp := fun vs H Q _ => ∃ p : Addr, vs = [.ref p] ∧ PotAt H p ∧ ∀ H' t rs ps, SameX p H H' → PotAt H' p → SqT K H' t rs → Parts K H' rs ps → ps.length ≤ 60 → (∀ q ∈ ps, Okl q) → Q (.ref t) H'
def spRight (K : PySem.W.Frag) (P : Addr) : Sp := fun vs H Q _ => ∃ (l : Addr) (rs : List V) (ps : List (Int × Int)), vs = [.ref l] ∧ SqT K H l rs ∧ Parts K H rs ps ∧ (∀ q ∈ ps, Okl q) ∧ ps.length ≤ 60 ∧ LamX.TabS H P qLam ∧ ∀ H', LamX.ExtN H H' → LamX.TabS H' P qLam → Q (.bl true) H'
theorem Parts.all {K : PySem.W.Frag} {H : Hp} {rs : List V} {ps : List (Int × Int)} (h : Parts K H rs ps) (hk : ∀ q ∈ ps, Okl q) : AllParts K H rs := fun v hv => by
  obtain ⟨i, hi⟩ := List.getElem?_of_mem hv
  obtain ⟨p, hp, t⟩ := h.2 i v hi
  have := (hk p (List.mem_of_getElem? hp)).2
  exact ⟨_, _, t, this.2.1.mono (by decide), this.2.2.mono (by decide)⟩
def rIsiK (K : PySem.W.Frag) : List V → Hp → VK → Prop := rIsi K
end WS
set_option Elab.async false
set_option linter.all false
set_option maxRecDepth 100000
set_option maxHeartbeats 4000000
namespace WS
open PySem PySem.Spec PyProof.Rows L2
/-! data: values that never change, as PyData -/
mutual
def imm : PyData → Bool
  | .list _ | .dict _ => false
  | .tuple xs => immAll xs
  | _ => true
def immAll : List PyData → Bool
  | [] => true
  | x :: xs => imm x && immAll xs
end
mutual
theorem dp_k {K : PySem.W.Frag} {H H' : Hp} (s : KT H H') : ∀ (d : PyData) (v : V), imm d = true → Dp K H v d → Dp K H' v d
  | .none, _, _, h => by cases h; exact .non
  | .bool b, _, _, h => by cases h; exact .bl b
  | .int i, _, _, h => by cases h; exact .int i
  | .str x, _, _, h => by cases h; exact .str x
  | .list xs, _, e, _ => by unfold imm at e; cases e
  | .dict xs, _, e, _ => by unfold imm at e; cases e
  | .tuple xs, _, e, h => by
    unfold imm at e
    cases h with
    | tup h0 h1 => exact .tup (s.sqt h0) (dpall_k s xs _ e h1)
theorem dpall_k {K : PySem.W.Frag} {H H' : Hp} (s : KT H H') : ∀ (ds : List PyData) (vs : List V), immAll ds = true → DpAll K H vs ds → DpAll K H' vs ds
  | [], _, _, h => by cases h; exact .nil
  | d :: ds, _, e, h => by
    unfold immAll at e
    rw [Bool.and_eq_true] at e
    cases h with
    | cons h0 h1 => exact .cons (dp_k s d _ e.1 h0) (dpall_k s ds _ e.2 h1)
end
mutual
theorem dp_same {K : PySem.W.Frag} {H H' : Hp} (s : Same H H') : ∀ (d : PyData) (v : V), Dp K H v d → Dp K H' v d
  | .none, _, h => by cases h; exact .non
  | .bool b, _, h => by cases h; exact .bl b
  | .int i, _, h => by cases h; exact .int i
  | .str x, _, h => by cases h; exact .str x
  | .list xs, _, h => by
    cases h with
    | lst h0 h1 => exact .lst (s.seq h0) (dpall_same s xs _ h1)
  | .dict xs, _, h => by cases h
  | .tuple xs, _, h => by
    cases h with
    | tup h0 h1 => exact .tup (Same.tup s h0) (dpall_same s xs _ h1)
theorem dpall_same {K : PySem.W.Frag} {H H' : Hp} (s : Same H H') : ∀ (ds : List PyData) (vs : List V), DpAll K H vs ds → DpAll K H' vs ds
  | [], _, h => by cases h; exact .nil
  | d :: ds, _, h => by
    cases h with
    | cons h0 h1 => exact .cons (dp_same s d _ h0) (dpall_same s ds _ h1)
end
theorem _root_.L2.Dp.sm {K : PySem.W.Frag} {H H' : Hp} {v : V} {d : PyData} (h : Dp K H v d) (s : Same H H') : Dp K H' v d := dp_same s d v h
theorem _root_.L2.Dp.kt {K : PySem.W.Frag} {H H' : Hp} {v : V} {d : PyData} (h : Dp K H v d) (s : KT H H') (e : imm d = true) : Dp K H' v d := dp_k s d v e h
theorem _root_.L2.DpAll.sm {K : PySem.W.Frag} {H H' : Hp} {vs : List V} {ds : List PyData} (h : DpAll K H vs ds) (s : Same H H') : DpAll K H' vs ds := dpall_same s ds vs h
theorem _root_.L2.DpAll.kt {K : PySem.W.Frag} {H H' : Hp} {vs : List V} {ds : List PyData} (h : DpAll K H vs ds) (s : KT H H') (e : immAll ds = true) : DpAll K H' vs ds := dpall_k s ds vs e h
theorem dp_tup {K : PySem.W.Frag} {H : Hp} {v : V} {ds : List PyData} (h : Dp K H v (.tuple ds)) : ∃ t vs, v = .ref t ∧ SqT K H t vs ∧ DpAll K H vs ds := by
  cases h with
  | tup h0 h1 => exact ⟨_, _, rfl, h0, h1⟩
theorem dp_int {K : PySem.W.Frag} {H : Hp} {v : V} {i : Int} (h : Dp K H v (.int i)) : v = .int i := by cases h; rfl
theorem dp_str {K : PySem.W.Frag} {H : Hp} {v : V} {z : Str} (h : Dp K H v (.str z)) : v = .str z := by cases h; rfl
theorem dp2 {K : PySem.W.Frag} {H : Hp} {v : V} {d e : PyData} (h : Dp K H v (.tuple [d, e])) : ∃ t x y, v = .ref t ∧ SqT K H t [x, y] ∧ Dp K H x d ∧ Dp K H y e := by
  obtain ⟨t, vs, rfl, h0, h1⟩ := dp_tup h
  cases h1 with
  | cons a b => cases b with
    | cons c d => cases d; exact ⟨t, _, _, rfl, h0, a, c⟩
theorem dp3 {K : PySem.W.Frag} {H : Hp} {v : V} {d e f : PyData} (h : Dp K H v (.tuple [d, e, f])) : ∃ t x y z, v = .ref t ∧ SqT K H t [x, y, z] ∧ Dp K H x d ∧ Dp K H y e ∧ Dp K H z f := by
  obtain ⟨t, vs, rfl, h0, h1⟩ := dp_tup h
  cases h1 with
  | cons a b => cases b with
    | cons c d => cases d with
      | cons e f => cases f; exact ⟨t, _, _, _, rfl, h0, a, c, e⟩
theorem mk_dp2 {K : PySem.W.Frag} {H : Hp} {t : Addr} {x y : V} {d e : PyData} (h : SqT K H t [x, y]) (a : Dp K H x d) (b : Dp K H y e) : Dp K H (.ref t) (.tuple [d, e]) := .tup h (.cons a (.cons b .nil))
theorem dp_pd {K : PySem.W.Frag} {H : Hp} {v : V} {a b : Int} (h : Dp K H v (pd a b)) : TupI K H v a b := by
  obtain ⟨t, x, y, rfl, h0, hx, hy⟩ := dp2 h
  rw [dp_int hx, dp_int hy] at h0
  exact ⟨t, rfl, h0⟩
theorem dpall_len {K : PySem.W.Frag} {H : Hp} : ∀ {vs : List V} {ds : List PyData}, DpAll K H vs ds → vs.length = ds.length
  | _, [], h => by cases h; rfl
  | _, d :: ds, h => by
    cases h with
    | cons a b => simp [dpall_len b]
theorem dpall_at {K : PySem.W.Frag} {H : Hp} : ∀ {vs : List V} {ds : List PyData} {i : Nat} {v : V}, DpAll K H vs ds → vs[i]? = some v → ∃ d, ds[i]? = some d ∧ Dp K H v d
  | _, [], i, v, h, e => by cases h; simp at e
  | _, d :: ds, 0, v, h, e => by
    cases h with
    | cons a b =>
      simp only [List.getElem?_cons_zero, Option.some.injEq] at e
      subst e
      exact ⟨d, rfl, a⟩
  | _, d :: ds, i + 1, v, h, e => by
    cases h with
    | cons a b =>
      rw [List.getElem?_cons_succ] at e
      obtain ⟨d', e', h'⟩ := dpall_at b e
      exact ⟨d', by rw [List.getElem?_cons_succ]; exact e', h'⟩
theorem dpall_get {K : PySem.W.Frag} {H : Hp} {vs : List V} {ds : List PyData} {i : Nat} {d : PyData} (h : DpAll K H vs ds) (e : ds[i]? = some d) : ∃ v, vs[i]? = some v ∧ Dp K H v d := by
  have hl := dpall_len h
  have hi := (List.getElem?_eq_some_iff.mp e).1
  obtain ⟨d', e', h'⟩ := dpall_at h (List.getElem?_eq_getElem (show i < vs.length by omega))
  rw [e] at e'
  obtain rfl := Option.some.inj e'
  exact ⟨_, List.getElem?_eq_getElem (by omega), h'⟩
theorem dpall_app {K : PySem.W.Frag} {H : Hp} : ∀ {vs ws : List V} {ds es : List PyData}, DpAll K H vs ds → DpAll K H ws es → DpAll K H (vs ++ ws) (ds ++ es)
  | _, _, [], _, h, k => by cases h; exact k
  | _, _, d :: ds, _, h, k => by
    cases h with
    | cons a b => exact .cons a (dpall_app b k)
theorem dpall_add {K : PySem.W.Frag} {H : Hp} {vs : List V} {v : V} {ds : List PyData} {d : PyData} (h : DpAll K H vs ds) (k : Dp K H v d) : DpAll K H (vs ++ [v]) (ds ++ [d]) := dpall_app h (.cons k .nil)
theorem dpall_take {K : PySem.W.Frag} {H : Hp} : ∀ {vs : List V} {ds : List PyData} (n : Nat), DpAll K H vs ds → DpAll K H (vs.take n) (ds.take n)
  | _, _, 0, h => by simp only [List.take_zero]; exact .nil
  | _, [], n + 1, h => by cases h; exact .nil
  | _, d :: ds, n + 1, h => by
    cases h with
    | cons a b => exact .cons a (dpall_take n b)
theorem dpall_drop {K : PySem.W.Frag} {H : Hp} : ∀ {vs : List V} {ds : List PyData} (n : Nat), DpAll K H vs ds → DpAll K H (vs.drop n) (ds.drop n)
  | _, _, 0, h => h
  | _, [], n + 1, h => by cases h; exact .nil
  | _, d :: ds, n + 1, h => by
    cases h with
    | cons a b => exact dpall_drop n b
theorem immAll_map {α : Type} {f : α → PyData} (h : ∀ x, imm (f x) = true) : ∀ l : List α, immAll (l.map f) = true
  | [] => rfl
  | x :: l => by
    show (imm (f x) && immAll (l.map f)) = true
    rw [h x, immAll_map h l]
    rfl
theorem parts_dp {K : PySem.W.Frag} {H : Hp} : ∀ {rs : List V} {ps : List (Int × Int)}, DpAll K H rs (ps.map pdP) → Parts K H rs ps
  | _, [], h => by cases h; exact Parts.nil
  | _, p :: ps, h => by
    cases h with
    | cons a b => exact Parts.cons (dp_pd a) (parts_dp b)
/-! what can be shown -/
def Sh (n k : Nat) (d : PyData) : Prop := d.showable = true ∧ d.hasDict = false ∧ d.depth ≤ k ∧ d.shown.length ≤ n
theorem Sh.mono {n k m l : Nat} {d : PyData} (h : Sh n k d) (a : n ≤ m) (b : k ≤ l) : Sh m l d := ⟨h.1, h.2.1, Nat.le_trans h.2.2.1 b, Nat.le_trans h.2.2.2 a⟩
theorem Sh.int {m : Nat} {i : Int} (h0 : 0 < m) (h1 : m ≤ 1900) (h : Bt m i) : Sh (m + 1) 1 (.int i) := ⟨bt_show (h.mono h1), rfl, by simp [PyData.depth], shown_int_len h0 h⟩
theorem Sh.str {z : Str} (hz : ∀ c ∈ z.cps.toList, c < 16 ^ 8) : Sh (10 * z.length + 2) 1 (.str z) := ⟨rfl, rfl, by simp [PyData.depth], StrLaws.reprText_len z hz⟩
theorem sh_all {n k : Nat} : ∀ (ds : List PyData), (∀ d ∈ ds, Sh n k d) → PyData.showableAll ds = true ∧ PyData.hasDictAll ds = false ∧ PyData.depthAll ds ≤ k ∧ piled (PyData.shownAll ds) ≤ ds.length * (n + 2)
  | [], _ => ⟨rfl, rfl, Nat.zero_le _, by simp [PyData.shownAll, piled]⟩
  | d :: ds, h => by
    obtain ⟨a, b, c, e⟩ := sh_all ds (fun x hx => h x (List.mem_cons_of_mem _ hx))
    obtain ⟨a', b', c', e'⟩ := h d List.mem_cons_self
    refine ⟨?_, ?_, ?_, ?_⟩
    · simp [PyData.showableAll, a, a']
    · simp [PyData.hasDictAll, b, b']
    · simp only [PyData.depthAll]
      omega
    · simp only [PyData.shownAll, piled, List.length_cons, Nat.add_mul, List.map_cons, List.sum_cons] at e ⊢
      omega
theorem Sh.tup {n k m : Nat} {ds : List PyData} (h : ∀ d ∈ ds, Sh n k d) (hl : ds.length ≤ m) : Sh (m * (n + 2) + 2) (k + 1) (.tuple ds) := by
  obtain ⟨a, b, c, e⟩ := sh_all ds h
  refine ⟨a, b, ?_, ?_⟩
  · simp only [PyData.depth]
    omega
  · have := shown_tup_len ds
    have := Nat.mul_le_mul_right (n + 2) hl
    omega
theorem Sh.lst {n k m : Nat} {ds : List PyData} (h : ∀ d ∈ ds, Sh n k d) (hl : ds.length ≤ m) : Sh (m * (n + 2) + 2) (k + 1) (.list ds) := by
  obtain ⟨a, b, c, e⟩ := sh_all ds h
  refine ⟨a, b, ?_, ?_⟩
  · simp only [PyData.depth]
    omega
  · have := shown_lst_len ds
    have := Nat.mul_le_mul_right (n + 2) hl
    omega
theorem Sh.pd {m : Nat} {a b : Int} (h0 : 0 < m) (h1 : m ≤ 1900) (h : Bt m a) (k : Bt m b) : Sh (2 * (m + 3) + 2) 2 (pd a b) := by
  refine Sh.tup (n := m + 1) (k := 1) (fun d hd => ?_) (Nat.le_refl 2)
  simp only [List.mem_cons, List.not_mem_nil, or_false] at hd
  rcases hd with rfl | rfl
  · exact Sh.int h0 h1 h
  · exact Sh.int h0 h1 k
theorem immAll_app : ∀ a b : List PyData, immAll (a ++ b) = (immAll a && immAll b)
  | [], b => by simp [immAll]
  | x :: a, b => by
    show (imm x && immAll (a ++ b)) = (imm x && immAll a && immAll b)
    rw [immAll_app a b, Bool.and_assoc]
end WS
set_option Elab.async false
set_option linter.all false
set_option maxRecDepth 100000
set_option maxHeartbeats 4000000
namespace WS
open PySem PySem.Spec PyProof.Rows L2
/-! walks over lists and tuples alike: enumerate, zip of two, zip of three -/
def SqB (K : PySem.W.Frag) (b : Bool) (H : Hp) (a : Addr) (xs : List V) : Prop := match b with | true => SqL K H a xs | false => SqT K H a xs
def ItB (b : Bool) (h : Heap) (it a : Addr) (i : Nat) : Prop := match b with | true => h.IsListIter it a i | false => h.IsTupleIter it a i
def IsB (b : Bool) (h : Heap) (a : Addr) (its : Array Value) : Prop := match b with | true => h.IsList a its | false => h.IsTuple a its
def oB (b : Bool) (a : Addr) : Obj := match b with | true => { cls := .type "list_iterator", data := .fields #[.ref a, .int 0 0] } | false => { cls := .type "tuple_iterator", data := .fields #[.ref a, .int 0 0] }
theorem sqb_get {X : Cx} {pins : List (Addr × Obj)} {σ : L2.St} {H : Hp} {s : Shared} {b : Bool} {a : Addr} {xs : List V} (I : Inv X pins σ H s) (h : SqB X.K b H a xs) : ∃ its : List Value, Vals xs its ∧ IsB b s.heap a its.toArray := by
  cases b with
  | true =>
    obtain ⟨its, r, p, _⟩ := I.list h
    exact ⟨its, r, p.isList⟩
  | false =>
    obtain ⟨its, r, ⟨o, e, c, n, d⟩, _⟩ := I.tuple h
    exact ⟨its, r, o, e, c, n, d⟩
theorem sqb_inj {X : Cx} {pins : List (Addr × Obj)} {σ : L2.St} {H : Hp} {s : Shared} {b : Bool} {a : Addr} {xs ys : List V} (I : Inv X pins σ H s) (h : SqB X.K b H a xs) (h' : SqB X.K b H a ys) : xs = ys := by
  cases b with
  | true => exact I.list_inj h h'
  | false => exact I.tuple_inj h h'
theorem itb_obj {b : Bool} {h : Heap} {it a : Addr} {i : Nat} (x : ItB b h it a i) : ∃ o, h.get? it = some o ∧ ∀ v, o.data ≠ .cell v := by
  cases b <;> (obtain ⟨o, e, c, d⟩ := x; exact ⟨o, e, fun v z => by rw [d] at z; cases z⟩)
theorem itb_keep {b : Bool} {h h' : Heap} {it a : Addr} {i : Nat} (x : ItB b h it a i) (k : ∀ o, h.get? it = some o → h'.get? it = some o) : ItB b h' it a i := by
  cases b <;> (obtain ⟨o, e, r⟩ := x; exact ⟨o, k o e, r⟩)
theorem itb_draws {b : Bool} {prog : Program} {w : World} {A : Around} (hh : A.handled = none) (it a : Addr) (hne : a ≠ it) (its : Array Value) :
    Draws prog w A it [it, a] its.size (fun i v => its[i]? = some v) (fun i h => ItB b h it a i ∧ IsB b h a its) := by
  cases b with
  | true => exact Draws.list hh it a hne its
  | false => exact Draws.tuple hh it a hne its
theorem itb_begins (b : Bool) (a : Addr) (its : Array Value) : Begins (.ref a) (oB b a) (fun h => IsB b h a its) := by
  cases b with
  | true => exact begins_list a its
  | false => exact begins_tuple a its
theorem itb_start {b : Bool} {h : Heap} {it a : Addr} (e : h.get? it = some (oB b a)) : ItB b h it a 0 := by
  cases b <;> exact ⟨_, e, rfl, rfl⟩
theorem isb_lt {b : Bool} {h : Heap} {a : Addr} {its : Array Value} (x : IsB b h a its) : a < h.objs.size := by
  cases b <;> (obtain ⟨o, e, _⟩ := x; exact Heap.lt_size e)
theorem isb_ne {b c : Bool} {h : Heap} {it a a' : Addr} {i : Nat} {its : Array Value} (x : IsB b h a its) (y : ItB c h it a' i) : a ≠ it := by
  intro z
  subst z
  cases b <;> cases c <;> (obtain ⟨o, e, k, _⟩ := x; obtain ⟨o', e', k', _⟩ := y; rw [e] at e'; cases e'; rw [k] at k'; simp at k')
/-- a walk told turn by turn -/
theorem turn_gen {P : Program} {w : World} {K : PySem.W.Frag} {elts : List Expr} {kk : Nat} {tpos : Pos} {J : It} {fp : List Addr} {e : Addr} {tn : Nat → Heap → Prop} (hm : e ∈ fp)
    (obj : ∀ i h, tn i h → ∀ b ∈ fp, ∃ o, h.get? b = some o ∧ ∀ v, o.data ≠ .cell v)
    (keep : ∀ i h h', tn i h → (∀ b ∈ fp, ∀ o, h.get? b = some o → h'.get? b = some o) → tn i h')
    (each : ∀ (X : Cx), X.prog = P → X.w = w → X.K = K → X.calm = true → ∀ (i : Nat) (pins : List (Addr × Obj)) (s : Shared) (σ : L2.St) (H : Hp), Inv X pins σ H s → (∀ b ∈ fp, FpOk X pins H b) → tn i s.heap → J.go i H →
      ∃ (FP wr : List Addr) (n : Nat) (Pt : Nat → Array Value → Prop) (St : Nat → Heap → Prop) (Mid : Nat → Addr → Heap → Prop), WalksT P w X.A e FP wr n Pt St Mid ∧ (∀ b ∈ wr, b ∈ fp) ∧ i < n ∧ St i s.heap ∧ (∀ h, St (i + 1) h → tn (i + 1) h) ∧
        ∀ vals, Pt i vals → ∃ xs : List V, Vals xs vals.toList ∧ xs.length ≤ sizeLine ∧ ∀ T, H T = none → J.yld i H (.ref T) (upd H T (.tup xs)))
    (fin : ∀ (X : Cx), X.prog = P → X.w = w → X.K = K → X.calm = true → ∀ (i : Nat) (pins : List (Addr × Obj)) (s : Shared) (σ : L2.St) (H : Hp), Inv X pins σ H s → (∀ b ∈ fp, FpOk X pins H b) → tn i s.heap → J.stop i H →
      ∃ (FP wr : List Addr) (n : Nat) (Pt : Nat → Array Value → Prop) (St : Nat → Heap → Prop) (Mid : Nat → Addr → Heap → Prop), WalksT P w X.A e FP wr n Pt St Mid ∧ (∀ b ∈ wr, b ∈ fp) ∧ St n s.heap)
    (self : ∀ (A : Around) (i : Nat) (s : Shared) (Q : Value → Shared → Prop) (E : Value → Shared → Prop), tn i s.heap → Q (.ref e) s → wpAny (model P w) A (pyIter (.ref e)) Q E s) :
    Turn P w K (.Tuple elts kk tpos) J fp e tn where
  mem := hm
  obj := obj
  keep := keep
  item := fun X hP hw hK hc i pins s σ H E I hf st hg => by
    obtain ⟨FP, wr, n, Pt, St, Mid, W, hwr, hi, h0, hn, hv⟩ := each X hP hw hK hc i pins s σ H I hf st hg
    subst hP hw hK
    refine W.item i s _ E hi h0 fun T vals h1 tk hp hT hI hMid hk => ⟨.ref T, rfl, ?_⟩
    refine W.go elts kk tpos i T _ _ _ hMid fun h2 st2 hk2 => ?_
    obtain ⟨xs, rv, hz, hy⟩ := hv vals hp
    obtain ⟨oT, eT, cT, n', dT⟩ := hI
    have eT2 : h2.get? T = some oT := hk2 T oT (W.apart i T _ hMid) eT
    have new : ObjOk X.prog X.w (upd H T (.tup xs)) h2 T (.tup xs) := ⟨hz, vals.toList, rv, oT, eT2, cT, n', by simpa using dT⟩
    have I2 : Inv X pins σ (upd H T (.tup xs)) { s with heap := h2, toks := tk } := I.turnedNew (t' := tk) (ch := fp) (fun b o hb q => hk2 b o (fun z => hb (hwr b z)) (hk b o (fun z => hb (hwr b z)) q)) hf hT new
    have fT : H T = none := I.hok.fresh hT
    refine ⟨.ref T, _, I2, rfl, hy T fT, hn _ st2, fun b hb => ?_⟩
    have nb : b ≠ T := fun z => by
      obtain ⟨o, eo, _⟩ := obj i s.heap st b hb
      have := Heap.lt_size eo
      rw [z] at this
      exact absurd (Nat.lt_of_lt_of_le this hT) (Nat.lt_irrefl _)
    rw [upd_ne nb]
    exact (hf b hb).1
  done := fun X hP hw hK hc i pins s σ H E I hf st hg => by
    obtain ⟨FP, wr, n, Pt, St, Mid, W, hwr, h0⟩ := fin X hP hw hK hc i pins s σ H I hf st hg
    subst hP hw hK
    exact W.done s _ E h0 fun h1 tk hk => ⟨rfl, I.turnedL (t' := tk) (ch := fp) (fun b o hb q => hk b o (fun z => hb (hwr b z)) q) hf⟩
  self := self

/-- the items with their numbers from k on -/
def ItE (K : PySem.W.Frag) (b : Bool) (a : Addr) (k : Int) : It :=
  ⟨fun i H => ∃ (xs : List V) (x : V), SqB K b H a xs ∧ xs[i]? = some x,
   fun i H v H' => ∃ T x, v = .ref T ∧ H T = none ∧ H' = upd H T (.tup [.int (k + (i : Nat)), x]) ∧ ∀ xs, SqB K b H a xs → xs[i]? = some x,
   fun i H => ∃ xs : List V, SqB K b H a xs ∧ xs.length = i⟩
theorem turn_enumB {P : Program} {w : World} {K : PySem.W.Frag} {elts : List Expr} {kk : Nat} {tpos : Pos} {b : Bool} {k : Int} (a e it : Addr) (hei : e ≠ it) :
    Turn P w K (.Tuple elts kk tpos) (ItE K b a k) [e, it] e (fun i h => (∃ old, IsEnum h e it (k + (i : Nat)) old) ∧ ItB b h it a i) := by
  have two : ∀ {c : Addr}, c ∈ [e, it] → c = e ∨ c = it := fun h => by simpa using h
  refine turn_gen (by simp) ?_ ?_ ?_ ?_ ?_
  · rintro i h ⟨⟨old, he⟩, hi⟩ c hc
    rcases two hc with rfl | rfl
    · exact ⟨_, he, fun v q => nomatch q⟩
    · exact itb_obj hi
  · rintro i h h' ⟨⟨old, he⟩, hi⟩ kp
    exact ⟨⟨old, kp e (by simp) _ he⟩, itb_keep hi fun o q => kp it (by simp) o q⟩
  · rintro X hP hw hK hc i pins s σ H I hf ⟨⟨old, he⟩, hi⟩ ⟨xs, x, hq, hx⟩
    subst hP hw hK
    obtain ⟨its, rv, hB⟩ := sqb_get I hq
    have hne := isb_ne hB hi
    have hae : a ≠ e := fun z => by
      subst z
      cases b <;> (obtain ⟨o, q, c, _⟩ := hB; rw [he] at q; cases q; simp at c)
    obtain ⟨u, hu, ru⟩ := rv.get hx
    have D := itb_draws (b := b) (prog := X.prog) (w := X.w) (A := X.A.in1) (I.ok.hd hc) it a hne its.toArray
    have hlt : i < its.toArray.size := by
      have := (List.getElem?_eq_some_iff.mp hu).1
      simpa using this
    refine ⟨_, _, _, _, _, _, WalksT.enumFrom k D e hei (by simp [hei, Ne.symm hae]) (by simp), fun c hc => hc, hlt, ⟨⟨old, he⟩, hi, hB⟩, fun h st => ⟨st.1, st.2.1⟩, ?_⟩
    rintro vals ⟨t, y, hy, rfl⟩
    have ey : y = u := by
      have : its[i]? = some y := by simpa using hy
      rw [hu] at this
      exact (Option.some.inj this).symm
    subst ey
    refine ⟨[.int (k + (i : Nat)), x], .cons ⟨_, rfl⟩ (.cons ru .nil), by show 2 ≤ sizeLine; decide, fun T hT => ⟨T, x, rfl, hT, rfl, fun ys hys => by rw [sqb_inj I hys hq]; exact hx⟩⟩
  · rintro X hP hw hK hc i pins s σ H I hf ⟨⟨old, he⟩, hi⟩ ⟨xs, hq, hx⟩
    subst hP hw hK
    obtain ⟨its, rv, hB⟩ := sqb_get I hq
    have hne := isb_ne hB hi
    have hae : a ≠ e := fun z => by
      subst z
      cases b <;> (obtain ⟨o, q, c, _⟩ := hB; rw [he] at q; cases q; simp at c)
    have D := itb_draws (b := b) (prog := X.prog) (w := X.w) (A := X.A.in1) (I.ok.hd hc) it a hne its.toArray
    have hl : its.toArray.size = i := by
      have := rv.length
      simp
      omega
    refine ⟨_, _, _, _, _, _, WalksT.enumFrom k D e hei (by simp [hei, Ne.symm hae]) (by simp), fun c hc => hc, ?_⟩
    rw [hl]
    exact ⟨⟨old, he⟩, hi, hB⟩
  · rintro A i s Q E ⟨⟨old, he⟩, _⟩ h
    exact wpAny_pyIter_enum he h
end WS
set_option Elab.async false
set_option linter.all false
set_option maxRecDepth 100000
set_option maxHeartbeats 4000000
namespace WS
open PySem PySem.Spec PyProof.Rows L2
/-! enumerate(x), x a list or a tuple; its cells -/
set_option maxHeartbeats 1000000 in
theorem meets_en1 {x : Value} {ob : Obj} {Ah : Heap → Prop} (B : Begins x ob Ah) : Meets (Builtin.«enumerate.__new__» ⟨[.type "enumerate", x], []⟩)
    (fun _ Rk z => Ah z.heap ∧ Rk (.ok (.ret (.ref (z.heap.push ob).objs.size))) { z with heap := (z.heap.push ob).push { cls := .type "enumerate", data := .fields #[.none, .bool false, .ref z.heap.objs.size, rawInt 0, .none, .none] } }) := by
  refine .of_wp fun prog w A Rk z hz => ?_
  obtain ⟨hp, g, d, tk, os⟩ := z
  obtain ⟨h1, hz⟩ := hz
  have hsub := sub_enumerate
  have q1 : ∀ {A1 : Around} {E1 : Value → Shared → Prop} {Q1 : Value → Shared → Prop}, Q1 (.ref hp.objs.size) ⟨hp.push ob, g, d, tk, os⟩ →
      wpAny (model prog w) A1 (pyIter x) Q1 E1 ⟨hp, g, d, tk, os⟩ := fun q => B.iter prog w _ _ ⟨hp, g, d, tk, os⟩ _ h1 q
  wp_walk using q1
  refine wpAny_stack_any (fun stk => wpAny_pure ?_)
  split
  · rename_i c0 _ _ _ _ _
    cases (c0 == Value.type "enumerate") <;> (wp_walk using q1; exact ⟨_, rfl, hz⟩)
  · wp_walk using q1
    exact ⟨_, rfl, hz⟩

section
variable {prog : Program} {w : World} {A : Around} {E : Value → Shared → Prop} {s : Shared}
theorem en1_call {x : Value} {ob : Obj} {Ah : Heap → Prop} {Q : Value → Shared → Prop} (B : Begins x ob Ah) (h1 : Ah s.heap)
    (hQ : ∀ h', IsEnum h' (s.heap.objs.size + 1) s.heap.objs.size 0 .none → h'.get? s.heap.objs.size = some ob → (∀ c o, s.heap.get? c = some o → h'.get? c = some o) → Q (.ref (s.heap.objs.size + 1)) { s with heap := h' }) :
    wpAny (model prog w) A (call (.type "enumerate") [x]) Q E s := by
  have sz : (s.heap.push ob).objs.size = s.heap.objs.size + 1 := Heap.size_push ..
  refine callType_new F.called_enumerate (by decide) (F.typeCall_enumerate_1 x) (F.newCall_enumerate_1 x) (fun obj => F.args_object_init_2 obj x) F.entry_enumerate_new (meets_en1 B) ⟨h1, ?_⟩
  have got := Heap.get?_push_size (s.heap.push ob) (o := { cls := .type "enumerate", data := .fields #[.none, .bool false, .ref s.heap.objs.size, rawInt 0, .none, .none] }) rfl
  rw [sz] at got
  show _ ∧ _
  rw [sz]
  exact ⟨⟨_, got, rfl⟩, hQ _ got (Heap.get?_push_of_some _ (Heap.get?_push_size _ B.free)) fun c o z => Heap.get?_push_of_some _ (Heap.get?_push_of_some _ z)⟩
end
def iEnB (K : PySem.W.Frag) (ta : TA) : TI := fun σ H R => ta σ H fun vs H1 => ∃ b a xs, vs = [.ref a] ∧ SqB K b H1 a xs ∧ R (ItE K b a 0) H1
theorem pi_enB {X : Cx} {e : Expr} {ta : TA} {p pos tpos : Pos} {elts : List Expr} {kk : Nat} (hg : Gl X "enumerate") (hm : X.mg "enumerate" = none) (ha : PA X [e] ta)
    (hs : starEach [e] X.env = [(false, eval e X.env)] := by rfl) : PI X (.Tuple elts kk tpos) (.Call (.Name "enumerate" p) [e] [] pos) (iEnB X.K ta) := by
  constructor
  intro pins s σ H R I h
  refine Call_ (ld_blt I hg hm boot_enumerate (PyProof.Rows.callWith_type1 (thn (ha.run pos pins s σ H _ I h) fun us s1 ⟨vs, H1, I1, r1, q1⟩ => ?_) hs rfl))
  obtain ⟨b, a, xs, rfl, hq, q⟩ := q1
  obtain _ | ⟨r, rr⟩ := r1
  cases rr
  cases r
  obtain ⟨its, rv, hB⟩ := sqb_get I1 hq
  refine en1_call (itb_begins b a its.toArray) hB fun h' he hi hk => wpAny_pyIter_enum he ?_
  have I2 : Inv X pins σ H1 { s1 with heap := h' } := I1.kept (t' := s1.toks) hk
  refine ⟨_, [s1.heap.objs.size + 1, s1.heap.objs.size], _, _, H1, rfl, I2, turn_enumB (b := b) (k := 0) a (s1.heap.objs.size + 1) s1.heap.objs.size (Nat.succ_ne_self _), ⟨⟨.none, he⟩, itb_start hi⟩, fun c hc => ?_, q⟩
  have hle : s1.heap.objs.size ≤ c := by
    have z : c = s1.heap.objs.size + 1 ∨ c = s1.heap.objs.size := by simpa using hc
    rcases z with rfl | rfl
    · exact Nat.le_succ _
    · exact Nat.le_refl _
  exact I1.fpOk hle (I1.hok.fresh hle)
theorem walk_enB {K : PySem.W.Frag} {b : Bool} {a : Addr} {xs : List V} {k : Int} : Walk (ItE K b a k) xs.length (fun H => SqB K b H a xs) (YPair (fun i => some (.int (k + (i : Nat)))) (fun i => xs[i]?)) where
  goes := fun i H hi h => ⟨xs, xs[i], h, by simp [hi]⟩
  stops := fun H h => ⟨xs, h, rfl⟩
  yields := fun i H x H' hi h y => by
    obtain ⟨T, v, e1, e2, e3, e4⟩ := y
    exact ⟨T, _, v, e1, e2, e3, rfl, e4 xs h⟩
end WS
set_option Elab.async false
set_option linter.all false
set_option maxRecDepth 100000
set_option maxHeartbeats 4000000
namespace WS
open PySem PySem.Spec PyProof.Rows L2
/-! zip of two or three, each a list or a tuple -/
def ItZ2 (K : PySem.W.Frag) (b1 b2 : Bool) (a1 a2 : Addr) : It :=
  ⟨fun i H => ∃ (xs ys : List V) (x y : V), SqB K b1 H a1 xs ∧ SqB K b2 H a2 ys ∧ xs[i]? = some x ∧ ys[i]? = some y,
   fun i H v H' => ∃ T x y, v = .ref T ∧ H T = none ∧ H' = upd H T (.tup [x, y]) ∧ (∀ xs, SqB K b1 H a1 xs → xs[i]? = some x) ∧ ∀ ys, SqB K b2 H a2 ys → ys[i]? = some y,
   fun i H => ∃ xs ys : List V, SqB K b1 H a1 xs ∧ SqB K b2 H a2 ys ∧ min xs.length ys.length = i⟩
def ItZ3 (K : PySem.W.Frag) (b1 b2 b3 : Bool) (a1 a2 a3 : Addr) : It :=
  ⟨fun i H => ∃ (xs ys zs : List V) (x y z : V), SqB K b1 H a1 xs ∧ SqB K b2 H a2 ys ∧ SqB K b3 H a3 zs ∧ xs[i]? = some x ∧ ys[i]? = some y ∧ zs[i]? = some z,
   fun i H v H' => ∃ T x y z, v = .ref T ∧ H T = none ∧ H' = upd H T (.tup [x, y, z]) ∧ (∀ xs, SqB K b1 H a1 xs → xs[i]? = some x) ∧ (∀ ys, SqB K b2 H a2 ys → ys[i]? = some y) ∧ ∀ zs, SqB K b3 H a3 zs → zs[i]? = some z,
   fun i H => ∃ xs ys zs : List V, SqB K b1 H a1 xs ∧ SqB K b2 H a2 ys ∧ SqB K b3 H a3 zs ∧ min (min xs.length ys.length) zs.length = i⟩
theorem val_at {xs : List V} {its : List Value} {i : Nat} {x : V} {u : Value} (rv : Vals xs its) (hx : xs[i]? = some x) (hu : its.toArray[i]? = some u) : RelV x u := by
  obtain ⟨u', e, r⟩ := rv.get hx
  have : its[i]? = some u := by simpa using hu
  rw [e] at this
  obtain rfl := Option.some.inj this
  exact r
theorem val_lt {xs : List V} {its : List Value} {i : Nat} {x : V} (rv : Vals xs its) (hx : xs[i]? = some x) : i < its.toArray.size := by
  obtain ⟨u', e, _⟩ := rv.get hx
  have := (List.getElem?_eq_some_iff.mp e).1
  simpa using this
theorem val_size {xs : List V} {its : List Value} (rv : Vals xs its) : its.toArray.size = xs.length := by
  have := rv.length
  simp
  omega
theorem turn_zB2 {P : Program} {w : World} {K : PySem.W.Frag} {elts : List Expr} {kk : Nat} {tpos : Pos} {b1 b2 : Bool} {a1 a2 z TI TO i1 i2 : Addr} (S : ZipSep2 z TI TO i1 i2 [i1, a1] [i2, a2]) (n1 : a1 ≠ i1) (n2 : a2 ≠ i2) :
    Turn P w K (.Tuple elts kk tpos) (ItZ2 K b1 b2 a1 a2) [z, TI, TO, i1, i2] z (fun i h => IsZip h z TI TO .none ∧ IsTupOf2 h TI (.ref i1) (.ref i2) ∧ (∃ x y, IsTupOf2 h TO x y) ∧ ItB b1 h i1 a1 i ∧ ItB b2 h i2 a2 i) := by
  have five : ∀ {c : Addr}, c ∈ [z, TI, TO, i1, i2] → c = z ∨ c = TI ∨ c = TO ∨ c = i1 ∨ c = i2 := fun h => by simpa using h
  refine turn_gen (by simp) ?_ ?_ ?_ ?_ ?_
  · rintro i h ⟨hz, hTI, ⟨x, y, hTO⟩, h1, h2⟩ c hc
    rcases five hc with rfl | rfl | rfl | rfl | rfl
    · exact ⟨_, hz, fun v q => nomatch q⟩
    · exact ⟨_, hTI, fun v q => nomatch q⟩
    · exact ⟨_, hTO, fun v q => nomatch q⟩
    · exact itb_obj h1
    · exact itb_obj h2
  · rintro i h h' ⟨hz, hTI, ⟨x, y, hTO⟩, h1, h2⟩ kp
    exact ⟨kp z (by simp) _ hz, kp TI (by simp) _ hTI, ⟨x, y, kp TO (by simp) _ hTO⟩, itb_keep h1 fun o q => kp i1 (by simp) o q, itb_keep h2 fun o q => kp i2 (by simp) o q⟩
  · rintro X hP hw hK hc i pins s σ H I hf ⟨hz, hTI, hTO, h1, h2⟩ ⟨xs, ys, x, y, hq1, hq2, hx, hy⟩
    subst hP hw hK
    obtain ⟨t1, r1, B1⟩ := sqb_get I hq1
    obtain ⟨t2, r2, B2⟩ := sqb_get I hq2
    have D1 := itb_draws (b := b1) (prog := X.prog) (w := X.w) (A := X.A.in1) (I.ok.hd hc) i1 a1 n1 t1.toArray
    have D2 := itb_draws (b := b2) (prog := X.prog) (w := X.w) (A := X.A.in1) (I.ok.hd hc) i2 a2 n2 t2.toArray
    have l1 := val_lt r1 hx
    have l2 := val_lt r2 hy
    refine ⟨_, _, _, _, _, _, WalksT.zipD2 S D1 D2, fun c hc => ?_, by omega, ⟨hz, hTI, hTO, ⟨h1, B1⟩, h2, B2⟩, fun h st => ⟨st.1, st.2.1, st.2.2.1, st.2.2.2.1.1, st.2.2.2.2.1⟩, ?_⟩
    · simp at hc ⊢
      rcases hc with h | h | h | h <;> simp [h]
    · rintro vals ⟨u, v, hu, hv, rfl⟩
      exact ⟨[x, y], .cons (val_at r1 hx hu) (.cons (val_at r2 hy hv) .nil), by show 2 ≤ sizeLine; decide, fun T hT => ⟨T, x, y, rfl, hT, rfl, fun l hl => by rw [sqb_inj I hl hq1]; exact hx, fun l hl => by rw [sqb_inj I hl hq2]; exact hy⟩⟩
  · rintro X hP hw hK hc i pins s σ H I hf ⟨hz, hTI, hTO, h1, h2⟩ ⟨xs, ys, hq1, hq2, hx⟩
    subst hP hw hK
    obtain ⟨t1, r1, B1⟩ := sqb_get I hq1
    obtain ⟨t2, r2, B2⟩ := sqb_get I hq2
    have D1 := itb_draws (b := b1) (prog := X.prog) (w := X.w) (A := X.A.in1) (I.ok.hd hc) i1 a1 n1 t1.toArray
    have D2 := itb_draws (b := b2) (prog := X.prog) (w := X.w) (A := X.A.in1) (I.ok.hd hc) i2 a2 n2 t2.toArray
    refine ⟨_, _, _, _, _, _, WalksT.zipD2 S D1 D2, fun c hc => ?_, ?_⟩
    · simp at hc ⊢
      rcases hc with h | h | h | h <;> simp [h]
    · rw [val_size r1, val_size r2, hx]
      exact ⟨hz, hTI, hTO, ⟨h1, B1⟩, h2, B2⟩
  · rintro A i s Q E ⟨hz, _⟩ h
    exact wpAny_pyIter_zip hz h
theorem turn_zB3 {P : Program} {w : World} {K : PySem.W.Frag} {elts : List Expr} {kk : Nat} {tpos : Pos} {b1 b2 b3 : Bool} {a1 a2 a3 z TI TO i1 i2 i3 : Addr} (S : ZipSep3 z TI TO i1 i2 i3 [i1, a1] [i2, a2] [i3, a3]) (n1 : a1 ≠ i1) (n2 : a2 ≠ i2) (n3 : a3 ≠ i3) :
    Turn P w K (.Tuple elts kk tpos) (ItZ3 K b1 b2 b3 a1 a2 a3) [z, TI, TO, i1, i2, i3] z (fun i h => IsZip h z TI TO .none ∧ IsTupOf3 h TI (.ref i1) (.ref i2) (.ref i3) ∧ (∃ x y u, IsTupOf3 h TO x y u) ∧ ItB b1 h i1 a1 i ∧ ItB b2 h i2 a2 i ∧ ItB b3 h i3 a3 i) := by
  have six : ∀ {c : Addr}, c ∈ [z, TI, TO, i1, i2, i3] → c = z ∨ c = TI ∨ c = TO ∨ c = i1 ∨ c = i2 ∨ c = i3 := fun h => by simpa using h
  refine turn_gen (by simp) ?_ ?_ ?_ ?_ ?_
  · rintro i h ⟨hz, hTI, ⟨x, y, u, hTO⟩, h1, h2, h3⟩ c hc
    rcases six hc with rfl | rfl | rfl | rfl | rfl | rfl
    · exact ⟨_, hz, fun v q => nomatch q⟩
    · exact ⟨_, hTI, fun v q => nomatch q⟩
    · exact ⟨_, hTO, fun v q => nomatch q⟩
    · exact itb_obj h1
    · exact itb_obj h2
    · exact itb_obj h3
  · rintro i h h' ⟨hz, hTI, ⟨x, y, u, hTO⟩, h1, h2, h3⟩ kp
    exact ⟨kp z (by simp) _ hz, kp TI (by simp) _ hTI, ⟨x, y, u, kp TO (by simp) _ hTO⟩, itb_keep h1 fun o q => kp i1 (by simp) o q, itb_keep h2 fun o q => kp i2 (by simp) o q, itb_keep h3 fun o q => kp i3 (by simp) o q⟩
  · rintro X hP hw hK hc i pins s σ H I hf ⟨hz, hTI, hTO, h1, h2, h3⟩ ⟨xs, ys, zs, x, y, u, hq1, hq2, hq3, hx, hy, hu⟩
    subst hP hw hK
    obtain ⟨t1, r1, B1⟩ := sqb_get I hq1
    obtain ⟨t2, r2, B2⟩ := sqb_get I hq2
    obtain ⟨t3, r3, B3⟩ := sqb_get I hq3
    have D1 := itb_draws (b := b1) (prog := X.prog) (w := X.w) (A := X.A.in1) (I.ok.hd hc) i1 a1 n1 t1.toArray
    have D2 := itb_draws (b := b2) (prog := X.prog) (w := X.w) (A := X.A.in1) (I.ok.hd hc) i2 a2 n2 t2.toArray
    have D3 := itb_draws (b := b3) (prog := X.prog) (w := X.w) (A := X.A.in1) (I.ok.hd hc) i3 a3 n3 t3.toArray
    have l1 := val_lt r1 hx
    have l2 := val_lt r2 hy
    have l3 := val_lt r3 hu
    refine ⟨_, _, _, _, _, _, WalksT.zipD3 S D1 D2 D3, fun c hc => ?_, by omega, ⟨hz, hTI, hTO, ⟨h1, B1⟩, ⟨h2, B2⟩, h3, B3⟩, fun h st => ⟨st.1, st.2.1, st.2.2.1, st.2.2.2.1.1, st.2.2.2.2.1.1, st.2.2.2.2.2.1⟩, ?_⟩
    · simp at hc ⊢
      rcases hc with h | h | h | h | h <;> simp [h]
    · rintro vals ⟨v1, v2, v3, e1, e2, e3, rfl⟩
      exact ⟨[x, y, u], .cons (val_at r1 hx e1) (.cons (val_at r2 hy e2) (.cons (val_at r3 hu e3) .nil)), by show 3 ≤ sizeLine; decide, fun T hT => ⟨T, x, y, u, rfl, hT, rfl, fun l hl => by rw [sqb_inj I hl hq1]; exact hx, fun l hl => by rw [sqb_inj I hl hq2]; exact hy, fun l hl => by rw [sqb_inj I hl hq3]; exact hu⟩⟩
  · rintro X hP hw hK hc i pins s σ H I hf ⟨hz, hTI, hTO, h1, h2, h3⟩ ⟨xs, ys, zs, hq1, hq2, hq3, hx⟩
    subst hP hw hK
    obtain ⟨t1, r1, B1⟩ := sqb_get I hq1
    obtain ⟨t2, r2, B2⟩ := sqb_get I hq2
    obtain ⟨t3, r3, B3⟩ := sqb_get I hq3
    have D1 := itb_draws (b := b1) (prog := X.prog) (w := X.w) (A := X.A.in1) (I.ok.hd hc) i1 a1 n1 t1.toArray
    have D2 := itb_draws (b := b2) (prog := X.prog) (w := X.w) (A := X.A.in1) (I.ok.hd hc) i2 a2 n2 t2.toArray
    have D3 := itb_draws (b := b3) (prog := X.prog) (w := X.w) (A := X.A.in1) (I.ok.hd hc) i3 a3 n3 t3.toArray
    refine ⟨_, _, _, _, _, _, WalksT.zipD3 S D1 D2 D3, fun c hc => ?_, ?_⟩
    · simp at hc ⊢
      rcases hc with h | h | h | h | h <;> simp [h]
    · rw [val_size r1, val_size r2, val_size r3, hx]
      exact ⟨hz, hTI, hTO, ⟨h1, B1⟩, ⟨h2, B2⟩, h3, B3⟩
  · rintro A i s Q E ⟨hz, _⟩ h
    exact wpAny_pyIter_zip hz h
def iZB2 (K : PySem.W.Frag) (ta : TA) : TI := fun σ H R => ta σ H fun vs H1 => ∃ b1 b2 a1 a2 xs ys, vs = [.ref a1, .ref a2] ∧ SqB K b1 H1 a1 xs ∧ SqB K b2 H1 a2 ys ∧ R (ItZ2 K b1 b2 a1 a2) H1
theorem pi_zB2 {X : Cx} {e e2 : Expr} {ta : TA} {p pos tpos : Pos} {elts : List Expr} {kk : Nat} (hg : Gl X "zip") (hm : X.mg "zip" = none) (ha : PA X [e, e2] ta)
    (hs : starEach [e, e2] X.env = (false, eval e X.env) :: starEach [e2] X.env := by rfl) (hp : (backTo pos (starEach [e2] X.env)).any (·.1) = false := by rfl) :
    PI X (.Tuple elts kk tpos) (.Call (.Name "zip" p) [e, e2] [] pos) (iZB2 X.K ta) := by
  constructor
  intro pins s σ H R I h
  refine Call_ (ld_blt I hg hm PyProof.Rows.boot_zip (PyProof.Rows.callWith_type1 (thn (ha.run pos pins s σ H _ I h) fun us s1 ⟨vs, H1, I1, r1, q1⟩ => ?_) hs hp))
  obtain ⟨b1, b2, a1, a2, xs, ys, rfl, hq1, hq2, q⟩ := q1
  obtain _ | ⟨r, _ | ⟨r', rr⟩⟩ := r1
  cases rr
  cases r
  cases r'
  obtain ⟨t1, v1, B1⟩ := sqb_get I1 hq1
  obtain ⟨t2, v2, B2⟩ := sqb_get I1 hq2
  have l1 := isb_lt B1
  have l2 := isb_lt B2
  refine zip_begins2 (itb_begins b1 a1 t1.toArray) (itb_begins b2 a2 t2.toArray) B1 B2 fun h' hz hTI hTO g1 g2 _ hk => wpAny_pyIter_zip hz ?_
  have I2 : Inv X pins σ H1 { s1 with heap := h' } := I1.kept (t' := s1.toks) hk
  have S := zip_sep2 (N := s1.heap.objs.size) (fp1 := [a1]) (fp2 := [a2]) (fun c hc => by rw [List.mem_singleton.mp hc]; exact l1) (fun c hc => by rw [List.mem_singleton.mp hc]; exact l2)
  refine ⟨_, _, _, _, H1, rfl, I2, turn_zB2 (b1 := b1) (b2 := b2) S (Nat.ne_of_lt l1) (Nat.ne_of_lt (Nat.lt_succ_of_lt l2)), ⟨hz, hTI, ⟨_, _, hTO⟩, itb_start g1, itb_start g2⟩, fun c hc => ?_, q⟩
  have hle : s1.heap.objs.size ≤ c := by
    have z : c = s1.heap.objs.size + 4 ∨ c = s1.heap.objs.size + 2 ∨ c = s1.heap.objs.size + 3 ∨ c = s1.heap.objs.size ∨ c = s1.heap.objs.size + 1 := by simpa using hc
    rcases z with rfl | rfl | rfl | rfl | rfl <;> first | exact Nat.le_add_right _ _ | exact Nat.le_refl _
  exact I1.fpOk hle (I1.hok.fresh hle)
def iZB3 (K : PySem.W.Frag) (ta : TA) : TI := fun σ H R => ta σ H fun vs H1 => ∃ b1 b2 b3 a1 a2 a3 xs ys zs, vs = [.ref a1, .ref a2, .ref a3] ∧ SqB K b1 H1 a1 xs ∧ SqB K b2 H1 a2 ys ∧ SqB K b3 H1 a3 zs ∧ R (ItZ3 K b1 b2 b3 a1 a2 a3) H1
theorem pi_zB3 {X : Cx} {e e2 e3 : Expr} {ta : TA} {p pos tpos : Pos} {elts : List Expr} {kk : Nat} (hg : Gl X "zip") (hm : X.mg "zip" = none) (ha : PA X [e, e2, e3] ta)
    (hs : starEach [e, e2, e3] X.env = (false, eval e X.env) :: starEach [e2, e3] X.env := by rfl) (hp : (backTo pos (starEach [e2, e3] X.env)).any (·.1) = false := by rfl) :
    PI X (.Tuple elts kk tpos) (.Call (.Name "zip" p) [e, e2, e3] [] pos) (iZB3 X.K ta) := by
  constructor
  intro pins s σ H R I h
  refine Call_ (ld_blt I hg hm PyProof.Rows.boot_zip (PyProof.Rows.callWith_type1 (thn (ha.run pos pins s σ H _ I h) fun us s1 ⟨vs, H1, I1, r1, q1⟩ => ?_) hs hp))
  obtain ⟨b1, b2, b3, a1, a2, a3, xs, ys, zs, rfl, hq1, hq2, hq3, q⟩ := q1
  obtain _ | ⟨r, _ | ⟨r', _ | ⟨r'', rr⟩⟩⟩ := r1
  cases rr
  cases r
  cases r'
  cases r''
  obtain ⟨t1, v1, B1⟩ := sqb_get I1 hq1
  obtain ⟨t2, v2, B2⟩ := sqb_get I1 hq2
  obtain ⟨t3, v3, B3⟩ := sqb_get I1 hq3
  have l1 := isb_lt B1
  have l2 := isb_lt B2
  have l3 := isb_lt B3
  refine zip_begins3 (itb_begins b1 a1 t1.toArray) (itb_begins b2 a2 t2.toArray) (itb_begins b3 a3 t3.toArray) B1 B2 B3 fun h' hz hTI hTO g1 g2 g3 _ hk => wpAny_pyIter_zip hz ?_
  have I2 : Inv X pins σ H1 { s1 with heap := h' } := I1.kept (t' := s1.toks) hk
  have S := zip_sep3 (N := s1.heap.objs.size) (fp1 := [a1]) (fp2 := [a2]) (fp3 := [a3]) (fun c hc => by rw [List.mem_singleton.mp hc]; exact l1) (fun c hc => by rw [List.mem_singleton.mp hc]; exact l2) (fun c hc => by rw [List.mem_singleton.mp hc]; exact l3)
  refine ⟨_, _, _, _, H1, rfl, I2, turn_zB3 (b1 := b1) (b2 := b2) (b3 := b3) S (Nat.ne_of_lt l1) (Nat.ne_of_lt (Nat.lt_succ_of_lt l2)) (Nat.ne_of_lt (Nat.lt_succ_of_lt (Nat.lt_succ_of_lt l3))), ⟨hz, hTI, ⟨_, _, _, hTO⟩, itb_start g1, itb_start g2, itb_start g3⟩, fun c hc => ?_, q⟩
  have hle : s1.heap.objs.size ≤ c := by
    have z : c = s1.heap.objs.size + 5 ∨ c = s1.heap.objs.size + 3 ∨ c = s1.heap.objs.size + 4 ∨ c = s1.heap.objs.size ∨ c = s1.heap.objs.size + 1 ∨ c = s1.heap.objs.size + 2 := by simpa using hc
    rcases z with rfl | rfl | rfl | rfl | rfl | rfl <;> first | exact Nat.le_add_right _ _ | exact Nat.le_refl _
  exact I1.fpOk hle (I1.hok.fresh hle)
theorem walk_zB2 {K : PySem.W.Frag} {b1 b2 : Bool} {a1 a2 : Addr} {xs ys : List V} : Walk (ItZ2 K b1 b2 a1 a2) (min xs.length ys.length) (fun H => SqB K b1 H a1 xs ∧ SqB K b2 H a2 ys) (YPair (fun i => xs[i]?) (fun i => ys[i]?)) where
  goes := fun i H hi h => ⟨xs, ys, xs[i]'(by omega), ys[i]'(by omega), h.1, h.2, by simp, by simp⟩
  stops := fun H h => ⟨xs, ys, h.1, h.2, rfl⟩
  yields := fun i H x H' hi h ⟨T, v, u, e1, e2, e3, e4, e5⟩ => ⟨T, v, u, e1, e2, e3, e4 xs h.1, e5 ys h.2⟩
def YTri (xs ys zs : Nat → Option V) : Nat → Hp → V → Hp → Prop := fun i H v H' => ∃ T x y z, v = .ref T ∧ H T = none ∧ H' = upd H T (.tup [x, y, z]) ∧ xs i = some x ∧ ys i = some y ∧ zs i = some z
theorem walk_zB3 {K : PySem.W.Frag} {b1 b2 b3 : Bool} {a1 a2 a3 : Addr} {xs ys zs : List V} : Walk (ItZ3 K b1 b2 b3 a1 a2 a3) (min (min xs.length ys.length) zs.length) (fun H => SqB K b1 H a1 xs ∧ SqB K b2 H a2 ys ∧ SqB K b3 H a3 zs) (YTri (fun i => xs[i]?) (fun i => ys[i]?) (fun i => zs[i]?)) where
  goes := fun i H hi h => ⟨xs, ys, zs, xs[i]'(by omega), ys[i]'(by omega), zs[i]'(by omega), h.1, h.2.1, h.2.2, by simp, by simp, by simp⟩
  stops := fun H h => ⟨xs, ys, zs, h.1, h.2.1, h.2.2, rfl⟩
  yields := fun i H x H' hi h ⟨T, v, u, t, e1, e2, e3, e4, e5, e6⟩ => ⟨T, v, u, t, e1, e2, e3, e4 xs h.1, e5 ys h.2.1, e6 zs h.2.2⟩
end WS
set_option Elab.async false
set_option linter.all false
set_option maxRecDepth 100000
set_option maxHeartbeats 4000000
namespace WS
open PySem PySem.Spec PyProof.Rows L2
/-! within an except suite -/
section
variable {prog : Program} {w : World} {A : Around} {E : Value → Shared → Prop} {s : Shared}
theorem list_end_hot {it l x1 : Addr} {i : Nat} {its : Array Value} {Q : Option Value → Shared → Prop} (hot : HotX.HotAt A x1 s.heap) (ni : x1 ≠ it)
    (hit : s.heap.IsListIter it l i) (hl : s.heap.IsList l its) (out : its[i]? = none)
    (fin : ∀ h', (∀ b o, b ≠ it → s.heap.get? b = some o → h'.get? b = some o) → Q none { s with heap := h' }) : wpAny (model prog w) A (pyNext (.ref it)) Q E s := by
  have ty := hit.typeIs
  obtain ⟨oi, gi, ci, di⟩ := hit
  obtain ⟨ol, gl, _, nl, dl⟩ := hl
  obtain ⟨hh, oh, vh, gh, dh, ch⟩ := hot
  unfold pyNext
  refine wpAny_bind (wpAny_attempt (wpAny_callSpecial?_slot (name := Str.ofString "__next__") ty slot_listiter_next (wpAny_call_entry slot_listiter_next ty entry_listiter_next ?_ (args_listiter_next _))))
  show wpAny _ _ (field (.ref it) 0 >>= _) _ _ s
  refine wpAny_bind (wpAny_field gi di (x := .ref l) rfl ?_)
  show wpAny _ _ (ite ((Value.ref l == Value.none) = true) _ _) _ _ s
  rw [if_neg (show ¬ (Value.ref l == Value.none) = true from Bool.false_ne_true)]
  show wpAny _ _ (field (.ref it) 1 >>= _) _ _ s
  refine wpAny_bind (wpAny_field gi di (x := .int i 0) rfl (?_ : wpAny _ _ (seqItems? (.ref l) >>= _) _ _ s))
  refine wpAny_bind (wpAny_seqItems gl dl ?_)
  simp only [Int.toNat_natCast, out]
  refine wpAny_bind (wpAny_rule (wpAny_bind (wpAny_setField gi di (by simp) (?_ : wpAny _ _ (newExc (.type "StopIteration") [] >>= _) _ _ _))))
  refine wpAny_bind ?_
  simp only [newExc, newTuple]
  refine wpAny_bind (wpAny_newObj_type ?_ (by size_fits))
  refine wpAny_bind (m := firstArgMember _ _) (wpAny_of_eq (a := Value.none) (by first | rfl | (simp only [firstArgMember]; rfl)) (wpAny_newObj_type ?_ (by size_fits)))
  have gh1 : (s.heap.update it (Obj.mapFields (·.setIfInBounds 0 .none))).get? x1 = some oh := by
    rw [Heap.get?_update_other _ _ ni.symm]
    exact gh
  refine HotX.raiseNew_hot ⟨hh, oh, vh, Heap.get?_push_of_some _ (Heap.get?_push_of_some _ gh1), dh, ch⟩ (Nat.ne_of_lt (Heap.lt_size (Heap.get?_push_of_some _ gh1))) (Heap.get?_push_size _ rfl) rfl (by first | (simp; done) | (simp; omega)) ?_
  refine wpAny_bind (wpAny_isInstance (T := "StopIteration") (b := true) ⟨_, Heap.get?_update_self _ (Heap.get?_push_size _ rfl) rfl, rfl⟩ isSubtype_stop (wpAny_pure (fin _ fun b o nb e => ?_)))
  have e1 : (s.heap.update it (Obj.mapFields (·.setIfInBounds 0 .none))).get? b = some o := by
    rw [Heap.get?_update_other _ _ nb.symm]
    exact e
  rw [Heap.get?_update_other _ _ (Nat.ne_of_gt (Heap.lt_size (Heap.get?_push_of_some _ e1)))]
  exact Heap.get?_push_of_some _ (Heap.get?_push_of_some _ e1)
end
/-- what the heap says of the exception that is handled -/
def Held (x1 : Addr) (h : Heap) : Prop := ∃ (o : Obj) (vs : Array Value), h.get? x1 = some o ∧ o.data = .fields vs ∧ vs[2]? = some .none
theorem walks_hot {prog : Program} {w : World} {A : Around} {I ax x1 : Addr} (hh : A.handled = some (.ref x1)) (hne : ax ≠ I) (hn1 : x1 ≠ I) (its : Array Value) :
    Walks prog w A I [I, ax, x1] [I] its.size (fun i v => its[i]? = some v) (fun i h => (h.IsListIter I ax i ∧ h.IsList ax its) ∧ Held x1 h) where
  sub := fun b hb => by simp at hb; simp [hb]
  frame := fun i h h' st keep => ⟨⟨st.1.1.at (keep I (by simp)), st.1.2.at (keep ax (by simp))⟩, by
    obtain ⟨o, vs, e, r⟩ := st.2
    exact ⟨o, vs, keep x1 (by simp) _ e, r⟩⟩
  item := fun i s Q E hi st fin => by
    refine wpAny_pyNext_list_item st.1.1 st.1.2 (x := its[i]) (by simp [hi]) fun h' again same => fin _ h' s.toks (by simp [hi]) ⟨⟨again, st.1.2.extBut same.extBut hne⟩, ?_⟩ fun b o hb e => same.extBut b o (fun h => hb (by simp [h])) e
    obtain ⟨o, vs, e, r⟩ := st.2
    exact ⟨o, vs, same.extBut x1 o hn1 e, r⟩
  done := fun s Q E st fin => list_end_hot ⟨hh, st.2⟩ hn1 st.1.1 st.1.2 (by simp) fun h' keep => fin h' s.toks fun b o hb e => keep b o (fun h => hb (by simp [h])) e
  self := fun _ _ _ _ st q => wpAny_pyIter_listiter st.1.1 q
theorem held_of {X : Cx} {pins : List (Addr × Obj)} {σ : L2.St} {H : Hp} {s : Shared} {p : Addr × Obj} (hot : L2H.Hot1 X.A p) (hp : p ∈ X.pn) (inv : Inv X pins σ H s) : Held p.1 s.heap := by
  obtain ⟨_, vs, d, c⟩ := hot
  exact ⟨p.2, vs, (inv.pin p (List.mem_append_left _ hp)).1, d, c⟩
/-- any(list of truths) there -/
theorem cr_anyH {X : Cx} {p : Addr × Obj} (hot : L2H.Hot1 X.A p) (hp : p ∈ X.pn) : CallR X (.builtin "any") (rAny X.K) := by
  intro pins s σ H vs us Q inv vals want
  obtain ⟨a, bs, rfl, at_a, q⟩ := want
  obtain ⟨its, rel, pl, _⟩ := inv.list at_a
  rw [Vals.ref1 vals]
  have tb := rel.bls
  have held := held_of hot hp inv
  refine call_any_walk (iter_any pl.isList fun s2 e2 st ne => ?_)
  subst e2
  have lt : p.1 < s.heap.objs.size := by
    obtain ⟨o, _, e, _⟩ := held
    exact Heap.lt_size e
  have held2 : Held p.1 (s.heap.push { cls := .type "list_iterator", data := .fields #[.ref a, .int 0 0] }) := by
    obtain ⟨o, vs, e, r⟩ := held
    exact ⟨o, vs, Heap.get?_push_of_some _ e, r⟩
  refine ⟨_, _, _, _, _, _, _, rfl, walks_hot (A := X.A.in1) (x1 := p.1) hot.1 ne (Nat.ne_of_lt lt) its.toArray, ⟨st, held2⟩, truth_bools tb, fun h' tk keep => ⟨.bl _, H, inv.kept fun b o eo => keep b o (fun z => ?_) (Heap.get?_push_of_some _ eo), ?_, q⟩⟩
  · have z : b = s.heap.objs.size := by simpa using z
    exact absurd (z ▸ Heap.lt_size eo) (Nat.lt_irrefl _)
  · show Value.bool _ = Value.bool _
    rw [← L2.any_range, tb, List.size_toArray, List.length_map]
/-! isinstance of the exception that is handled -/
theorem inst_of {X : Cx} {pins : List (Addr × Obj)} {σ : L2.St} {H : Hp} {s : Shared} {p : Addr × Obj} {D : Addr} (hp : p ∈ X.pn) (inv : Inv X pins σ H s) (hc : p.2.cls = .ref D) (hd : p.2.dict = none) (hf : ∃ vs, p.2.data = .fields vs) : PySem.W.InstAt s.heap p.1 p.2 D none := by
  obtain ⟨get, _⟩ := inv.pin p (List.mem_append_left _ hp)
  obtain ⟨a, oc, od, oda, osl⟩ := p
  obtain ⟨vs, e⟩ := hf
  dsimp only at hc hd e get ⊢
  subst hc hd e
  exact ⟨get, rfl, rfl, trivial⟩
theorem call_isP {X : Cx} {p : Addr × Obj} {D : Addr} (hp : p ∈ X.pn) (C : ExcC X.K D) (hc : p.2.cls = .ref D) (hd : p.2.dict = none) (hf : ∃ vs, p.2.data = .fields vs) :
    CallR X (.builtin "isinstance") (fun xs H Q => ∃ (c : V) (cv : Value) (b : Bool), xs = [.ref p.1, c] ∧ ClsV c cv ∧ PySem.W.kitOne X.K (.ref D) cv = some b ∧ Q (.bl b) H) := by
  intro pins s σ H xs us Q inv vals want
  obtain ⟨c, cv, b, rfl, cls, kit, q⟩ := want
  obtain ⟨u1, u2, rfl, r1, r2⟩ := vals2 vals
  cases (show u1 = Value.ref p.1 from r1)
  cases cls.eq r2
  exact PySem.W.kia_one (PySem.W.handS_kitx_exc C.hg C.hk C.hs C.hd C.ha C.hn C.ht C.hm) inv.kIn (inst_of hp inv hc hd hf) kit (fun z => nomatch z) fun tk => ⟨.bl b, H, inv.tok tk, rfl, q⟩
theorem call_isPT {X : Cx} {p : Addr × Obj} {D : Addr} (hp : p ∈ X.pn) (C : ExcC X.K D) (hc : p.2.cls = .ref D) (hd : p.2.dict = none) (hf : ∃ vs, p.2.data = .fields vs) :
    CallR X (.builtin "isinstance") (fun xs H Q => ∃ (tp : Addr) (cs : List V) (ws : List Value) (b : Bool), xs = [.ref p.1, .ref tp] ∧ H tp = some (.tup cs) ∧ Paired ClsV cs ws ∧ PySem.W.kitAny X.K (.ref D) ws = some b ∧ Q (.bl b) H) := by
  intro pins s σ H xs us Q inv vals want
  obtain ⟨tp, cs, ws, b, rfl, at_t, cls, kit, q⟩ := want
  obtain ⟨u1, u2, rfl, r1, r2⟩ := vals2 vals
  cases (show u1 = Value.ref p.1 from r1)
  cases (show u2 = Value.ref tp from r2)
  obtain ⟨_, its, rel, o, g, ec, n, ed⟩ := (show ObjOk X.prog X.w H s.heap tp (.tup cs) from inv.hok tp _ at_t)
  cases ClsV.all cls rel
  obtain ⟨oc, od, dt, sl⟩ := o
  dsimp only at ec ed
  subst ec ed
  exact PySem.W.kia_tup (PySem.W.handS_kitx_exc C.hg C.hk C.hs C.hd C.ha C.hn C.ht C.hm) inv.kIn (inst_of hp inv hc hd hf) g kit (fun z => nomatch z) fun tk => ⟨.bl b, H, inv.tok tk, rfl, q⟩
/-! a def called there, of the exception p that is handled -/
structure FnHot (A : Around) (p : Addr × Obj) (P : Program) (w : World) (K : PySem.W.Frag) (mg : Str → Option Value) (base : Heap) (k : Nat) (f : Addr) (fd : FuncData) (ps : List Str) (sp : Sp) : Prop where
  len : ∀ vs H Q E, sp vs H Q E → vs.length = ps.length
  go : ∀ (outer : List Env) (s : Shared) (H : Hp) (args : Args) (us : List Value) (vs : List V) (Q : VK),
    L2H.RoomH k A → L2H.PinOk outer H s p → Env0 P w K mg base A outer s H → BindsTo s fd args (ps.zip us) → Vals vs us → sp vs H Q E0 →
    codeAny (model P w) A (.call (.ref f) args) (CR CX0 outer P w H s Q E0) s
theorem fun_hot {A : Around} {p : Addr × Obj} {P : Program} {w : World} {K : PySem.W.Frag} {mg : Str → Option Value} {base : Heap} {x qual : Str} {st : Stmt} {f : Addr} {fd : FuncData} {N ps : List Str} {k : Nat} {sp : Sp}
    (F : Fun K x qual st f fd) (S : FnScope N ps (defScope st)) (len : ∀ vs H Q E, sp vs H Q E → vs.length = ps.length)
    (B : ∀ (cdv : Value) (outer : List Env) (s : Shared) (H : Hp) (vs : List V) (Q : VK),
      L2H.RoomH k (A.deeper (envOfC qual (defScope st) s.heap.objs.size f cdv)) → sp vs H Q E0 →
      ∃ t, PSs (L2H.cxH CX0 P w K mg base N qual (defScope st) f cdv A outer s H E0 p) (defBody st) t ∧ t ⟨fun _ H' => Q .non H', Q, fun _ _ => False, fun _ _ => False⟩ (start N vs) H) :
    FnHot A p P w K mg base (k + 1) f fd ps sp := by
  obtain ⟨oc, od, kV, doc, pm, an, cdv, ct, osl, rfl, at_f, code⟩ := F.ex
  refine ⟨len, ?_⟩
  intro outer s H args us vs Q room pin env0 bt vals want
  have inK : K.In s.heap := env0.mod.kin.keeps (fun b o e => (env0.bs b o e).1)
  have kinds : ∀ y ∈ ps.zip us, (defScope st).names.lookup y.1 = some .local ∨ ((defScope st).names.lookup y.1 = some .cell ∧ ((cellsFrom (s.heap.objs.size + 1) (defScope st).names []).lookup y.1).isSome = true) := by
    rintro ⟨n, v⟩ hy
    rcases S.par n (List.of_mem_zip hy).1 with l | c
    · exact .inl l
    · exact .inr ⟨c, PySem.W.cellsFrom_some _ _ _ (.inl c)⟩
  refine codeAny_call_function room.depth (inK _ _ at_f) rfl S.co S.gen rfl (PySem.W.codeRec_of inK code) (bt _ _ _ _ ?_)
  refine wpAny_newFunctionEnv_cells S.kind kinds ?_
  rintro env rfl s1 ic
  refine ⟨(env0.mod.nolimit.keeps fun b o e => (env0.bs b o e).1).keeps ic.toInCall.keep, codeAny_func ?_⟩
  obtain ⟨t, pss, reading⟩ := B cdv outer s H vs Q (room.deeper _) want
  have inv := L2H.inv_startH (CX := CX0) (E := E0) S pin env0 (len _ _ _ _ want) vals ic
  refine wpAny_mono (pss.run [] s1 (start N vs) H _ inv reading) ?_ (fun _ _ z => z)
  intro fl s' z
  match fl, z with
  | .ret u, ⟨v, σ', H', J, rv, q⟩ => exact ⟨v, H', J.os, J.bare, J.base, J.hok, rv, q⟩
  | .next, ⟨σ', H', J, q⟩ => exact ⟨.non, H', J.os, J.bare, J.base, J.hok, rfl, q⟩
  | .brk, ⟨_, _, _, q⟩ => exact q.elim
  | .cont, ⟨_, _, _, q⟩ => exact q.elim
theorem pe_callHot {X : Cx} {k : Nat} {p : Addr × Obj} {f : Addr} {fd : FuncData} {ps : List Str} {sp : Sp} {x : Str} {p1 pos : Pos} {e : Expr} {es : List Expr} {t : TA}
    (F : FnHot X.A p X.prog X.w X.K X.mg X.base k f fd ps sp) (room : L2H.RoomH k X.A) (hp : p ∈ X.pn) (gl : Gl X x) (at_x : X.mg x = some (.ref f)) (kp : PySem.W.keepIn X.K (.ref f) = true)
    (bi : Binds X.K fd ps []) (args : PA X (e :: es) t)
    (nodbg : (x == ("__debug__" : Str)) = false := by decide) (one : starEach (e :: es) X.env = (false, eval e X.env) :: starEach es X.env := by rfl) (nostar : (backTo pos (starEach es X.env)).any (·.1) = false := by rfl) :
    PE X (.Call (.Name x p1) (e :: es) [] pos) (tCall sp [] E0 t) := by
  constructor
  intro pins s σ H Q inv want
  refine wpAny_Call_Name_kw (ld_glob inv gl at_x ?_ nodbg)
  refine PySem.W.callWith_K (h₀ := X.base) inv.ok.mod.kin kp (thn (args.run pos pins s σ H _ inv want) ?_) one nostar
  rintro us s1 ⟨vs, H1, inv1, vals, want1⟩
  refine ⟨inv1.kIn, ?_⟩
  rw [List.append_nil] at want1
  have size : us.length = ps.length := vals.length.symm.trans (F.len _ _ _ _ want1)
  have bt := bi s1 us inv1.kIn (by rw [List.append_nil]; exact size)
  rw [List.append_nil] at bt
  obtain ⟨g1, g2, g3, g4, g5⟩ := inv1.pin p (List.mem_append_left _ hp)
  have pin : L2H.PinOk X.stack H1 s1 p := ⟨g1, g2, fun z => (List.mem_cons.mp (inv1.stkSub p.1 z)).elim g3 g4, g5⟩
  refine wpAny_call (codeAny_mono (F.go X.stack s1 H1 ⟨us, []⟩ us vs Q room pin inv1.env0 bt vals want1) ?_)
  intro r s' z
  match r, z with
  | .error er, z => exact z.elim
  | .ok (.ret u), z => exact inv1.after z
  | .ok .next, z => exact z.elim
  | .ok .brk, z => exact z.elim
  | .ok .cont, z => exact z.elim
end WS
set_option Elab.async false
set_option linter.all false
set_option maxRecDepth 100000
set_option maxHeartbeats 4000000
namespace WS
open PySem PySem.Spec PyProof.Rows L2
/-! calls with defaults where what is raised is wished for at the caller's slots -/
def tCallSD (sp : Sp) (dvs : List V) (E : L2.St → XK) (t : TA) : TE := fun σ H Q => t σ H fun vs H1 => sp (vs ++ dvs) H1 Q (E σ)
theorem pe_callSD {X : Cx} {CX : CXT} {k : Nat} {f : Addr} {fd : FuncData} {ps : List Str} {sp : Sp} {dvs : List V} {ds : List Value} {E : L2.St → XK} {x : Str} {p1 pos : Pos} {e : Expr} {es : List Expr} {t : TA}
    (F : FnOk X.prog X.w X.K X.mg X.base CX k f fd ps sp) (room : Room k X.A) (gl : Gl X x) (at_x : X.mg x = some (.ref f)) (kp : PySem.W.keepIn X.K (.ref f) = true)
    (bi : Binds X.K fd ps ds) (vd : Vals dvs ds) (ex : ∀ σ, PassesAt CX X σ (E σ)) (args : PA X (e :: es) t)
    (nodbg : (x == ("__debug__" : Str)) = false := by decide) (one : starEach (e :: es) X.env = (false, eval e X.env) :: starEach es X.env := by rfl) (nostar : (backTo pos (starEach es X.env)).any (·.1) = false := by rfl) :
    PE X (.Call (.Name x p1) (e :: es) [] pos) (tCallSD sp dvs E t) := by
  constructor
  intro pins s σ H Q inv want
  refine wpAny_Call_Name_kw (ld_glob inv gl at_x ?_ nodbg)
  refine PySem.W.callWith_K (h₀ := X.base) inv.ok.mod.kin kp (thn (args.run pos pins s σ H _ inv want) ?_) one nostar
  rintro us s1 ⟨vs, H1, inv1, vals, want1⟩
  refine ⟨inv1.kIn, ?_⟩
  have both : Vals (vs ++ dvs) (us ++ ds) := vals.append vd
  have size : (us ++ ds).length = ps.length := both.length.symm.trans (F.len _ _ _ _ want1)
  refine wpAny_call (codeAny_mono (F.run X.A X.stack s1 H1 ⟨us, []⟩ _ _ Q (E σ) room inv1.env0 (bi s1 us inv1.kIn size) both want1) ?_)
  intro r s' z
  match r, z with
  | .error er, z => exact ex σ pins H1 s1 er s' inv1 z
  | .ok (.ret u), z => exact inv1.after z
  | .ok .next, z => exact z.elim
  | .ok .brk, z => exact z.elim
  | .ok .cont, z => exact z.elim
theorem takes0N {X : Cx} : L2N.Takes X (fun _ _ _ _ => False) := fun _ _ x => by
  obtain ⟨_, _, _, _, _, _, _, _, _, _, _, _, _, _, _, _, z⟩ := x
  exact z.elim
theorem hot_of {A : Around} {a : Addr} {oe : Obj} {cls : Value} {d : Option Addr} (hz : L2N.Zn cls d oe) (hf : ∃ vs, oe.data = .fields vs) : L2H.Hot1 (A.mark (some (.ref a))) (a, oe) := by
  obtain ⟨vs, e⟩ := hf
  exact ⟨rfl, vs, e, hz.2.2 vs e⟩
theorem room_hot {k : Nat} {A : Around} {v : Option Value} (hr : Room k A) : L2H.RoomH k (A.mark v) := ⟨hr.dp, hr.un⟩
/-! classes that are no base of D -/
def Oth (K : PySem.W.Frag) (D C : Addr) : Prop := PySem.W.isClsIn K C = true ∧ PySem.W.typeIn K (.ref C) = some (.type "type") ∧ PySem.W.subIn K (.ref D) (.ref C) = some false
theorem oth_kit {K : PySem.W.Frag} {D C : Addr} (hs : PySem.W.subIn K (.ref D) (.ref D) = some true) (h : Oth K D C) : PySem.W.kitOne K (.ref D) (.ref C) = some false := by
  have ne : ¬ ((Value.ref D == Value.ref C) = true) := fun e => by
    have e : D = C := Value.ref.inj (beq_iff_eq.mp e)
    have h3 := h.2.2
    rw [← e, hs] at h3
    cases h3
  have h1 : (PySem.W.clsIn K C).isSome = true := h.1
  unfold PySem.W.kitOne
  rw [if_neg ne]
  show (if ((PySem.W.clsIn K C).isSome && PySem.W.typeIn K (.ref C) == some (.type "type")) = true then PySem.W.subIn K (.ref D) (.ref C) else none) = some false
  rw [if_pos (by rw [h1, h.2.1]; rfl)]
  exact h.2.2
def Oths (K : PySem.W.Frag) (D : Addr) : List Addr → Prop
  | [] => True
  | c :: r => Oth K D c ∧ Oths K D r
theorem oths_kit {K : PySem.W.Frag} {D : Addr} (hs : PySem.W.subIn K (.ref D) (.ref D) = some true) : ∀ cs : List Addr, Oths K D cs → PySem.W.kitAny K (.ref D) (cs.map Value.ref) = some false
  | [], _ => rfl
  | c :: r, h => kitAny_cons (oth_kit hs h.1) (fun _ => oths_kit hs r h.2) (fun z => nomatch z)
theorem self_kit {K : PySem.W.Frag} {D : Addr} : PySem.W.kitOne K (.ref D) (.ref D) = some true := if_pos (beq_self_eq_true _)
theorem ve_kit {K : PySem.W.Frag} {D : Addr} (h : PySem.W.subIn K (.ref D) (.type "ValueError") = some true) : PySem.W.kitOne K (.ref D) (.type "ValueError") = some true := by
  show (if (Value.ref D == Value.type "ValueError") = true then some true else (if PySem.W.kitMeta "ValueError" = true then PySem.W.subIn K (.ref D) (.type "ValueError") else none)) = some true
  rw [if_neg (show ¬ (Value.ref D == Value.type "ValueError") = true from Bool.false_ne_true), if_pos (by decide +kernel)]
  exact h
def spAlone (a : Addr) (cls : Value) (d : Option Addr) (D : Addr) : Sp := fun vs H Q _ => vs = [.ref a] ∧ cls = .ref D ∧ d = none ∧ ∀ H', Same H H' → Q (.bl true) H'
/-! things that are no whole numbers -/
def Odd (p : Addr) (K : PySem.W.Frag) (H : Hp) (v : V) : Prop := v = .non ∨ (∃ b, v = .bl b) ∨ (∃ z, v = .str z) ∨ ∃ a, v = .ref a ∧ ((∃ xs, SqT K H a xs) ∨ (a ≠ p ∧ ∃ xs, H a = some (.lst xs)) ∨ (a ≠ p ∧ ∃ kvs, H a = some (.dK kvs)))
theorem whole_dct {K : PySem.W.Frag} {H : Hp} {a : Addr} {kvs : List (Key × V)} (h : H a = some (.dK kvs)) : WholeIs K H (.ref a) false := ⟨_, false, false, .base (.dK h), kit_ty (by decide +kernel), kit_ty (by decide +kernel), rfl⟩
theorem Odd.whole {p : Addr} {K : PySem.W.Frag} {H : Hp} {v : V} (h : Odd p K H v) : WholeIs K H v false := by
  rcases h with rfl | ⟨b, rfl⟩ | ⟨z, rfl⟩ | ⟨a, rfl, ⟨xs, h⟩ | ⟨_, xs, h⟩ | ⟨_, kvs, h⟩⟩
  · exact whole_non
  · exact whole_bl
  · exact whole_str
  · exact whole_tup h
  · exact whole_lst h
  · exact whole_dct h
theorem Odd.x {p : Addr} {K : PySem.W.Frag} {H H' : Hp} {v : V} (h : Odd p K H v) (s : SameX p H H') (hp : PotAt H p) : Odd p K H' v := by
  rcases h with rfl | ⟨b, rfl⟩ | ⟨z, rfl⟩ | ⟨a, rfl, ⟨xs, h⟩ | ⟨n, xs, h⟩ | ⟨n, kvs, h⟩⟩
  · exact .inl rfl
  · exact .inr (.inl ⟨b, rfl⟩)
  · exact .inr (.inr (.inl ⟨z, rfl⟩))
  · exact .inr (.inr (.inr ⟨a, rfl, .inl ⟨xs, s.tup hp h⟩⟩))
  · exact .inr (.inr (.inr ⟨a, rfl, .inr (.inl ⟨n, xs, s a _ n h⟩)⟩))
  · exact .inr (.inr (.inr ⟨a, rfl, .inr (.inr ⟨n, kvs, s a _ n h⟩)⟩))
/-- a whole number, or none -/
def Thing (p : Addr) (K : PySem.W.Frag) (H : Hp) (v : V) : Prop := (∃ i : Int, v = .int i ∧ Bt 400 i) ∨ Odd p K H v
theorem Thing.x {p : Addr} {K : PySem.W.Frag} {H H' : Hp} {v : V} (h : Thing p K H v) (s : SameX p H H') (hp : PotAt H p) : Thing p K H' v := h.elim .inl fun h => .inr (h.x s hp)
/-! the part that two numbers make -/
def sg (a b : Int) : Int × Int := if b < 0 then lo (-a) (-b) else lo a b
theorem sg_low {a b : Int} (h : b ≠ 0) : Lowest (sg a b).1 (sg a b).2 := by
  unfold sg
  split
  · exact lo_lowest (by omega)
  · exact lo_lowest (by omega)
theorem sg_cross (a b : Int) : (sg a b).1 * b = a * (sg a b).2 := by
  unfold sg
  split
  · have e := lo_cross (-a) (-b)
    rw [Int.mul_neg, Int.neg_mul] at e
    exact Int.neg_inj.mp e
  · exact lo_cross a b
theorem sg_bt {n : Nat} {a b : Int} (ha : Bt n a) (hb : Bt n b) : Bt n (sg a b).1 ∧ Bt n (sg a b).2 := by
  unfold sg
  split
  · exact ⟨Bt.lo1 ha.neg, Bt.lo2 hb.neg⟩
  · exact ⟨Bt.lo1 ha, Bt.lo2 hb⟩
def NoPartOf (K : PySem.W.Frag) (H : Hp) (u v : V) : Prop := WholeIs K H u false ∨ ∃ a, u = .int a ∧ (WholeIs K H v false ∨ v = .int 0)
def spPartG (K : PySem.W.Frag) (C : Addr) : Sp := fun vs H Q E => ∃ u v, vs = [u, v] ∧ ((∃ a b : Int, u = .int a ∧ v = .int b ∧ b ≠ 0 ∧ Bt 8999 b ∧ NewT K H (sg a b).1 (sg a b).2 Q) ∨ (NoPartOf K H u v ∧ E (.ref C) none H))
/-! what is a part -/
def PairIs (K : PySem.W.Frag) (H : Hp) (v : V) (b : Bool) : Prop :=
  (b = false ∧ ∃ t, TyX K H v t ∧ PySem.W.kitOne K t (.type "tuple") = some false) ∨
  ∃ a xs, v = .ref a ∧ SqT K H a xs ∧ ((b = false ∧ xs.length ≠ 2) ∨ ∃ x y, xs = [x, y] ∧ ((b = false ∧ WholeIs K H x false) ∨ (∃ i, x = .int i ∧ b = false ∧ WholeIs K H y false) ∨ ∃ i j : Int, x = .int i ∧ y = .int j ∧ b = (decide (0 < j) && decide ((Int.gcd i j : Int) = 1))))
def spPair (K : PySem.W.Frag) : Sp := fun vs H Q _ => ∃ v b, vs = [v] ∧ PairIs K H v b ∧ Q (.bl b) H
theorem pair_of {K : PySem.W.Frag} {H : Hp} {v : V} {a b : Int} (h : TupI K H v a b) : PairIs K H v (decide (0 < b) && decide ((Int.gcd a b : Int) = 1)) := by
  obtain ⟨t, rfl, h⟩ := h
  exact .inr ⟨t, _, rfl, h, .inr ⟨_, _, rfl, .inr (.inr ⟨a, b, rfl, rfl, rfl⟩)⟩⟩
theorem ty_same {K : PySem.W.Frag} {H H' : Hp} {v : V} {t : Value} (h : TyX K H v t) (s : Same H H') : TyX K H' v t := by
  cases h with
  | base h =>
    cases h with
    | non => exact .base .non
    | bl x => exact .base (.bl x)
    | int i => exact .base (.int i)
    | str z => exact .base (.str z)
    | flt z => exact .base (.flt z)
    | lst e => exact .base (.lst (s _ _ e))
    | frz e => exact .base (.frz (s _ _ e))
    | tup e => exact .base (.tup (s _ _ e))
    | dK e => exact .base (.dK (s _ _ e))
    | dT e => exact .base (.dT (s _ _ e))
    | ins e a b c d f => exact .base (.ins (s _ _ e) a b c d f)
  | byt b => exact .byt b
  | set e => exact .set (s _ _ e)
  | kList e c => exact .kList e c
  | kTuple e c => exact .kTuple e c
  | kDict e c => exact .kDict e c
  | fTuple e => exact .fTuple (s _ _ e)
  | fDict e => exact .fDict (s _ _ e)
theorem WholeIs.same {K : PySem.W.Frag} {H H' : Hp} {v : V} {b : Bool} (h : WholeIs K H v b) (s : Same H H') : WholeIs K H' v b := by
  obtain ⟨t, b1, b2, ty, r⟩ := h
  exact ⟨t, b1, b2, ty_same ty s, r⟩
theorem PairIs.same {K : PySem.W.Frag} {H H' : Hp} {v : V} {b : Bool} (h : PairIs K H v b) (s : Same H H') : PairIs K H' v b := by
  rcases h with ⟨e, t, ty, k⟩ | ⟨a, xs, e, ht, h⟩
  · exact .inl ⟨e, t, ty_same ty s, k⟩
  · refine .inr ⟨a, xs, e, Same.tup s ht, ?_⟩
    rcases h with h | ⟨x, y, e, h⟩
    · exact .inl h
    · refine .inr ⟨x, y, e, ?_⟩
      rcases h with ⟨e1, w⟩ | ⟨i, e1, e2, w⟩ | h
      · exact .inl ⟨e1, w.same s⟩
      · exact .inr (.inl ⟨i, e1, e2, w.same s⟩)
      · exact .inr (.inr h)
end WS
set_option Elab.async false
set_option linter.all false
set_option maxRecDepth 100000
set_option maxHeartbeats 4000000
namespace WS
open PySem PySem.Spec PyProof.Rows L2
/-! defs that let exceptions out, of any kind -/
theorem fun_ok {CX : CXT} {P : Program} {w : World} {K : PySem.W.Frag} {mg : Str → Option Value} {base : Heap} {x qual : Str} {st : Stmt} {f : Addr} {fd : FuncData} {N ps : List Str} {k : Nat} {sp : Sp}
    (F : Fun K x qual st f fd) (S : FnScope N ps (defScope st)) (len : ∀ vs H Q E, sp vs H Q E → vs.length = ps.length)
    (B : ∀ (cdv : Value) (A : Around) (outer : List Env) (s : Shared) (H : Hp) (vs : List V) (Q : VK) (E : XK), Room k (A.deeper (envOfC qual (defScope st) s.heap.objs.size f cdv)) → sp vs H Q E →
      ∃ t, PSs (cxOf CX P w K mg base N qual (defScope st) f cdv A outer s H E) (defBody st) t ∧ t ⟨fun _ H' => Q .non H', Q, fun _ _ => False, fun _ _ => False⟩ (start N vs) H) : FnOk P w K mg base CX (k + 1) f fd ps sp := by
  obtain ⟨oc, od, kV, doc, pm, an, cdv, ct, osl, rfl, lk, code⟩ := F.ex
  exact fn_of lk code S len (B cdv)
theorem passN {X : Cx} : Passes (L2N.CX X.prog X.w) X E0 := L2N.passes_call takes0N (fun _ _ _ _ h => h)
def tCallND (n m : Nat) (sp : Sp) (gV : List V → List V → List V) (E : L2.St → XK) (t tk : TA) : TE := fun σ H Q => t σ H fun vs H1 => tk σ H1 fun zs H2 => vs.length = n ∧ zs.length = m ∧ sp (gV vs zs) H2 Q (E σ)
theorem pe_callND {X : Cx} {CX : CXT} {k n : Nat} {f : Addr} {fd : FuncData} {ps ks : List Str} {sp : Sp} {E : L2.St → XK} {x : Str} {p1 pos : Pos} {e : Expr} {es : List Expr} {kws : List Keyword} {t tk : TA} {g : List Value → List Value → List Value} {gV : List V → List V → List V}
    (F : FnOk X.prog X.w X.K X.mg X.base CX k f fd ps sp) (room : Room k X.A) (gl : Gl X x) (at_x : X.mg x = some (.ref f)) (kp : PySem.W.keepIn X.K (.ref f) = true) (kb : KBn X.K fd ps n ks g gV) (ex : ∀ σ, PassesAt CX X σ (E σ))
    (args : PA X (e :: es) t) (kwa : PK X kws tk) (all : (backToKw pos (keywordEach kws X.env)).all (·.1.isSome) = true := by rfl) (names : (backToKw pos (keywordEach kws X.env)).filterMap (·.1) = ks := by rfl)
    (nodbg : (x == ("__debug__" : Str)) = false := by decide) (one : starEach (e :: es) X.env = (false, eval e X.env) :: starEach es X.env := by rfl)
    (nostar : ((backTo pos (starEach (e :: es) X.env)).any (·.1) || (backToKw pos (keywordEach kws X.env)).any (·.1.isNone)) = false := by rfl) :
    PE X (.Call (.Name x p1) (e :: es) kws pos) (tCallND n ks.length sp gV E t tk) := by
  constructor
  intro pins s σ H Q inv want
  refine wpAny_Call_Name_kw (ld_glob inv gl at_x ?_ nodbg)
  refine PySem.W.callWith_KW (h₀ := X.base) inv.ok.mod.kin kp all (thn (args.run pos pins s σ H _ inv want) ?_) nostar one
  rintro us s1 ⟨vs, H1, inv1, vals, want1⟩
  refine thn (kwa.run pos pins s1 σ H1 _ inv1 want1) ?_
  rintro ws s2 ⟨zs, H2, inv2, zals, l1, l2, want2⟩
  refine ⟨inv2.kIn, ?_⟩
  rw [names]
  have rel := kb.rel vals zals
  refine wpAny_call (codeAny_mono (F.run X.A X.stack s2 H2 ⟨us, ks.zip ws⟩ (g us ws) (gV vs zs) Q (E σ) room inv2.env0 (kb.to s2 us ws inv2.kIn (vals.length.symm.trans l1) (zals.length.symm.trans l2)) rel want2) ?_)
  intro r s' z
  match r, z with
  | .error er, z => exact ex σ pins H2 s2 er s' inv2 z
  | .ok (.ret u), z => exact inv2.after z
  | .ok .next, z => exact z.elim
  | .ok .brk, z => exact z.elim
  | .ok .cont, z => exact z.elim
theorem kbn_one {K : PySem.W.Frag} {x qual : Str} {params : Arguments} {body : List Stmt} {scope : Scope} {dvs : List V} {f : Addr} {fd : FuncData} {ps : List Str} (F : FunD K x qual params body scope dvs [] f fd) (n : Nat) (ks : List Str) (hd : dvs ≠ [])
    (h : ∀ (T : Addr) (kV doc pm : Value) (an : Option Addr) (cdv ct : Value) (us its ws : List Value), us.length = n → its.length = dvs.length → ws.length = ks.length →
      ∃ k, bindArgs (PySem.W.fnOf x qual params body scope (.ref T) kV doc pm an cdv ct) ⟨us, ks.zip ws⟩ = seqItems? (.ref T) >>= k ∧ k (some its.toArray) = pure (ps.zip (us ++ ws))) :
    KBn K fd ps n ks (fun us ws => us ++ ws) (fun vs zs => vs ++ zs) := by
  obtain ⟨oc, od, dV, kV, doc, pm, an, cdv, ct, osl, rfl, lk, code, D, _⟩ := F.ex
  rcases D with ⟨e, _⟩ | ⟨_, T, o, its, m, rfl, lT, oT, rT⟩
  · exact absurd e hd
  · refine ⟨fun s us ws inK l1 l2 => BindsTo.of_looks fun M => ?_, fun r1 r2 => r1.append r2⟩
    obtain ⟨k, e1, e2⟩ := h T kV doc pm an cdv ct us its ws l1 rT.length.symm l2
    rw [e1]
    exact looks_items inK lT oT (.of_pure e2)
/-! things of two dozen sorts that are no whole numbers, and no parts -/
def Odd2 (p : Addr) (K : PySem.W.Frag) (H : Hp) (v : V) : Prop := v = .non ∨ (∃ b, v = .bl b) ∨ (∃ z, v = .str z) ∨ ∃ a, v = .ref a ∧ ((∃ xs, SqT K H a xs ∧ (xs.length ≠ 2 ∨ (∃ y, xs = [.non, y]) ∨ (∃ z y, xs = [.str z, y]) ∨ xs = [.int 2, .int 2])) ∨ (a ≠ p ∧ ∃ xs, H a = some (.lst xs)) ∨ (a ≠ p ∧ ∃ kvs, H a = some (.dK kvs)))
theorem Odd2.odd {p : Addr} {K : PySem.W.Frag} {H : Hp} {v : V} (h : Odd2 p K H v) : Odd p K H v := by
  rcases h with h | h | h | ⟨a, e, ⟨xs, h, _⟩ | h | h⟩
  · exact .inl h
  · exact .inr (.inl h)
  · exact .inr (.inr (.inl h))
  · exact .inr (.inr (.inr ⟨a, e, .inl ⟨xs, h⟩⟩))
  · exact .inr (.inr (.inr ⟨a, e, .inr (.inl h)⟩))
  · exact .inr (.inr (.inr ⟨a, e, .inr (.inr h)⟩))
theorem Odd2.x {p : Addr} {K : PySem.W.Frag} {H H' : Hp} {v : V} (h : Odd2 p K H v) (s : SameX p H H') (hp : PotAt H p) : Odd2 p K H' v := by
  rcases h with h | h | h | ⟨a, e, ⟨xs, h, r⟩ | ⟨n, xs, h⟩ | ⟨n, kvs, h⟩⟩
  · exact .inl h
  · exact .inr (.inl h)
  · exact .inr (.inr (.inl h))
  · exact .inr (.inr (.inr ⟨a, e, .inl ⟨xs, s.tup hp h, r⟩⟩))
  · exact .inr (.inr (.inr ⟨a, e, .inr (.inl ⟨n, xs, s a _ n h⟩)⟩))
  · exact .inr (.inr (.inr ⟨a, e, .inr (.inr ⟨n, kvs, s a _ n h⟩)⟩))
theorem pair_len {K : PySem.W.Frag} {H : Hp} {a : Addr} {xs : List V} (h : SqT K H a xs) (n : xs.length ≠ 2) : PairIs K H (.ref a) false := .inr ⟨a, xs, rfl, h, .inl ⟨rfl, n⟩⟩
theorem pair_fst {K : PySem.W.Frag} {H : Hp} {a : Addr} {x y : V} (h : SqT K H a [x, y]) (n : WholeIs K H x false) : PairIs K H (.ref a) false := .inr ⟨a, _, rfl, h, .inr ⟨x, y, rfl, .inl ⟨rfl, n⟩⟩⟩
theorem pair_snd {K : PySem.W.Frag} {H : Hp} {a : Addr} {i : Int} {y : V} (h : SqT K H a [.int i, y]) (n : WholeIs K H y false) : PairIs K H (.ref a) false := .inr ⟨a, _, rfl, h, .inr ⟨_, y, rfl, .inr (.inl ⟨i, rfl, rfl, n⟩)⟩⟩
theorem Odd2.pair {p : Addr} {K : PySem.W.Frag} {H : Hp} {v : V} (h : Odd2 p K H v) : PairIs K H v false := by
  rcases h with rfl | ⟨b, rfl⟩ | ⟨z, rfl⟩ | ⟨a, rfl, ⟨xs, h, r⟩ | ⟨n, xs, h⟩ | ⟨n, kvs, h⟩⟩
  · exact .inl ⟨rfl, _, .base .non, kit_ty (by decide +kernel)⟩
  · exact .inl ⟨rfl, _, .base (.bl b), kit_ty (by decide +kernel)⟩
  · exact .inl ⟨rfl, _, .base (.str z), kit_ty (by decide +kernel)⟩
  · rcases r with r | ⟨y, rfl⟩ | ⟨z, y, rfl⟩ | rfl
    · exact pair_len h r
    · exact pair_fst h whole_non
    · exact pair_fst h whole_str
    · exact pair_of ⟨a, rfl, h⟩
  · exact .inl ⟨rfl, _, .base (.lst h), kit_ty (by decide +kernel)⟩
  · exact .inl ⟨rfl, _, .base (.dK h), kit_ty (by decide +kernel)⟩
/-- the part that two things make, or the word for a refusal -/
def DueOf (K : PySem.W.Frag) (H : Hp) (u v : V) (Q : VK) : Prop := (∃ a b : Int, u = .int a ∧ v = .int b ∧ b ≠ 0 ∧ Bt 400 a ∧ Bt 400 b ∧ NewT K H (sg a b).1 (sg a b).2 Q) ∨ (NoPartOf K H u v ∧ ∀ H', Same H H' → Q (.str "alone") H')
def DueSh (K : PySem.W.Frag) (H : Hp) (a b : Int) (m : V) (Q : VK) : Prop := (∃ i : Int, m = .int i ∧ 1 ≤ i ∧ Bt 400 i ∧ NewT K H (lo a (b * i)).1 (lo a (b * i)).2 Q) ∨ (Bad K H m ∧ ∀ H', Same H H' → Q (.str "alone") H')
end WS
set_option Elab.async false
set_option linter.all false
set_option maxRecDepth 100000
set_option maxHeartbeats 4000000
namespace WS
open PySem PySem.Spec PyProof.Rows L2
/-! ### great numbers as texts, and back -/
section
theorem nodig {X : Cx} {pins : List (Addr × Obj)} {σ : L2.St} {H : Hp} {s : Shared} (I : Inv X pins σ H s) (h : X.base.NoDigits) : s.heap.NoDigits := h.keeps (fun b o e => (I.env0.bs b o e).1)
theorem bt_digits {i : Int} (h : Bt 12900 i) : i.natAbs < 10 ^ 4300 := Nat.lt_of_lt_of_le h pow_lo
def rStrW : List V → Hp → VK → Prop := fun xs H Q => ∃ i : Int, xs = [.int i] ∧ Bt 12900 i ∧ Q (.str (toString i)) H
theorem call_strW {X : Cx} (hc : X.calm = true) (hd : X.base.NoDigits) : CallR X (.type "str") rStrW := by
  intro pins s σ H xs us Q I r h
  obtain ⟨i, rfl, hz, q⟩ := h
  obtain ⟨u, rfl, t, rfl⟩ := vals1 r
  exact str_of_int_or (I.ok.hd hc) (nodig I hd) (fun _ => ⟨.str _, H, I.tok _, ⟨_, rfl⟩, q⟩) (fun z => absurd (bt_digits hz) (Nat.not_lt.mpr z))
def tFmtW (te : TE) : TE := fun σ H Q => te σ H fun x H1 => ∃ i : Int, x = .int i ∧ Bt 12900 i ∧ Q (.str (toString i)) H1
theorem pe_fmtW {X : Cx} {e : Expr} {te : TE} {pos : Pos} (hc : X.calm = true) (hd : X.base.NoDigits) (he : PE X e te) : PE X (.FormattedValue e (-1) none pos) (tFmtW te) := by
  refine ⟨fun pins s σ H Q I h => ?_⟩
  refine wpAny_FormattedValue_plain (thn (he.run pins s σ H _ I h) fun v s1 hv => ?_)
  obtain ⟨x, H1, I1, r1, i, rfl, hz, q⟩ := hv
  obtain ⟨t, rfl⟩ := r1
  exact formatField_int (I1.ok.hd hc) (nodig I1 hd) (fun _ => ⟨.str (toString i), H1, I1.tok _, ⟨_, rfl⟩, q⟩) (fun z => absurd (bt_digits hz) (Nat.not_lt.mpr z))
open PySem.NumText in
theorem wp_textL {M : Model} {A : Around} {E : Value → Shared → Prop} {s : Shared} {Q : Value → Shared → Prop} {v : Value} {text : List Nat} {n : Int}
    (hs : ¬ (text.takeWhile (· != 0)).length ≤ 640) (hn : s.heap.NoDigits) (hr : (int_private% "readNumeral") 4300 10 (text.takeWhile (· != 0)) = (int_private% "Numeral.value") n)
    (ha : ((text.takeWhile (· != 0)).length == text.length) = true) (h : Q (.int n s.toks) { s with toks := s.toks + 1 }) :
    wpAny M A ((int_private% "intFromText") v text 10) Q E s := by
  obtain ⟨mc, hns, hnone⟩ := hn
  show wpAny M A (do
    let limit ← if (text.takeWhile (· != 0)).length ≤ 640 then pure 0 else Builtin.intMaxStrDigits
    _) Q E s
  rw [if_neg hs]
  unfold Builtin.intMaxStrDigits
  refine wpAny_bind (wpAny_bind (wpAny_nsGet hns ?_))
  rw [hnone]
  refine wpAny_pure ?_
  dsimp only
  rw [hr]
  dsimp only
  rw [if_pos ha]
  exact wpAny_mkInt h
theorem wp_textW {M : Model} {A : Around} {E : Value → Shared → Prop} {s : Shared} {Q : Value → Shared → Prop} {v : Value} {text : List Nat} {n : Int}
    (hn : s.heap.NoDigits) (hr : (int_private% "readNumeral") (if (text.takeWhile (· != 0)).length ≤ 640 then 0 else 4300) 10 (text.takeWhile (· != 0)) = (int_private% "Numeral.value") n)
    (ha : ((text.takeWhile (· != 0)).length == text.length) = true) (h : Q (.int n s.toks) { s with toks := s.toks + 1 }) :
    wpAny M A ((int_private% "intFromText") v text 10) Q E s := by
  by_cases hs : (text.takeWhile (· != 0)).length ≤ 640
  · rw [if_pos hs] at hr
    exact PySem.W.KIN.wp_text hs hr ha h
  · rw [if_neg hs] at hr
    exact wp_textL hs hn hr ha h
open PySem.NumText PySem.W.KIN in
set_option maxHeartbeats 4000000 in
theorem meets_textW {x : PySem.Str} {u : Tok} {n : Int} (hl : x.length ≤ sizeLine) (hn : PySem.intText? x = some n) :
    Meets (Builtin.«int.__new__» ⟨[.type "int", .str x u], []⟩) (fun A R s => s.heap.NoDigits ∧ R (.ok (.ret (.int n s.toks))) { s with toks := s.toks + 1 }) := by
  refine Meets.of_wp fun prog w A R s ⟨hd, h⟩ => ?_
  obtain ⟨hp, g, d, tk, os⟩ := s
  have f1 := F.conv_sub_int
  have f2 := F.madeHere_int
  have f3 := str_int
  have f4 := str_idx
  have f5 := str_trunc
  have f6 : typeOf (.str x u) = pure (.type "str") := rfl
  have hr : (int_private% "readNumeral") (if (numSeenOf x).length ≤ 640 then 0 else 4300) 10 (numSeenOf x) = (int_private% "Numeral.value") n ∧ ((numSeenOf x).length == (numTextOf x).length) = true := by
    rcases readAny x hl with ⟨m, h1, h2, h3⟩ | ⟨h1, _⟩
    · rw [hn] at h1
      injection h1 with h1
      subst h1
      exact ⟨h3, h2⟩
    · rw [hn] at h1
      cases h1
  have hk := Hid.mk hr
  have hD := Hid.mk hd
  clear hr hl hn hd
  repeat (any_goals (first
    | assumption
    | ((with_reducible show wpAny _ _ ((int_private% "intFromText") _ _ _) _ _ _); refine wp_textW hD.out hk.out.1 hk.out.2 ?_)
    | wp_step))
  all_goals first | exact ⟨_, rfl, h⟩ | skip
def rIntS : List V → Hp → VK → Prop := fun xs H Q => ∃ (a : Str) (n : Int), xs = [.str a] ∧ PySem.intText? a = some n ∧ a.length ≤ sizeLine ∧ Q (.int n) H
/-- int(text), of any length, where it is a number -/
theorem call_int_strW {X : Cx} (hd : X.base.NoDigits) : CallR X (.type "int") rIntS := by
  intro pins s σ H xs us Q I rs h
  obtain ⟨a, n, rfl, hn, hl, h⟩ := h
  cases rs with
  | cons r1 rs =>
    cases rs
    obtain ⟨t, rfl⟩ := r1
    exact call_int_1 (meets_textW hl hn) ⟨nodig I hd, typeIs_int _ _ _, .int n, H, I.tok _, ⟨_, rfl⟩, h⟩
end
end WS
set_option Elab.async false
set_option linter.all false
set_option maxRecDepth 100000
set_option maxHeartbeats 4000000
namespace WS
open PySem PySem.Spec PyProof.Rows L2
/-! vouchers -/
structure VR where
  w : Int
  a : Int
  b : Int
  l : Int × Int
  m : Int × Int
  c : Int × Int
def VRow (K : PySem.W.Frag) (H : Hp) (v : V) (r : VR) : Prop := ∃ t x y z, v = .ref t ∧ SqT K H t [.int r.w, .int r.a, .int r.b, x, y, z] ∧ TupI K H x r.l.1 r.l.2 ∧ TupI K H y r.m.1 r.m.2 ∧ TupI K H z r.c.1 r.c.2
theorem VRow.k {K : PySem.W.Frag} {H H' : Hp} {v : V} {r : VR} (h : VRow K H v r) (s : KT H H') : VRow K H' v r := by
  obtain ⟨t, x, y, z, e, h0, h1, h2, h3⟩ := h
  exact ⟨t, x, y, z, e, s.sqt h0, h1.k s, h2.k s, h3.k s⟩
def VRows (K : PySem.W.Frag) (H : Hp) (vs : List V) (rs : List VR) : Prop := vs.length = rs.length ∧ ∀ (i : Nat) v, vs[i]? = some v → ∃ r, rs[i]? = some r ∧ VRow K H v r
theorem VRows.k {K : PySem.W.Frag} {H H' : Hp} {vs : List V} {rs : List VR} (h : VRows K H vs rs) (s : KT H H') : VRows K H' vs rs := ⟨h.1, fun i v e => by
  obtain ⟨r, e1, h1⟩ := h.2 i v e
  exact ⟨r, e1, h1.k s⟩⟩
theorem VRows.nil {K : PySem.W.Frag} {H : Hp} : VRows K H [] [] := ⟨rfl, fun i v e => by simp at e⟩
theorem VRows.add {K : PySem.W.Frag} {H : Hp} {v : V} {vs : List V} {r : VR} {rs : List VR} (k : VRows K H vs rs) (h : VRow K H v r) : VRows K H (vs ++ [v]) (rs ++ [r]) := by
  refine ⟨by simp [k.1], fun i x e => ?_⟩
  rw [List.getElem?_append] at e ⊢
  have hl := k.1
  split at e
  · rename_i hi
    obtain ⟨r', e1, h1⟩ := k.2 i x e
    rw [if_pos (by omega)]
    exact ⟨r', e1, h1⟩
  · rename_i hi
    rw [if_neg (by omega)]
    have e0 : i - vs.length = 0 := by
      cases hj : i - vs.length with
      | zero => rfl
      | succ j => rw [hj] at e; simp at e
    rw [e0] at e
    rw [← hl, e0]
    simp only [List.getElem?_cons_zero, Option.some.injEq] at e ⊢
    subst e
    exact ⟨r, rfl, h⟩
def ltp (p q : Int × Int) : Bool := decide (p.1 * q.2 < q.1 * p.2)
def mo (W n k : Int) : Int × Int := lo (W * k * (n - k)) 2
def tm (p : Int × Int) (i : Int) : Int × Int := lo (p.1 * i) p.2
def mi (p q : Int × Int) : Int × Int := lo (p.1 * q.2 - q.1 * p.2) (p.2 * q.2)
def rowB (W n k : Int) (s : Int × Int) (r : VR) : Bool := decide (1 ≤ r.w) && (!ltp (mo W n (k - r.a)) r.l && (!ltp (mo W n (k + r.b)) r.m && (!ltp (tm (mi r.m s) r.a) (tm (mi s r.l) r.b) && !ltp (lo (r.a * r.b) 2) r.c)))
def headB (W n k : Int) (s : Int × Int) : Bool := !ltp (mo W n k) s
def holdB (W n k : Int) (s : Int × Int) (rs : List VR) : Bool := headB W n k s && (rs.all (rowB W n k s) && decide ((rs.map VR.w).sum ≤ W))
def Okv (p : Int × Int) : Prop := Lowest p.1 p.2 ∧ Okq 204 92 p
def Okr (n k : Int) (r : VR) : Prop := 0 ≤ r.a ∧ r.a ≤ k ∧ 0 ≤ r.b ∧ r.b ≤ n - k ∧ Bt 104 r.w ∧ Okv r.l ∧ Okv r.m ∧ Okv r.c
def OkH (W n k : Int) (s : Int × Int) : Prop := 1 ≤ W ∧ Bt 101 W ∧ 0 ≤ k ∧ k ≤ n ∧ n ≤ 12 ∧ Okv s
def spWeightB : Sp := fun vs H Q _ => ∃ i : Int, vs = [.int i] ∧ Q (.bl (decide (i ≥ 1))) H
def spNumTo : Sp := fun vs H Q _ => ∃ i j : Int, vs = [.int i, .int j] ∧ Q (.bl (decide (0 ≤ i) && decide (i ≤ j))) H
def spPartTo (K : PySem.W.Frag) : Sp := fun vs H Q _ => ∃ u v a b c d, vs = [u, v] ∧ TupI K H u a b ∧ TupI K H v c d ∧ Lowest a b ∧ Bt 4400 a ∧ Bt 4400 b ∧ Bt 4400 c ∧ Bt 4400 d ∧ Q (.bl (!ltp (c, d) (a, b))) H
def spRowH (K : PySem.W.Frag) : Sp := fun vs H Q _ => ∃ W h v n k u s r, vs = [.int W, .ref h, v] ∧ SqT K H h [.int n, .int k, u] ∧ TupI K H u s.1 s.2 ∧ VRow K H v r ∧ OkH W n k s ∧ Okr n k r ∧ ∀ H', Same H H' → Q (.bl (rowB W n k s r)) H'
def spRowH2 (K : PySem.W.Frag) : Sp := fun vs H Q _ => ∃ W v n k u s r, vs = [.int W, .int n, .int k, u, v] ∧ TupI K H u s.1 s.2 ∧ VRow K H v r ∧ OkH W n k s ∧ Okr n k r ∧ ∀ H', Same H H' → Q (.bl (rowB W n k s r)) H'
def spHeadH (K : PySem.W.Frag) : Sp := fun vs H Q _ => ∃ W n k u s, vs = [.int W, .int n, .int k, u] ∧ TupI K H u s.1 s.2 ∧ OkH W n k s ∧ ∀ H', Same H H' → Q (.bl (headB W n k s)) H'
def Vch (K : PySem.W.Frag) (H : Hp) (v : V) (n k : Int) (s : Int × Int) (rs : List VR) : Prop := ∃ t u R vs, v = .ref t ∧ SqT K H t [.int n, .int k, u, .ref R] ∧ TupI K H u s.1 s.2 ∧ SqT K H R vs ∧ VRows K H vs rs
theorem Vch.k {K : PySem.W.Frag} {H H' : Hp} {v : V} {n k : Int} {s : Int × Int} {rs : List VR} (h : Vch K H v n k s rs) (e : KT H H') : Vch K H' v n k s rs := by
  obtain ⟨t, u, R, vs, e1, h1, h2, h3, h4⟩ := h
  exact ⟨t, u, R, vs, e1, e.sqt h1, h2.k e, e.sqt h3, h4.k e⟩
def spHolds (K : PySem.W.Frag) : Sp := fun vs H Q _ => ∃ W v n k s rs, vs = [.int W, v] ∧ Vch K H v n k s rs ∧ OkH W n k s ∧ rs.length ≤ 5 ∧ (∀ r ∈ rs, Okr n k r) ∧ ∀ H', Same H H' → Q (.bl (holdB W n k s rs)) H'
def vsum (s : Int × Int) (rs : List VR) : Int × Int := rs.foldl (fun f r => pl f (tm r.c r.w)) s
def spVouched (K : PySem.W.Frag) : Sp := fun vs H Q _ => ∃ v n k s rs, vs = [v] ∧ Vch K H v n k s rs ∧ Okv s ∧ rs.length ≤ 5 ∧ (∀ r ∈ rs, Okr n k r) ∧ NewT K H (vsum s rs).1 (vsum s rs).2 Q
theorem Okv.okp {m : Nat} {p : Int × Int} (h : Okv p) (hm : 204 ≤ m) : Okp m p := h.2.okp hm (by omega)
theorem Okq.tm {n d m : Nat} {p : Int × Int} {i : Int} (h : Okq n d p) (bi : Bt m i) : Okq (n + m) d (tm p i) := ⟨(lo_lowest h.1).1, (h.2.1.mul bi).lo1, h.2.2.lo2⟩
theorem Okq.mi {n d m e : Nat} {p q : Int × Int} (h : Okq n d p) (k : Okq m e q) : Okq (max (n + e) (m + d) + 1) (d + e) (mi p q) := by
  refine ⟨(lo_lowest (Int.mul_pos h.1 k.1)).1, Bt.lo1 ?_, (h.2.2.mul k.2.2).lo2⟩
  exact Bt.sub ((h.2.1.mul k.2.2).mono (Nat.le_max_left _ _)) ((k.2.1.mul h.2.2).mono (Nat.le_max_right _ _))
theorem mo_okq {W n k : Int} (h : Bt 101 W) (h0 : 0 ≤ k) (h1 : k ≤ n) (h2 : n ≤ 12) : Okq 111 2 (mo W n k) := by
  have bk : Bt 4 k := Bt.of_lt (by omega) (by omega)
  have bn : Bt 4 (n - k) := Bt.of_lt (by omega) (by omega)
  exact ⟨(lo_lowest (by decide)).1, (((h.mul bk).mul bn).mono (by decide)).lo1, (show Bt 2 2 by unfold Bt; decide).lo2⟩
theorem mo_low (W n k : Int) : Lowest (mo W n k).1 (mo W n k).2 := lo_lowest (by decide)
theorem vsum_okq {n k : Int} : ∀ (rs : List VR) (j d : Nat) (s : Int × Int), Okq (204 + 105 * (min j 1) + 92 * j + j) (92 + 92 * j) s → (∀ r ∈ rs, Okr n k r) → Okq (204 + 105 * (min (j + rs.length) 1) + 92 * (j + rs.length) + (j + rs.length)) (92 + 92 * (j + rs.length)) (vsum s rs)
  | [], j, d, s, h, _ => h
  | r :: rs, j, d, s, h, hr => by
    have o := (hr r List.mem_cons_self)
    have oc := o.2.2.2.2.2.2.2.2.tm o.2.2.2.2.1
    have h2 : Okq (204 + 105 * (min (j + 1) 1) + 92 * (j + 1) + (j + 1)) (92 + 92 * (j + 1)) (pl s (tm r.c r.w)) := (h.pl oc).mono (by omega) (by omega)
    have := vsum_okq rs (j + 1) d _ h2 (fun x hx => hr x (List.mem_cons_of_mem _ hx))
    rw [List.length_cons, show j + (rs.length + 1) = j + 1 + rs.length by omega]
    exact this
end WS
set_option Elab.async false
set_option linter.all false
set_option maxRecDepth 100000
set_option maxHeartbeats 4000000
namespace WS
open PySem PySem.Spec PyProof.Rows L2
theorem cutV_drop (xs : List V) (k : Nat) : cutV xs (some (k : Int)) none = xs.drop k := by
  unfold cutV
  rw [HT.sIx_nat, HT.sIx_none, List.take_of_length_le (by rw [List.length_drop]; exact Nat.le_refl _)]
  by_cases h : k ≤ xs.length
  · rw [Nat.min_eq_left h]
  · rw [Nat.min_eq_right (by omega), List.drop_of_length_le (Nat.le_refl _), List.drop_of_length_le (by omega)]
def spLPart (K : PySem.W.Frag) : Sp := fun vs H Q _ => ∃ v a b, vs = [v] ∧ TupI K H v a b ∧ Lowest a b ∧ Bt 4400 a ∧ Bt 4400 b ∧ ∀ H', Same H H' → Q (.bl true) H'
theorem reps_next (j : Nat) : (List.replicate j true).map V.bl ++ [V.bl true] = (List.replicate (j + 1) true).map V.bl := by
  rw [List.replicate_succ', List.map_append]
  rfl
theorem reps_len {j : Nat} (h : j ≤ 1000) : ((List.replicate j true).map V.bl).length < sizeLine := by
  rw [List.length_map, List.length_replicate]
  exact small1000 (by omega)
/-- a pair less another one, as it is written with its sign turned -/
theorem pl_neg {p q : Int × Int} : lo (p.1 * q.2 + (0 - q.1) * p.2) (p.2 * q.2) = mi p q := by
  unfold mi
  congr 1
  rw [Int.zero_sub, Int.neg_mul]
  omega
theorem half_le {a b : Int} {c : Int × Int} (h : 0 < c.2) : ltp (a * b, 1) (lo (c.1 * 2) c.2) = ltp (lo (a * b) 2) c := by
  unfold ltp
  apply decide_eq_decide.mpr
  have e := lo_cross (c.1 * 2) c.2
  have e2 := lo_cross (a * b) 2
  have p := (lo_lowest (a := c.1 * 2) h).1
  have p2 := (lo_lowest (a := a * b) (b := 2) (by decide)).1
  show a * b * (lo (c.1 * 2) c.2).2 < (lo (c.1 * 2) c.2).1 * 1 ↔ (lo (a * b) 2).1 * c.2 < c.1 * (lo (a * b) 2).2
  generalize (lo (c.1 * 2) c.2).1 = x at *
  generalize (lo (c.1 * 2) c.2).2 = y at *
  generalize (lo (a * b) 2).1 = u at *
  generalize (lo (a * b) 2).2 = v at *
  generalize a * b = ab at *
  rw [Int.mul_one]
  have h1 : ab * y < x ↔ ab * c.2 < c.1 * 2 := by
    constructor
    · intro z
      have : ab * y * c.2 < x * c.2 := Int.mul_lt_mul_of_pos_right z h
      have e3 : ab * y * c.2 = ab * c.2 * y := by rw [Int.mul_assoc, Int.mul_comm y, ← Int.mul_assoc]
      rw [e3, e] at this
      exact Int.lt_of_mul_lt_mul_right this (by omega)
    · intro z
      have : ab * c.2 * y < c.1 * 2 * y := Int.mul_lt_mul_of_pos_right z p
      have e3 : ab * y * c.2 = ab * c.2 * y := by rw [Int.mul_assoc, Int.mul_comm y, ← Int.mul_assoc]
      rw [← e3, ← e] at this
      exact Int.lt_of_mul_lt_mul_right this (by omega)
  have h2 : u * c.2 < c.1 * v ↔ ab * c.2 < c.1 * 2 := by
    constructor
    · intro z
      have : u * c.2 * 2 < c.1 * v * 2 := by omega
      have e3 : u * c.2 * 2 = ab * c.2 * v := by rw [Int.mul_assoc, Int.mul_comm c.2, ← Int.mul_assoc, e2, Int.mul_assoc, Int.mul_comm v, ← Int.mul_assoc]
      have e4 : c.1 * v * 2 = c.1 * 2 * v := by rw [Int.mul_assoc, Int.mul_comm v, ← Int.mul_assoc]
      rw [e3, e4] at this
      exact Int.lt_of_mul_lt_mul_right this (by omega)
    · intro z
      have : ab * c.2 * v < c.1 * 2 * v := Int.mul_lt_mul_of_pos_right z p2
      have e3 : u * c.2 * 2 = ab * c.2 * v := by rw [Int.mul_assoc, Int.mul_comm c.2, ← Int.mul_assoc, e2, Int.mul_assoc, Int.mul_comm v, ← Int.mul_assoc]
      have e4 : c.1 * v * 2 = c.1 * 2 * v := by rw [Int.mul_assoc, Int.mul_comm v, ← Int.mul_assoc]
      rw [← e3, ← e4] at this
      omega
  rw [h1, h2]
end WS
set_option Elab.async false
set_option linter.all false
set_option maxRecDepth 100000
set_option maxHeartbeats 4000000
namespace WS
open PySem PySem.Spec PyProof.Rows L2
/-! parts as rational numbers -/
def rv (p : Int × Int) : Rat := (p.1 : Rat) / (p.2 : Rat)
theorem cast_pos {b : Int} (h : 0 < b) : (0 : Rat) < b := by exact_mod_cast h
theorem cast_nn {b : Int} (h : 0 ≤ b) : (0 : Rat) ≤ b := by exact_mod_cast h
theorem cast_ne {b : Int} (h : 0 < b) : (b : Rat) ≠ 0 := by exact_mod_cast (by omega : b ≠ 0)
theorem cast_lt {a b : Int} : (a : Rat) < b ↔ a < b := by exact_mod_cast Iff.rfl
theorem cast_le {a b : Int} : (a : Rat) ≤ b ↔ a ≤ b := by exact_mod_cast Iff.rfl
theorem cast_mul (a b : Int) : ((a * b : Int) : Rat) = a * b := Rat.intCast_mul a b
theorem cast_add (a b : Int) : ((a + b : Int) : Rat) = a + b := Rat.intCast_add a b
theorem cast_sub (a b : Int) : ((a - b : Int) : Rat) = a - b := Rat.intCast_sub a b
theorem rv_lo {a b : Int} (hb : 0 < b) : rv (lo a b) = (a : Rat) / b := by
  have h1 := cast_ne hb
  have h2 := cast_ne (lo_lowest (a := a) hb).1
  have e' : ((lo a b).1 : Rat) * b = a * (lo a b).2 := by
    have := lo_cross a b
    exact_mod_cast this
  unfold rv
  grind
theorem rv_pl {p q : Int × Int} (hp : 0 < p.2) (hq : 0 < q.2) : rv (pl p q) = rv p + rv q := by
  unfold pl
  rw [rv_lo (Int.mul_pos hp hq), cast_add, cast_mul, cast_mul, cast_mul]
  have h1 := cast_ne hp
  have h2 := cast_ne hq
  unfold rv
  grind
theorem rv_mi {p q : Int × Int} (hp : 0 < p.2) (hq : 0 < q.2) : rv (mi p q) = rv p - rv q := by
  unfold mi
  rw [rv_lo (Int.mul_pos hp hq), cast_sub, cast_mul, cast_mul, cast_mul]
  have h1 := cast_ne hp
  have h2 := cast_ne hq
  unfold rv
  grind
theorem rv_tm {p : Int × Int} {i : Int} (hp : 0 < p.2) : rv (tm p i) = rv p * i := by
  unfold tm
  rw [rv_lo hp, cast_mul]
  have h1 := cast_ne hp
  unfold rv
  grind
theorem rv_mo (W n k : Int) : rv (mo W n k) = (W : Rat) * k * (n - k) / 2 := by
  unfold mo
  rw [rv_lo (by decide), cast_mul, cast_mul, cast_sub]
  rfl
theorem ltp_iff {p q : Int × Int} (hp : 0 < p.2) (hq : 0 < q.2) : ltp p q = true ↔ rv p < rv q := by
  unfold ltp rv
  rw [decide_eq_true_iff]
  have h1 := cast_pos hp
  have h2 := cast_pos hq
  have e : (p.1 * q.2 < q.1 * p.2) ↔ (p.1 : Rat) * q.2 < q.1 * p.2 := by exact_mod_cast Iff.rfl
  rw [e, Rat.div_lt_iff h1]
  have : (q.1 : Rat) / q.2 * p.2 = (q.1 * p.2) / q.2 := by grind
  rw [this, Rat.lt_div_iff h2]
theorem ltp_no {p q : Int × Int} (hp : 0 < p.2) (hq : 0 < q.2) : ltp p q = false ↔ rv q ≤ rv p := by
  rw [← Bool.not_eq_true, ltp_iff hp hq, Rat.not_lt]
def wsum (rs : List VR) : Rat := (rs.map fun r => rv r.c * r.w).sum
theorem vsum_pos : ∀ (rs : List VR) (s : Int × Int), 0 < s.2 → (∀ r ∈ rs, 0 < r.c.2) → 0 < (vsum s rs).2
  | [], s, h, _ => h
  | r :: rs, s, h, hr => vsum_pos rs _ (lo_lowest (Int.mul_pos h (lo_lowest (hr r List.mem_cons_self)).1)).1 (fun x hx => hr x (List.mem_cons_of_mem _ hx))
theorem rv_vsum : ∀ (rs : List VR) (s : Int × Int), 0 < s.2 → (∀ r ∈ rs, 0 < r.c.2) → rv (vsum s rs) = rv s + wsum rs
  | [], s, h, _ => by
    unfold wsum
    show rv s = rv s + 0
    rw [Rat.add_zero]
  | r :: rs, s, h, hr => by
    have hc := hr r List.mem_cons_self
    have ht : 0 < (tm r.c r.w).2 := (lo_lowest hc).1
    have e := rv_vsum rs (pl s (tm r.c r.w)) (lo_lowest (Int.mul_pos h ht)).1 (fun x hx => hr x (List.mem_cons_of_mem _ hx))
    rw [rv_pl h ht, rv_tm hc] at e
    show rv (vsum (pl s (tm r.c r.w)) rs) = _
    rw [e]
    unfold wsum
    rw [List.map_cons, List.sum_cons]
    grind
theorem wsum_le {W D : Rat} : ∀ (rs : List VR), (∀ r ∈ rs, 0 ≤ r.w ∧ W * rv r.c ≤ D) → W * wsum rs ≤ ((rs.map VR.w).sum : Int) * D
  | [], _ => by
    unfold wsum
    simp
  | r :: rs, h => by
    have i := wsum_le rs (fun x hx => h x (List.mem_cons_of_mem _ hx))
    obtain ⟨h0, h1⟩ := h r List.mem_cons_self
    have h2 := Rat.mul_le_mul_of_nonneg_left h1 (cast_nn h0)
    unfold wsum at i ⊢
    rw [List.map_cons, List.sum_cons, List.map_cons, List.sum_cons, cast_add]
    generalize ((rs.map fun r => rv r.c * r.w).sum) = A at *
    generalize (((rs.map VR.w).sum : Int) : Rat) = B at *
    grind
theorem row_bound {W n k a b S L M C : Rat} (hW : 0 < W) (ha : 0 ≤ a) (hb : 0 ≤ b) (hs : S ≤ W * k * (n - k) / 2) (hl : L ≤ W * (k - a) * (n - (k - a)) / 2) (hm : M ≤ W * (k + b) * (n - (k + b)) / 2) (hx : (S - L) * b ≤ (M - S) * a) (hc : C ≤ a * b / 2) :
    W * C ≤ W * k * (n - k) / 2 - S := by
  have h1 := Rat.mul_le_mul_of_nonneg_left hl hb
  have h2 := Rat.mul_le_mul_of_nonneg_left hm ha
  have h3 : (a + b) * S ≤ (a + b) * (W * k * (n - k) / 2 - W * a * b / 2) := by grind
  have h4 := Rat.mul_le_mul_of_nonneg_left hc (Rat.le_of_lt hW)
  by_cases hab : 0 < a + b
  · have h5 : S ≤ W * k * (n - k) / 2 - W * a * b / 2 := Rat.le_of_mul_le_mul_left h3 hab
    grind
  · have ea : a = 0 := by grind
    have eb : b = 0 := by grind
    subst ea eb
    grind
theorem vouch_le {W n k : Int} {s : Int × Int} {rs : List VR} (oh : OkH W n k s) (ok : ∀ r ∈ rs, Okr n k r) (h : holdB W n k s rs = true) : ltp (mo W n k) (vsum s rs) = false := by
  have s2 := oh.2.2.2.2.2.1.1
  have cp : ∀ r ∈ rs, 0 < r.c.2 := fun r hr => (ok r hr).2.2.2.2.2.2.2.1.1
  have mp : ∀ k, 0 < (mo W n k).2 := fun k => (mo_low W n k).1
  rw [ltp_no (mp k) (vsum_pos rs s s2 cp), rv_vsum rs s s2 cp, rv_mo]
  unfold holdB at h
  rw [Bool.and_eq_true, Bool.and_eq_true] at h
  obtain ⟨h1, h2, h3⟩ := h
  have hW : (0 : Rat) < W := cast_pos (by have := oh.1; omega)
  have hs : rv s ≤ (W : Rat) * k * (n - k) / 2 := by
    unfold headB at h1
    rw [Bool.not_eq_true', ltp_no (mp k) s2, rv_mo] at h1
    exact h1
  have each : ∀ r ∈ rs, 0 ≤ r.w ∧ (W : Rat) * rv r.c ≤ (W : Rat) * k * (n - k) / 2 - rv s := fun r hr => by
    have o := ok r hr
    have b := List.all_eq_true.mp h2 r hr
    unfold rowB at b
    simp only [Bool.and_eq_true, decide_eq_true_iff, Bool.not_eq_true'] at b
    obtain ⟨b1, b2, b3, b4, b5⟩ := b
    have l2 := o.2.2.2.2.2.1.1.1
    have m2 := o.2.2.2.2.2.2.1.1.1
    have c2 := cp r hr
    have p1 : 0 < (mi r.m s).2 := (lo_lowest (Int.mul_pos m2 s2)).1
    have p2 : 0 < (mi s r.l).2 := (lo_lowest (Int.mul_pos s2 l2)).1
    rw [ltp_no (mp _) l2, rv_mo, cast_sub] at b2
    rw [ltp_no (mp _) m2, rv_mo, cast_add] at b3
    rw [ltp_no (p := tm (mi r.m s) r.a) (q := tm (mi s r.l) r.b) (lo_lowest p1).1 (lo_lowest p2).1, rv_tm p1, rv_tm p2, rv_mi m2 s2, rv_mi s2 l2] at b4
    rw [ltp_no (lo_lowest (by decide)).1 c2, rv_lo (by decide), cast_mul] at b5
    exact ⟨by omega, row_bound hW (cast_nn o.1) (cast_nn o.2.2.1) hs b2 b3 b4 b5⟩
  have hw := wsum_le rs each
  have hsum : ((rs.map VR.w).sum : Int) ≤ W := of_decide_eq_true h3
  have hsum : (((rs.map VR.w).sum : Int) : Rat) ≤ W := cast_le.mpr hsum
  have D0 : (0 : Rat) ≤ (W : Rat) * k * (n - k) / 2 - rv s := by grind
  have h5 := Rat.mul_le_mul_of_nonneg_right hsum D0
  have h6 : (W : Rat) * wsum rs ≤ W * ((W : Rat) * k * (n - k) / 2 - rv s) := Rat.le_trans hw h5
  have h7 := Rat.le_of_mul_le_mul_left h6 hW
  grind
end WS
set_option Elab.async false
set_option linter.all false
set_option maxRecDepth 100000
set_option maxHeartbeats 4000000
namespace WS
open PySem PySem.Spec PyProof.Rows L2
def spNear64 (K : PySem.W.Frag) : Sp := fun vs H Q _ => ∃ (p : Addr) (v : V) (b : Int × Int), vs = [.ref p, v] ∧ PotAt H p ∧ TupI K H v b.1 b.2 ∧ Lowest b.1 b.2 ∧ Okq 114 4 b ∧ ∀ v' (b' : Int × Int) H', TupI K H' v' b'.1 b'.2 → Okv b' → SameX p H H' → PotAt H' p → Q v' H'
def spVRow (K : PySem.W.Frag) : Sp := fun vs H Q _ => ∃ (p : Addr) (W n k a b w : Int), vs = [.ref p, .int W, .int n, .int k, .int a, .int b, .int w] ∧ PotAt H p ∧ Bt 101 W ∧ 0 ≤ k ∧ k ≤ n ∧ n ≤ 12 ∧ 0 ≤ a ∧ a ≤ k ∧ 0 ≤ b ∧ b ≤ n - k ∧ Bt 104 w ∧ ∀ v r H', VRow K H' v r → Okr n k r → SameX p H H' → PotAt H' p → Q v H'
def spWeighing : Sp := fun vs H Q _ => ∃ (p : Addr) (W : Int) (m : Nat), vs = [.ref p, .int W, .int m] ∧ PotAt H p ∧ 1 ≤ W ∧ Bt 101 W ∧ m ≤ 5 ∧ ∀ D (ws : List Int) H', H D = none → H' D = some (.lst (ws.map V.int)) → ws.length = m → (∀ w ∈ ws, Bt 104 w) → SameX p H H' → PotAt H' p → Q (.ref D) H'
def spThing (K : PySem.W.Frag) : Sp := fun vs H Q _ => ∃ (p : Addr) (W : Int), vs = [.ref p, .int W] ∧ PotAt H p ∧ 1 ≤ W ∧ Bt 101 W ∧ ∀ v n k s rs H', Vch K H' v n k s rs → OkH W n k s → rs.length ≤ 5 → (∀ r ∈ rs, Okr n k r) → SameX p H H' → PotAt H' p → Q v H'
theorem okv_pl {p q : Int × Int} {m e : Nat} (h : Okq 114 4 p) (k : Okq m e q) (h1 : m + 5 ≤ 204) (h2 : e ≤ 88) : Okv (pl p q) :=
  ⟨lo_lowest (Int.mul_pos h.1 k.1), (h.pl k).mono (by omega) (by omega)⟩
theorem okv_of {p : Int × Int} {m e : Nat} (l : Lowest p.1 p.2) (h : Okq m e p) (h1 : m ≤ 204) (h2 : e ≤ 92) : Okv p := ⟨l, h.mono h1 h2⟩
theorem samex_upd {p F : Addr} {H H' : Hp} {o : HO} (s : SameX p H H') (n : H F = none) : SameX p H (upd H' F o) := fun b x nb e => by
  rw [upd_ne (ne_of_none e n)]
  exact s b x nb e
theorem PotAt.upd {H : Hp} {p F : Addr} {o : HO} (h : PotAt H p) (n : F ≠ p) : PotAt (upd H F o) p := by
  obtain ⟨x, y, e, r⟩ := h
  exact ⟨x, y, by rw [upd_ne n.symm]; exact e, r⟩
theorem PotAt.nel {H : Hp} {p F : Addr} {xs : List V} (h : PotAt H p) (hF : H F = some (.lst xs)) (n : xs.length ≠ 2) : F ≠ p := by
  obtain ⟨x, y, e, r⟩ := h
  intro z
  subst z
  rw [hF] at e
  cases e
  exact n rfl
end WS
set_option Elab.async false
set_option linter.all false
set_option maxRecDepth 100000
set_option maxHeartbeats 4000000
namespace WS
open PySem PySem.Spec PyProof.Rows L2
open TL
/-! names -/
def Nm (z : Str) : Prop := 1 ≤ (tl z).length ∧ (tl z).length ≤ 8 ∧ ∀ c ∈ tl z, 97 ≤ c ∧ c ≤ 122
def Nm0 (z : Str) : Prop := z = "" ∨ Nm z
theorem nm_ne {z : Str} (h : Nm z) : z ≠ "" := fun e => by
  rw [e] at h
  exact absurd h.1 (by decide)
theorem nm_sh {z : Str} (h : Nm0 z) : Sh 82 1 (.str z) := by
  have hl : z.length ≤ 8 := by
    rw [len_tl]
    rcases h with rfl | h
    · decide
    · exact h.2.1
  refine (Sh.str (z := z) fun c hc => ?_).mono (by omega) (Nat.le_refl _)
  rcases h with rfl | h
  · exact absurd hc (by decide +revert)
  · have := h.2.2 c hc
    omega
theorem inV_str (z : Str) (us : List Str) : inV (.str z) (us.map V.str) = decide (z ∈ us) := by
  unfold inV
  rw [List.any_map]
  induction us with
  | nil => simp
  | cons u us ih =>
    simp only [List.any_cons, Function.comp, List.mem_cons, ih]
    show ((u == z) || decide (z ∈ us)) = decide (z = u ∨ z ∈ us)
    by_cases h : z = u
    · subst h; simp
    · have : (u == z) = false := by simp [Ne.symm h]
      rw [this, Bool.false_or]
      simp [h]
theorem flat_strs (us : List Str) : (us.map V.str).all flatV = true := by
  rw [List.all_eq_true]
  intro v hv
  obtain ⟨u, _, rfl⟩ := List.mem_map.mp hv
  rfl
theorem join_one (ys : List Str) : tl (Str.join "" ys) = (ys.map tl).flatten := by
  rw [tl_join]
  show joinL [] (ys.map tl) = _
  induction ys.map tl with
  | nil => rfl
  | cons p r ih =>
    cases r with
    | nil => simp [joinL]
    | cons q r =>
      show p ++ ([] ++ joinL [] (q :: r)) = _
      rw [ih]
      simp
def sg1 (c : Nat) : Str := ⟨#[c]⟩
theorem join_nm {cs : List Nat} (h1 : 1 ≤ cs.length) (h2 : cs.length ≤ 8) (hc : ∀ c ∈ cs, 97 ≤ c ∧ c ≤ 122) : Nm (Str.join "" (cs.map sg1)) := by
  have e : tl (Str.join "" (cs.map sg1)) = cs := by
    rw [join_one, List.map_map]
    induction cs with
    | nil => rfl
    | cons c cs ih =>
      simp only [List.map_cons, List.flatten_cons]
      show [c] ++ _ = _
      cases cs with
      | nil => simp
      | cons d ds => rw [ih (by simp) (by simp at h2 ⊢; omega) (fun x hx => hc x (List.mem_cons_of_mem _ hx))]; rfl
  unfold Nm
  rw [e]
  exact ⟨h1, h2, hc⟩
theorem sg_len : ∀ cs : List Nat, ((cs.map sg1).map (·.length)).sum ≤ cs.length
  | [] => Nat.le_refl _
  | c :: cs => by
    have := sg_len cs
    simp only [List.map_cons, List.sum_cons, List.length_cons]
    have e : (sg1 c).length = 1 := rfl
    omega
abbrev abc : Str := "abcdefghijklmnopqrstuvwxyz"
theorem abc_at {d : Int} (h0 : 0 ≤ d) (h1 : d < 26) : ∃ c, atI abc.cps.toList d = some c ∧ 97 ≤ c ∧ c ≤ 122 := by
  obtain ⟨n, rfl⟩ : ∃ n : Nat, d = n := ⟨d.toNat, by omega⟩
  have hn : n < 26 := by omega
  have : ∀ m, m < 26 → ∃ c, abc.cps.toList[m]? = some c ∧ 97 ≤ c ∧ c ≤ 122 := by decide +kernel
  obtain ⟨c, e, r⟩ := this n hn
  exact ⟨c, atI_nat e, r⟩
theorem sg1_inj {c d : Nat} (h : sg1 c = sg1 d) : c = d := by
  have : tl (sg1 c) = tl (sg1 d) := by rw [h]
  exact List.head_eq_of_cons_eq this
theorem nodup_in {α : Type} [DecidableEq α] : ∀ {l m : List α}, l.Nodup → (∀ x ∈ l, x ∈ m) → l.length ≤ m.length
  | [], _, _, _ => Nat.zero_le _
  | x :: l, m, hn, hs => by
    have hx := hs x List.mem_cons_self
    have ih := nodup_in (l := l) (m := m.erase x) (List.nodup_cons.mp hn).2 (fun y hy => by
      have hne : y ≠ x := fun e => (List.nodup_cons.mp hn).1 (e ▸ hy)
      exact (List.mem_erase_of_ne hne).mpr (hs y (List.mem_cons_of_mem _ hy)))
    rw [List.length_erase_of_mem hx] at ih
    have : 0 < m.length := List.length_pos_of_mem hx
    simp only [List.length_cons]
    omega
def lets : List Nat := abc.cps.toList
theorem lets_ok : lets.Nodup ∧ lets.length = 26 ∧ (∀ c ∈ lets, 97 ≤ c ∧ c ≤ 122) ∧ abc.cps.size = 26 := by decide +kernel
/-- of so few names some letter is none -/
theorem some_free {us : List Str} (h : us.length < 26) : (lets.filter fun c => !decide (sg1 c ∈ us)) ≠ [] := by
  intro e
  have all : ∀ c ∈ lets, sg1 c ∈ us := fun c hc => by
    apply Decidable.byContradiction
    intro n
    have : c ∈ lets.filter fun c => !decide (sg1 c ∈ us) := List.mem_filter.mpr ⟨hc, by simp [n]⟩
    rw [e] at this
    exact List.not_mem_nil this
  have nd : (lets.map sg1).Nodup := List.Pairwise.map _ (fun a b hab => fun z => hab (sg1_inj z)) lets_ok.1
  have := nodup_in nd (m := us) (fun x hx => by
    obtain ⟨c, hc, rfl⟩ := List.mem_map.mp hx
    exact all c hc)
  rw [List.length_map, lets_ok.2.1] at this
  omega
def spName : Sp := fun vs H Q _ => ∃ (p U : Addr) (us : List Str), vs = [.ref p, .ref U] ∧ PotAt H p ∧ U ≠ p ∧ H U = some (.lst (us.map V.str)) ∧ us.length < 26 ∧ ∀ z H', Nm z → z ∉ us → SameX p H H' → PotAt H' p → Q (.str z) H'
def spNames : Sp := fun vs H Q _ => ∃ (p : Addr) (m : Nat), vs = [.ref p, .int m] ∧ PotAt H p ∧ m ≤ 26 ∧ ∀ D (us : List Str) H', H D = none → H' D = some (.lst (us.map V.str)) → us.length = m → us.Nodup → (∀ z ∈ us, Nm z) → SameX p H H' → PotAt H' p → Q (.ref D) H'
end WS
set_option Elab.async false
set_option linter.all false
set_option maxRecDepth 100000
set_option maxHeartbeats 4000000
namespace WS
open PySem PySem.Spec PyProof.Rows L2
/-! moments -/
abbrev Seat := Str × (Int × Int)
def seatD (s : Seat) : PyData := .tuple [.str s.1, pdP s.2]
def momD (W : Int) (ss : List Seat) : PyData := .tuple [.int W, .tuple (ss.map seatD)]
theorem pdP_imm (p : Int × Int) : imm (pdP p) = true := rfl
theorem parts_imm (ps : List (Int × Int)) : immAll (ps.map pdP) = true := immAll_map pdP_imm ps
theorem seats_imm (ss : List Seat) : immAll (ss.map seatD) = true := immAll_map (fun _ => rfl) ss
theorem mom_imm (W : Int) (ss : List Seat) : imm (momD W ss) = true := by
  show (true && (immAll (ss.map seatD) && true)) = true
  rw [seats_imm]
  rfl
theorem mom_get {K : PySem.W.Frag} {H : Hp} {v : V} {W : Int} {ss : List Seat} (h : Dp K H v (momD W ss)) : ∃ t S vs, v = .ref t ∧ SqT K H t [.int W, .ref S] ∧ SqT K H S vs ∧ DpAll K H vs (ss.map seatD) := by
  obtain ⟨t, x, y, rfl, h0, hx, hy⟩ := dp2 h
  obtain ⟨S, vs, rfl, h1, h2⟩ := dp_tup hy
  rw [dp_int hx] at h0
  exact ⟨t, S, vs, rfl, h0, h1, h2⟩
theorem mom_mk {K : PySem.W.Frag} {H : Hp} {t S : Addr} {vs : List V} {W : Int} {ss : List Seat} (h0 : SqT K H t [.int W, .ref S]) (h1 : SqT K H S vs) (h2 : DpAll K H vs (ss.map seatD)) : Dp K H (.ref t) (momD W ss) := .tup h0 (.cons (.int W) (.cons (.tup h1 h2) .nil))
theorem seat_mk {K : PySem.W.Frag} {H : Hp} {u : Addr} {x : V} {s : Seat} (h0 : SqT K H u [.str s.1, x]) (h1 : Dp K H x (pdP s.2)) : Dp K H (.ref u) (seatD s) := .tup h0 (.cons (.str _) (.cons h1 .nil))
theorem seat_at {K : PySem.W.Frag} {H : Hp} {vs : List V} {ss : List Seat} {i : Nat} {v : V} (h : DpAll K H vs (ss.map seatD)) (e : vs[i]? = some v) : ∃ s u x, ss[i]? = some s ∧ v = .ref u ∧ SqT K H u [.str s.1, x] ∧ Dp K H x (pdP s.2) := by
  obtain ⟨d, ed, hd⟩ := dpall_at h e
  rw [List.getElem?_map] at ed
  cases z : ss[i]? with
  | none => rw [z] at ed; cases ed
  | some s =>
    rw [z] at ed
    obtain rfl := Option.some.inj ed
    obtain ⟨u, x, y, rfl, h0, hx, hy⟩ := dp2 hd
    rw [dp_str hx] at h0
    exact ⟨s, u, y, rfl, rfl, h0, hy⟩
def gs (ss : List Seat) (i : Nat) : Seat := ss.getD i ("", (0, 1))
theorem gs_at {ss : List Seat} {i : Nat} {s : Seat} (h : ss[i]? = some s) : gs ss i = s := by
  unfold gs
  rw [List.getD_eq_getElem?_getD, h]
  rfl
theorem at_gs {ss : List Seat} {i : Nat} (h : i < ss.length) : ss[i]? = some (gs ss i) := by
  rw [gs_at (List.getElem?_eq_getElem h)]
  exact List.getElem?_eq_getElem h
def names (ss : List Seat) : List Str := (ss.map Prod.fst).filter fun z => !decide (z = "")
def frees (ss : List Seat) : List Nat := (List.range ss.length).filter fun i => decide ((gs ss i).1 = "")
def kittyL (ss : List Seat) : List (Int × Int) := (ss.filter fun s : Seat => decide (s.1 = ("" : Str))).map Prod.snd
def ab (p : Int × Int) : Int × Int := (if p.1 < 0 then -p.1 else p.1, p.2)
def near (ss : List Seat) (f i : Nat) : Nat := if f = ss.length ∨ ltp (ab (gs ss i).2) (ab (gs ss f).2) = true then i else f
def room (ss : List Seat) : Nat := (frees ss).foldl (near ss) ss.length
def put (ss : List Seat) (i : Nat) (z : Str) : List Seat := ss.take i ++ [(z, (gs ss i).2)] ++ ss.drop (i + 1)
def idx (ss : List Seat) (z : Str) : Nat := (ss.map Prod.fst).idxOf z
def Okm (n : Nat) (ss : List Seat) : Prop := ss.length ≤ 100 ∧ ∀ s ∈ ss, Okp n s.2
theorem names_mem {ss : List Seat} {z : Str} : z ∈ names ss ↔ z ≠ "" ∧ ∃ s ∈ ss, s.1 = z := by
  unfold names
  rw [List.mem_filter, List.mem_map]
  simp only [Bool.not_eq_true', decide_eq_false_iff_not]
  exact ⟨fun ⟨a, b⟩ => ⟨b, a⟩, fun ⟨a, b⟩ => ⟨b, a⟩⟩
theorem idx_lt {ss : List Seat} {z : Str} (h : z ∈ names ss) : idx ss z < ss.length := by
  obtain ⟨_, s, hs, rfl⟩ := names_mem.mp h
  have := List.idxOf_lt_length_of_mem (List.mem_map_of_mem (f := Prod.fst) hs)
  rw [List.length_map] at this
  exact this
theorem frees_lt {ss : List Seat} {i : Nat} (h : i ∈ frees ss) : i < ss.length ∧ (gs ss i).1 = "" := by
  obtain ⟨h1, h2⟩ := List.mem_filter.mp h
  exact ⟨List.mem_range.mp h1, of_decide_eq_true h2⟩
theorem gs_mem {ss : List Seat} {i : Nat} (h : i < ss.length) : gs ss i ∈ ss := List.mem_of_getElem? (at_gs h)
def spOwing (K : PySem.W.Frag) : Sp := fun vs H Q _ => ∃ v W ss, vs = [v] ∧ Dp K H v (momD W ss) ∧ ss.length ≤ 100 ∧ ∀ v' H', Same H H' → Dp K H' v' (.tuple ((ss.map Prod.snd).map pdP)) → Q v' H'
def spPersons (K : PySem.W.Frag) : Sp := fun vs H Q _ => ∃ v W ss, vs = [v] ∧ Dp K H v (momD W ss) ∧ ss.length ≤ 100 ∧ ∀ D H', H D = none → Same H H' → H' D = some (.lst ((names ss).map V.str)) → Q (.ref D) H'
def spEmpties (K : PySem.W.Frag) : Sp := fun vs H Q _ => ∃ v W ss, vs = [v] ∧ Dp K H v (momD W ss) ∧ ss.length ≤ 100 ∧ ∀ D H', H D = none → Same H H' → H' D = some (.lst ((frees ss).map fun j : Nat => V.int j)) → Q (.ref D) H'
def spKitty (K : PySem.W.Frag) (n : Nat) : Sp := fun vs H Q _ => ∃ v W ss, vs = [v] ∧ Dp K H v (momD W ss) ∧ Okm n ss ∧ (ss.length + 1) * (n + 1) ≤ 4400 ∧ NewT K H ((kittyL ss).foldl pl (0, 1)).1 ((kittyL ss).foldl pl (0, 1)).2 Q
def spSits (K : PySem.W.Frag) : Sp := fun vs H Q _ => ∃ v W ss z, vs = [v, .str z] ∧ Dp K H v (momD W ss) ∧ ss.length ≤ 100 ∧ ∀ H', Same H H' → Q (.bl (decide (z ∈ names ss))) H'
def spSeatOf (K : PySem.W.Frag) : Sp := fun vs H Q _ => ∃ v W ss z, vs = [v, .str z] ∧ Dp K H v (momD W ss) ∧ ss.length ≤ 100 ∧ z ∈ names ss ∧ ∀ H', Same H H' → Q (.int (idx ss z : Nat)) H'
def spOwes (K : PySem.W.Frag) : Sp := fun vs H Q _ => ∃ v W ss z, vs = [v, .str z] ∧ Dp K H v (momD W ss) ∧ ss.length ≤ 100 ∧ z ∈ names ss ∧ ∀ v' H', Same H H' → Dp K H' v' (pdP (gs ss (idx ss z)).2) → Q v' H'
def spFrom (K : PySem.W.Frag) : Sp := fun vs H Q _ => ∃ v p, vs = [v] ∧ TupI K H v p.1 p.2 ∧ NewT K H (ab p).1 (ab p).2 Q
def spSeatFor (K : PySem.W.Frag) : Sp := fun vs H Q _ => ∃ v W ss, vs = [v] ∧ Dp K H v (momD W ss) ∧ Okm 4400 ss ∧ ∀ H', Same H H' → Q (.int (room ss : Nat)) H'
def spSeated (K : PySem.W.Frag) : Sp := fun vs H Q _ => ∃ (v : V) (W : Int) (ss : List Seat) (i : Nat) (z : Str), vs = [v, .int i, .str z] ∧ Dp K H v (momD W ss) ∧ ss.length ≤ 100 ∧ i ≤ ss.length ∧ ∀ v' H', Same H H' → Dp K H' v' (momD W (put ss i z)) → Q v' H'
def spIsName : Sp := fun vs H Q _ => ∃ z, vs = [.str z] ∧ Nm z ∧ ∀ H', Same H H' → Q (.bl true) H'
def spWith (K : PySem.W.Frag) : Sp := fun vs H Q _ => ∃ v W ss z, vs = [v, .str z] ∧ Dp K H v (momD W ss) ∧ Okm 4400 ss ∧ Nm z ∧ z ∉ names ss ∧ ∀ v' H', Same H H' → Dp K H' v' (momD W (put ss (room ss) z)) → Q v' H'
def spWithout (K : PySem.W.Frag) : Sp := fun vs H Q _ => ∃ v W ss z, vs = [v, .str z] ∧ Dp K H v (momD W ss) ∧ ss.length ≤ 100 ∧ z ∈ names ss ∧ ∀ v' H', Same H H' → Dp K H' v' (momD W (put ss (idx ss z) "")) → Q v' H'
theorem eqv_strs (a b : Str) : decide (V.str a = V.str b) = decide (a = b) := decide_eq_decide.mpr ⟨V.str.inj, congrArg V.str⟩
theorem room_le (ss : List Seat) : room ss ≤ ss.length := by
  unfold room
  have : ∀ (l : List Nat) (f : Nat), f ≤ ss.length → (∀ i ∈ l, i ≤ ss.length) → l.foldl (near ss) f ≤ ss.length := by
    intro l
    induction l with
    | nil => exact fun f h _ => h
    | cons i l ih =>
      intro f h hl
      refine ih _ ?_ (fun j hj => hl j (List.mem_cons_of_mem _ hj))
      unfold near
      split
      · exact hl i List.mem_cons_self
      · exact h
  exact this _ _ (Nat.le_refl _) (fun i hi => Nat.le_of_lt (frees_lt hi).1)
def spTotalL (K : PySem.W.Frag) (n : Nat) : Sp := fun vs H Q _ => ∃ (l : Addr) (u : V) (a b : Int) (rs : List V) (ps : List (Int × Int)), vs = [.ref l, u] ∧ SqL K H l rs ∧ TupI K H u a b ∧ Okp n (a, b) ∧ Parts K H rs ps ∧ (∀ q ∈ ps, Okp n q) ∧ (ps.length + 1) * (n + 1) ≤ 4400 ∧ ∀ v H', Same H H' → TupI K H' v (ps.foldl pl (a, b)).1 (ps.foldl pl (a, b)).2 → Q v H'
end WS
set_option Elab.async false
set_option linter.all false
set_option maxRecDepth 100000
set_option maxHeartbeats 4000000
namespace WS
open PySem PySem.Spec PyProof.Rows L2
/-! t + u, either perhaps empty -/
def rCatW (K : PySem.W.Frag) : R2 := fun x y H Q => ∃ a b xs ys, x = .ref a ∧ y = .ref b ∧ SqT K H a xs ∧ SqT K H b ys ∧ xs.length + ys.length ≤ sizeLine ∧ ∀ p H', Same H H' → SqT K H' p (xs ++ ys) → Q (.ref p) H'
theorem op_catW {X : Cx} : OpR X (binaryOp .Add) (rCatW X.K) := by
  intro pins s σ H x y v u Q I rx ry h
  obtain ⟨a, b, xs, ys, rfl, rfl, ha, hb, hz, q⟩ := h
  by_cases hx : xs = []
  · subst hx
    cases rx
    cases ry
    obtain ⟨is1, r1, p1, _⟩ := I.tuple ha
    obtain ⟨is2, r2, p2, _⟩ := I.tuple hb
    have e1 : is1 = [] := r1.nil_iff.mpr rfl
    subst e1
    obtain ⟨⟨c1, d1, da1, sl1⟩, g1, k1, n1, z1⟩ := p1
    obtain ⟨⟨c2, d2, da2, sl2⟩, g2, k2, n2, z2⟩ := p2
    simp only at k1 z1 k2 z2
    subst k1 z1 k2 z2
    exact concat_meets ⟨_, g1, rfl⟩ ⟨_, g2, rfl⟩ noFill_tuple_add seq_tuple_add PySem.F.slot_tuple_add PySem.F.entry_tuple_add (PySem.F.args_tuple_add_2 _ _) (tuple_addW0 a b _ _ n1 n2 d1 d2 sl1 sl2 rfl) ⟨g1, g2, .ref b, H, I, rfl, q b H (Same.refl _) hb⟩
  · refine op_catT _ _ _ _ _ _ _ _ _ I rx ry ⟨a, b, xs, ys, rfl, rfl, ha, hb, hx, hz, fun e => ?_, fun e p np => ?_⟩
    · subst e
      refine q a H (Same.refl _) ?_
      rw [List.append_nil]
      exact ha
    · exact q p _ (same_new np) (.inl (.inl upd_same))
end WS
set_option Elab.async false
set_option linter.all false
set_option maxRecDepth 100000
set_option maxHeartbeats 4000000
namespace WS
open PySem PySem.Spec PyProof.Rows L2
def spTurnedQ (K : PySem.W.Frag) : Sp := fun vs H Q _ => ∃ (p L : Addr) (xs : List V), vs = [.ref p, .ref L] ∧ PotAt H p ∧ L ≠ p ∧ SqL K H L xs ∧ xs.length ≤ 100 ∧ ∀ D ys H', H D = none → H' D = some (.lst ys) → ys.Perm xs → SameX p H H' → PotAt H' p → Q (.ref D) H'
def spOwed (n : Nat) : Sp := fun vs H Q _ => ∃ (p : Addr) (m : Nat), vs = [.ref p, .int m] ∧ PotAt H p ∧ m ≤ n ∧ ∀ D (ns : List Int) H', H D = none → H' D = some (.lst (ns.map V.int)) → ns.length = m → (∀ x ∈ ns, Bt 110 x) → SameX p H H' → PotAt H' p → Q (.ref D) H'
theorem ins_perm {α : Type} (xs : List α) (i : Nat) (y : α) : (xs.take i ++ [y] ++ xs.drop i).Perm (xs ++ [y]) := by
  have h1 : (xs.take i ++ [y] ++ xs.drop i).Perm ([y] ++ (xs.take i ++ xs.drop i)) := by
    rw [List.append_assoc, List.singleton_append]
    exact List.perm_middle
  rw [List.take_append_drop] at h1
  exact h1.trans List.perm_append_comm
theorem samex_none {p D : Addr} {H H' : Hp} (s : SameX p H H') (n : D ≠ p) (h : H' D = none) : H D = none := by
  cases z : H D with
  | none => rfl
  | some o =>
    rw [s D o n z] at h
    cases h
theorem sum_le_len {n : Nat} : ∀ ns : List Int, (∀ x ∈ ns, Bt n x) → ns.sum.natAbs ≤ ns.length * 2 ^ n
  | [], _ => by simp
  | x :: ns, h => by
    have i := sum_le_len ns (fun y hy => h y (List.mem_cons_of_mem _ hy))
    have hx : x.natAbs < 2 ^ n := h x List.mem_cons_self
    have := Int.natAbs_add_le x ns.sum
    rw [List.sum_cons, List.length_cons, Nat.add_mul]
    omega
theorem sum_bt {n : Nat} {ns : List Int} (h : ∀ x ∈ ns, Bt n x) (hl : ns.length ≤ 31) : Bt (n + 5) ns.sum := by
  have i := sum_le_len ns h
  unfold Bt
  have : ns.length * 2 ^ n ≤ 31 * 2 ^ n := Nat.mul_le_mul_right _ hl
  have p : 0 < 2 ^ n := Nat.pow_pos (by decide)
  have e : (2 : Nat) ^ (n + 5) = 32 * 2 ^ n := by rw [Nat.pow_add]; omega
  omega
def spWeightT : Sp := fun vs H Q _ => ∃ (L : Addr) (ns : List Int), vs = [.ref L] ∧ H L = some (.lst (ns.map V.int)) ∧ 1 ≤ ns.length ∧ ns.length ≤ 20 ∧ (∀ x ∈ ns, Bt 110 x) ∧ ∀ (W : Int) H', 1 ≤ W → Bt 130 W → Same H H' → Q (.int W) H'
def zipS (zs : List Str) (ts : List Int) (m : Nat) : List Seat := (zs.zip ts).map fun x => (x.1, lo x.2 m)
/-- a list of pairs of a text and a number -/
def TopsAt (K : PySem.W.Frag) (H : Hp) (vs : List V) (xs : List (Str × Int)) : Prop := vs.length = xs.length ∧ ∀ (i : Nat) v, vs[i]? = some v → ∃ x u, xs[i]? = some x ∧ v = .ref u ∧ SqT K H u [.str x.1, .int x.2]
theorem TopsAt.k {K : PySem.W.Frag} {H H' : Hp} {vs : List V} {xs : List (Str × Int)} (h : TopsAt K H vs xs) (s : KT H H') : TopsAt K H' vs xs := ⟨h.1, fun i v e => by
  obtain ⟨x, u, e1, e2, h1⟩ := h.2 i v e
  exact ⟨x, u, e1, e2, s.sqt h1⟩⟩
def topS1 (m : Nat) (x : Str × Int) : Seat := (x.1, lo x.2 m)
def spPair27 (K : PySem.W.Frag) : Sp := fun vs H Q _ => ∃ (W : Int) (L : Addr) (us : List V) (xs : List (Str × Int)) (m : Nat), vs = [.int W, .ref L, .int m] ∧ SqL K H L us ∧ TopsAt K H us xs ∧ 1 ≤ m ∧ m ≤ 100 ∧ xs.length ≤ 100 ∧ ∀ v' H', Same H H' → Dp K H' v' (momD W (xs.map (topS1 m))) → Q v' H'
def farD (ss : List Seat) (i : Nat) : PyData := .tuple [.int (i : Nat), pdP (ab (gs ss i).2)]
theorem fars_imm (ss : List Seat) (l : List Nat) : immAll (l.map (farD ss)) = true := immAll_map (fun _ => rfl) l
end WS
set_option Elab.async false
set_option linter.all false
set_option maxRecDepth 100000
set_option maxHeartbeats 4000000
namespace WS
open PySem PySem.Spec PyProof.Rows L2
theorem zip_low {N b : Nat} (h : b < N) : b ≠ N + 4 ∧ b ≠ N + 3 ∧ b ≠ N ∧ b ≠ N + 1 := by omega
theorem zip_mid (N : Nat) : N + 2 ≠ N + 4 ∧ N + 2 ≠ N + 3 ∧ N + 2 ≠ N ∧ N + 2 ≠ N + 1 := by omega
theorem isb_keep {b : Bool} {h h' : Heap} {a : Addr} {its : Array Value} (x : IsB b h a its) (k : ∀ o, h.get? a = some o → h'.get? a = some o) : IsB b h' a its := by
  cases b <;> (obtain ⟨o, e, r⟩ := x; exact ⟨o, k o e, r⟩)
section
variable {prog : Program} {w : World} {A : Around} {E : Value → Shared → Prop} {s : Shared} {z TI TO i1 i2 : Addr} {fp1 fp2 : List Addr} {n1 n2 : Nat} {P1 P2 : Nat → Value → Prop} {St1 St2 : Nat → Heap → Prop}
theorem zl_list {Q : Value → Shared → Prop} (Z : ZipSep2 z TI TO i1 i2 fp1 fp2) (D1 : Draws prog w A.in1.in1.in1 i1 fp1 n1 P1 St1) (D2 : Draws prog w A.in1.in1.in1 i2 fp2 n2 P2 St2) (f1 : ∀ b ∈ fp1, b < s.heap.objs.size) (f2 : ∀ b ∈ fp2, b < s.heap.objs.size)
    (hn : min n1 n2 ≤ sizeLine) (d1 : IsZip s.heap z TI TO .none) (d2 : IsTupOf2 s.heap TI (.ref i1) (.ref i2)) (d3 : ∃ a b, IsTupOf2 s.heap TO a b) (st1 : St1 0 s.heap) (st2 : St2 0 s.heap)
    (hQ : ∀ h' tk acc c as, (∀ b o, b ≠ z → b ≠ TO → b ≠ i1 → b ≠ i2 → s.heap.get? b = some o → h'.get? b = some o) → h'.get? s.heap.objs.size = some { cls := .type "list", dict := none, data := .seq acc c, slots := #[] } → as.length = min n1 n2 → ZlG P1 P2 s.heap.objs.size h' as →
      acc.toList = as.map Value.ref → Q (.ref s.heap.objs.size) { s with heap := h', toks := tk }) :
    wpAny (model prog w) A (call (.type "list") [.ref z]) Q E s := by
  have nS : ∀ {b o}, s.heap.get? b = some o → b ≠ s.heap.objs.size := fun e => Nat.ne_of_lt (Heap.lt_size e)
  refine callType_codes (Q₁ := fun obj s₁ => obj = .ref s.heap.objs.size ∧ s₁ = { s with heap := s.heap.push { cls := .type "list", data := .seq #[] } }) PySem.F.called_list (PySem.F.typeCall_list_1 _) PySem.F.entry_list_init
    (code_list_new _ ⟨rfl, rfl⟩) fun obj s₁ h₁ => ?_
  obtain ⟨rfl, rfl⟩ := h₁
  have hS : (s.heap.push { cls := .type "list", data := .seq #[] }).get? s.heap.objs.size = some { cls := .type "list", data := .seq #[] } := Heap.get?_push_size _ rfl
  refine ⟨⟨_, hS, rfl⟩, PySem.F.args_list_init_2 _ _, ?_⟩
  show wpAny _ A.in1.in1 (do let old ← Builtin.List.listItems (.ref s.heap.objs.size); Builtin.List.listUpdate (.ref s.heap.objs.size) (fun _ => #[]); letGo old.toList.reverse; Builtin.List.listExtendWith (.ref s.heap.objs.size) (.ref z) .none) _ _ _
  refine wpAny_bind ?_
  unfold Builtin.List.listItems
  refine wpAny_bind (wpAny_seqItems hS rfl (wpAny_pure ?_))
  show wpAny _ A.in1.in1 (updateSeq s.heap.objs.size (fun _ => #[]) >>= fun _ => letGo (#[] : Array Value).toList.reverse >>= fun _ => Builtin.List.listExtendWith (.ref s.heap.objs.size) (.ref z) .none) _ _ _
  refine wpAny_bind (wpAny_updateSeq hS rfl ?_)
  have hS₂ := Heap.get?_update_self (Obj.mapSeq (fun _ => (#[] : Array Value))) hS rfl
  have oth : ∀ b o, s.heap.get? b = some o → ((s.heap.push { cls := .type "list", data := .seq #[] }).update s.heap.objs.size (Obj.mapSeq (fun _ => (#[] : Array Value)))).get? b = some o :=
    fun b o e => (Heap.get?_update_other _ _ (Ne.symm (nS e))).trans (Heap.get?_push_of_some _ e)
  refine wpAny_bind (wpAny_letGo ?_)
  obtain ⟨ta, tb, d3⟩ := d3
  obtain ⟨o1, l1⟩ := D1.live _ _ st1
  obtain ⟨o2, l2⟩ := D2.live _ _ st2
  refine zl_extend (A := A.in1) Z D1 D2 (fun e => Nat.lt_irrefl _ (f1 _ e)) (fun e => Nat.lt_irrefl _ (f2 _ e)) (Heap.lt_size d1) (Heap.lt_size d2) (Heap.lt_size d3) (Heap.lt_size l1) (Heap.lt_size l2) hn .none _ (oth _ _ d1) (oth _ _ d2) ⟨ta, tb, oth _ _ d3⟩
    (D1.frame _ _ _ st1 fun b _ o e => oth b o e) (D2.frame _ _ _ st2 fun b _ o e => oth b o e) hS₂ fun h' tk acc c as hk hS' hl hG hacc => ?_
  exact ⟨rfl, hQ h' tk acc c as (fun b o e1 e2 e3 e4 e => hk b o (nS e) e1 e2 e3 e4 (oth b o e)) hS' hl hG hacc⟩
theorem zl_collect {R : List Value → Shared → Prop} (Z : ZipSep2 z TI TO i1 i2 fp1 fp2) (D1 : Draws prog w A.in1.in1 i1 fp1 n1 P1 St1) (D2 : Draws prog w A.in1.in1 i2 fp2 n2 P2 St2) (f1 : ∀ b ∈ fp1, b < s.heap.objs.size) (f2 : ∀ b ∈ fp2, b < s.heap.objs.size)
    (hn : min n1 n2 ≤ sizeLine) (d1 : IsZip s.heap z TI TO .none) (d2 : IsTupOf2 s.heap TI (.ref i1) (.ref i2)) (d3 : ∃ a b, IsTupOf2 s.heap TO a b) (st1 : St1 0 s.heap) (st2 : St2 0 s.heap)
    (hQ : ∀ (h' : Heap) (tk : Nat) (as : List Addr), (∀ b o, b ≠ z → b ≠ TO → b ≠ i1 → b ≠ i2 → s.heap.get? b = some o → h'.get? b = some o) → as.length = min n1 n2 → ZlG P1 P2 s.heap.objs.size h' as →
      R (as.map Value.ref) { s with heap := h', toks := tk }) :
    wpAny (model prog w) A (collect (.ref z)) R E s := by
  have nS : ∀ {b o}, s.heap.get? b = some o → b ≠ s.heap.objs.size := fun e => Nat.ne_of_lt (Heap.lt_size e)
  obtain ⟨ta, tb, d3⟩ := d3
  obtain ⟨o1, l1⟩ := D1.live _ _ st1
  obtain ⟨o2, l2⟩ := D2.live _ _ st2
  unfold collect
  refine wpAny_bind (wpAny_runValue (codeAny_builtin PySem.F.entry_proto_collect ?_))
  rw [Around.under_plainId PySem.F.plain_proto_collect _]
  show wpAny _ A.in1 (newList [] >>= fun l => again (.builtin "list.__iadd__" ⟨[l, .ref z], []⟩)) _ _ s
  refine wpAny_bind (wpAny_newObj_type ?_)
  refine wpAny_pure ⟨plainId_quiet PySem.F.plain_list_iadd _, codeAny_builtin PySem.F.entry_list_iadd ?_⟩
  rw [Around.under_plainId PySem.F.plain_list_iadd _]
  have hS₁ : (s.heap.push { cls := .type "list", data := .seq ([] : List Value).toArray }).get? s.heap.objs.size = some { cls := .type "list", data := .seq #[] } := Heap.get?_push_size _ rfl
  show wpAny _ A.in1 (Builtin.List.listExtendWith (.ref s.heap.objs.size) (.ref z) (.ref s.heap.objs.size)) _ _ _
  have key := zl_extend (prog := prog) (w := w) (A := A) (s := { s with heap := s.heap.push { cls := .type "list", data := .seq ([] : List Value).toArray } }) (S := s.heap.objs.size)
    (R := fun (q : Result) (s' : Shared) => ∃ (h' : Heap) (tk : Nat) (acc' : Array Value) (c' : Nat) (as : List Addr), q = .ok (.ret (.ref s.heap.objs.size)) ∧ s' = { s with heap := h', toks := tk } ∧
      (∀ b o, b ≠ z → b ≠ TO → b ≠ i1 → b ≠ i2 → s.heap.get? b = some o → h'.get? b = some o) ∧ h'.get? s.heap.objs.size = some { cls := .type "list", dict := none, data := .seq acc' c', slots := #[] } ∧ as.length = min n1 n2 ∧ ZlG P1 P2 s.heap.objs.size h' as ∧ acc'.toList = as.map Value.ref)
    Z D1 D2 (fun e => Nat.lt_irrefl _ (f1 _ e)) (fun e => Nat.lt_irrefl _ (f2 _ e)) (Heap.lt_size d1) (Heap.lt_size d2) (Heap.lt_size d3) (Heap.lt_size l1) (Heap.lt_size l2) hn (.ref s.heap.objs.size) 0 (Heap.get?_push_of_some _ d1) (Heap.get?_push_of_some _ d2) ⟨ta, tb, Heap.get?_push_of_some _ d3⟩
    (D1.frame _ _ _ st1 fun b _ o e => Heap.get?_push_of_some _ e) (D2.frame _ _ _ st2 fun b _ o e => Heap.get?_push_of_some _ e) hS₁
    (fun h' tk acc' c' as hk hS' hl hG hacc => ⟨h', tk, acc', c', as, rfl, rfl, fun b o e1 e2 e3 e4 e => hk b o (nS e) e1 e2 e3 e4 (Heap.get?_push_of_some _ e), hS', hl, hG, hacc⟩)
  refine wpAny_mono key (fun fin s' x => ?_) fun e s' x => ?_
  · cases fin with
    | done f =>
      obtain ⟨h', tk, acc', c', as, e, rfl, hk, hS', hl, hG, hacc⟩ := x
      cases e
      show wpAny _ A (load s.heap.objs.size >>= _) _ _ _
      refine wpAny_bind (wpAny_load hS' ?_)
      refine wpAny_pure ?_
      show R acc'.toList _
      rw [hacc]
      exact hQ h' tk as hk hl hG
    | again c₁ =>
      refine ⟨x.1, codeAny_mono x.2 fun q s₂ y => ?_⟩
      obtain ⟨h', tk, acc', c', as, rfl, rfl, hk, hS', hl, hG, hacc⟩ := y
      show wpAny _ A (load s.heap.objs.size >>= _) _ _ _
      refine wpAny_bind (wpAny_load hS' ?_)
      refine wpAny_pure ?_
      show R acc'.toList _
      rw [hacc]
      exact hQ h' tk as hk hl hG
  · obtain ⟨_, _, _, _, _, e', _⟩ := x
    cases e'
theorem zl_new {Q₁ : Value → Shared → Prop} (Z : ZipSep2 z TI TO i1 i2 fp1 fp2) (D1 : Draws prog w A.in1.in1.in1 i1 fp1 n1 P1 St1) (D2 : Draws prog w A.in1.in1.in1 i2 fp2 n2 P2 St2) (f1 : ∀ b ∈ fp1, b < s.heap.objs.size) (f2 : ∀ b ∈ fp2, b < s.heap.objs.size)
    (hn : min n1 n2 ≤ sizeLine) (d1 : IsZip s.heap z TI TO .none) (d2 : IsTupOf2 s.heap TI (.ref i1) (.ref i2)) (d3 : ∃ a b, IsTupOf2 s.heap TO a b) (st1 : St1 0 s.heap) (st2 : St2 0 s.heap)
    (h : ∀ (h' : Heap) (tk : Nat) (as : List Addr), (∀ b o, b ≠ z → b ≠ TO → b ≠ i1 → b ≠ i2 → s.heap.get? b = some o → h'.get? b = some o) → as.length = min n1 n2 → ZlG P1 P2 s.heap.objs.size h' as →
      Q₁ (.ref h'.objs.size) { s with heap := h'.push { cls := .type "tuple", data := .seq (as.map Value.ref).toArray }, toks := tk }) :
    codeAny (model prog w) A (.call (.builtin "tuple.__new__") ⟨[.type "tuple", .ref z], []⟩) (wants Q₁ E) s := by
  refine codeAny_of_tree ?_
  show wpAny _ A.in1 (do checkBuiltinCall "tuple.__new__" ⟨[.type "tuple", .ref z], []⟩; again (.builtin "tuple.__new__" ⟨[.type "tuple", .ref z], []⟩)) _ _ s
  refine wpAny_bind (wpAny_of_eq (PySem.F.newCall_tuple_1 _) (wpAny_pure ⟨plainId_quiet PySem.F.plain_tuple_new _, codeAny_builtin PySem.F.entry_tuple_new ?_⟩))
  rw [Around.under_plainId PySem.F.plain_tuple_new _]
  have hsub := sub_tuple_self
  have hinit := init_tuple_lookup
  have hmh := madeHere_tuple
  have hTI : s.TypeIs (.ref z) "zip" := ⟨_, d1, rfl⟩
  wp_walk using wpAny_typeOf hTI, zl_collect (A := A.in1) Z D1 D2 f1 f2 hn d1 d2 d3 st1 st2
  intro h' tk as hk hl hG
  show wpAny _ _ (Builtin.Tuple.tupleExact (as.map Value.ref).toArray >>= fun v => ret v) _ _ _
  unfold Builtin.Tuple.tupleExact
  refine wpAny_bind (wpAny_newObj_type ?_ (by show (as.map Value.ref).toArray.size ≤ sizeLine; simp only [List.size_toArray, List.length_map]; rw [hl]; exact hn))
  refine wpAny_pure ?_
  exact h h' tk as hk hl hG
theorem zl_tuple {Q : Value → Shared → Prop} (Z : ZipSep2 z TI TO i1 i2 fp1 fp2) (D1 : Draws prog w A.in1.in1.in1.in1 i1 fp1 n1 P1 St1) (D2 : Draws prog w A.in1.in1.in1.in1 i2 fp2 n2 P2 St2) (f1 : ∀ b ∈ fp1, b < s.heap.objs.size) (f2 : ∀ b ∈ fp2, b < s.heap.objs.size)
    (hn : min n1 n2 ≤ sizeLine) (d1 : IsZip s.heap z TI TO .none) (d2 : IsTupOf2 s.heap TI (.ref i1) (.ref i2)) (d3 : ∃ a b, IsTupOf2 s.heap TO a b) (st1 : St1 0 s.heap) (st2 : St2 0 s.heap)
    (hQ : ∀ (h' : Heap) (tk : Nat) (as : List Addr), (∀ b o, b ≠ z → b ≠ TO → b ≠ i1 → b ≠ i2 → s.heap.get? b = some o → h'.get? b = some o) → as.length = min n1 n2 → ZlG P1 P2 s.heap.objs.size h' as →
      Q (.ref h'.objs.size) { s with heap := h'.push { cls := .type "tuple", data := .seq (as.map Value.ref).toArray }, toks := tk }) :
    wpAny (model prog w) A (call (.type "tuple") [.ref z]) Q E s := by
  refine callType_codes (Q₁ := fun obj s₁ => s₁.TypeIs obj "tuple" ∧ Q obj s₁) PySem.F.called_tuple (PySem.F.typeCall_tuple_1 _) PySem.F.entry_object_init
    (zl_new (A := A.in1) Z D1 D2 f1 f2 hn d1 d2 d3 st1 st2 fun h' tk as hk hl hG => ⟨⟨_, Heap.get?_push_size _ rfl, rfl⟩, hQ h' tk as hk hl hG⟩) fun obj s₁ h₁ => ?_
  exact ⟨h₁.1, PySem.F.args_object_init_2 obj _, object_init_meets PySem.F.called_tuple.init.lookup PySem.F.called_tuple.made (by decide) prog w A.in1 _ s₁ ⟨h₁.1, rfl, h₁.2⟩⟩
end
/-- pairs tracked at their addresses -/
def putP : Hp → List Addr → List (V × V) → Hp
  | H, a :: as, p :: ps => putP (upd H a (.tup [p.1, p.2])) as ps
  | H, _, _ => H
theorem putP_off {b : Addr} : ∀ (as : List Addr) (ps : List (V × V)) (H : Hp), b ∉ as → putP H as ps b = H b
  | [], _, _, _ => rfl
  | _ :: _, [], _, _ => rfl
  | a :: as, p :: ps, H, h => by
    show putP (upd H a (.tup [p.1, p.2])) as ps b = H b
    rw [putP_off as ps _ (fun z => h (List.mem_cons_of_mem _ z)), upd_ne (fun z => h (by rw [z]; exact List.mem_cons_self))]
theorem putP_at : ∀ (as : List Addr) (ps : List (V × V)) (H : Hp), as.length = ps.length → as.Nodup → ∀ (j : Nat) (a : Addr) (p : V × V), as[j]? = some a → ps[j]? = some p → putP H as ps a = some (.tup [p.1, p.2])
  | [], [], _, _, _ => fun j a p h => by simp at h
  | [], _ :: _, _, h, _ => by cases h
  | _ :: _, [], _, h, _ => by cases h
  | a :: as, p :: ps, H, h, hn => fun j b q hb hq => by
    have hn' := List.nodup_cons.mp hn
    cases j with
    | zero =>
      obtain rfl := Option.some.inj hb
      obtain rfl := Option.some.inj hq
      show putP (upd H a (.tup [p.1, p.2])) as ps a = some (.tup [p.1, p.2])
      rw [putP_off as ps _ hn'.1, upd_same]
    | succ j => exact putP_at as ps (upd H a (.tup [p.1, p.2])) (Nat.succ.inj h) hn'.2 j b q (by simpa using hb) (by simpa using hq)
theorem vals_refs' : ∀ as : List Addr, Vals (as.map V.ref) (as.map Value.ref)
  | [] => .nil
  | _ :: as => .cons rfl (vals_refs' as)
/-- the new pairs of xs and ys, and what holds them -/
theorem pairs_laid {X : Cx} {pins : List (Addr × Obj)} {σ : L2.St} {H : Hp} {s : Shared} {h' : Heap} {tk : Nat} {xs ys : List V} {t1 t2 : List Value} {as : List Addr} {S lo : Addr} {ob : HO} (I : Inv X pins σ H s) (r1 : Vals xs t1) (r2 : Vals ys t2)
    (hk : ∀ b o, s.heap.get? b = some o → h'.get? b = some o) (hlo : s.heap.objs.size ≤ lo) (hl : as.length = min t1.toArray.size t2.toArray.size) (hG : ZlG (fun i v => t1.toArray[i]? = some v) (fun i v => t2.toArray[i]? = some v) lo h' as) (hS : s.heap.objs.size ≤ S) (hSn : S ∉ as) (new : ∀ H', ObjOk X.prog X.w H' h' S ob) :
    ∃ H' : Hp, Same H H' ∧ H S = none ∧ (∀ t ∈ as, H t = none) ∧ H' S = some ob ∧ as.length = (xs.zip ys).length ∧ (∀ (j : Nat) (a : Addr) (p : V × V), as[j]? = some a → (xs.zip ys)[j]? = some p → H' a = some (.tup [p.1, p.2])) ∧ Inv X pins σ H' { s with heap := h', toks := tk } := by
  have e1 := val_size r1
  have e2 := val_size r2
  have lz : as.length = (xs.zip ys).length := by rw [List.length_zip, hl, e1, e2]
  have nd : as.Nodup := List.Pairwise.imp (fun {a b} (h : a < b) => Nat.ne_of_lt h) hG.rise
  have fr : ∀ t ∈ as, H t = none := fun t ht => I.hok.fresh (Nat.le_of_lt (Nat.lt_of_le_of_lt hlo (hG.above t ht)))
  have newS : H S = none := I.hok.fresh hS
  have atP := putP_at as (xs.zip ys) (upd H S ob) lz nd
  have off : ∀ b, b ∉ as → b ≠ S → putP (upd H S ob) as (xs.zip ys) b = H b := fun b h1 h2 => by rw [putP_off as _ _ h1, upd_ne h2]
  have low : ∀ b o, s.heap.get? b = some o → b ∉ as ∧ b ≠ S := fun b o e => ⟨fun z => absurd (Heap.lt_size e) (Nat.not_lt.mpr (Nat.le_of_lt (Nat.lt_of_le_of_lt hlo (hG.above b z)))), Nat.ne_of_lt (Nat.lt_of_lt_of_le (Heap.lt_size e) hS)⟩
  have kp : ∀ b u, H b = some u → (putP (upd H S ob) as (xs.zip ys)) b = some u := fun b u e => by
    rw [off b (fun z => by rw [fr b z] at e; cases e) (fun z => by rw [z, newS] at e; cases e)]
    exact e
  have eS : putP (upd H S ob) as (xs.zip ys) S = some ob := by rw [putP_off as _ _ hSn, upd_same]
  refine ⟨putP (upd H S ob) as (xs.zip ys), kp, newS, fr, eS, lz, atP, ?_⟩
  refine I.call' (ch := []) rfl ⟨fun b o q _ _ _ => hk b o q, fun b o q _ _ _ => ⟨o.slots, hk b o q⟩, fun b o q n _ => ?_, fun b o q _ => ⟨o, hk b o q⟩, fun b xs q => kp b _ q, fun b o u q => kp b _ q, fun b ps q => ⟨#[], by rw [kp b _ q]; simp⟩⟩ (fun b u q => ?_) I.bare fun b z => by simp at z
  · obtain ⟨z1, z2⟩ := low b o q
    rw [off b z1 z2]
    exact n
  · by_cases hb : b ∈ as
    · obtain ⟨j, hj⟩ := List.mem_iff_getElem?.mp hb
      have jl := (List.getElem?_eq_some_iff.mp hj).1
      have ep : (xs.zip ys)[j]? = some ((xs.zip ys)[j]'(by omega)) := List.getElem?_eq_getElem (by omega)
      have ez := List.getElem?_zip_eq_some.mp ep
      have e3 := atP j b _ hj ep
      rw [e3] at q
      cases q
      obtain ⟨x, y, p1, p2, f3⟩ := hG.pairs j b hj
      exact ⟨by show 2 ≤ sizeLine; decide, [x, y], .cons (val_at r1 ez.1 p1) (.cons (val_at r2 ez.2 p2) .nil), ⟨_, f3, rfl, _, rfl⟩⟩
    · by_cases hb2 : b = S
      · rw [hb2] at q ⊢
        rw [eS] at q
        cases q
        exact new _
      · rw [off b hb hb2] at q
        exact (I.hok b u q).stay (fun d v _ y => hk d v y) (fun d y => kp d _ y) fun d xs y => kp d _ y
def PairsAt (H : Hp) (ts : List Addr) (ps : List (V × V)) : Prop := ts.length = ps.length ∧ ∀ (j : Nat) (a : Addr) (p : V × V), ts[j]? = some a → ps[j]? = some p → H a = some (.tup [p.1, p.2])
def tLstZ (K : PySem.W.Frag) (lt : Bool) (ta : TA) : TE := fun σ H Q => ta σ H fun vs H1 => ∃ b1 b2 a1 a2 xs ys, vs = [.ref a1, .ref a2] ∧ SqB K b1 H1 a1 xs ∧ SqB K b2 H1 a2 ys ∧ min xs.length ys.length ≤ sizeLine ∧
  ∀ p ts H', Same H1 H' → H1 p = none → (∀ t ∈ ts, H1 t = none) → H' p = some (if lt = true then .lst (ts.map V.ref) else .tup (ts.map V.ref)) → PairsAt H' ts (xs.zip ys) → Q (.ref p) H'
section
variable {X : Cx} {e e2 : Expr} {ta : TA} {p p2 cpos pos : Pos}
theorem pe_lstZ (hc : X.calm = true) (hg : Gl X "list") (hm : X.mg "list" = none) (hv : bootBuiltins "list" = some (.type "list")) (hg2 : Gl X "zip") (hm2 : X.mg "zip" = none) (ha : PA X [e, e2] ta)
    (hs : starEach [.Call (.Name "zip" p2) [e, e2] [] cpos] X.env = (false, eval (.Call (.Name "zip" p2) [e, e2] [] cpos) X.env) :: starEach [] X.env := by rfl)
    (hs2 : starEach [e, e2] X.env = (false, eval e X.env) :: starEach [e2] X.env := by rfl) (hp2 : (backTo cpos (starEach [e2] X.env)).any (·.1) = false := by rfl) :
    PE X (.Call (.Name "list" p) [.Call (.Name "zip" p2) [e, e2] [] cpos] [] pos) (tLstZ X.K true ta) := by
  refine ⟨fun pins s σ H Q I hq => ?_⟩
  refine wpAny_Call_Name_kw (ld_blt I hg hm hv ?_)
  refine PyProof.Rows.callWith_type1 ?_ hs rfl
  rw [hs]
  show wpAny _ _ (spliced ((false, eval (.Call (.Name "zip" p2) [e, e2] [] cpos) X.env) :: backTo pos (starEach [] X.env))) _ _ s
  refine Calls.spliced_cons ?_
  refine Call_ (ld_blt I hg2 hm2 PyProof.Rows.boot_zip (PyProof.Rows.callWith_type1 (thn (ha.run cpos pins s σ H _ I hq) fun us s1 ⟨vs, H1, I1, r1, q1⟩ => ?_) hs2 hp2))
  obtain ⟨b1, b2, a1, a2, xs, ys, rfl, hq1, hq2, hz, q⟩ := q1
  obtain _ | ⟨r, _ | ⟨r', rr⟩⟩ := r1
  cases rr
  cases r
  cases r'
  obtain ⟨t1, v1, B1⟩ := sqb_get I1 hq1
  obtain ⟨t2, v2, B2⟩ := sqb_get I1 hq2
  have l1 := isb_lt B1
  have l2 := isb_lt B2
  refine zip_begins2 (itb_begins b1 a1 t1.toArray) (itb_begins b2 a2 t2.toArray) B1 B2 fun h1 hz1 hTI hTO g1 g2 hsz hk => ?_
  refine Calls.spliced_nil ?_
  have Z := zip_sep2 (N := s1.heap.objs.size) (fp1 := [a1]) (fp2 := [a2]) (fun c hc => by rw [List.mem_singleton.mp hc]; exact l1) (fun c hc => by rw [List.mem_singleton.mp hc]; exact l2)
  have n1 : a1 ≠ s1.heap.objs.size := Nat.ne_of_lt l1
  have n2 : a2 ≠ s1.heap.objs.size + 1 := Nat.ne_of_lt (Nat.lt_succ_of_lt l2)
  have D1 := itb_draws (b := b1) (prog := X.prog) (w := X.w) (A := X.A.in1.in1.in1) (I1.ok.hd hc) _ a1 n1 t1.toArray
  have D2 := itb_draws (b := b2) (prog := X.prog) (w := X.w) (A := X.A.in1.in1.in1) (I1.ok.hd hc) _ a2 n2 t2.toArray
  have hmin : min t1.toArray.size t2.toArray.size ≤ sizeLine := by rw [val_size v1, val_size v2]; exact hz
  have two : ∀ {c b a : Addr}, c ∈ [b, a] → c = b ∨ c = a := fun h => by simpa using h
  refine zl_list (s := { s1 with heap := h1 }) (A := X.A) Z D1 D2 (fun b hb => ?_) (fun b hb => ?_) hmin hz1 hTI ⟨_, _, hTO⟩ ⟨itb_start g1, isb_keep B1 fun o e => hk _ _ e⟩ ⟨itb_start g2, isb_keep B2 fun o e => hk _ _ e⟩ fun h' tk acc c as hk' hS hl hG hacc => ?_
  · show b < h1.objs.size
    rw [hsz]
    rcases two hb with rfl | rfl
    · show s1.heap.objs.size < s1.heap.objs.size + 5; omega
    · exact Nat.lt_of_lt_of_le l1 (Nat.le_add_right _ 5)
  · show b < h1.objs.size
    rw [hsz]
    rcases two hb with rfl | rfl
    · show s1.heap.objs.size + 1 < s1.heap.objs.size + 5; omega
    · exact Nat.lt_of_lt_of_le l2 (Nat.le_add_right _ 5)
  · have up : ∀ b o, s1.heap.get? b = some o → h'.get? b = some o := fun b o eb => by
      have := zip_low (Heap.lt_size eb)
      exact hk' b o this.1 this.2.1 this.2.2.1 this.2.2.2 (hk b o eb)
    have hle : s1.heap.objs.size ≤ h1.objs.size := by rw [hsz]; exact Nat.le_add_right _ 5
    obtain ⟨H', k1, k2, k3, k4, k5, k6, J⟩ := pairs_laid (tk := tk) (ob := .lst (as.map V.ref)) I1 v1 v2 up hle hl hG hle (fun m => Nat.lt_irrefl _ (hG.above _ m)) (fun H' => ⟨by rw [List.length_map]; show as.length ≤ sizeLine; rw [hl]; exact hmin, acc.toList, c, by rw [hacc]; exact vals_refs' as, by rw [Array.toArray_toList]; exact hS⟩)
    exact ⟨.ref _, H', J, rfl, q _ as H' k1 k2 k3 k4 ⟨k5, k6⟩⟩
theorem pe_tupZ (hc : X.calm = true) (hg : Gl X "tuple") (hm : X.mg "tuple" = none) (hv : bootBuiltins "tuple" = some (.type "tuple")) (hg2 : Gl X "zip") (hm2 : X.mg "zip" = none) (ha : PA X [e, e2] ta)
    (hs : starEach [.Call (.Name "zip" p2) [e, e2] [] cpos] X.env = (false, eval (.Call (.Name "zip" p2) [e, e2] [] cpos) X.env) :: starEach [] X.env := by rfl)
    (hs2 : starEach [e, e2] X.env = (false, eval e X.env) :: starEach [e2] X.env := by rfl) (hp2 : (backTo cpos (starEach [e2] X.env)).any (·.1) = false := by rfl) :
    PE X (.Call (.Name "tuple" p) [.Call (.Name "zip" p2) [e, e2] [] cpos] [] pos) (tLstZ X.K false ta) := by
  refine ⟨fun pins s σ H Q I hq => ?_⟩
  refine wpAny_Call_Name_kw (ld_blt I hg hm hv ?_)
  refine PyProof.Rows.callWith_type1 ?_ hs rfl
  rw [hs]
  show wpAny _ _ (spliced ((false, eval (.Call (.Name "zip" p2) [e, e2] [] cpos) X.env) :: backTo pos (starEach [] X.env))) _ _ s
  refine Calls.spliced_cons ?_
  refine Call_ (ld_blt I hg2 hm2 PyProof.Rows.boot_zip (PyProof.Rows.callWith_type1 (thn (ha.run cpos pins s σ H _ I hq) fun us s1 ⟨vs, H1, I1, r1, q1⟩ => ?_) hs2 hp2))
  obtain ⟨b1, b2, a1, a2, xs, ys, rfl, hq1, hq2, hz, q⟩ := q1
  obtain _ | ⟨r, _ | ⟨r', rr⟩⟩ := r1
  cases rr
  cases r
  cases r'
  obtain ⟨t1, v1, B1⟩ := sqb_get I1 hq1
  obtain ⟨t2, v2, B2⟩ := sqb_get I1 hq2
  have l1 := isb_lt B1
  have l2 := isb_lt B2
  refine zip_begins2 (itb_begins b1 a1 t1.toArray) (itb_begins b2 a2 t2.toArray) B1 B2 fun h1 hz1 hTI hTO g1 g2 hsz hk => ?_
  refine Calls.spliced_nil ?_
  have Z := zip_sep2 (N := s1.heap.objs.size) (fp1 := [a1]) (fp2 := [a2]) (fun c hc => by rw [List.mem_singleton.mp hc]; exact l1) (fun c hc => by rw [List.mem_singleton.mp hc]; exact l2)
  have n1 : a1 ≠ s1.heap.objs.size := Nat.ne_of_lt l1
  have n2 : a2 ≠ s1.heap.objs.size + 1 := Nat.ne_of_lt (Nat.lt_succ_of_lt l2)
  have D1 := itb_draws (b := b1) (prog := X.prog) (w := X.w) (A := X.A.in1.in1.in1.in1) (I1.ok.hd hc) _ a1 n1 t1.toArray
  have D2 := itb_draws (b := b2) (prog := X.prog) (w := X.w) (A := X.A.in1.in1.in1.in1) (I1.ok.hd hc) _ a2 n2 t2.toArray
  have hmin : min t1.toArray.size t2.toArray.size ≤ sizeLine := by rw [val_size v1, val_size v2]; exact hz
  have two : ∀ {c b a : Addr}, c ∈ [b, a] → c = b ∨ c = a := fun h => by simpa using h
  refine zl_tuple (s := { s1 with heap := h1 }) (A := X.A) Z D1 D2 (fun b hb => ?_) (fun b hb => ?_) hmin hz1 hTI ⟨_, _, hTO⟩ ⟨itb_start g1, isb_keep B1 fun o e => hk _ _ e⟩ ⟨itb_start g2, isb_keep B2 fun o e => hk _ _ e⟩ fun h' tk as hk' hl hG => ?_
  · show b < h1.objs.size
    rw [hsz]
    rcases two hb with rfl | rfl
    · show s1.heap.objs.size < s1.heap.objs.size + 5; omega
    · exact Nat.lt_of_lt_of_le l1 (Nat.le_add_right _ 5)
  · show b < h1.objs.size
    rw [hsz]
    rcases two hb with rfl | rfl
    · show s1.heap.objs.size + 1 < s1.heap.objs.size + 5; omega
    · exact Nat.lt_of_lt_of_le l2 (Nat.le_add_right _ 5)
  · have up : ∀ b o, s1.heap.get? b = some o → h'.get? b = some o := fun b o eb => by
      have := zip_low (Heap.lt_size eb)
      exact hk' b o this.1 this.2.1 this.2.2.1 this.2.2.2 (hk b o eb)
    have hle : s1.heap.objs.size ≤ h1.objs.size := by rw [hsz]; exact Nat.le_add_right _ 5
    have hle' : s1.heap.objs.size ≤ h'.objs.size := by
      apply Decidable.byContradiction
      intro hlt
      have : h'.objs.size < s1.heap.objs.size := by omega
      obtain ⟨o, eo⟩ : ∃ o, h1.get? s1.heap.objs.size = some o := ⟨_, g1⟩
      have nz := zip_mid s1.heap.objs.size
      have e9 := hk' (s1.heap.objs.size + 2) _ nz.1 nz.2.1 nz.2.2.1 nz.2.2.2 hTI
      have h8 : s1.heap.objs.size + 2 < h'.objs.size := Heap.lt_size e9
      omega
    have hG' : ZlG (fun i v => t1.toArray[i]? = some v) (fun i v => t2.toArray[i]? = some v) h1.objs.size (h'.push { cls := .type "tuple", data := .seq (as.map Value.ref).toArray }) as := ⟨hG.rise, hG.above, fun j a hj => let ⟨x, y, p1, p2, e⟩ := hG.pairs j a hj; ⟨x, y, p1, p2, Heap.get?_push_of_some _ e⟩⟩
    obtain ⟨H', k1, k2, k3, k4, k5, k6, J⟩ := pairs_laid (tk := tk) (ob := .tup (as.map V.ref)) I1 v1 v2 (fun b o e => Heap.get?_push_of_some _ (up b o e)) hle hl hG' hle' (fun m => Nat.lt_irrefl _ (hG.there m)) (fun H' => ⟨by rw [List.length_map]; show as.length ≤ sizeLine; rw [hl]; exact hmin, as.map Value.ref, vals_refs' as, ⟨_, Heap.get?_push_size _ rfl, rfl, _, rfl⟩⟩)
    exact ⟨.ref _, H', J, rfl, q _ as H' k1 k2 k3 k4 ⟨k5, k6⟩⟩
end
end WS
set_option Elab.async false
set_option linter.all false
set_option maxRecDepth 100000
set_option maxHeartbeats 4000000
namespace WS
open PySem PySem.Spec PyProof.Rows L2
theorem perm_of_map {α β : Type} {f : α → β} {ys : List β} {us : List α} (h : ys.Perm (us.map f)) : ∃ ws : List α, ws.Perm us ∧ ys = ws.map f := by
  generalize e : us.map f = m at h
  induction h generalizing us with
  | nil => 
    cases us with
    | nil => exact ⟨[], .refl _, rfl⟩
    | cons _ _ => cases e
  | cons x h ih =>
    cases us with
    | nil => cases e
    | cons u us =>
      rw [List.map_cons] at e
      obtain ⟨e1, e2⟩ := List.cons.inj e
      obtain ⟨ws, p, e3⟩ := ih e2
      exact ⟨u :: ws, p.cons u, by rw [List.map_cons, e1, e3]⟩
  | swap x y l =>
    match us, e with
    | a :: b :: us, e =>
      rw [List.map_cons, List.map_cons] at e
      obtain ⟨e1, e2⟩ := List.cons.inj e
      obtain ⟨e3, e4⟩ := List.cons.inj e2
      exact ⟨b :: a :: us, .swap a b us, by rw [List.map_cons, List.map_cons, e1, e3, e4]⟩
  | trans h1 h2 ih1 ih2 =>
    obtain ⟨ws, p, e1⟩ := ih2 e
    obtain ⟨vs, p1, e2⟩ := ih1 e1.symm
    exact ⟨vs, p1.trans p, e2⟩
def nz (z : Str) : Bool := !decide (z = "")
def spSeats27 (K : PySem.W.Frag) : Sp := fun vs H Q _ => ∃ (p N T : Addr) (us : List Str) (ns : List Int), vs = [.ref p, .ref N, .ref T] ∧ PotAt H p ∧ N ≠ p ∧ T ≠ p ∧ SqL K H N (us.map V.str) ∧ SqL K H T (ns.map V.int) ∧ us.length = ns.length ∧ us.length ≤ 20 ∧ us.Nodup ∧ (∀ z ∈ us, Nm z) ∧ (∀ x ∈ ns, Bt 110 x) ∧
  ∀ D (rs : List V) (xs : List (Str × Int)) H', H D = none → H' D = some (.lst rs) → TopsAt K H' rs xs → xs.length = ns.length → ((xs.map Prod.fst).filter nz).Nodup → (∀ x ∈ xs, (x.1 = "" ∨ x.1 ∈ us) ∧ Bt 110 x.2) → SameX p H H' → PotAt H' p → Q (.ref D) H'
theorem tops_of {K : PySem.W.Frag} {H : Hp} {ts : List Addr} {zs : List Str} {qs : List Int} (h : PairsAt H ts ((zs.map V.str).zip (qs.map V.int))) : TopsAt K H (ts.map V.ref) (zs.zip qs) := by
  have el : ts.length = (zs.zip qs).length := by
    have := h.1
    rw [List.length_zip, List.length_map, List.length_map] at this
    rw [List.length_zip]
    exact this
  refine ⟨by rw [List.length_map]; exact el, fun i v e => ?_⟩
  rw [List.getElem?_map] at e
  cases ea : ts[i]? with
  | none => rw [ea] at e; cases e
  | some a =>
    rw [ea] at e
    obtain rfl := Option.some.inj e
    have hi := (List.getElem?_eq_some_iff.mp ea).1
    have ex : (zs.zip qs)[i]? = some ((zs.zip qs)[i]'(by omega)) := List.getElem?_eq_getElem (by omega)
    generalize (zs.zip qs)[i]'(by omega) = x at ex
    obtain ⟨e1, e2⟩ := List.getElem?_zip_eq_some.mp ex
    refine ⟨x, a, ex, rfl, .inl (.inl (h.2 i a (.str x.1, .int x.2) ea (List.getElem?_zip_eq_some.mpr ⟨?_, ?_⟩)))⟩
    · rw [List.getElem?_map, e1]; rfl
    · rw [List.getElem?_map, e2]; rfl
/-! moments as the laws make them -/
def GoodM (K : PySem.W.Frag) (H : Hp) (v : V) (W : Int) (ss : List Seat) : Prop := Dp K H v (momD W ss) ∧ ss.length ≤ 12 ∧ (∀ s ∈ ss, Okp 120 s.2 ∧ Nm0 s.1) ∧ (names ss).Nodup
theorem GoodM.kt {K : PySem.W.Frag} {H H' : Hp} {v : V} {W : Int} {ss : List Seat} (h : GoodM K H v W ss) (k : KT H H') : GoodM K H' v W ss := ⟨h.1.kt k (mom_imm _ _), h.2⟩
theorem names_app (a b : List Seat) : names (a ++ b) = names a ++ names b := by
  unfold names
  rw [List.map_append, List.filter_append]
theorem names_put (ss : List Seat) (i : Nat) (z : Str) : names (put ss i z) = names (ss.take i) ++ (if z = "" then [] else [z]) ++ names (ss.drop (i + 1)) := by
  unfold put
  rw [names_app, names_app]
  congr 2
  unfold names
  by_cases h : z = "" <;> simp [h]
theorem names_split (ss : List Seat) (i : Nat) (h : i < ss.length) : names ss = names (ss.take i) ++ names [gs ss i] ++ names (ss.drop (i + 1)) := by
  rw [← names_app, ← names_app]
  congr 1
  have e := List.getElem?_eq_getElem h
  rw [at_gs h] at e
  rw [List.append_assoc, List.singleton_append, Option.some.inj e, List.getElem_cons_drop, List.take_append_drop]
theorem put_len (ss : List Seat) (i : Nat) (z : Str) (h : i ≤ ss.length) : (put ss i z).length = if i < ss.length then ss.length else ss.length + 1 := by
  unfold put
  simp only [List.length_append, List.length_take, List.length_drop, List.length_cons, List.length_nil]
  split <;> omega
theorem put_mem {ss : List Seat} {i : Nat} {z : Str} {s : Seat} (h : s ∈ put ss i z) : s ∈ ss ∨ s = (z, (gs ss i).2) := by
  unfold put at h
  rcases List.mem_append.mp h with h | h
  · rcases List.mem_append.mp h with h | h
    · exact .inl (List.mem_of_mem_take h)
    · exact .inr (List.mem_singleton.mp h)
  · exact .inl (List.mem_of_mem_drop h)
theorem gs_ok {n : Nat} {ss : List Seat} (h : ∀ s ∈ ss, Okp (n + 1) s.2) (i : Nat) : Okp (n + 1) (gs ss i).2 := by
  by_cases hi : i < ss.length
  · exact h _ (gs_mem hi)
  · unfold gs
    rw [List.getD_eq_getElem?_getD, List.getElem?_eq_none (by omega)]
    refine ⟨show (0 : Int) < 1 by decide, ?_, ?_⟩
    · unfold Bt; exact Nat.pow_pos (by decide)
    · show (1 : Int).natAbs < 2 ^ (n + 1)
      have : 2 ^ 1 ≤ 2 ^ (n + 1) := Nat.pow_le_pow_right (by decide) (by omega)
      have e : (1 : Int).natAbs = 1 := rfl
      omega
theorem room_free {ss : List Seat} (h : room ss < ss.length) : (gs ss (room ss)).1 = "" := by
  have : ∀ (l : List Nat) (f : Nat), (f < ss.length → (gs ss f).1 = "") → (∀ i ∈ l, (gs ss i).1 = "") → l.foldl (near ss) f < ss.length → (gs ss (l.foldl (near ss) f)).1 = "" := by
    intro l
    induction l with
    | nil => exact fun f h _ hl => h hl
    | cons i l ih =>
      intro f h hl hlt
      refine ih _ (fun hn => ?_) (fun j hj => hl j (List.mem_cons_of_mem _ hj)) hlt
      unfold near at hn ⊢
      split
      · exact hl i List.mem_cons_self
      · rename_i hc
        rw [if_neg hc] at hn
        exact h hn
  exact this _ _ (fun h => absurd h (Nat.lt_irrefl _)) (fun i hi => (frees_lt hi).2) h
theorem GoodM.come {K : PySem.W.Frag} {H H' : Hp} {v v' : V} {W : Int} {ss : List Seat} {z : Str} (h : GoodM K H v W ss) (hl : ss.length < 12) (hz : Nm z) (hn : z ∉ names ss) (d : Dp K H' v' (momD W (put ss (room ss) z))) : GoodM K H' v' W (put ss (room ss) z) := by
  obtain ⟨_, _, ok, nd⟩ := h
  refine ⟨d, ?_, fun s hs => ?_, ?_⟩
  · rw [put_len _ _ _ (room_le ss)]
    split <;> omega
  · rcases put_mem hs with h | rfl
    · exact ok s h
    · exact ⟨gs_ok (n := 119) (fun s hs => (ok s hs).1) _, .inr hz⟩
  · rw [names_put, if_neg (nm_ne hz)]
    have key : names ss = names (ss.take (room ss)) ++ names (ss.drop (room ss + 1)) := by
      by_cases hr : room ss < ss.length
      · rw [names_split ss _ hr]
        have : names [gs ss (room ss)] = [] := by
          unfold names
          simp [room_free hr]
        rw [this, List.append_nil]
      · have hr' : room ss = ss.length := by have := room_le ss; omega
        rw [hr', List.take_length, List.drop_eq_nil_of_le (by omega)]
        show _ = _ ++ []
        rw [List.append_nil]
    rw [key] at nd hn
    rw [List.append_assoc, List.singleton_append, List.perm_middle.nodup_iff, List.nodup_cons]
    exact ⟨hn, nd⟩
theorem GoodM.leave {K : PySem.W.Frag} {H H' : Hp} {v v' : V} {W : Int} {ss : List Seat} {i : Nat} (h : GoodM K H v W ss) (hi : i < ss.length) (d : Dp K H' v' (momD W (put ss i ""))) : GoodM K H' v' W (put ss i "") := by
  obtain ⟨_, hl, ok, nd⟩ := h
  refine ⟨d, ?_, fun s hs => ?_, ?_⟩
  · rw [put_len _ _ _ (by omega), if_pos hi]
    exact hl
  · rcases put_mem hs with h | rfl
    · exact ok s h
    · exact ⟨(ok _ (gs_mem hi)).1, .inl rfl⟩
  · rw [names_put, if_pos rfl, List.append_nil]
    rw [names_split ss i hi] at nd
    refine nd.sublist ?_
    rw [List.append_assoc]
    exact List.Sublist.append_left (List.sublist_append_right _ _) _
/-- who sits there -/
theorem idx_gs {ss : List Seat} (nd : (names ss).Nodup) {i : Nat} (hi : i < ss.length) (hz : (gs ss i).1 ≠ "") : idx ss (gs ss i).1 = i := by
  have hm : (gs ss i).1 ∈ names ss := names_mem.mpr ⟨hz, _, gs_mem hi, rfl⟩
  have hl := idx_lt hm
  have he : (gs ss (idx ss (gs ss i).1)).1 = (gs ss i).1 := by
    have h1 : (ss.map Prod.fst)[idx ss (gs ss i).1]? = some (gs ss i).1 := by
      unfold idx
      rw [List.getElem?_eq_getElem (List.idxOf_lt_length_of_mem (List.mem_map_of_mem (f := Prod.fst) (gs_mem hi)))]
      rw [List.getElem_idxOf]
    rw [List.getElem?_map, at_gs hl] at h1
    exact Option.some.inj h1
  have one : ∀ a b, a < b → b < ss.length → (gs ss a).1 = (gs ss b).1 → (gs ss a).1 ≠ "" → False := by
    intro a b hab hb e hne
    have e1 := names_split ss b hb
    rw [e1] at nd
    have m1 : (gs ss a).1 ∈ names (ss.take b) := names_mem.mpr ⟨hne, gs ss a, by
      rw [List.mem_iff_getElem?]
      exact ⟨a, by rw [List.getElem?_take_of_lt hab]; exact at_gs (by omega)⟩, rfl⟩
    have m2 : (gs ss a).1 ∈ names [gs ss b] := names_mem.mpr ⟨hne, _, List.mem_singleton.mpr rfl, e.symm⟩
    rw [List.append_assoc] at nd
    exact (List.nodup_append.mp nd).2.2 _ m1 _ (List.mem_append_left _ m2) rfl
  rcases Nat.lt_trichotomy (idx ss (gs ss i).1) i with h | h | h
  · exact (one _ _ h hi he (by rw [he]; exact hz)).elim
  · exact h
  · exact (one _ _ h hl he.symm hz).elim
def spRight27 (K : PySem.W.Frag) : Sp := fun vs H Q _ => ∃ v W ss, vs = [v] ∧ GoodM K H v W ss ∧ ∀ H', Same H H' → Q (.bl true) H'
theorem ss_range (ss : List Seat) : (List.range ss.length).map (gs ss) = ss := by
  apply List.ext_getElem?
  intro i
  by_cases h : i < ss.length
  · rw [List.getElem?_map, List.getElem?_range h]
    exact (at_gs h).symm
  · rw [List.getElem?_eq_none (by simp; omega), List.getElem?_eq_none (by omega)]
theorem frees_kitty (ss : List Seat) : (frees ss).map (fun i => (gs ss i).2) = kittyL ss := by
  unfold kittyL frees
  have := List.filter_map (p := fun s : Seat => decide (s.1 = ("" : Str))) (f := gs ss) (l := List.range ss.length)
  rw [ss_range] at this
  rw [this, List.map_map]
  rfl
theorem kitty_len (ss : List Seat) : (kittyL ss).length ≤ ss.length := by
  unfold kittyL
  rw [List.length_map]
  exact List.length_filter_le _ _
theorem kitty_mem {ss : List Seat} {q : Int × Int} (h : q ∈ kittyL ss) : ∃ s ∈ ss, s.2 = q := by
  unfold kittyL at h
  obtain ⟨s, hs, rfl⟩ := List.mem_map.mp h
  exact ⟨s, (List.mem_filter.mp hs).1, rfl⟩
theorem names_len (ss : List Seat) : (names ss).length ≤ ss.length := by
  unfold names
  have := List.length_filter_le (fun z : Str => !decide (z = "")) (ss.map Prod.fst)
  rw [List.length_map] at this
  exact this
theorem frees_len (ss : List Seat) : (frees ss).length ≤ ss.length := by
  unfold frees
  have := List.length_filter_le (fun i => decide ((gs ss i).1 = "")) (List.range ss.length)
  rw [List.length_range] at this
  exact this
theorem dpall_strs {K : PySem.W.Frag} {H : Hp} : ∀ l : List Str, DpAll K H (l.map V.str) (l.map PyData.str)
  | [] => .nil
  | z :: l => .cons (.str z) (dpall_strs l)
theorem dpall_nats {K : PySem.W.Frag} {H : Hp} : ∀ l : List Nat, DpAll K H (l.map fun j : Nat => V.int j) (l.map fun j : Nat => PyData.int j)
  | [] => .nil
  | j :: l => .cons (.int _) (dpall_nats l)
def toldD (ss : List Seat) : PyData := .list [.tuple ((ss.map Prod.snd).map pdP), .list ((names ss).map PyData.str), .list ((frees ss).map fun j : Nat => PyData.int j)]
theorem told_sh {ss : List Seat} (hl : ss.length ≤ 12) (ok : ∀ s ∈ ss, Okp 120 s.2 ∧ Nm0 s.1) : Sh 20000 60 (toldD ss) := by
  have h1 : Sh 3002 3 (.tuple ((ss.map Prod.snd).map pdP)) := by
    refine (Sh.tup (n := 248) (k := 2) (m := 12) (fun d hd => ?_) (by simpa using hl)).mono (by omega) (Nat.le_refl _)
    obtain ⟨p, hp, rfl⟩ := List.mem_map.mp hd
    obtain ⟨s, hs, rfl⟩ := List.mem_map.mp hp
    exact (Sh.pd (m := 120) (by decide) (by decide) (ok s hs).1.2.1 (ok s hs).1.2.2).mono (by omega) (Nat.le_refl _)
  have h2 : Sh 3002 3 (.list ((names ss).map PyData.str)) := by
    refine (Sh.lst (n := 82) (k := 1) (m := 12) (fun d hd => ?_) (by rw [List.length_map]; exact Nat.le_trans (names_len ss) hl)).mono (by omega) (by omega)
    obtain ⟨z, hz, rfl⟩ := List.mem_map.mp hd
    obtain ⟨_, s, hs, rfl⟩ := names_mem.mp hz
    exact nm_sh (ok s hs).2
  have h3 : Sh 3002 3 (.list ((frees ss).map fun j : Nat => PyData.int j)) := by
    refine (Sh.lst (n := 5) (k := 1) (m := 12) (fun d hd => ?_) (by rw [List.length_map]; exact Nat.le_trans (frees_len ss) hl)).mono (by omega) (by omega)
    obtain ⟨i, hi, rfl⟩ := List.mem_map.mp hd
    have := (frees_lt hi).1
    exact Sh.int (m := 4) (by decide) (by decide) (Bt.of_lt (by omega) (by omega))
  unfold toldD
  refine (Sh.lst (n := 3002) (k := 3) (m := 3) (ds := [.tuple ((ss.map Prod.snd).map pdP), .list ((names ss).map PyData.str), .list ((frees ss).map fun j : Nat => PyData.int j)]) (fun d hd => ?_) (Nat.le_refl 3)).mono (by omega) (by omega)
  simp only [List.mem_cons, List.not_mem_nil, or_false] at hd
  rcases hd with rfl | rfl | rfl
  · exact h1
  · exact h2
  · exact h3
theorem Sh.ok {n k : Nat} {d : PyData} (h : Sh n k d) (hn : n ≤ 1000000) (hk : k ≤ 60) : d.showable = true ∧ d.hasDict = false ∧ d.depth ≤ 60 ∧ d.shown.length ≤ sizeLine := ⟨h.1, h.2.1, Nat.le_trans h.2.2.1 hk, Nat.le_trans h.2.2.2 (Nat.le_trans hn (by rw [sizeLine_eq]; decide))⟩
theorem kitty_ok {ss : List Seat} (hl : ss.length ≤ 12) (ok : ∀ s ∈ ss, Okp 120 s.2 ∧ Nm0 s.1) : Okp 1900 ((kittyL ss).foldl pl (0, 1)) := by
  have o := fold_okp (n := 120) (kittyL ss) (0, 1) ⟨by decide, by unfold Bt; decide +kernel, by unfold Bt; decide +kernel⟩ (fun z hz => by
    obtain ⟨s, hs, rfl⟩ := kitty_mem hz
    exact (ok s hs).1)
  refine o.mono ?_
  have := kitty_len ss
  have : ((kittyL ss).length + 1) * 121 ≤ 13 * 121 := Nat.mul_le_mul_right _ (by omega)
  omega
theorem strok_nm {z : Str} (h : Nm0 z) : PyData.strOk z = true := by
  unfold PyData.strOk
  rw [Array.all_eq_true_iff_forall_mem]
  intro c hc
  have hc : c ∈ TL.tl z := by
    show c ∈ z.cps.toList
    exact Array.mem_toList_iff.mpr hc
  rcases h with rfl | h
  · exact absurd hc (by decide +revert)
  · have := h.2.2 c hc
    exact decide_eq_true (by omega)
theorem shaped_strs : ∀ l : List Str, (∀ z ∈ l, Nm0 z) → SeqAt.shaped (.list (l.map PyData.str)) = true := by
  have d : ∀ l : List Str, PyData.depthAll (l.map PyData.str) ≤ 1 := by
    intro l
    induction l with
    | nil => exact Nat.zero_le _
    | cons z l ih =>
      simp only [List.map_cons, PyData.depthAll, PyData.depth]
      omega
  have c : ∀ l : List Str, (∀ z ∈ l, Nm0 z) → PyData.canLayAll0 (l.map PyData.str) = true := by
    intro l hl
    induction l with
    | nil => rfl
    | cons z l ih =>
      show (PyData.strOk z && PyData.canLayAll0 (l.map PyData.str)) = true
      rw [strok_nm (hl z List.mem_cons_self), ih (fun y hy => hl y (List.mem_cons_of_mem _ hy))]
      rfl
  intro l hl
  unfold SeqAt.shaped
  rw [Bool.and_eq_true]
  refine ⟨c l hl, decide_eq_true ?_⟩
  have := d l
  simp only [PyData.depth]
  omega
/-- a moment of the first two -/
def First (K : PySem.W.Frag) (H : Hp) (v : V) (W : Int) (us : List Str) : Prop := ∃ ss, GoodM K H v W ss ∧ ss.length ≤ 10 ∧ ∀ z ∈ names ss, z ∈ us
theorem First.kt {K : PySem.W.Frag} {H H' : Hp} {v : V} {W : Int} {us : List Str} (h : First K H v W us) (k : KT H H') : First K H' v W us := let ⟨ss, a, b, c⟩ := h; ⟨ss, a.kt k, b, c⟩
theorem names_tops (xs : List (Str × Int)) (m : Nat) : names (xs.map (topS1 m)) = (xs.map Prod.fst).filter nz := by
  unfold names
  rw [List.map_map]
  rfl
theorem good_tops {K : PySem.W.Frag} {H : Hp} {v : V} {W : Int} {xs : List (Str × Int)} {us : List Str} {m : Nat} (d : Dp K H v (momD W (xs.map (topS1 m)))) (m1 : 1 ≤ m) (m10 : m ≤ 10) (hl : xs.length = m) (nd : ((xs.map Prod.fst).filter nz).Nodup) (hx : ∀ x ∈ xs, (x.1 = "" ∨ x.1 ∈ us) ∧ Bt 110 x.2) (hu : ∀ z ∈ us, Nm z) : First K H v W us := by
  refine ⟨_, ⟨d, by rw [List.length_map]; omega, fun s hs => ?_, by rw [names_tops]; exact nd⟩, by rw [List.length_map]; omega, fun z hz => ?_⟩
  · obtain ⟨x, hx', rfl⟩ := List.mem_map.mp hs
    obtain ⟨h1, h2⟩ := hx x hx'
    have bm : Bt 110 ((m : Nat) : Int) := Bt.of_lt (by omega) (by omega)
    refine ⟨⟨(lo_lowest (by omega)).1, (h2.lo1).mono (by decide), (bm.lo2).mono (by decide)⟩, ?_⟩
    rcases h1 with h | h
    · exact .inl h
    · exact .inr (hu _ h)
  · obtain ⟨hne, s, hs, rfl⟩ := names_mem.mp hz
    obtain ⟨x, hx', rfl⟩ := List.mem_map.mp hs
    rcases (hx x hx').1 with h | h
    · exact absurd h hne
    · exact h
theorem mem_set_kt {H H' : Hp} {K : PySem.W.Frag} {W : Int} {ms : List V} (h : ∀ v ∈ ms, ∃ ss, GoodM K H v W ss) (k : KT H H') : ∀ v ∈ ms, ∃ ss, GoodM K H' v W ss := fun v hv => let ⟨ss, a⟩ := h v hv; ⟨ss, a.kt k⟩
theorem copy_eq {K : PySem.W.Frag} {H : Hp} {v : V} {W : Int} {ss : List Seat} (g : GoodM K H v W ss) {H' : Hp} {v' : V} (d : Dp K H' v' (momD W ss)) : GoodM K H' v' W ss := ⟨d, g.2⟩
end WS
set_option Elab.async false
set_option linter.all false
set_option maxRecDepth 100000
set_option maxHeartbeats 4000000
namespace WS
open PySem PySem.Spec PyProof.Rows L2
open PySem.W
/-! min of pairs, count of texts; seats as lists -/
def rMinD (K : PySem.W.Frag) : List V → Hp → VK → Prop := fun xs H Q => ∃ (a : Addr) (vs : List V) (d : PyData) (ds : List PyData), xs = [.ref a] ∧ SqL K H a vs ∧ DpAll K H vs (d :: ds) ∧ AlikeAll (d :: ds) ∧ PyData.depthAll (d :: ds) ≤ 50 ∧ ∀ v, Dp K H v (minD d ds) → Q v H
theorem vals_back : ∀ {xs : List V} {us : List Value} {i : Nat} {u : Value}, Vals xs us → us[i]? = some u → ∃ v, xs[i]? = some v ∧ RelV v u
  | _, _, 0, u, .cons r _, e => ⟨_, rfl, by simp at e; subst e; exact r⟩
  | _, _, i + 1, u, .cons _ t, e => by
    obtain ⟨v, e1, e2⟩ := vals_back t (by simpa using e)
    exact ⟨v, by simpa using e1, e2⟩
theorem cr_minD {X : Cx} (hc : X.calm = true) (hu : X.A.units + 64 < cLine) : CallR X (.builtin "min") (rMinD X.K) := by
  intro pins s σ H vs us Q I r h
  obtain ⟨a, xs, d, ds, rfl, hs, hD, hal, hdep, q⟩ := h
  obtain ⟨its, rv, hl, _⟩ := I.list hs
  rw [Vals.ref1 r]
  obtain ⟨as, ra⟩ := Dp.readsAll I (d :: ds) _ _ hD rv
  refine min_list_data (I.ok.hd hc) hl.isList (by simpa using ra) hal (by omega) fun i v h' tk bs hv rd hk => ?_
  obtain ⟨x, ex, rx⟩ := vals_back rv (by simpa using hv)
  obtain ⟨d', ed, hd⟩ := dpall_at hD ex
  obtain ⟨bs', rd'⟩ := Dp.reads I d' x v hd rx
  have e := (PySem.Reads.unique (reads_keeps hk rd') _ _ rd).1
  subst e
  exact ⟨x, H, I.kept hk, rx, q x hd⟩
def rCntS (K : PySem.W.Frag) : V → List V → Hp → VK → Prop := fun x xs H Q => ∃ (p : Addr) (zs : List Str) (z : Str), x = .ref p ∧ xs = [.str z] ∧ SqL K H p (zs.map V.str) ∧ Q (.int (zs.count z : Nat)) H
theorem plain_strs : ∀ l : List Str, PyData.plainAll (l.map PyData.str) = true ∧ PyData.depthAll (l.map PyData.str) ≤ 1
  | [] => ⟨rfl, Nat.zero_le _⟩
  | z :: l => by
    obtain ⟨a, b⟩ := plain_strs l
    refine ⟨?_, ?_⟩
    · show (true && PyData.plainAll (l.map PyData.str)) = true
      rw [a]
      rfl
    · simp only [List.map_cons, PyData.depthAll, PyData.depth]
      omega
theorem mt_countS {X : Cx} (hu : X.A.units + 64 < cLine) : MtR X "list.count" (rCntS X.K) := by
  intro pins s σ H x xs v us Q I rx rxs h
  obtain ⟨p, zs, z, rfl, rfl, hs, q⟩ := h
  cases rx
  obtain ⟨u, rfl, ru⟩ := rxs.one
  obtain ⟨its, rv, hl, _⟩ := I.list hs
  obtain ⟨as, ra⟩ := Dp.readsAll I (zs.map PyData.str) _ _ (dpall_strs zs) rv
  obtain ⟨bs, rz⟩ := Dp.reads I (.str z) (.str z) u (.str z) ru
  have hp := plain_strs zs
  have e : ((zs.map PyData.str).countP fun y => PyData.eqv y (.str z)) = zs.count z := by
    rw [List.countP_map]
    unfold List.count
    rfl
  refine PySem.SeqAt.count_list_data (xs := zs.map PyData.str) (d := .str z) hl.isList (by simpa using ra) rz hp.1 rfl (by have : min (PyData.depthAll (zs.map PyData.str)) (PyData.depth (.str z)) ≤ 1 := Nat.le_trans (Nat.min_le_left _ _) hp.2; omega) ?_
  refine ⟨.int (zs.count z : Nat), H, I.tok _, ⟨s.toks, ?_⟩, q⟩
  rw [e]
abbrev Top := Str × Int
def absI (a : Int) : Int := if a < 0 then -a else a
theorem ab_lo {a m : Int} (hm : 0 < m) : ab (lo a m) = lo (absI a) m := by
  have g0 : (0 : Int) < Int.gcd a m := by
    have := gcd_pos (a := a) (b := m) (by omega)
    omega
  have e := lo_fst a m
  unfold ab absI
  by_cases h : a < 0
  · have h1 : (lo a m).1 < 0 := by
      apply Decidable.byContradiction
      intro hn
      have := Int.mul_nonneg (show 0 ≤ (lo a m).1 by omega) (Int.le_of_lt g0)
      omega
    rw [if_pos h, if_pos h1]
    have := lo_neg a m
    rw [show (0 : Int) - a = -a by omega] at this
    rw [this]
    show (-(lo a m).1, (lo a m).2) = (0 - (lo a m).1, (lo a m).2)
    rw [show (0 : Int) - (lo a m).1 = -(lo a m).1 by omega]
  · have h1 : ¬ (lo a m).1 < 0 := by
      intro hn
      have := Int.mul_neg_of_neg_of_pos hn g0
      omega
    rw [if_neg h, if_neg h1]
theorem ltp_lo {a b m : Int} (hm : 0 < m) : ltp (ab (lo a m)) (ab (lo b m)) = decide (absI a < absI b) := by
  rw [ab_lo hm, ab_lo hm]
  unfold ltp
  apply decide_eq_decide.mpr
  rw [lo_less hm hm]
  exact ⟨fun h => Int.lt_of_mul_lt_mul_right h (Int.le_of_lt hm), fun h => Int.mul_lt_mul_of_pos_right h hm⟩
def gx (xs : List Top) (i : Nat) : Top := xs.getD i ("", 0)
theorem gs_tops {m : Nat} (hm : 1 ≤ m) (xs : List Top) (i : Nat) : gs (xs.map (topS1 m)) i = topS1 m (gx xs i) := by
  unfold gs gx
  rw [List.getD_eq_getElem?_getD, List.getD_eq_getElem?_getD, List.getElem?_map]
  cases xs[i]? with
  | none =>
    show (("" : Str), ((0 : Int), (1 : Int))) = (("" : Str), lo 0 m)
    rw [lo_zero (by omega)]
  | some x => rfl
def freesX (xs : List Top) : List Nat := (List.range xs.length).filter fun i => decide ((gx xs i).1 = "")
theorem frees_tops {m : Nat} (hm : 1 ≤ m) (xs : List Top) : frees (xs.map (topS1 m)) = freesX xs := by
  unfold frees freesX
  rw [List.length_map]
  refine List.filter_congr fun i _ => ?_
  rw [gs_tops hm]
  rfl
def pairX (xs : List Top) (i : Nat) : PyData := .tuple [.int (absI (gx xs i).2), .int (i : Nat)]
theorem near_min {m : Nat} (hm : 1 ≤ m) (xs : List Top) : ∀ (l : List Nat) (f : Nat), f < xs.length → l.Pairwise (· < ·) → (∀ i ∈ l, f < i ∧ i < xs.length) →
    ∃ g, g < xs.length ∧ l.foldl (near (xs.map (topS1 m))) f = g ∧ (l.map (pairX xs)).foldl (fun a y => if dataLt y a then y else a) (pairX xs f) = pairX xs g := by
  intro l
  induction l with
  | nil => exact fun f hf _ _ => ⟨f, hf, rfl, rfl⟩
  | cons i l ih =>
    intro f hf hp hl
    obtain ⟨hp1, hp2⟩ := List.pairwise_cons.mp hp
    obtain ⟨hfi, hi⟩ := hl i List.mem_cons_self
    have hd : dataLt (pairX xs i) (pairX xs f) = decide (absI (gx xs i).2 < absI (gx xs f).2) := by
      unfold pairX
      rw [PySem.W.dataLt_ii]
      apply decide_eq_decide.mpr
      omega
    have hn : near (xs.map (topS1 m)) f i = if absI (gx xs i).2 < absI (gx xs f).2 then i else f := by
      unfold near
      rw [gs_tops hm, gs_tops hm, List.length_map]
      show (if f = xs.length ∨ ltp (ab (lo (gx xs i).2 m)) (ab (lo (gx xs f).2 m)) = true then i else f) = _
      rw [ltp_lo (by omega)]
      by_cases h : absI (gx xs i).2 < absI (gx xs f).2
      · rw [if_pos (.inr (decide_eq_true h)), if_pos h]
      · rw [if_neg (by simp [h]; omega), if_neg h]
    rw [List.foldl_cons, List.map_cons, List.foldl_cons, hd, hn]
    by_cases h : absI (gx xs i).2 < absI (gx xs f).2
    · rw [if_pos h, decide_eq_true h]
      exact ih i hi hp2 (fun j hj => ⟨hp1 j hj, (hl j (List.mem_cons_of_mem _ hj)).2⟩)
    · rw [if_neg h, decide_eq_false h]
      exact ih f hf hp2 (fun j hj => hl j (List.mem_cons_of_mem _ hj))
theorem frees_sorted (xs : List Top) : (freesX xs).Pairwise (· < ·) := List.Pairwise.filter _ List.pairwise_lt_range
theorem frees_in {xs : List Top} {i : Nat} (h : i ∈ freesX xs) : i < xs.length ∧ (gx xs i).1 = "" := by
  obtain ⟨h1, h2⟩ := List.mem_filter.mp h
  exact ⟨List.mem_range.mp h1, of_decide_eq_true h2⟩
theorem room_min {m : Nat} (hm : 1 ≤ m) {xs : List Top} {i : Nat} {l : List Nat} (h : freesX xs = i :: l) : minD (pairX xs i) (l.map (pairX xs)) = pairX xs (room (xs.map (topS1 m))) := by
  have hi := (frees_in (xs := xs) (i := i) (by rw [h]; exact List.mem_cons_self)).1
  have hp := frees_sorted xs
  rw [h] at hp
  obtain ⟨hp1, hp2⟩ := List.pairwise_cons.mp hp
  obtain ⟨g, hg, e1, e2⟩ := near_min hm xs l i hi hp2 (fun j hj => ⟨hp1 j hj, (frees_in (xs := xs) (i := j) (by rw [h]; exact List.mem_cons_of_mem _ hj)).1⟩)
  have er : room (xs.map (topS1 m)) = g := by
    unfold room
    rw [frees_tops hm, h, List.foldl_cons]
    have : near (xs.map (topS1 m)) (xs.map (topS1 m)).length i = i := by
      unfold near
      rw [if_pos (.inl rfl)]
    rw [this, e1]
  rw [er]
  exact e2
theorem room_none {m : Nat} (hm : 1 ≤ m) {xs : List Top} (h : freesX xs = []) : room (xs.map (topS1 m)) = xs.length := by
  unfold room
  rw [frees_tops hm, h]
  simp
def roomX (xs : List Top) : Nat := room (xs.map (topS1 1))
theorem room_any {m : Nat} (hm : 1 ≤ m) (xs : List Top) : room (xs.map (topS1 m)) = roomX xs := by
  unfold roomX
  cases h : freesX xs with
  | nil => rw [room_none hm h, room_none (Nat.le_refl 1) h]
  | cons i l =>
    have e1 := room_min hm h
    have e2 := room_min (Nat.le_refl 1) h
    rw [e1] at e2
    unfold pairX at e2
    injection e2 with e2
    injection e2 with _ e2
    injection e2 with e2 _
    injection e2 with e2
    exact Int.ofNat.inj e2
def putX (xs : List Top) (i : Nat) (z : Str) : List Top := xs.take i ++ [(z, (gx xs i).2)] ++ xs.drop (i + 1)
theorem put_tops {m : Nat} (hm : 1 ≤ m) (xs : List Top) (i : Nat) (z : Str) : put (xs.map (topS1 m)) i z = (putX xs i z).map (topS1 m) := by
  unfold put putX
  rw [gs_tops hm, List.map_append, List.map_append, List.map_take, List.map_drop]
  rfl
theorem putX_end (xs : List Top) (z : Str) : putX xs xs.length z = xs ++ [(z, 0)] := by
  unfold putX gx
  rw [List.take_length, List.drop_eq_nil_of_le (by omega), List.append_nil, List.getD_eq_getElem?_getD, List.getElem?_eq_none (Nat.le_refl _)]
  rfl
theorem putX_set {xs : List Top} {i : Nat} {x : Top} {z : Str} (h : xs[i]? = some x) : putX xs i z = xs.set i (z, x.2) := by
  have hi := (List.getElem?_eq_some_iff.mp h).1
  have eg : gx xs i = x := by
    unfold gx
    rw [List.getD_eq_getElem?_getD, h]
    rfl
  unfold putX
  rw [eg, List.set_eq_take_append_cons_drop, if_pos hi, List.append_assoc, List.singleton_append]
/-- seats as lists of a text and a number -/
def SeatsL (H : Hp) (us : List Addr) (xs : List Top) : Prop := us.Nodup ∧ us.length = xs.length ∧ ∀ (i : Nat) (u : Addr), us[i]? = some u → ∃ x, xs[i]? = some x ∧ H u = some (.lst [.str x.1, .int x.2])
theorem SeatsL.sm {H H' : Hp} {us : List Addr} {xs : List Top} (h : SeatsL H us xs) (s : Same H H') : SeatsL H' us xs := ⟨h.1, h.2.1, fun i u e => let ⟨x, a, b⟩ := h.2.2 i u e; ⟨x, a, s _ _ b⟩⟩
theorem SeatsL.x {H H' : Hp} {p : Addr} {us : List Addr} {xs : List Top} (h : SeatsL H us xs) (s : SameX p H H') (hp : PotAt H p) : SeatsL H' us xs := ⟨h.1, h.2.1, fun i u e => by
  obtain ⟨x, a, b⟩ := h.2.2 i u e
  refine ⟨x, a, s _ _ (fun z => ?_) b⟩
  obtain ⟨y1, y2, e1, _⟩ := hp
  rw [z, e1] at b
  cases b⟩
end WS
set_option Elab.async false
set_option linter.all false
set_option maxRecDepth 100000
set_option maxHeartbeats 4000000
namespace WS
open PySem PySem.Spec PyProof.Rows L2
def EntB (K : PySem.W.Frag) (H : Hp) (vs : List V) (xs : List Top) : Prop := vs.length = xs.length ∧ ∀ (i : Nat) (v : V), vs[i]? = some v → ∃ x u, xs[i]? = some x ∧ v = .ref u ∧ (SqL K H u [.str x.1, .int x.2] ∨ SqT K H u [.str x.1, .int x.2])
theorem ixb {K : PySem.W.Frag} {H : Hp} {u : Addr} {xs : List V} {i : Int} {v : V} {Q : VK} (h : SqL K H u xs ∨ SqT K H u xs) (e : atI xs i = some v) (q : Q v H) : rIxL K (.ref u) (.int i) H Q ∨ rIxT K (.ref u) (.int i) H Q := by
  rcases h with h | h
  · exact .inl ⟨u, xs, i, v, rfl, rfl, h, e, q⟩
  · exact .inr ⟨u, xs, i, v, rfl, rfl, h, e, q⟩
theorem SeatsL.get {H : Hp} {us : List Addr} {xs : List Top} (h : SeatsL H us xs) {i : Nat} {v : V} (e : (us.map V.ref)[i]? = some v) : ∃ x u, us[i]? = some u ∧ xs[i]? = some x ∧ v = .ref u ∧ H u = some (.lst [.str x.1, .int x.2]) := by
  rw [List.getElem?_map] at e
  cases eu : us[i]? with
  | none => rw [eu] at e; cases e
  | some u =>
    rw [eu] at e
    obtain ⟨x, a, b⟩ := h.2.2 i u eu
    exact ⟨x, u, rfl, a, (Option.some.inj e).symm, b⟩
theorem SeatsL.ent {K : PySem.W.Frag} {H : Hp} {us : List Addr} {xs : List Top} (h : SeatsL H us xs) : EntB K H (us.map V.ref) xs := by
  refine ⟨by rw [List.length_map]; exact h.2.1, fun i v e => ?_⟩
  obtain ⟨x, u, _, e1, rfl, hu⟩ := h.get e
  exact ⟨x, u, e1, rfl, .inl (.inl (.inl hu))⟩
def spPairL (K : PySem.W.Frag) : Sp := fun vs H Q _ => ∃ (W : Int) (L : Addr) (us : List Addr) (xs : List Top) (m : Nat), vs = [.int W, .ref L, .int m] ∧ SqL K H L (us.map V.ref) ∧ SeatsL H us xs ∧ 1 ≤ m ∧ m ≤ 100 ∧ xs.length ≤ 100 ∧ ∀ v' H', Same H H' → Dp K H' v' (momD W (xs.map (topS1 m))) → Q v' H'
def spRoomB (K : PySem.W.Frag) : Sp := fun vs H Q _ => ∃ (L : Addr) (us : List V) (xs : List Top), vs = [.ref L] ∧ SqL K H L us ∧ EntB K H us xs ∧ xs.length ≤ 100 ∧ ∀ H', Same H H' → Q (.int (roomX xs : Nat)) H'
def spTopsB (K : PySem.W.Frag) : Sp := fun vs H Q _ => ∃ (v : V) (W : Int) (xs : List Top) (m : Nat), vs = [v, .int m] ∧ Dp K H v (momD W (xs.map (topS1 m))) ∧ 1 ≤ m ∧ m ≤ 100 ∧ xs.length ≤ 100 ∧ (∀ x ∈ xs, Bt 110 x.2) ∧ ∀ L us H', Same H H' → H' L = some (.lst us) → EntB K H' us xs → Q (.ref L) H'
def Fr (S : List Addr) (H H' : Hp) : Prop := ∀ b o, b ∉ S → H b = some o → H' b = some o
def OkT (xs : List Top) : Prop := xs.length ≤ 30 ∧ ∀ x ∈ xs, Nm0 x.1 ∧ Bt 110 x.2
def Club (K : PySem.W.Frag) (H : Hp) (L : Addr) (us : List Addr) (xs : List Top) (m : Nat) (W : Int) (v : V) : Prop := H L = some (.lst (us.map V.ref)) ∧ SeatsL H us xs ∧ OkT xs ∧ (names (xs.map (topS1 m))).Nodup ∧ Dp K H v (momD W (xs.map (topS1 m)))
theorem Club.sm {K : PySem.W.Frag} {H H' : Hp} {L : Addr} {us : List Addr} {xs : List Top} {m : Nat} {W : Int} {v : V} (h : Club K H L us xs m W v) (s : Same H H') : Club K H' L us xs m W v := ⟨s _ _ h.1, h.2.1.sm s, h.2.2.1, h.2.2.2.1, h.2.2.2.2.sm s⟩
theorem SeatsL.nL {H : Hp} {L : Addr} {us vs : List Addr} {xs : List Top} (h : SeatsL H us xs) (hL : H L = some (.lst (vs.map V.ref))) : L ∉ us := fun hm => by
  obtain ⟨i, hi⟩ := List.mem_iff_getElem?.mp hm
  obtain ⟨x, _, b⟩ := h.2.2 i L hi
  rw [hL] at b
  cases vs with
  | nil => cases b
  | cons a l => simp at b
theorem SeatsL.nS {H : Hp} {D : Addr} {us : List Addr} {xs : List Top} {zs : List Str} (h : SeatsL H us xs) (hD : H D = some (.lst (zs.map V.str))) : D ∉ us := fun hm => by
  obtain ⟨i, hi⟩ := List.mem_iff_getElem?.mp hm
  obtain ⟨x, _, b⟩ := h.2.2 i D hi
  rw [hD] at b
  match zs, b with
  | [], b => cases b
  | [a], b => simp at b
  | a :: c :: l, b => simp at b
theorem SeatsL.nP {H : Hp} {p : Addr} {us : List Addr} {xs : List Top} (h : SeatsL H us xs) (hp : PotAt H p) : p ∉ us := fun hm => by
  obtain ⟨i, hi⟩ := List.mem_iff_getElem?.mp hm
  obtain ⟨x, _, b⟩ := h.2.2 i p hi
  obtain ⟨y1, y2, e1, _⟩ := hp
  rw [e1] at b
  cases b
theorem nLp {H : Hp} {L p : Addr} {us : List Addr} (hL : H L = some (.lst (us.map V.ref))) (hp : PotAt H p) : L ≠ p := fun z => by
  obtain ⟨y1, y2, e1, _⟩ := hp
  rw [z, e1] at hL
  cases us with
  | nil => cases hL
  | cons a l => simp at hL
theorem nSp {H : Hp} {L p : Addr} {zs : List Str} (hL : H L = some (.lst (zs.map V.str))) (hp : PotAt H p) : L ≠ p := fun z => by
  obtain ⟨y1, y2, e1, _⟩ := hp
  rw [z, e1] at hL
  cases zs with
  | nil => cases hL
  | cons a l => simp at hL
theorem Club.x {K : PySem.W.Frag} {H H' : Hp} {p L : Addr} {us : List Addr} {xs : List Top} {m : Nat} {W : Int} {v : V} (h : Club K H L us xs m W v) (s : SameX p H H') (hp : PotAt H p) : Club K H' L us xs m W v := ⟨s _ _ (nLp h.1 hp) h.1, h.2.1.x s hp, h.2.2.1, h.2.2.2.1, h.2.2.2.2.kt (kt_x s hp) (mom_imm _ _)⟩
theorem nd_come {ss : List Seat} {z : Str} (nd : (names ss).Nodup) (hz : Nm z) (hn : z ∉ names ss) : (names (put ss (room ss) z)).Nodup := by
  rw [names_put, if_neg (nm_ne hz)]
  have key : names ss = names (ss.take (room ss)) ++ names (ss.drop (room ss + 1)) := by
    by_cases hr : room ss < ss.length
    · rw [names_split ss _ hr]
      have : names [gs ss (room ss)] = [] := by
        unfold names
        simp [room_free hr]
      rw [this, List.append_nil]
    · have hr' : room ss = ss.length := by have := room_le ss; omega
      rw [hr', List.take_length, List.drop_eq_nil_of_le (by omega)]
      show _ = _ ++ []
      rw [List.append_nil]
  rw [key] at nd hn
  rw [List.append_assoc, List.singleton_append, List.perm_middle.nodup_iff, List.nodup_cons]
  exact ⟨hn, nd⟩
theorem nd_leave {ss : List Seat} {i : Nat} (nd : (names ss).Nodup) (hi : i < ss.length) : (names (put ss i "")).Nodup := by
  rw [names_put, if_pos rfl, List.append_nil]
  rw [names_split ss i hi] at nd
  refine nd.sublist ?_
  rw [List.append_assoc]
  exact List.Sublist.append_left (List.sublist_append_right _ _) _
theorem names_put_sub {ss : List Seat} {i : Nat} {z y : Str} (h : y ∈ names (put ss i z)) : y ∈ names ss ∨ y = z := by
  obtain ⟨hne, s, hs, rfl⟩ := names_mem.mp h
  rcases put_mem hs with h | rfl
  · exact .inl (names_mem.mpr ⟨hne, s, h, rfl⟩)
  · exact .inr rfl
theorem putX_mem {xs : List Top} {i : Nat} {z : Str} {x : Top} (h : x ∈ putX xs i z) : x ∈ xs ∨ x = (z, (gx xs i).2) := by
  unfold putX at h
  rcases List.mem_append.mp h with h | h
  · rcases List.mem_append.mp h with h | h
    · exact .inl (List.mem_of_mem_take h)
    · exact .inr (List.mem_singleton.mp h)
  · exact .inl (List.mem_of_mem_drop h)
theorem gx_bt {xs : List Top} (h : ∀ x ∈ xs, Nm0 x.1 ∧ Bt 110 x.2) (i : Nat) : Bt 110 (gx xs i).2 := by
  unfold gx
  rw [List.getD_eq_getElem?_getD]
  cases e : xs[i]? with
  | none => show Bt 110 0; unfold Bt; decide +kernel
  | some x => exact (h x (List.mem_of_getElem? e)).2
theorem okT_put {xs : List Top} {i : Nat} {z : Str} (h : OkT xs) (hz : Nm0 z) (hl : (putX xs i z).length ≤ 30) : OkT (putX xs i z) := ⟨hl, fun x hx => by
  rcases putX_mem hx with h' | rfl
  · exact h.2 x h'
  · exact ⟨hz, gx_bt h.2 i⟩⟩
theorem putX_len {xs : List Top} {i : Nat} {z : Str} (h : i ≤ xs.length) : (putX xs i z).length = if i < xs.length then xs.length else xs.length + 1 := by
  unfold putX
  simp only [List.length_append, List.length_take, List.length_drop, List.length_cons, List.length_nil]
  split <;> omega
theorem roomX_le (xs : List Top) : roomX xs ≤ xs.length := by
  have := room_le (xs.map (topS1 1))
  rw [List.length_map] at this
  exact this
theorem mom_sh {W : Int} {ss : List Seat} (hW : Bt 140 W) (hl : ss.length ≤ 30) (ok : ∀ s ∈ ss, Nm0 s.1 ∧ Okp 120 s.2) : Sh 40000 5 (momD W ss) := by
  have h1 : Sh 15122 4 (.tuple (ss.map seatD)) := by
    refine (Sh.tup (n := 502) (k := 3) (m := 30) (fun d hd => ?_) (by rw [List.length_map]; exact hl)).mono (by omega) (Nat.le_refl _)
    obtain ⟨s, hs, rfl⟩ := List.mem_map.mp hd
    refine (Sh.tup (n := 248) (k := 2) (m := 2) (ds := [.str s.1, pdP s.2]) (fun d hd => ?_) (Nat.le_refl 2)).mono (by omega) (Nat.le_refl _)
    simp only [List.mem_cons, List.not_mem_nil, or_false] at hd
    rcases hd with rfl | rfl
    · exact (nm_sh (ok s hs).1).mono (by omega) (by omega)
    · exact (Sh.pd (m := 120) (by decide) (by decide) (ok s hs).2.2.1 (ok s hs).2.2.2).mono (by omega) (Nat.le_refl _)
  unfold momD
  refine (Sh.tup (n := 15122) (k := 4) (m := 2) (ds := [.int W, .tuple (ss.map seatD)]) (fun d hd => ?_) (Nat.le_refl 2)).mono (by omega) (Nat.le_refl _)
  simp only [List.mem_cons, List.not_mem_nil, or_false] at hd
  rcases hd with rfl | rfl
  · exact (Sh.int (m := 140) (by decide) (by decide) hW).mono (by omega) (by omega)
  · exact h1
theorem okT_seats {xs : List Top} {m : Nat} (h : OkT xs) (m1 : 1 ≤ m) (m2 : m ≤ 100) : ∀ s ∈ xs.map (topS1 m), Nm0 s.1 ∧ Okp 120 s.2 := fun s hs => by
  obtain ⟨x, hx, rfl⟩ := List.mem_map.mp hs
  obtain ⟨h1, h2⟩ := h.2 x hx
  have bm : Bt 110 ((m : Nat) : Int) := Bt.of_lt (by omega) (by omega)
  exact ⟨h1, (lo_lowest (by omega)).1, (h2.lo1).mono (by decide), (bm.lo2).mono (by decide)⟩
theorem top_sh {W : Int} {xs : List Top} {m : Nat} (hW : Bt 140 W) (h : OkT xs) (m1 : 1 ≤ m) (m2 : m ≤ 100) : (momD W (xs.map (topS1 m))).showable = true ∧ (momD W (xs.map (topS1 m))).hasDict = false ∧ (momD W (xs.map (topS1 m))).depth ≤ 60 ∧ (momD W (xs.map (topS1 m))).shown.length ≤ sizeLine :=
  (mom_sh hW (by rw [List.length_map]; exact h.1) (okT_seats h m1 m2)).ok (by decide) (by decide)
theorem okm_top {xs : List Top} {m : Nat} (h : OkT xs) (m1 : 1 ≤ m) (m2 : m ≤ 100) : Okm 4400 (xs.map (topS1 m)) := ⟨by rw [List.length_map]; have := h.1; omega, fun s hs => (okT_seats h m1 m2 s hs).2.mono (by decide)⟩
/-- a seat more, in the lists -/
theorem club_new {K : PySem.W.Frag} {H : Hp} {L u : Addr} {us : List Addr} {xs : List Top} {m : Nat} {W : Int} {v v' : V} {z : Str} (h : Club K H L us xs m W v) (hl : xs.length < 30) (hz : Nm z) (nd : (names ((putX xs xs.length z).map (topS1 m))).Nodup) (nu : H u = none)
    (d : Dp K H v' (momD W ((putX xs xs.length z).map (topS1 m)))) : Club K (upd (upd H u (.lst [.str z, .int 0])) L (.lst (us.map V.ref ++ [.ref u]))) L (us ++ [u]) (putX xs xs.length z) m W v' ∧ KT H (upd (upd H u (.lst [.str z, .int 0])) L (.lst (us.map V.ref ++ [.ref u]))) := by
  obtain ⟨hL, hS, hO, _, _⟩ := h
  have nLu : L ≠ u := ne_of_none hL nu
  have hL2 : upd H u (.lst [.str z, .int 0]) L = some (.lst (us.map V.ref)) := by rw [upd_ne nLu]; exact hL
  have k : KT H (upd (upd H u (.lst [.str z, .int 0])) L (.lst (us.map V.ref ++ [.ref u]))) := (kt_new nu).trans (kt_set hL2)
  have nLs := hS.nL hL
  have nus : u ∉ us := fun hm => by
    obtain ⟨i, hi⟩ := List.mem_iff_getElem?.mp hm
    obtain ⟨x, _, b⟩ := hS.2.2 i u hi
    rw [nu] at b
    cases b
  refine ⟨⟨by rw [upd_same, List.map_append]; rfl, ⟨?_, ?_, fun i w e => ?_⟩, okT_put hO (.inr hz) (by rw [putX_end]; simp; omega), nd, d.kt k (mom_imm _ _)⟩, k⟩
  · rw [List.nodup_append]
    exact ⟨hS.1, List.nodup_cons.mpr ⟨List.not_mem_nil, List.nodup_nil⟩, fun a ha b hb e => nus (by rw [List.mem_singleton.mp hb] at e; exact e ▸ ha)⟩
  · rw [putX_end]
    simp [hS.2.1]
  · rw [putX_end]
    by_cases hi : i < us.length
    · rw [List.getElem?_append_left hi] at e
      obtain ⟨x, a, b⟩ := hS.2.2 i w e
      have hw := List.mem_of_getElem? e
      refine ⟨x, by rw [List.getElem?_append_left (by rw [← hS.2.1]; exact hi)]; exact a, ?_⟩
      rw [upd_ne (fun (q : w = L) => nLs (q ▸ hw)), upd_ne (fun (q : w = u) => nus (q ▸ hw))]
      exact b
    · have hi2 : i = us.length := by
        have := (List.getElem?_eq_some_iff.mp e).1
        simp at this
        omega
      subst hi2
      rw [List.getElem?_append_right (Nat.le_refl _)] at e
      obtain rfl : u = w := by simpa using e
      refine ⟨(z, 0), by rw [hS.2.1]; simp, ?_⟩
      rw [upd_ne nLu.symm, upd_same]
/-- a seat taken or left, in the lists -/
theorem club_set {K : PySem.W.Frag} {H : Hp} {L u : Addr} {us : List Addr} {xs : List Top} {m i : Nat} {W : Int} {v v' : V} {z : Str} {x : Top} (h : Club K H L us xs m W v) (hz : Nm0 z) (nd : (names ((putX xs i z).map (topS1 m))).Nodup) (eu : us[i]? = some u) (ex : xs[i]? = some x) (hu : H u = some (.lst [.str x.1, .int x.2]))
    (d : Dp K H v' (momD W ((putX xs i z).map (topS1 m)))) : Club K (upd H u (.lst [.str z, .int x.2])) L us (putX xs i z) m W v' ∧ KT H (upd H u (.lst [.str z, .int x.2])) := by
  obtain ⟨hL, hS, hO, _, _⟩ := h
  have k : KT H (upd H u (.lst [.str z, .int x.2])) := kt_set hu
  have nLs := hS.nL hL
  have hx := (List.getElem?_eq_some_iff.mp ex).1
  refine ⟨⟨by rw [upd_ne (fun (q : L = u) => nLs (q.symm ▸ List.mem_of_getElem? eu))]; exact hL, ⟨hS.1, ?_, fun j w e => ?_⟩, okT_put hO hz (by rw [putX_len (by omega), if_pos hx]; exact hO.1), nd, d.kt k (mom_imm _ _)⟩, k⟩
  · rw [putX_len (by omega), if_pos hx]
    exact hS.2.1
  · rw [putX_set ex]
    by_cases hj : j = i
    · subst hj
      rw [eu] at e
      obtain rfl := Option.some.inj e
      exact ⟨(z, x.2), List.getElem?_set_self hx, upd_same⟩
    · obtain ⟨y, a, b⟩ := hS.2.2 j w e
      refine ⟨y, by rw [List.getElem?_set_ne (Ne.symm hj)]; exact a, ?_⟩
      rw [upd_ne]
      · exact b
      · intro q
        subst q
        obtain ⟨h1, e1⟩ := List.getElem?_eq_some_iff.mp e
        obtain ⟨h2, e2⟩ := List.getElem?_eq_some_iff.mp eu
        exact hj ((List.getElem_inj hS.1).mp (e1.trans e2.symm))
def spComes (K : PySem.W.Frag) : Sp := fun vs H Q _ => ∃ (W : Int) (L : Addr) (us : List Addr) (xs : List Top) (m : Nat) (v : V) (z : Str), vs = [.int W, .ref L, .int m, v, .str z] ∧ Club K H L us xs m W v ∧ 1 ≤ m ∧ m ≤ 100 ∧ xs.length < 30 ∧ Bt 140 W ∧ Nm z ∧ z ∉ names (xs.map (topS1 m)) ∧
  ∀ v' us' H', Club K H' L us' (putX xs (roomX xs) z) m W v' → Fr (L :: us) H H' → KT H H' → (∀ u ∈ us', u ∈ us ∨ H u = none) → Q v' H'
def spGoes (K : PySem.W.Frag) : Sp := fun vs H Q _ => ∃ (W : Int) (L : Addr) (us : List Addr) (xs : List Top) (m : Nat) (v : V) (i : Nat), vs = [.int W, .ref L, .int m, v, .int i] ∧ Club K H L us xs m W v ∧ 1 ≤ m ∧ m ≤ 100 ∧ Bt 140 W ∧ i < xs.length ∧ (gx xs i).1 ≠ "" ∧
  ∀ v' H', Club K H' L us (putX xs i "") m W v' → Fr (L :: us) H H' → KT H H' → Q v' H'
def spStart (K : PySem.W.Frag) : Sp := fun vs H Q _ => ∃ (p D N : Addr) (ns : List Int) (zs : List Str), vs = [.ref p, .ref D, .ref N] ∧ PotAt H p ∧ D ≠ p ∧ N ≠ p ∧ SqL K H D (ns.map V.int) ∧ SqL K H N (zs.map V.str) ∧ 1 ≤ ns.length ∧ ns.length ≤ 20 ∧ ns.length ≤ zs.length ∧ (∀ x ∈ ns, Bt 110 x) ∧ (∀ z ∈ zs, Nm z) ∧
  ∀ L us xs H', H L = none → H' L = some (.lst (us.map V.ref)) → SeatsL H' us xs → (∀ u ∈ us, H u = none) → OkT xs → xs.length = ns.length → ((xs.map Prod.fst).filter nz).Sublist (zs.take ns.length) → SameX p H H' → PotAt H' p → Q (.ref L) H'
theorem tops_back {t m : Int} (hm : 0 < m) : (lo t m).1 * (m / (lo t m).2) = t := by
  have e2 := lo_snd t m
  have p := (lo_lowest (a := t) hm).1
  have e : m / (lo t m).2 = (Int.gcd t m : Int) := by
    have : m = (lo t m).2 * (Int.gcd t m : Int) := e2.symm
    conv => lhs; lhs; rw [this]
    exact Int.mul_ediv_cancel_left _ (by omega)
  rw [e]
  exact lo_fst t m
theorem shaped_pairs (xs : List Top) (l : List Nat) : SeqAt.shaped (.list (l.map (pairX xs))) = true := by
  have d : ∀ l : List Nat, PyData.depthAll (l.map (pairX xs)) ≤ 2 ∧ PyData.canLayAll0 (l.map (pairX xs)) = true := by
    intro l
    induction l with
    | nil => exact ⟨Nat.zero_le _, rfl⟩
    | cons z l ih =>
      refine ⟨?_, ?_⟩
      · have := ih.1
        simp only [List.map_cons, PyData.depthAll, pairX, PyData.depth]
        omega
      · show (true && PyData.canLayAll0 (l.map (pairX xs))) = true
        rw [ih.2]
        rfl
  unfold SeqAt.shaped
  rw [Bool.and_eq_true]
  refine ⟨(d l).2, decide_eq_true ?_⟩
  have := (d l).1
  simp only [PyData.depth]
  omega
theorem pairs_alike (xs : List Top) (l : List Nat) : PySem.W.AlikeAll (l.map (pairX xs)) ∧ PyData.depthAll (l.map (pairX xs)) ≤ 50 := by
  refine ⟨⟨fun x hx y hy => ?_, fun x hx => ?_⟩, ?_⟩
  · obtain ⟨a, _, rfl⟩ := List.mem_map.mp hx
    obtain ⟨b, _, rfl⟩ := List.mem_map.mp hy
    simp [pairX, PySem.W.alike, PySem.W.alikeAll]
  · obtain ⟨a, _, rfl⟩ := List.mem_map.mp hx
    intro z
    cases z
  · induction l with
    | nil => exact Nat.zero_le _
    | cons z l ih =>
      simp only [List.map_cons, PyData.depthAll, pairX, PyData.depth]
      omega
theorem pairs_imm (xs : List Top) (l : List Nat) : immAll (l.map (pairX xs)) = true := immAll_map (fun _ => rfl) l
theorem TopsAt.add {K : PySem.W.Frag} {H : Hp} {vs : List V} {xs : List Top} {x : Top} {u : Addr} (h : TopsAt K H vs xs) (hu : SqT K H u [.str x.1, .int x.2]) : TopsAt K H (vs ++ [.ref u]) (xs ++ [x]) := by
  refine ⟨by simp [h.1], fun i v e => ?_⟩
  by_cases hi : i < vs.length
  · rw [List.getElem?_append_left hi] at e
    obtain ⟨y, a, e1, e2, e3⟩ := h.2 i v e
    exact ⟨y, a, by rw [List.getElem?_append_left (by rw [← h.1]; exact hi)]; exact e1, e2, e3⟩
  · have hi2 : i = vs.length := by
      have := (List.getElem?_eq_some_iff.mp e).1
      simp at this
      omega
    subst hi2
    rw [List.getElem?_append_right (Nat.le_refl _)] at e
    obtain rfl : V.ref u = v := by simpa using e
    exact ⟨x, u, by rw [h.1]; simp, rfl, hu⟩
theorem TopsAt.ent {K : PySem.W.Frag} {H : Hp} {vs : List V} {xs : List Top} (h : TopsAt K H vs xs) : EntB K H vs xs := ⟨h.1, fun i v e => let ⟨x, u, a, b, c⟩ := h.2 i v e; ⟨x, u, a, b, .inr c⟩⟩
end WS
set_option Elab.async false
set_option linter.all false
set_option maxRecDepth 100000
set_option maxHeartbeats 4000000
namespace WS
open PySem PySem.Spec PyProof.Rows L2
/-- what stays between the turns -/
def LI (K : PySem.W.Frag) (H : Hp) (p L Dl : Addr) (m : Nat) (W : Int) (v0 : V) (xs0 : List Top) (n : Nat) (H' : Hp) (v : V) : Prop := ∃ (us : List Addr) (xs : List Top) (left : List Str), Club K H' L us xs m W v ∧ H' Dl = some (.lst (left.map V.str)) ∧ left.Nodup ∧ (∀ z ∈ left, Nm z ∧ z ∉ names (xs.map (topS1 m))) ∧ PotAt H' p ∧ Dp K H' v0 (momD W (xs0.map (topS1 m))) ∧ left.length + n = m + 8 ∧ xs.length ≤ m + n ∧ SameX p H H' ∧ (∀ u ∈ us, H u = none)
theorem LI.sm {K : PySem.W.Frag} {H H' H'' : Hp} {p L Dl : Addr} {m : Nat} {W : Int} {v0 v : V} {xs0 : List Top} {n : Nat} (h : LI K H p L Dl m W v0 xs0 n H' v) (s : Same H' H'') : LI K H p L Dl m W v0 xs0 n H'' v := by
  obtain ⟨us, xs, left, c, d, e, f, g, i, j, k, l, o⟩ := h
  exact ⟨us, xs, left, c.sm s, s _ _ d, e, f, g.same s, i.sm s, j, k, l.trans (Same.x s), o⟩
theorem LI.x {K : PySem.W.Frag} {H H' H'' : Hp} {p L Dl : Addr} {m : Nat} {W : Int} {v0 v : V} {xs0 : List Top} {n : Nat} (h : LI K H p L Dl m W v0 xs0 n H' v) (s : SameX p H' H'') (hp : PotAt H'' p) : LI K H p L Dl m W v0 xs0 n H'' v := by
  obtain ⟨us, xs, left, c, d, e, f, g, i, j, k, l, o⟩ := h
  exact ⟨us, xs, left, c.x s g, s _ _ (nSp d g) d, e, f, hp, i.kt (kt_x s g) (mom_imm _ _), j, k, l.trans s, o⟩
theorem Club.set {K : PySem.W.Frag} {H : Hp} {L D : Addr} {us : List Addr} {xs : List Top} {m : Nat} {W : Int} {v : V} {ys zs : List V} (h : Club K H L us xs m W v) (hD : H D = some (.lst ys)) (nL : D ≠ L) (nu : D ∉ us) : Club K (upd H D (.lst zs)) L us xs m W v :=
  ⟨by rw [upd_ne nL.symm]; exact h.1, ⟨h.2.1.1, h.2.1.2.1, fun i u e => by
    obtain ⟨x, a, b⟩ := h.2.1.2.2 i u e
    exact ⟨x, a, by rw [upd_ne (fun (q : u = D) => nu (q ▸ List.mem_of_getElem? e))]; exact b⟩⟩, h.2.2.1, h.2.2.2.1, h.2.2.2.2.kt (kt_set hD) (mom_imm _ _)⟩
/-- behind a coming -/
theorem LI.come {K : PySem.W.Frag} {H H' H'' : Hp} {p L Dl : Addr} {m : Nat} {W : Int} {v0 v v' : V} {xs0 : List Top} {n : Nat} {us us' : List Addr} {xs : List Top} {z : Str} {left : List Str} (nHL : H L = none) (nHD : H Dl = none) (nLD : L ≠ Dl) (m1 : 1 ≤ m) (hn : m + n + 1 ≤ 30)
    (C : Club K H' L us xs m W v) (hD : H' Dl = some (.lst ((z :: left).map V.str))) (nd : (z :: left).Nodup) (hz : ∀ y ∈ z :: left, Nm y ∧ y ∉ names (xs.map (topS1 m))) (px : PotAt H' p) (d0 : Dp K H' v0 (momD W (xs0.map (topS1 m)))) (hl : (z :: left).length + n = m + 8) (hx : xs.length ≤ m + n) (sx : SameX p H H') (hu : ∀ u ∈ us, H u = none)
    (C' : Club K H'' L us' (putX xs (roomX xs) z) m W v') (fr : Fr (L :: us) (upd H' Dl (.lst (left.map V.str))) H'') (kt : KT (upd H' Dl (.lst (left.map V.str))) H'') (hu' : ∀ u ∈ us', u ∈ us ∨ upd H' Dl (.lst (left.map V.str)) u = none) : LI K H p L Dl m W v0 xs0 (n + 1) H'' v' := by
  have nDs := C.2.1.nS hD
  have nDp := nSp hD px
  have nLp' := nLp C.1 px
  have npu := C.2.1.nP px
  have k1 : KT H' (upd H' Dl (.lst (left.map V.str))) := kt_set hD
  have nd' := List.nodup_cons.mp nd
  refine ⟨us', _, left, C', ?_, nd'.2, fun y hy => ?_, ?_, (d0.kt k1 (mom_imm _ _)).kt kt (mom_imm _ _), by simp at hl; omega, ?_, fun b o nb e => ?_, fun u hm => ?_⟩
  · exact fr _ _ (fun q => by
      rcases List.mem_cons.mp q with h | h
      · exact nLD h.symm
      · exact nDs h) upd_same
  · obtain ⟨h1, h2⟩ := hz y (List.mem_cons_of_mem _ hy)
    refine ⟨h1, fun hm => ?_⟩
    rw [← put_tops m1] at hm
    rcases names_put_sub hm with h | h
    · exact h2 h
    · exact nd'.1 (h ▸ hy)
  · obtain ⟨y1, y2, e1, r⟩ := px
    refine ⟨y1, y2, fr _ _ (fun q => ?_) (by rw [upd_ne nDp.symm]; exact e1), r⟩
    rcases List.mem_cons.mp q with h | h
    · exact nLp' h.symm
    · exact npu h
  · rw [putX_len (roomX_le xs)]
    split <;> omega
  · have hb : b ∉ L :: us := fun q => by
      rcases List.mem_cons.mp q with h | h
      · rw [h, nHL] at e; cases e
      · rw [hu b h] at e; cases e
    refine fr b o hb ?_
    rw [upd_ne (fun (q : b = Dl) => by rw [q, nHD] at e; cases e)]
    exact sx b o nb e
  · rcases hu' u hm with h | h
    · exact hu u h
    · by_cases hup : u = p
      · rw [hup, upd_ne nDp.symm] at h
        obtain ⟨y1, y2, e1, _⟩ := px
        rw [e1] at h
        cases h
      · by_cases huD : u = Dl
        · rw [huD]; exact nHD
        · rw [upd_ne huD] at h
          exact samex_none sx hup h
/-- behind a leaving -/
theorem LI.go {K : PySem.W.Frag} {H H' H'' : Hp} {p L Dl : Addr} {m : Nat} {W : Int} {v0 v v' : V} {xs0 : List Top} {n i : Nat} {us : List Addr} {xs : List Top} {left : List Str} (nHL : H L = none) (nLD : L ≠ Dl) (m1 : 1 ≤ m) (hi : i < xs.length)
    (C : Club K H' L us xs m W v) (hD : H' Dl = some (.lst (left.map V.str))) (nd : left.Nodup) (hz : ∀ y ∈ left, Nm y ∧ y ∉ names (xs.map (topS1 m))) (px : PotAt H' p) (d0 : Dp K H' v0 (momD W (xs0.map (topS1 m)))) (hl : left.length + n = m + 8) (hx : xs.length ≤ m + n) (sx : SameX p H H') (hu : ∀ u ∈ us, H u = none)
    (C' : Club K H'' L us (putX xs i "") m W v') (fr : Fr (L :: us) H' H'') (kt : KT H' H'') : LI K H p L Dl m W v0 xs0 n H'' v' := by
  have nDs := C.2.1.nS hD
  have nDp := nSp hD px
  have nLp' := nLp C.1 px
  have npu := C.2.1.nP px
  refine ⟨us, _, left, C', ?_, nd, fun y hy => ?_, ?_, d0.kt kt (mom_imm _ _), hl, ?_, fun b o nb e => ?_, hu⟩
  · exact fr _ _ (fun q => by
      rcases List.mem_cons.mp q with h | h
      · exact nLD h.symm
      · exact nDs h) hD
  · obtain ⟨h1, h2⟩ := hz y hy
    refine ⟨h1, fun hm => ?_⟩
    rw [← put_tops m1] at hm
    rcases names_put_sub hm with h | h
    · exact h2 h
    · exact nm_ne h1 h
  · obtain ⟨y1, y2, e1, r⟩ := px
    refine ⟨y1, y2, fr _ _ (fun q => ?_) e1, r⟩
    rcases List.mem_cons.mp q with h | h
    · exact nLp' h.symm
    · exact npu h
  · rw [putX_len (by omega), if_pos hi]
    exact hx
  · have hb : b ∉ L :: us := fun q => by
      rcases List.mem_cons.mp q with h | h
      · rw [h, nHL] at e; cases e
      · rw [hu b h] at e; cases e
    exact fr b o hb (sx b o nb e)
theorem LI.more {K : PySem.W.Frag} {H H' : Hp} {p L Dl : Addr} {m : Nat} {W : Int} {v0 v : V} {xs0 : List Top} {n : Nat} (h : LI K H p L Dl m W v0 xs0 n H' v) : ∃ t, v = .ref t := by
  obtain ⟨us, xs, left, c, _⟩ := h
  obtain ⟨t, _, rfl, _⟩ := dp_tup c.2.2.2.2
  exact ⟨t, rfl⟩
theorem shaped_nats (l : List Nat) : SeqAt.shaped (.list (l.map fun j : Nat => PyData.int j)) = true := by
  have d : ∀ l : List Nat, PyData.depthAll (l.map fun j : Nat => PyData.int j) ≤ 1 ∧ PyData.canLayAll0 (l.map fun j : Nat => PyData.int j) = true := by
    intro l
    induction l with
    | nil => exact ⟨Nat.zero_le _, rfl⟩
    | cons z l ih =>
      refine ⟨?_, ?_⟩
      · have := ih.1
        simp only [List.map_cons, PyData.depthAll, PyData.depth]
        omega
      · show (true && PyData.canLayAll0 (l.map fun j : Nat => PyData.int j)) = true
        rw [ih.2]
        rfl
  unfold SeqAt.shaped
  rw [Bool.and_eq_true]
  refine ⟨(d l).2, decide_eq_true ?_⟩
  have := (d l).1
  simp only [PyData.depth]
  omega
end WS
set_option Elab.async false
set_option linter.all false
set_option maxRecDepth 100000
set_option maxHeartbeats 4000000
namespace WS
open PySem PySem.Spec PyProof.Rows L2
/-! sorted by a key function that calls a def -/
open PySem.W in
theorem keyJ_rest {prog : Program} {w : World} {A : Around} {E : Value → Shared → Prop} {s : Shared} {a kS : Addr} {b : Bool} {vs : List Value} {kz : List Int} {e1 : Nat} {P : PySem.Fin → Shared → Prop} {f : Value} (J : Shared → Prop) (hJ : J s)
    (nk : s.heap.get? kS = some (seqObj "list" #[] 0)) (na : s.heap.get? a = some (seqObj "list" #[] e1)) (hka : kS ≠ a) (hlen : kz.length = vs.length) (hZ : vs.length ≤ sizeLine) (hu : A.units + 1 < cLine)
    (Jw : ∀ s₁ h' tk, J s₁ → (∀ b o, b ≠ kS → s₁.heap.get? b = some o → h'.get? b = some o) → J { s₁ with heap := h', toks := tk })
    (turn : ∀ (i : Nat) (v : Value) (k : Int), vs[i]? = some v → kz[i]? = some k → ∀ s₁ ok oa, J s₁ → s₁.heap.get? kS = some ok → s₁.heap.get? a = some oa → (∀ v, ok.data ≠ .cell v) → (∀ v, oa.data ≠ .cell v) →
      wpAny (model prog w) A (call f [v]) (fun u s₂ => (∃ t, u = .int k t) ∧ J s₂ ∧ s₂.heap.get? kS = some ok ∧ s₂.heap.get? a = some oa) (fun _ _ => False) s₁)
    (h : ∀ s₂ h' tk out c, J s₂ → (∀ b o, b ≠ kS → b ≠ a → s₂.heap.get? b = some o → h'.get? b = some o) → h'.get? a = some (seqObj "list" (List.toArray out) c) → KeyedOut b (kz.map PyData.int) vs out → P (.done (.ret .none)) { s₂ with heap := h', toks := tk }) :
    wpAny (model prog w) A (ksk_rest a f b vs.toArray e1 (.ref kS)) P E s := by
  have hal : AllAlike (kz.map PyData.int) := fun d hd d' hd' => by
    obtain ⟨x, _, rfl⟩ := List.mem_map.mp hd
    obtain ⟨y, _, rfl⟩ := List.mem_map.mp hd'
    rfl
  have hsk : Sortable (kz.map PyData.int) := .inr fun d hd => by
    obtain ⟨x, _, rfl⟩ := List.mem_map.mp hd
    exact ⟨(fun z => by cases z), (fun xs z => by cases z)⟩
  unfold ksk_rest
  refine wpAny_bind (wpAny_rule ?_)
  rw [List.forIn_toArray]
  refine wpAny_bind (ksk_fold (fun i s' => ∃ kA e, J s' ∧ s'.heap.get? kS = some (seqObj "list" kA e) ∧ s'.heap.get? a = some (seqObj "list" #[] e1) ∧ EachIs (fun v (k : Int) => ∃ t, v = Value.int k t) kA.toList (kz.take i)) vs 0 s
    ⟨#[], 0, hJ, nk, na, by rw [List.take_zero]; exact EachIs.nil⟩ ?step ?done)
  case step =>
    rintro j x s' hx ⟨kA, e, j', nk', na', hk⟩
    simp only [Nat.zero_add] at hk ⊢
    have hj : j < vs.length := (List.getElem?_eq_some_iff.mp hx).1
    obtain ⟨k, hkj⟩ : ∃ k, kz[j]? = some k := ⟨_, List.getElem?_eq_getElem (by omega)⟩
    have hz : kA.size ≤ vs.length := by
      have h1 := hk.length
      rw [Array.length_toList, List.length_take] at h1
      omega
    refine wpAny_bind (wpAny_attempt (wpAny_mono (turn j x k hx hkj s' _ _ j' nk' na' (fun v z => by cases z) (fun v z => by cases z)) (fun v s'' he => ?_) fun _ _ hF => hF.elim))
    obtain ⟨⟨t, rfl⟩, j2, nk2, na2⟩ := he
    try dsimp only
    have s1 := Heap.SameBut.update s''.heap kS (Obj.mapSeq (·.push (Value.int k t)))
    obtain ⟨c2, hc2⟩ : ∃ c2, (s''.heap.update kS (Obj.mapSeq (·.push (Value.int k t)))).get? kS = some (seqObj "list" (kA.push (Value.int k t)) c2) := ⟨_, get?_update_seq nk2 (·.push (Value.int k t))⟩
    refine wpAny_bind (listUpdate_at nk2 rfl ?_ (Nat.le_trans hz hZ) (Nat.le_trans (Nat.le_of_eq (Array.size_push ..)) (Nat.succ_le_succ (Nat.le_trans hz hZ))))
    refine wpAny_pure ⟨rfl, kA.push (Value.int k t), c2, Jw s'' _ s''.toks j2 (fun b o hb q => (s1.2 b hb).trans q), hc2, (s1.2 a hka.symm).trans na2, ?_⟩
    rw [show (kA.push (Value.int k t)).toList = kA.toList ++ [Value.int k t] by simp, List.take_add_one, hkj]
    exact each_snoc (R := fun v (k : Int) => ∃ t, v = Value.int k t) ⟨t, rfl⟩ hk
  case done =>
    rintro s' ⟨kA, e, j', nk', na', hk⟩
    have hk' : EachIs (fun v k => ∃ as, Reads s'.heap v k as) kA.toList (kz.map PyData.int) := by
      rw [show kz.take (0 + vs.length) = kz from List.take_of_length_le (by omega)] at hk
      have go : ∀ {l : List Value} {m : List Int}, EachIs (fun v (k : Int) => ∃ t, v = Value.int k t) l m → EachIs (fun v k => ∃ as, Reads s'.heap v k as) l (m.map PyData.int) := by
        intro l m q
        induction q with
        | nil => exact .nil
        | cons r _ ih =>
          obtain ⟨t, rfl⟩ := r
          exact .cons ⟨_, .int _ _⟩ ih
      exact go hk
    have hsz : kA.size = vs.length := by
      have h1 := hk'.length
      rw [Array.length_toList, List.length_map] at h1
      omega
    try dsimp only
    refine wpAny_bind (listItems_at nk' rfl ?_)
    obtain ⟨G, g1, g2⟩ := restrict s'.heap fun b => decide (b ≠ kS)
    have gk : G.get? kS = none := g2 kS (decide_eq_false fun z => z rfl)
    have gs : ∀ b o, G.get? b = some o → s'.heap.get? b = some o := fun b o e => by
      by_cases hb : b = kS
      · rw [hb, gk] at e
        cases e
      · rw [← g1 b (decide_eq_true hb)]
        exact e
    refine keyH_end (κ := dataKind s'.heap (kz.map PyData.int)) (h₁ := G) (fun b o _ q => gs b o q) gk nk' na' hka (SortsAt.data (s := s') hk' hal hsk (fun d hd => ?_)) hsz hZ fun h3 tk3 c k3 n3 => h s' h3 tk3 _ c j' (fun b o hb ha q => k3 b o ha (by rw [g1 b (decide_eq_true hb)]; exact q)) n3 ⟨s'.heap, kA.toList, hal, rfl, hk'⟩
    obtain ⟨x, _, rfl⟩ := List.mem_map.mp hd
    show A.units + PyData.depth (.int x) < cLine
    simp only [PyData.depth]
    omega
end WS
set_option Elab.async false
set_option linter.all false
set_option maxRecDepth 100000
set_option maxHeartbeats 4000000
namespace WS
open PySem PySem.Spec PyProof.Rows L2
abbrev callBody (gn xs pl : Str) (p1 p2 p3 p4 : Pos) : Expr := .Call (.Name gn p1) [.Name xs p2, .Name pl p3] [] p4
open PySem.W in
/-- the lambda called: it calls a def with a captured value and its own argument -/
theorem lam_call {X : Cx} {pins : List (Addr × Obj)} {σ : L2.St} {H : Hp} {s : Shared} {f c' c g : Addr} {q : Str} {params : Arguments} {scope : Scope} {clo : List (Str × Addr)} {pm ctv : Value} {gn xs pl : Str} {p1 p2 p3 p4 : Pos} {mv zv : V} {um uz : Value} {k : Nat} {fd : FuncData} {ps : List Str} {sp : Sp} {Q : VK}
    (I : Inv X pins σ H s) (hf : s.heap.get? f = some (kla_obj "<lambda>" q params (callBody gn xs pl p1 p2 p3 p4) scope clo pm c' ctv)) (hcode : s.heap.CodeRec (.ref c') q) (room : Room (k + 3) X.A)
    (hbind : ∀ v : Value, bindArgs (kla_fn "<lambda>" q params (callBody gn xs pl p1 p2 p3 p4) scope clo pm (.ref c') ctv) ⟨[v], []⟩ = pure [(pl, v)])
    (hk : scope.kind = .function) (hco : scope.isCoroutine = false) (hgen : scope.isGenerator = false) (hnc : ∀ y ∈ scope.names, y.2 ≠ .cell)
    (hpl : scope.names.lookup pl = some .local) (hxs : scope.names.lookup xs = some .free) (hgn : scope.names.lookup gn = some .globalImplicit) (hclo : clo.lookup xs = some c) (hcell : s.heap.IsCell c (some um)) (rm : RelV mv um) (rz : RelV zv uz)
    (hmg : X.mg gn = some (.ref g)) (hkeep : keepIn X.K (.ref g) = true) (F : FnOk X.prog X.w X.K X.mg X.base CX0 k g fd ps sp) (hb : Binds X.K fd ps []) (hsp : sp [mv, zv] H Q E0)
    (hd1 : (xs == ("__debug__" : Str)) = false) (hd2 : (pl == ("__debug__" : Str)) = false) (hd3 : (xs == ("__classdict__" : Str)) = false) (hd4 : (gn == ("__debug__" : Str)) = false) :
    wpAny (model X.prog X.w) X.A.in1.in1 (call (.ref f) [uz]) (EP X pins σ Q) (fun _ _ => False) s := by
  have e0 : Env0 X.prog X.w X.K X.mg X.base X.A.in1.in1 X.stack s H := I.env0.in1.in1
  have r1 : Room (k + 1) X.A.in1.in1 := Room.in1 (Room.in1 room)
  refine wpAny_call (kla_callFunE r1.depth hf rfl hco hgen rfl hcode ?_)
  rw [hbind]
  refine wpAny_pure (wpAny_newFunctionEnv hnc (fun y hy => ?_) (fun h₁ hns hsb => ⟨I.nolimit.fresh _ hsb, ?_⟩) hk)
  · obtain rfl := List.mem_singleton.mp hy
    exact hpl
  have kp : ∀ b o, s.heap.get? b = some o → h₁.get? b = some o := fun b o e => hsb.extBut b o (Nat.ne_of_lt (Heap.lt_size e)) (Heap.get?_push_of_some _ e)
  refine kla_codeExpr ?_
  refine wpAny_Call_Name_kw (Calls.Name_function_global hk hgn (Calls.loadGlobal_global (e0.mod.glob.keeps fun b o e => kp b o (e0.bs b o e).1) hmg ?_) hd4)
  refine PySem.W.callWith_K (h₀ := X.base) e0.mod.kin hkeep ?_ rfl rfl
  refine Calls.spliced_cons ?_
  refine wpAny_Name (wpAny_loadName_free hk hxs hclo (v := um) ?_ ?_ hd3) hd1
  · obtain ⟨o, e, d⟩ := hcell
    exact ⟨o, kp _ _ e, d⟩
  refine Calls.spliced_cons ?_
  show wpAny _ _ (eval (.Name pl p3) _) _ _ _
  refine wpAny_Name (wpAny_loadName_local (v := uz) hk hpl hns (by simp) ?_) hd2
  refine Calls.spliced_nil ?_
  have kin : X.K.In h₁ := e0.mod.kin.keeps fun b o e => kp b o (e0.bs b o e).1
  refine ⟨kin, ?_⟩
  have nL : ∀ b o, s.heap.get? b = some o → b ∉ frs X.stack → b ∉ frs (newEnv scope s.heap.objs.size mainGlobals clo (q ++ ".<locals>.") (some f) (.ref c') none builtinsNs :: X.stack) := fun b o e nf hm => by
    have hm : b ∈ s.heap.objs.size :: frs X.stack := hm
    rcases List.mem_cons.mp hm with h | h
    · exact absurd (Heap.lt_size e) (by rw [h]; exact Nat.lt_irrefl _)
    · exact nf h
  have ge : X.base.get? s.heap.objs.size = none := Heap.get?_none_of_le e0.bsz
  obtain ⟨oL, eL, dL⟩ : ∃ o, h₁.get? s.heap.objs.size = some o ∧ ∀ vs, o.data ≠ .fields vs := by
    obtain ⟨o, es, ep, ho, hd, _⟩ := hns
    exact ⟨o, ho, fun vs z => by rw [hd] at z; cases z⟩
  have env0 : Env0 X.prog X.w X.K X.mg X.base (X.A.in1.in1.deeper (newEnv scope s.heap.objs.size mainGlobals clo (q ++ ".<locals>.") (some f) (.ref c') none builtinsNs)) (newEnv scope s.heap.objs.size mainGlobals clo (q ++ ".<locals>.") (some f) (.ref c') none builtinsNs :: X.stack) { s with heap := h₁, toks := s.toks + 1 } H :=
    ⟨Around.frames_deeper e0.frames, e0.mod, fun b o e => ⟨kp b o (e0.bs b o e).1, (e0.bs b o e).2⟩, Nat.le_of_lt (Nat.lt_of_le_of_lt e0.bsz (Heap.lt_size eL)), ⟨(by rw [show (newEnv scope s.heap.objs.size mainGlobals clo (q ++ ".<locals>.") (some f) (.ref c') none builtinsNs).scope = scope from rfl, hk]; exact fun z => (by cases z)), ⟨_, oL, rfl, ge, eL, dL⟩, e0.funs.of_keeps fun b o e _ => ⟨o, kp b o e, rfl⟩⟩, fun b hb => ?_, e0.hok.kept kp, e0.bare⟩
  · refine wpAny_call (codeAny_mono (F.run _ _ _ H ⟨[um, uz], []⟩ [um, uz] [mv, zv] Q E0 (Room.deeper r1 _) env0 (hb _ [um, uz] kin (F.len _ _ _ _ hsp)) (.cons rm (.cons rz .nil)) hsp) fun r s' hq => ?_)
    cases r with
    | error e => exact hq.elim
    | ok fl =>
      cases fl with
      | ret u =>
        obtain ⟨v, H', os, bare, un, hok, rv, q'⟩ := hq
        refine I.after ⟨v, H', os, bare, ⟨?_, ?_, ?_, ?_, un.tups, un.frzs, un.tbls⟩, hok, rv, q'⟩
        · exact fun b o e n nf nx => un.keep b o (kp b o e) n (nL b o e nf) nx
        · exact fun b o e n nf nx => un.slot b o (kp b o e) n (List.mem_cons_of_mem _ nf) nx
        · exact fun b o e n nx => un.free b o (kp b o e) n nx
        · exact fun b o e nx => un.there b o (kp b o e) nx
      | next => exact False.elim hq
      | brk => exact False.elim hq
      | cont => exact False.elim hq
  · have hb : b ∈ s.heap.objs.size :: frs X.stack := hb
    rcases List.mem_cons.mp hb with h | h
    · rw [h]; exact e0.hok.fresh (Nat.le_refl _)
    · exact e0.frf b h
end WS
set_option Elab.async false
set_option linter.all false
set_option maxRecDepth 100000
set_option maxHeartbeats 4000000
namespace WS
open PySem PySem.Spec PyProof.Rows L2
open PySem.W in
/-- sorted(t, key=f), t a tuple, the keys numbers; J: what each call of f keeps -/
theorem sorted_J {prog : Program} {w : World} {A : Around} {E : Value → Shared → Prop} {s : Shared} {r f : Addr} {ts : List Value} {kz : List Int} {Q : Value → Shared → Prop} (J : Addr → Addr → Shared → Prop) (hr : s.heap.IsTuple r ts.toArray) (hZ : ts.length ≤ sizeLine) (hlen : kz.length = ts.length) (hu : A.units + 10 < cLine)
    (J0 : ∀ (h1 : Heap), (∀ b o, s.heap.get? b = some o → h1.get? b = some o) → ∀ (h' : Heap) (tk : Nat) (a kS : Addr), (∀ b o, h1.get? b = some o → h'.get? b = some o) → h1.objs.size ≤ a → h1.objs.size ≤ kS → J a kS { s with heap := h', toks := tk })
    (Jw : ∀ a kS s₁ h' tk, J a kS s₁ → (∀ b o, b ≠ kS → s₁.heap.get? b = some o → h'.get? b = some o) → J a kS { s₁ with heap := h', toks := tk })
    (turn : ∀ a kS, kS ≠ a → ∀ (i : Nat) (v : Value) (k : Int), ts[i]? = some v → kz[i]? = some k → ∀ s₁ ok oa, J a kS s₁ → s₁.heap.get? kS = some ok → s₁.heap.get? a = some oa → (∀ v, ok.data ≠ .cell v) → (∀ v, oa.data ≠ .cell v) →
      wpAny (model prog w) A.in1.in1 (call (.ref f) [v]) (fun u s₂ => (∃ t, u = .int k t) ∧ J a kS s₂ ∧ s₂.heap.get? kS = some ok ∧ s₂.heap.get? a = some oa) (fun _ _ => False) s₁)
    (h : ∀ a kS s₂ h' tk out c, kS ≠ a → J a kS s₂ → (∀ b o, b ≠ kS → b ≠ a → s₂.heap.get? b = some o → h'.get? b = some o) → h'.get? a = some (seqObj "list" (List.toArray out) c) → KeyedOut false (kz.map PyData.int) ts out → Q (.ref a) { s₂ with heap := h', toks := tk }) :
    wpAny (model prog w) A (call (.builtin "sorted") [.ref r] [(Str.ofString "key", .ref f)]) Q E s := by
  obtain ⟨o, ho, hc, n, hd⟩ := hr
  refine call_function_entry_kw kind_sorted plain_sorted entry_sorted (ksk_s1 _ _) ?_
  unfold Builtin.«sorted»
  refine wpAny_bind (m := checkCount "sorted" 1 1 _) (wpAny_pure ?_)
  refine wpAny_bind (wpAny_collect_seq (hsz := by rw [List.size_toArray]; exact hZ) r (.inr rfl) ho hc hd fun h1 kp1 => ?_)
  have el : ts.toArray.toList = ts := by simp
  rw [el]
  refine wpAny_bind (wpAny_newList ?_ hZ)
  have hL : (h1.push (seqObj "list" ts.toArray 0)).get? h1.objs.size = some (seqObj "list" ts.toArray 0) := Heap.get?_push_size _ rfl
  refine wpAny_bind (wpAny_holding (wpAny_call_entry_kw slot_list_sort ⟨_, hL, rfl⟩ entry_list_sort ?body (ksk_l1 _ _)))
  case body =>
    rw [ksk_t1]
    obtain ⟨e1, ho1⟩ : ∃ e1, ((h1.push (seqObj "list" ts.toArray 0)).update h1.objs.size (Obj.mapSeq fun _ => (#[] : Array Value))).get? h1.objs.size = some (seqObj "list" #[] e1) := ⟨_, get?_update_seq hL fun _ => #[]⟩
    have hs1 := Heap.SameBut.update (h1.push (seqObj "list" ts.toArray 0)) h1.objs.size (Obj.mapSeq fun _ => (#[] : Array Value))
    have up : ∀ b o, h1.get? b = some o → ((h1.push (seqObj "list" ts.toArray 0)).update h1.objs.size (Obj.mapSeq fun _ => (#[] : Array Value))).get? b = some o := fun b o e => (hs1.2 b (Nat.ne_of_lt (Heap.lt_size e))).trans (Heap.get?_push_of_some _ e)
    unfold ksk_tree
    refine wpAny_bind (listItems_at hL rfl ?_)
    refine wpAny_bind (listUpdate_at hL rfl ?_ (by rw [List.size_toArray]; exact hZ) (Nat.zero_le _))
    refine wpAny_bind (seqEpoch_at ho1 rfl ?_)
    refine wpAny_bind (wpAny_newTuple ?_ (by simpa using hZ))
    refine wpAny_bind (wpAny_newList ?_ (Nat.zero_le _))
    refine wpAny_holding ?_
    have lt1 : h1.objs.size < ((h1.push (seqObj "list" ts.toArray 0)).update h1.objs.size (Obj.mapSeq fun _ => (#[] : Array Value))).objs.size := Heap.lt_size ho1
    generalize ((h1.push (seqObj "list" ts.toArray 0)).update h1.objs.size (Obj.mapSeq fun _ => (#[] : Array Value))) = h2 at ho1 up lt1 ⊢
    have hz2 : ∀ o : Obj, (h2.push o).objs.size = h2.objs.size + 1 := fun o => Heap.size_push ..
    refine keyJ_rest (kz := kz) (vs := ts) (A := A.in1.in1) (J := J h1.objs.size (h2.push (seqObj "tuple" ts.toArray.toList.toArray 0)).objs.size) (e1 := e1) ?_ (Heap.get?_push_size _ rfl) (Heap.get?_push_of_some _ (Heap.get?_push_of_some _ ho1)) ?_ hlen hZ ?_ (fun s₁ h' tk j k => Jw _ _ s₁ h' tk j k) ?_ ?_
    · exact J0 h1 kp1 _ _ _ _ (fun b o e => Heap.get?_push_of_some _ (Heap.get?_push_of_some _ (up b o e))) (Nat.le_refl _) (by rw [hz2]; exact Nat.le_of_lt (Nat.lt_succ_of_lt lt1))
    · rw [hz2]
      exact Nat.ne_of_gt (Nat.lt_succ_of_lt lt1)
    · show A.units + 1 + 1 + 1 < cLine
      omega
    · exact turn _ _ (by rw [hz2]; exact Nat.ne_of_gt (Nat.lt_succ_of_lt lt1))
    · intro s₂ h' tk out c j k hD ko
      refine ⟨_, rfl, wpAny_pure ⟨_, rfl, ?_⟩⟩
      exact h _ _ s₂ h' tk out c (by rw [hz2]; exact Nat.ne_of_gt (Nat.lt_succ_of_lt lt1)) j k hD ko
end WS
set_option Elab.async false
set_option linter.all false
set_option maxRecDepth 100000
set_option maxHeartbeats 4000000
namespace WS
open PySem PySem.Spec PyProof.Rows L2
/-- what stood free is tracked from now on, and some of what is free may have changed -/
theorem turnedAt {X : Cx} {pins : List (Addr × Obj)} {σ : L2.St} {H : Hp} {s : Shared} {h' : Heap} {t' : Nat} {ch : List Addr} {T : Addr} {ob : HO} (I : Inv X pins σ H s) (k : ∀ b o, b ∉ ch → s.heap.get? b = some o → h'.get? b = some o) (hf : ∀ b ∈ ch, FpOk X pins H b) (hT : T ∈ ch)
    (new : ObjOk X.prog X.w (upd H T ob) h' T ob) : Inv X pins σ (upd H T ob) { s with heap := h', toks := t' } := by
  have hn : H T = none := (hf T hT).1
  have nit : ∀ b u, H b = some u → b ∉ ch := fun b u e z => by
    rw [(hf b z).1] at e
    cases e
  refine I.step (g' := s.gens) (d' := s.drawn) (ch := ch) (fun b hb => ⟨(hf b hb).2.2.2.1, (hf b hb).2.1, (hf b hb).2.2.2.2.1, (hf b hb).2.2.2.2.2⟩) (fun b o _ _ hc e _ => k b o hc e) (fun b o _ _ hc e _ => ⟨o.slots, k b o hc e⟩)
    (fun b o hc e n => ?_) (fun b o hc e => ⟨o, k b o hc e⟩) (fun b xs e => ?_) (fun b o u e => ?_) (fun b ps e => ⟨#[], ?_⟩) (fun m hm => ?_) (fun b u e => ?_) I.bare
  · rw [upd_ne (fun z => by rw [z] at hc; exact hc hT)]
    exact n
  · rw [upd_ne (ne_of_none e hn)]
    exact e
  · rw [upd_ne (ne_of_none e hn)]
    exact e
  · rw [upd_ne (ne_of_none e hn), e]
    simp
  · obtain ⟨o, es, ep, hob, r⟩ := hm
    exact ⟨o, es, ep, k _ o (fun z => (hf _ z).2.1 rfl) hob, r⟩
  · by_cases hb : b = T
    · subst hb
      rw [upd_same] at e
      cases e
      exact new
    · rw [upd_ne hb] at e
      refine (I.hok b u e).stay (fun c v hc q => k c v ?_ q) (fun c q => by rw [upd_ne (ne_of_none q hn)]; exact q) fun c xs q => by rw [upd_ne (ne_of_none q hn)]; exact q
      rcases hc with z | z
      · rw [z]
        exact nit b u e
      · exact nit c _ z
def tSrtK (K : PySem.W.Frag) (T : List (Addr × Str)) (i : Nat) (sp : Sp) (tr : TE) : TE := fun σ H Q => tr σ H fun v H1 => ∃ (r : Addr) (zs : List Str) (ks : Str → Int) (mv : V), v = .ref r ∧ SqT K H1 r (zs.map V.str) ∧ σ[i]? = some (some mv) ∧ zs.length ≤ 1000 ∧ LamX.Tabs T H1 ∧
  (∀ H2, LamX.ExtN H1 H2 → LamX.Tabs T H2 → ∀ z ∈ zs, ∀ Q' : VK, (∀ H3, Same H2 H3 → Q' (.int (ks z)) H3) → sp [mv, .str z] H2 Q' E0) ∧
  ∀ H2 p, LamX.ExtN H1 H2 → LamX.Tabs T H2 → H2 p = none → Q (.ref p) (upd H2 p (.lst ((zs.mergeSort fun a b => decide (ks a ≤ ks b)).map V.str)))
theorem each_strs : ∀ {zs : List Str} {us : List Value}, Vals (zs.map V.str) us → PySem.W.EachIs (fun (v : Value) (z : Str) => ∃ t, v = .str z t) us zs
  | [], _, h => by cases h; exact .nil
  | z :: zs, _, h => by
    cases h with
    | cons r t => exact .cons r (each_strs t)
theorem vals_strs : ∀ {out : List Value} {zs : List Str}, PySem.W.EachIs (fun (v : Value) (z : Str) => ∃ t, v = .str z t) out zs → Vals (zs.map V.str) out
  | _, _, .nil => .nil
  | _, _, .cons r t => .cons r (vals_strs t)
theorem dataLe_one (ks : Str → Int) : PySem.W.dataLe false (fun z => PyData.int (ks z)) = fun a b => decide (ks a ≤ ks b) := by
  funext p q
  show (!PySem.W.dataLt (.int (ks q)) (.int (ks p))) = _
  rw [PySem.W.dataLt_int]
  by_cases h : ks q < ks p
  · rw [decide_eq_true h, decide_eq_false (by omega)]
    rfl
  · rw [decide_eq_false h, decide_eq_true (by omega)]
    rfl
theorem pe_sortedKey {X : Cx} {T : List (Addr × Str)} {tr : TE} {er : Expr} {gn xs pl : Str} {params : Arguments} {scope : Scope} {c P g : Addr} {i k : Nat} {fd : FuncData} {ps : List Str} {sp : Sp} {p pos lpos kpos p1 p2 p3 p4 : Pos}
    (hcalm : X.calm = true) (hg : Gl X "sorted") (hm : X.mg "sorted" = none) (hr : PE X er tr) (room : Room (k + 3) X.A)
    (TB : LamX.TabB X.base X.mg c P) (hcode : X.env.code = .ref c) (hmT : (P, X.env.qual ++ "<lambda>") ∈ T) (hu : ∀ p ∈ T, p.1 = P → p.2 = X.env.qual ++ "<lambda>")
    (hN : X.N[i]? = some xs) (hv : X.env.scope.names.lookup xs = some .cell) (hdef : defaultsOf params X.env = ([], []))
    (hbind : ∀ (q : Str) (cl : List (Str × Addr)) (pm cv ctv v : Value), bindArgs (PySem.W.kla_fn "<lambda>" q params (callBody gn xs pl p1 p2 p3 p4) scope cl pm cv ctv) ⟨[v], []⟩ = pure [(pl, v)])
    (hk : scope.kind = .function) (hco : scope.isCoroutine = false) (hgen : scope.isGenerator = false) (hnames : scope.names = [(pl, .local), (xs, .free), (gn, .globalImplicit)]) (hne : (xs == pl) = false) (hne2 : (gn == pl) = false) (hne3 : (gn == xs) = false)
    (hmg : X.mg gn = some (.ref g)) (hkeep : PySem.W.keepIn X.K (.ref g) = true) (F : FnOk X.prog X.w X.K X.mg X.base CX0 k g fd ps sp) (hb : Binds X.K fd ps [])
    (hd1 : (xs == ("__debug__" : Str)) = false) (hd2 : (pl == ("__debug__" : Str)) = false) (hd3 : (xs == ("__classdict__" : Str)) = false) (hd4 : (gn == ("__debug__" : Str)) = false)
    (na : backTo pos (starEach [er] X.env) = (false, eval er X.env) :: backTo pos (starEach [] X.env) := by rfl) :
    PE X (.Call (.Name "sorted" p) [er] [⟨some "key", .Lambda params (callBody gn xs pl p1 p2 p3 p4) scope lpos, kpos⟩] pos) (tSrtK X.K T i sp tr) := by
  refine ⟨fun pins s σ H Q I h => ?_⟩
  refine wpAny_Call_Name_kw (ld_blt I hg hm (by rfl) ?_)
  refine PyProof.Rows.callWith_kw ?_ na (by rw [na]; rfl)
  rw [na]
  refine Calls.spliced_cons (thn (hr.run pins s σ H _ I h) fun u s1 ⟨v, H1, I1, r1, q1⟩ => ?_)
  obtain ⟨r, zs, ks, mv, rfl, hrt, hσ, hlen, hT, q1, q2⟩ := q1
  obtain rfl : u = Value.ref r := r1
  refine Calls.spliced_nil ?_
  show wpAny _ _ (evalAll [do let v ← eval (.Lambda params (callBody gn xs pl p1 p2 p3 p4) scope lpos) X.env; standAt pos; pure v]) _ _ _
  refine evalAll_cons (wpAny_bind (LamX.lam_make2 I1 TB hcode hmT hu hT hdef (fun y hy e => ?_) fun f c' pm ctv H2 s2 I2 eN T2 hf hfn hfr hco' => wpAny_bind (wpAny_standAt (wpAny_pure (evalAll_nil ?_)))))
  · rw [hnames] at hy
    simp only [List.mem_cons, List.not_mem_nil, or_false] at hy
    rcases hy with rfl | rfl | rfl
    · cases e
    · exact I1.ok.has _ (.inl hv)
    · cases e
  show wpAny _ _ (call (.builtin "sorted") [.ref r] [(Str.ofString "key", .ref f)]) _ _ _
  have hrt2 : SqT X.K H2 r (zs.map V.str) := by
    rcases hrt with (h | ⟨o, h⟩) | h
    · exact .inl (.inl (eN _ _ h (fun ps z => by cases z)))
    · exact .inl (.inr ⟨o, eN _ _ h (fun ps z => by cases z)⟩)
    · exact .inr h
  obtain ⟨ts, rv, ⟨o0, g0, k0, n0, z0⟩, _⟩ := I2.tuple hrt2
  have each := each_strs rv
  have tl : ts.length = zs.length := by
    have := rv.length
    rw [List.length_map] at this
    omega
  have hpl : scope.names.lookup pl = some .local := by rw [hnames]; simp
  have hxs : scope.names.lookup xs = some .free := by rw [hnames]; simp [List.lookup, hne]
  have hgn : scope.names.lookup gn = some .globalImplicit := by rw [hnames]; simp [List.lookup, hne2, hne3]
  have ffs : f ∉ X.fs := fun z => hfr (by
    rcases I2.ok.stk with e | ⟨e, _⟩
    · rw [e]; exact z
    · rw [e]
      unfold frs
      rw [List.filterMap_cons]
      split
      · exact z
      · exact List.mem_cons_of_mem _ z)
  have floc : f ≠ X.env.locals := fun z => by
    obtain ⟨m, ⟨o, es, ep, ho, hd, _⟩, _⟩ := I2.loc
    rw [← z, hf] at ho
    cases ho
    cases hd
  have hne' : ∀ z ∈ zs, True := fun _ _ => trivial
  refine sorted_J (kz := zs.map ks) (ts := ts) (fun a kS s₁ => ∃ H', Same H2 H' ∧ Inv X ((f, PySem.W.kla_obj "<lambda>" (X.env.qual ++ "<lambda>") params (callBody gn xs pl p1 p2 p3 p4) scope (cloFrom X.env.cells scope.names []) pm c' ctv) :: pins) σ H' s₁ ∧ FpOk X ((f, PySem.W.kla_obj "<lambda>" (X.env.qual ++ "<lambda>") params (callBody gn xs pl p1 p2 p3 p4) scope (cloFrom X.env.cells scope.names []) pm c' ctv) :: pins) H' a ∧ FpOk X ((f, PySem.W.kla_obj "<lambda>" (X.env.qual ++ "<lambda>") params (callBody gn xs pl p1 p2 p3 p4) scope (cloFrom X.env.cells scope.names []) pm c' ctv) :: pins) H' kS)
    ⟨o0, g0, k0, n0, z0⟩ (by rw [tl]; exact Nat.le_of_lt (small1000 (by omega))) (by rw [List.length_map]; exact tl.symm) (by have := room.un; omega) ?_ ?_ ?_ ?_
  · intro h1 kp1 h' tk a kS kp' la lk
    have I3 : Inv X pins σ H2 { s2 with heap := h1 } := I2.kept (t' := s2.toks) kp1
    have I3' : Inv X ((f, PySem.W.kla_obj "<lambda>" (X.env.qual ++ "<lambda>") params (callBody gn xs pl p1 p2 p3 p4) scope (cloFrom X.env.cells scope.names []) pm c' ctv) :: pins) σ H2 { s2 with heap := h1 } := I3.pins_of fun p hp => by
      rcases List.mem_cons.mp hp with rfl | hp
      · exact ⟨kp1 _ _ hf, hfn, floc, ffs, fun v z => by cases z⟩
      · exact I3.pin p (List.mem_append_right _ hp)
    exact ⟨H2, Same.refl _, I3'.kept (t' := tk) kp', I3'.fpOk la (I3'.hok.fresh la), I3'.fpOk lk (I3'.hok.fresh lk)⟩
  · rintro a kS s₁ h' tk ⟨H', sm, I', fa, fk⟩ kp
    exact ⟨H', sm, I'.turnedL (t' := tk) (ch := [kS]) (fun b o hb e => kp b o (fun z => hb (by rw [z]; exact List.mem_singleton.mpr rfl)) e) (fun b hb => by rw [List.mem_singleton.mp hb]; exact fk), fa, fk⟩
  · rintro a kS hka j v kk hv' hkk s₁ ok oa ⟨H', sm, I', fa, fk⟩ hk1 ha1 nc1 nc2
    obtain ⟨z, ez, rfl⟩ : ∃ z, zs[j]? = some z ∧ ks z = kk := by
      rw [List.getElem?_map] at hkk
      cases e : zs[j]? with
      | none => rw [e] at hkk; cases hkk
      | some z => rw [e] at hkk; exact ⟨z, rfl, Option.some.inj hkk⟩
    have hz := List.mem_of_getElem? ez
    obtain ⟨u, hu1, ru⟩ := vals_at rv (show (zs.map V.str)[j]? = some (.str z) by rw [List.getElem?_map, ez]; rfl)
    rw [hv'] at hu1
    obtain rfl := Option.some.inj hu1
    have I'' : Inv X ((kS, ok) :: (a, oa) :: (f, PySem.W.kla_obj "<lambda>" (X.env.qual ++ "<lambda>") params (callBody gn xs pl p1 p2 p3 p4) scope (cloFrom X.env.cells scope.names []) pm c' ctv) :: pins) σ H' s₁ := I'.pins_of fun p hp => by
      rcases List.mem_cons.mp hp with rfl | hp
      · exact ⟨hk1, fk.1, fk.2.1, fk.2.2.1, nc1⟩
      · rcases List.mem_cons.mp hp with rfl | hp
        · exact ⟨ha1, fa.1, fa.2.1, fa.2.2.1, nc2⟩
        · exact I'.pin p (List.mem_append_right _ hp)
    have hf' := (I'.pin _ (List.mem_append_right _ List.mem_cons_self)).1
    obtain ⟨⟨oc, vs, tq, c1, c2, c3⟩, _, _⟩ := I'.hok c' _ (sm _ _ hco')
    obtain ⟨mm, _, hloc⟩ := I'.loc
    obtain ⟨um, rum, hlook⟩ := hloc i xs _ hN hσ (.inr (.inl hv))
    obtain ⟨cc, hcc, hcell⟩ : ∃ c, X.env.cells.lookup xs = some c ∧ s₁.heap.IsCell c (some um) := by
      rcases hlook with ⟨z, _⟩ | ⟨_, z⟩
      · have z : X.env.scope.names.lookup xs = some .local := z
        rw [hv] at z
        cases z
      · exact z
    have hclo : (cloFrom X.env.cells scope.names []).lookup xs = some cc := by
      rw [hnames]
      show (cloFrom X.env.cells [(pl, NameKind.local), (xs, NameKind.free), (gn, NameKind.globalImplicit)] []).lookup xs = some cc
      simp [cloFrom, hcc]
    refine wpAny_mono (lam_call (Q := fun v H3 => v = .int (ks z) ∧ Same H' H3) I'' hf' ⟨c', oc, vs, tq, rfl, c1, c2, c3⟩ room (fun v => hbind _ _ _ _ _ v) hk hco hgen (fun y hy => ?_) hpl hxs hgn hclo hcell rum ru hmg hkeep F hb (q1 H' (eN.trans (LamX.ExtN.of sm)) (T2.ext sm) z hz _ fun H3 s3 => ⟨rfl, s3⟩) hd1 hd2 hd3 hd4) (fun w s₂ hq => ?_) fun _ _ x => x
    · rw [hnames] at hy
      simp only [List.mem_cons, List.not_mem_nil, or_false] at hy
      rcases hy with rfl | rfl | rfl <;> exact fun z => by cases z
    · obtain ⟨v3, H3, I3, r3, rfl, s3⟩ := hq
      have pk := I3.pin _ (List.mem_append_right _ List.mem_cons_self)
      have pa := I3.pin _ (List.mem_append_right _ (List.mem_cons_of_mem _ List.mem_cons_self))
      exact ⟨r3, ⟨H3, sm.trans s3, I3.pins_of fun p hp => I3.pin p (List.mem_append_right _ (List.mem_cons_of_mem _ (List.mem_cons_of_mem _ hp))), ⟨pa.2.1, fa.2⟩, ⟨pk.2.1, fk.2⟩⟩, pk.1, pa.1⟩
  · rintro a kS s₂ h' tk out cc hka ⟨H', sm, I', fa, fk⟩ kp hD ko
    have ko' : PySem.W.KeyedOut false (zs.map fun z => PyData.int (ks z)) ts out := by
      have e : (zs.map ks).map PyData.int = zs.map fun z => PyData.int (ks z) := by rw [List.map_map]; rfl
      rw [← e]
      exact ko
    have eo := PySem.W.keyedOut_each (fun z => PyData.int (ks z)) ko' each
    rw [dataLe_one] at eo
    have lo : out.length = zs.length := by
      have := ko.length (by rw [List.length_map, List.length_map]; exact tl.symm)
      omega
    have I4 := turnedAt (t' := tk) (ch := [kS, a]) (T := a) (ob := .lst ((zs.mergeSort fun a b => decide (ks a ≤ ks b)).map V.str)) (h' := h') I' (fun b o hb e => kp b o (fun z => hb (by rw [z]; exact List.mem_cons_self)) (fun z => hb (by rw [z]; exact List.mem_cons_of_mem _ List.mem_cons_self)) e) (fun b hb => by
      rcases List.mem_cons.mp hb with rfl | hb
      · exact fk
      · rw [List.mem_singleton.mp hb]; exact fa) (List.mem_cons_of_mem _ List.mem_cons_self) ⟨?_, out, cc, vals_strs eo, hD⟩
    · exact ⟨.ref a, _, I4.pins_of fun p hp => I4.pin p (List.mem_append_right _ (List.mem_cons_of_mem _ hp)), rfl, q2 H' a (eN.trans (LamX.ExtN.of sm)) (T2.ext sm) fa.1⟩
    · rw [List.length_map, List.length_mergeSort]
      exact Nat.le_of_lt (small1000 (by omega))
end WS
set_option Elab.async false
set_option linter.all false
set_option maxRecDepth 100000
set_option maxHeartbeats 4000000
namespace WS
open PySem PySem.Spec PyProof.Rows L2
theorem begin_tabs {P : Program} {w : World} {K : PySem.W.Frag} {mg mb : Str → Option Value} {k : Nat} {fa a : Addr} {Ts : List (Str × Addr × Addr)} {fd : FuncData} {x : Str} {sp : Sp} {s : Shared} {vs : List Value} {H : Hp}
    (inK : K.In s.heap) (gns : s.heap.Ns mainGlobals mg) (bns : s.heap.Ns builtinsNs mb) (bb : ∀ x : Str, x ≠ "__name__" → mb x = bootBuiltins x) (lim : s.heap.NoLimit) (nogen : s.gens = #[])
    (hT : ∀ t ∈ Ts, s.heap.get? t.2.2 = some { cls := .none, data := .fields #[] }) (nT : ∀ t ∈ Ts, K.lookup t.2.2 = none) (C : ∀ t ∈ Ts, PySem.W.CodeHd s.heap t.2.1 t.2.2)
    (hbm : ∃ (bm : Addr) (ob : Obj), mg "__builtins__" = some (.ref bm) ∧ bm ≠ builtinsNs ∧ s.heap.get? bm = some ob ∧ ob.cls = .type "module" ∧ ob.dict = some builtinsNs ∧ ob.data = .plain)
    (script : s.heap.get? a = some { cls := .type "list", data := .seq vs.toArray }) (room : Room k callerA)
    (F : ∀ base : Heap, K.In base → base.Ns mainGlobals mg → (∀ t ∈ Ts, LamX.TabB base mg t.2.1 t.2.2) → FnAt callerA P w K mg base CX0 k fa fd [x] sp) (bind1 : ∀ (s : Shared) (u : Value), BindsTo s fd ⟨[u], []⟩ [(x, u)])
    (only : ∀ b u, H b = some u → (b = a ∧ K.lookup a = none ∧ ∃ o xs, u = .frz o (.lst xs)) ∨ ∃ t ∈ Ts, b = t.2.2) (tab : ∀ t ∈ Ts, H t.2.2 = some (.tbl #[])) (fits : HOk P w H s.heap)
    (want : sp [.ref a] H (fun v _ => v = .bl true) fun _ _ _ => False) :
    codeAny (model P w) callerA (.call (.ref fa) ⟨[.ref a], []⟩) (fun r s' => r = .ok (.ret (.bool true)) ∧ OldK s.heap s'.heap ∧ s'.os = s.os ∧ AllBare s'.gens) s := by
  have noD : ∀ {b : Addr} {o : Obj}, s.heap.get? b = some o → (∀ vs n, o.data ≠ .seq vs n) → o.data ≠ .fields #[] → H b = none := by
    intro b o e h1 h2
    cases z : H b with
    | none => rfl
    | some u =>
      rcases only b u z with ⟨rfl, _⟩ | ⟨t, ht, rfl⟩
      · rw [script] at e
        cases e
        exact (h1 _ _ rfl).elim
      · rw [hT t ht] at e
        cases e
        exact (h2 rfl).elim
  have nsb : ∀ {b : Addr} {m : Str → Option Value}, s.heap.Ns b m → (hidT s.heap H).Ns b m := by
    rintro b m ⟨o, es, ep, e, de, rest⟩
    exact ⟨o, es, ep, hidT_get e (noD e (fun vs n z => by rw [de] at z; cases z) (fun z => by rw [de] at z; cases z)), de, rest⟩
  have kb : K.In (hidT s.heap H) := by
    intro b o e
    refine hidT_get (inK b o e) ?_
    cases z : H b with
    | none => rfl
    | some u =>
      rcases only b u z with ⟨rfl, nk, _⟩ | ⟨t, ht, rfl⟩
      · rw [nk] at e
        cases e
      · rw [nT t ht] at e
        cases e
  obtain ⟨mc, l1, l2⟩ := lim
  have modu : Mod K mg (hidT s.heap H) := ⟨kb, nsb gns, ⟨mb, nsb bns, bb⟩, ⟨mc, nsb l1, l2⟩⟩
  have noEnv : ∀ b ∈ frs [], H b = none := fun b z => absurd (show b ∈ ([] : List Addr) from z) List.not_mem_nil
  have env0 : Env0 P w K mg (hidT s.heap H) callerA [] s H := ⟨rfl, modu, fun b o e => of_hidT e, Nat.le_of_eq (hidT_size _ _), trivial, noEnv, fits, .of_eq nogen⟩
  have TB : ∀ t ∈ Ts, LamX.TabB (hidT s.heap H) mg t.2.1 t.2.2 := by
    intro t ht
    refine ⟨?_, ?_, fun z => ?_⟩
    · obtain ⟨o, us, file, tf, flags, tg, inF, text, tt, e1, r1, r2, r3, r4, r5, r6, r7, r8, hne⟩ := C t ht
      refine ⟨o, us, file, tf, flags, tg, inF, text, tt, hidT_get e1 (noD e1 (fun vs n z => ?_) fun z => ?_), r1, r2, r3, r4, r5, r6, r7, r8, hne⟩
      · rw [r2] at z
        cases z
      · rw [r2] at z
        cases z
        simp at r3
    · obtain ⟨bm, ob, b1, b2, b3, b4, b5, b6⟩ := hbm
      have nG : bm ≠ mainGlobals := fun q => by
        obtain ⟨o, es, ep, e, hd, _⟩ := gns
        rw [q, e] at b3
        cases b3
        rw [hd] at b6
        cases b6
      have nP : bm ≠ t.2.2 := fun q => by
        rw [q, hT t ht] at b3
        cases b3
        cases b6
      exact ⟨bm, ob, b1, b2, nG, nP, hidT_get b3 (noD b3 (fun vs n z => by rw [b6] at z; cases z) fun z => by rw [b6] at z; cases z), b4, b5, b6⟩
    · obtain ⟨o, es, ep, e, hd, _⟩ := gns
      rw [z, hT t ht] at e
      cases e
      cases hd
  refine codeAny_mono ((F _ kb (nsb gns) TB).go [] s H ⟨[.ref a], []⟩ [.ref a] [.ref a] _ _ room env0 (bind1 s (.ref a)) (.cons rfl .nil) want) ?_
  intro r s' z
  match r, z with
  | .error er, z => exact z.elim
  | .ok .next, z => exact z.elim
  | .ok .brk, z => exact z.elim
  | .ok .cont, z => exact z.elim
  | .ok (.ret u), ⟨v, H', os, bare, un, fits', rel, q⟩ =>
    have q : v = .bl true := q
    subst q
    obtain rfl : u = Value.bool true := rel
    have key : ∀ b o, (∀ t ∈ Ts, b ≠ t.2.2) → s.heap.get? b = some o → s'.heap.get? b = some o := by
      intro b o nb e
      cases zb : H b with
      | none => exact un.keep b o e zb (fun z => absurd (show b ∈ ([] : List Addr) from z) List.not_mem_nil) List.not_mem_nil
      | some u =>
        rcases only b u zb with ⟨_, _, ob, xs, rfl⟩ | ⟨t, ht, z⟩
        · have now := (fits' b _ (un.frzs b ob _ zb)).1
          have then_ := (fits b _ zb).1
          rw [e] at then_
          cases then_
          exact now
        · exact absurd z (nb t ht)
    have grown : ∀ t ∈ Ts, ∃ more, s'.heap.get? t.2.2 = some { cls := .none, data := .fields more } := fun t ht => by
      obtain ⟨more, zt⟩ := un.tbls t.2.2 #[] (tab t ht)
      have g := fits' t.2.2 _ zt
      rw [Array.empty_append] at g
      exact ⟨more, g⟩
    refine ⟨rfl, ⟨fun b o e => ?_, fun b o e => ?_⟩, os, bare⟩
    · by_cases hb : ∃ t ∈ Ts, b = t.2.2
      · obtain ⟨t, ht, rfl⟩ := hb
        rw [hT t ht] at e
        cases e
        obtain ⟨more, g⟩ := grown t ht
        exact .inr (.inl ⟨((C t ht).tab (hT t ht)).isCodeTable, rfl, #[], more, rfl, by rw [Array.empty_append]; exact g⟩)
      · exact .inl (key b o (fun t ht z => hb ⟨t, ht, z⟩) e)
    · by_cases hb : ∃ t ∈ Ts, b = t.2.2
      · obtain ⟨t, ht, rfl⟩ := hb
        obtain ⟨more, g⟩ := grown t ht
        exact ⟨_, g⟩
      · exact ⟨o, key b o (fun t ht z => hb ⟨t, ht, z⟩) e⟩
theorem walk_Ts {l : PySem.W.OpenLaw} {n k : Nat} {q : Program} {loose : List Str} {XP : (Str → Option Value) → Heap → Prop} {YP : World → Heap → Prop} {d : DefRec} {K : Params → PySem.W.Frag} {x : Str} (gs : List Str)
    (most : l.most = some n) (small : n ≤ sizeLine) (nodefault : d.params.defaults = []) (room : Room k callerA) (rec : ∀ g ∈ gs, ∃ dg, (recsOf q).find? (fun e => e.name == g) = some dg)
    (Y : ∀ (w : World) (h : Heap), YP w h → (K w.params).In h)
    (F : ∀ (w : World) (mg : Str → Option Value) (fa : Addr) (h : Heap), (K w.params).In h → h.Ns mainGlobals mg → mg d.name = some (.ref fa) →
      ∃ (fd : FuncData) (Ts : List (Str × Addr × Addr)) (sp : Sp), (∀ t ∈ Ts, t.1 ∈ gs ∧ PySem.W.tabIn (K w.params) t.1 = some t.2 ∧ (K w.params).lookup t.2.2 = none) ∧ (∀ (s : Shared) (u : Value), BindsTo s fd ⟨[u], []⟩ [(x, u)]) ∧
        (∀ (H : Hp) (a : Addr) (ns : List Int), ns.length ≤ n → (∀ t ∈ Ts, H t.2.2 = some (.tbl #[])) → SqL (K w.params) H a (ns.map V.int) → sp [.ref a] H (fun v _ => v = .bl true) fun _ _ _ => False) ∧
        ∀ base : Heap, (K w.params).In base → base.Ns mainGlobals mg → (∀ t ∈ Ts, LamX.TabB base mg t.2.1 t.2.2) → FnAt callerA l.prog w (K w.params) mg base CX0 k fa fd [x] sp) :
    PySem.W.WalkO q loose XP YP l.row.toRowW d [] (fun f vs => PySem.call f vs) := by
  refine Att.attach_call most nodefault ?_
  intro w s0 s mg mb fa o pm cd doc a vs ns G y _ _ _ at_law script hi len nogen
  have inK := Y w _ y
  obtain ⟨fd, Ts, sp, hts, b1, want, f⟩ := F w mg fa _ inK G.T.g at_law
  have ct : ∀ t ∈ Ts, PySem.W.CodeHd s.heap t.2.1 t.2.2 ∧ s.heap.get? t.2.2 = some { cls := .none, data := .fields #[] } := fun t ht => by
    obtain ⟨h1, h2, h3⟩ := hts t ht
    obtain ⟨dg, hd⟩ := rec _ h1
    exact PySem.W.tab_of G.T inK hd h2
  have hT := fun t ht => (ct t ht).2
  have C := fun t ht => (ct t ht).1
  have nT := fun t ht => (hts t ht).2.2
  have rel : Vals (ns.map V.int) vs := vals_ints hi
  have sz : ns.length ≤ sizeLine := Nat.le_trans len small
  have aP : ∀ t ∈ Ts, a ≠ t.2.2 := by
    rintro t ht rfl
    rw [hT t ht] at script
    cases script
  have dec : ∀ b, Decidable (∃ t ∈ Ts, b = t.2.2) := fun b => inferInstance
  cases look : (K w.params).lookup a with
  | some ob =>
    have same := inK a ob look
    rw [script] at same
    cases same
    refine begin_tabs (Ts := Ts) (H := fun b => if ∃ t ∈ Ts, b = t.2.2 then some (.tbl #[]) else none) inK G.T.g G.T.b G.T.builtins G.T.nolimit nogen hT nT C G.T.bmain script room f b1 (fun b u z => .inr ?_) (fun t ht => if_pos ⟨t, ht, rfl⟩) (fun b u z => ?_) (want _ a ns len (fun t ht => if_pos ⟨t, ht, rfl⟩) (.inr ⟨_, vs.toArray, _, look, rfl, rfl, rfl, ?_, ?_⟩))
    · replace z : (if ∃ t ∈ Ts, b = t.2.2 then some (HO.tbl #[]) else none) = some u := z
      by_cases hb : ∃ t ∈ Ts, b = t.2.2
      · exact hb
      · rw [if_neg hb] at z
        cases z
    · replace z : (if ∃ t ∈ Ts, b = t.2.2 then some (HO.tbl #[]) else none) = some u := z
      by_cases hb : ∃ t ∈ Ts, b = t.2.2
      · rw [if_pos hb] at z
        cases z
        obtain ⟨t, ht, rfl⟩ := hb
        exact hT t ht
      · rw [if_neg hb] at z
        cases z
    · rw [List.size_toArray, hi.length]
      exact sz
    · simpa using rel
  | none =>
    refine begin_tabs (Ts := Ts) (H := fun b => if b = a then some (.frz { cls := .type "list", data := .seq vs.toArray } (.lst (ns.map V.int))) else if ∃ t ∈ Ts, b = t.2.2 then some (.tbl #[]) else none) inK G.T.g G.T.b G.T.builtins G.T.nolimit nogen hT nT C G.T.bmain script room f b1 (fun b u z => ?_) (fun t ht => ?_) (fun b u z => ?_) (want _ a ns len (fun t ht => ?_) (.inl (.inr ⟨_, if_pos rfl⟩)))
    · replace z : (if b = a then some (HO.frz { cls := .type "list", data := .seq vs.toArray } (.lst (ns.map V.int))) else if ∃ t ∈ Ts, b = t.2.2 then some (.tbl #[]) else none) = some u := z
      by_cases hb : b = a
      · rw [if_pos hb] at z
        exact .inl ⟨hb, look, _, _, (Option.some.inj z).symm⟩
      · rw [if_neg hb] at z
        by_cases hp : ∃ t ∈ Ts, b = t.2.2
        · exact .inr hp
        · rw [if_neg hp] at z
          cases z
    · show (if t.2.2 = a then _ else _) = _
      rw [if_neg (fun z => aP t ht z.symm), if_pos ⟨t, ht, rfl⟩]
    · replace z : (if b = a then some (HO.frz { cls := .type "list", data := .seq vs.toArray } (.lst (ns.map V.int))) else if ∃ t ∈ Ts, b = t.2.2 then some (.tbl #[]) else none) = some u := z
      by_cases hb : b = a
      · rw [if_pos hb] at z
        cases z
        subst hb
        exact ⟨script, by rw [List.length_map]; exact sz, vs, _, rel, script⟩
      · rw [if_neg hb] at z
        by_cases hp : ∃ t ∈ Ts, b = t.2.2
        · rw [if_pos hp] at z
          cases z
          obtain ⟨t, ht, rfl⟩ := hp
          exact hT t ht
        · rw [if_neg hp] at z
          cases z
    · show (if t.2.2 = a then _ else _) = _
      rw [if_neg (fun z => aP t ht z.symm), if_pos ⟨t, ht, rfl⟩]
/-! ### several tables through steps -/
open LamX in
theorem Tabs.x {p : Addr} {TT : List (Addr × Str)} {H H' : Hp} (t : Tabs TT H) (s : SameX p H H') (hp : PotAt H p) : Tabs TT H' := fun q hq => TabS.x (t q hq) s hp
open LamX in
theorem Tabs.sm {TT : List (Addr × Str)} {H H' : Hp} (t : Tabs TT H) (s : Same H H') : Tabs TT H' := t.ext s
open LamX in
theorem Tabs.set {TT : List (Addr × Str)} {D : Addr} {H : Hp} {xs ys : List V} (t : Tabs TT H) (h : H D = some (.lst xs)) : Tabs TT (upd H D (.lst ys)) := fun q hq => TabS.set (t q hq) h
open LamX in
theorem ExtN.dp {K : PySem.W.Frag} {H H' : Hp} {v : V} {d : PyData} (e : ExtN H H') (h : Dp K H v d) (i : imm d = true) : Dp K H' v d := h.kt (ExtN.kt e) i
open LamX in
theorem ExtN.sqt {K : PySem.W.Frag} {H H' : Hp} {a : Addr} {xs : List V} (e : ExtN H H') (h : SqT K H a xs) : SqT K H' a xs := (ExtN.kt e).sqt h
theorem ExtX.refl (p : Addr) (H : Hp) : ExtX p H H := fun _ _ _ h _ => h
theorem tt0 {P0 P1 : Addr} {q0 q1 : Str} (n : P0 ≠ P1) : ∀ p ∈ [(P0, q0), (P1, q1)], p.1 = P0 → p.2 = q0 := fun p hp e => by
  simp only [List.mem_cons, List.not_mem_nil, or_false] at hp
  rcases hp with rfl | rfl
  · rfl
  · exact absurd e.symm n
theorem tt1 {P0 P1 : Addr} {q0 q1 : Str} (n : P0 ≠ P1) : ∀ p ∈ [(P0, q0), (P1, q1)], p.1 = P1 → p.2 = q1 := fun p hp e => by
  simp only [List.mem_cons, List.not_mem_nil, or_false] at hp
  rcases hp with rfl | rfl
  · exact absurd e n
  · rfl
abbrev qOrd : Str := ("in_order" : Str) ++ ".<locals>." ++ "<lambda>"
def spFirstT (K : PySem.W.Frag) (TT : List (Addr × Str)) : Sp := fun vs H Q _ => ∃ (n : Nat) (l : Addr) (rs : List V) (ps : List (Int × Int)), vs = [.ref l] ∧ n ≤ 8999 ∧ SqT K H l rs ∧ Parts K H rs ps ∧ (∀ q ∈ ps, Okp n q) ∧ (ps.length + 2) * (n + 1) ≤ 800000 ∧ LamX.Tabs TT H ∧
  ∀ H' p ord, LamX.ExtN H H' → LamX.Tabs TT H' → New H p → H' p = some (.lst (ord.map fun j : Nat => V.int j)) → RankedP ps ord → Q (.ref p) H'
def spLawTs (K : PySem.W.Frag) (TT : List (Addr × Str)) : Sp := fun vs H Q _ => ∃ (a : Addr) (ns : List Int), vs = [.ref a] ∧ SqL K H a (ns.map V.int) ∧ ns.length ≤ 63 ∧ LamX.Tabs TT H ∧ ∀ H', Q (.bl true) H'
def spOneTs (TT : List (Addr × Str)) : Sp := fun vs H Q _ => ∃ p, vs = [.ref p] ∧ PotAt H p ∧ LamX.Tabs TT H ∧ ∀ H', ExtX p H H' → LamX.Tabs TT H' → Q (.bl true) H'
end WS
set_option Elab.async false
set_option linter.all false
set_option maxRecDepth 100000
set_option maxHeartbeats 4000000
namespace WS
open PySem PySem.Spec PyProof.Rows L2
/-! len(set(t)) of unlike texts -/
section
variable {prog : Program} {w : World} {A : Around} {R : Result → Shared → Prop} {I : Addr} {fp wr : List Addr} {G : Array GenState → Array GenState → Prop} {n : Nat} {P : Nat → Value → Prop} {St : Nat → Shared → Prop}
theorem loopStrN (W : WalksS prog w A.in1 I fp wr G n P St) (S : Addr) (hSf : S ∉ fp) (xs : List Str) (hsz : xs.length = n) (hn1 : n + 1 < scanBound) (hnd : xs.Nodup) (hval : ∀ i v, P i v → ∃ t, v = .str (xs.getD i Str.empty) t) :
    ∀ (k i : Nat) (s : Shared), n - i = k → i ≤ n → St i s → s.heap.SetOf (PySem.strKind prog w) S (fun k' => (xs.take i).any (· == k')) i →
      (∀ s', Moved (S :: wr) G s s' → s'.heap.SetOf (PySem.strKind prog w) S (fun k' => (xs.take n).any (· == k')) n → R (.ok (.ret .none)) s') →
      codeAny (model prog w) A (.builtin "set.update.loop" ⟨[.ref S, .ref I], []⟩) R s := by
  have hSw : S ∉ wr := fun h => hSf (W.sub _ h)
  have hsub : ∀ b ∈ wr, b ∈ S :: wr := fun b hb => List.mem_cons_of_mem _ hb
  have carry : ∀ {i : Nat} {s s' : Shared}, Moved wr G s s' → s.heap.SetOf (PySem.strKind prog w) S (fun k' => (xs.take i).any (· == k')) i → s'.heap.SetOf (PySem.strKind prog w) S (fun k' => (xs.take i).any (· == k')) i := fun hm ⟨o, es, ep, t, ho, rest⟩ => ⟨o, es, ep, t, hm.heap S _ hSw ho, rest⟩
  intro k
  induction k with
  | zero =>
    intro i s hk hi hst hS hR
    obtain rfl : i = n := by omega
    refine codeAny_builtin PyProof.Rows.F.entry_set_update_loop ?_
    rw [Around.under_plainId PyProof.Rows.F.plain_set_update_loop _]
    show wpAny _ A.in1 (pyNext (.ref I) >>= _) _ _ s
    refine wpAny_bind (W.done s _ _ hst fun s' hm => ?_)
    show wpAny _ A.in1 (ret Value.none) _ _ s'
    exact wpAny_pure (hR s' (hm.mono hsub) (carry hm hS))
  | succ k ih =>
    intro i s hk hi hst hS hR
    have hlt : i < n := by omega
    have hix : i < xs.length := by omega
    refine codeAny_builtin PyProof.Rows.F.entry_set_update_loop ?_
    rw [Around.under_plainId PyProof.Rows.F.plain_set_update_loop _]
    show wpAny _ A.in1 (pyNext (.ref I) >>= _) _ _ s
    refine wpAny_bind (W.item i s _ _ hlt hst fun v s' hP hst' hm => ?_)
    obtain ⟨t, rfl⟩ := hval i v hP
    have eg : xs.getD i Str.empty = xs[i] := by rw [List.getD_eq_getElem?_getD, List.getElem?_eq_getElem hix]; rfl
    rw [eg]
    have hS' := carry hm hS
    show wpAny _ A.in1 (holding [Value.str xs[i] t] (setAdd S (.str xs[i] t)) >>= _) _ _ s'
    refine wpAny_bind (wpAny_holding ?_)
    unfold setAdd
    refine wpAny_holding ?_
    refine wpAny_bind ((PySem.strKind prog w).pyHash (k := xs[i]) (strKind_is _ _ _ _) ?_)
    refine wpAny_setAddHashed_of (knd := PySem.strKind prog w) (s := { s' with toks := s'.toks + 1 }) (strKind_is _ _ _ _) rfl hS' (by omega) fun h' hsb hS2 => ?_
    have nin : (xs.take i).any (· == xs[i]) = false := by
      rw [List.any_eq_false]
      intro y hy e
      have e : y = xs[i] := by simpa using e
      obtain ⟨j, hj, rfl⟩ := List.mem_iff_getElem.mp hy
      rw [List.length_take] at hj
      rw [List.getElem_take] at e
      have := (List.getElem_inj hnd).mp e
      omega
    have hSi : h'.SetOf (PySem.strKind prog w) S (fun k' => (xs.take (i + 1)).any (· == k')) (i + 1) := by
      refine PyProof.Rows.SetOf_congr hS2 (fun k' => ?_) (by rw [if_neg (by rw [nin]; simp)])
      rw [List.take_add_one, List.getElem?_eq_getElem hix, List.any_append]
      show ((xs.take i).any (· == k') || decide (k' = xs[i])) = ((xs.take i).any (· == k') || [xs[i]].any (· == k'))
      congr 1
      by_cases e : k' = xs[i]
      · rw [e]; simp
      · have hb : (xs[i] == k') = false := by simpa [beq_iff_eq] using (fun h' : xs[i] = k' => e h'.symm)
        simp [hb, e]
    refine wpAny_pure ⟨plainId_quiet PyProof.Rows.F.plain_set_update_loop _, ih (i + 1) _ (by omega) hlt (W.frame _ s' _ _ hst' (Nat.le_succ _) fun b hb o e => ?_) hSi fun s'' hm'' hS'' => ?_⟩
    · rw [hsb.2 b (fun h : b = S => hSf (by rw [← h]; exact hb))]; exact e
    · refine hR s'' (Moved.trans W.gtrans ((hm.mono hsub).then_heap (Nat.le_succ _) fun b o hb e => ?_) hm'') hS''
      rw [hsb.2 b (fun h : b = S => hb (by rw [h]; exact List.mem_cons_self))]; exact e
end
section
variable {prog : Program} {w : World} {A : Around} {E : Value → Shared → Prop} {s : Shared}
/-- set(x): made, then filled -/
theorem call_set_fill {x : Value} {Q Q₁ : Value → Shared → Prop} (hnew : codeAny (model prog w) A.in1 (.call (.builtin "set.__new__") ⟨[.type "set", x], []⟩) (wants Q₁ E) s)
    (fill : ∀ obj s₁, Q₁ obj s₁ → s₁.TypeIs obj "set" ∧ wpAny (model prog w) A.in1.in1 (Builtin.«set.__init__» ⟨[obj, x], []⟩)
      (fun fin s' => match fin with | .done f => wants (fun r s₂ => r = .none ∧ Q obj s₂) E (.ok f) s' | .again c' => c'.quiet = true ∧ codeAny (model prog w) A.in1 c' (wants (fun r s₂ => r = .none ∧ Q obj s₂) E) s')
      (fun e s' => wants (fun r s₂ => r = .none ∧ Q obj s₂) E (.error e) s') s₁) : wpAny (model prog w) A (call (.type "set") [x]) Q E s := by
  have ft := PySem.F.called_set
  obtain ⟨c, tl, hmro⟩ := ft.mro
  have hmade := ft.made
  have hsub := ft.sub
  have h1 := ft.notType
  have h2 := ft.canCreate
  have hct := PySem.F.typeCall_set_1 x
  refine wpAny_call (codeAny_of_tree ?_)
  show wpAny _ _ (callAny (.type "set") _) _ _ _
  refine wpAny_pure ⟨Code.quiet_builtin _ (by decide +kernel), codeAny_builtin PySem.F.entry_type_call ?_⟩
  rw [Around.under_plain (weight_type_call_type "set" [x] []) rfl]
  repeat (any_goals (first | assumption | wp_step))
  refine codeAny_mono hnew fun r s₁ hr => ?_
  match r, hr with
  | .error e, hr => exact hr
  | .ok (.ret obj), hr =>
    obtain ⟨hT, hfill⟩ := fill _ _ hr
    have hli := ft.init.lookup
    have hbi := ft.init.bind obj
    repeat (any_goals (first | assumption | wp_step))
    refine codeAny_mono (codeAny_call_builtin ft.init.plain PySem.F.entry_set_init (check_set_init_1 hT hfill)) fun r₂ s₂ hr₂ => ?_
    match r₂, hr₂ with
    | .error e, hr₂ => exact hr₂
    | .ok (.ret r), hr₂ =>
      obtain ⟨rfl, hq⟩ := hr₂
      repeat (any_goals (first | assumption | wp_step))
    | .ok .next, hr₂ => exact hr₂.elim
    | .ok .brk, hr₂ => exact hr₂.elim
    | .ok .cont, hr₂ => exact hr₂.elim
  | .ok .next, hr => exact hr.elim
  | .ok .brk, hr => exact hr.elim
  | .ok .cont, hr => exact hr.elim
/-- set(t), t a tuple of unlike texts -/
theorem call_set_tupleN {l : Addr} {items : Array Value} {xs : List Str} {Q : Value → Shared → Prop} (hh : A.handled = none) (hl : s.heap.IsTuple l items) (hi : PyProof.Rows.StrsAre items.toList xs) (hb : xs.length + 1 < scanBound) (hnd : xs.Nodup)
    (h : ∀ (h' : Heap) (tk : Nat), h'.SetOf (PySem.strKind prog w) s.heap.objs.size (fun k' => (xs.take items.size).any (· == k')) items.size → (∀ b o, b < s.heap.objs.size → s.heap.get? b = some o → h'.get? b = some o) → Q (.ref s.heap.objs.size) { s with heap := h', toks := tk }) :
    wpAny (model prog w) A (call (.type "set") [.ref l]) Q E s := by
  refine call_set_fill (Q₁ := fun obj s₁ => ∃ led : Bool, obj = .ref s.heap.objs.size ∧ s₁ = { s with heap := s.heap.push { cls := .type "set", dict := none, data := .set #[] 0 (.fresh 0 0 led) } }) (code_set_new_1 (.ref l) fun led => ⟨led, rfl, rfl⟩) fun obj s₁ h₁ => ?_
  obtain ⟨led, rfl, rfl⟩ := h₁
  generalize ho : ({ cls := .type "set", dict := none, data := .set #[] 0 (.fresh 0 0 led) } : Obj) = oS
  have hS : (s.heap.push oS).get? s.heap.objs.size = some oS := Heap.get?_push_size _ (by rw [← ho]; rfl)
  have hlS : l < s.heap.objs.size := by
    obtain ⟨o, e, _⟩ := hl
    exact Heap.lt_size e
  refine ⟨⟨oS, hS, by rw [← ho]⟩, ?_⟩
  obtain ⟨⟨oc, od, odat, osl⟩, e0, ec, nl, ed⟩ := id hl
  simp only at ec ed
  subst ec ed
  have e1 : (s.heap.push oS).get? l = some { cls := .type "tuple", dict := od, data := .seq items nl, slots := osl } := Heap.get?_push_of_some _ e0
  have hl1 : (s.heap.push oS).IsTuple l items := ⟨_, e1, rfl, nl, rfl⟩
  have f1 := PySem.F.sub_tuple_set
  have f2 := PySem.F.sub_tuple_frozenset
  have f3 : (Value.type "tuple" == Value.type "dict") = false := by decide
  have hT : Shared.TypeIs { s with heap := s.heap.push oS } (.ref s.heap.objs.size) "set" := ⟨oS, hS, by rw [← ho]⟩
  subst ho
  unfold Builtin.«set.__init__» noKeywords Builtin.Frozenset.updateFrom
  generalize hP : pyIter = PI
  wp_walk
  subst hP
  refine wpAny_pyIter_tuple hl1 (wpAny_bind (wpAny_runValue ?_))
  generalize ho : ({ cls := .type "set", dict := none, data := .set #[] 0 (.fresh 0 0 led) } : Obj) = oS at hS hl1 hT
  have sz : (s.heap.push oS).objs.size = s.heap.objs.size + 1 := Heap.size_push ..
  have el : xs.length = items.size := by rw [← PyProof.Rows.StrsAre.len_eq hi, Array.length_toList]
  have n1 : l ≠ (s.heap.push oS).objs.size := by rw [sz]; exact Nat.ne_of_lt (Nat.lt_succ_of_lt hlS)
  have h3 : A.in1.in1.in1.handled = none := hh
  refine loopStrN ((Walks.tuple h3 _ l n1 items).toS) s.heap.objs.size (by simp [sz]; exact Nat.ne_of_gt hlS) xs el (by omega) hnd (fun i v hv => SS.strs_at hi i v (by rw [Array.getElem?_toList]; exact hv)) items.size 0 _ (by omega) (Nat.zero_le _) ⟨⟨_, Heap.get?_push_size _ rfl, rfl, rfl⟩, hl1.push _⟩ ?_ fun s' hm hS' => ?_
  · exact PyProof.Rows.SetOf_congr ((PyProof.Rows.setObjOf_fresh (knd := PySem.strKind prog w) led).setOf (by rw [ho]; exact Heap.get?_push_of_some _ hS) (by unfold scanBound; omega)) (fun _ => rfl) rfl
  · obtain ⟨h', g', d', tk', os'⟩ := s'
    obtain rfl : g' = s.gens := hm.gens
    obtain rfl : d' = s.drawn := hm.drawn
    obtain rfl : os' = s.os := hm.os
    refine wpAny_pure (wpAny_pure ⟨rfl, h h' tk' hS' fun b o hb e => ?_⟩)
    exact hm.heap b o (by simp [sz]; exact ⟨Nat.ne_of_lt hb, Nat.ne_of_lt (Nat.lt_succ_of_lt hb)⟩) (Heap.get?_push_of_some _ (Heap.get?_push_of_some _ e))
end
def tLenSetN (K : PySem.W.Frag) (ta : TE) : TE := fun σ H Q => ta σ H fun x H1 => ∃ (l : Addr) (xs : List Str), x = .ref l ∧ SqT K H1 l (xs.map V.str) ∧ xs.Nodup ∧ xs.length ≤ 1000 ∧ Q (.int (xs.length : Nat)) H1
theorem pe_lenSetN {X : Cx} {a : Expr} {ta : TE} {p p2 q pos : Pos} (hc : X.calm = true) (hg : Gl X "len") (hm : X.mg "len" = none) (hg2 : Gl X "set") (hm2 : X.mg "set" = none) (ha : PE X a ta)
    (na : starEach [a] X.env = (false, eval a X.env) :: starEach [] X.env := by rfl) : PE X (.Call (.Name "len" p) [.Call (.Name "set" p2) [a] [] q] [] pos) (tLenSetN X.K ta) := by
  refine ⟨fun pins s σ H Q I h => ?_⟩
  refine Call_ (ld_blt I hg hm boot_len ?_)
  refine PyProof.Rows.callWith_builtin1 (PyProof.Rows.args_cons ?_ rfl) rfl rfl
  refine Call_ (ld_blt I hg2 hm2 boot_set ?_)
  refine PyProof.Rows.callWith_type1 (PyProof.Rows.args_cons (thn (ha.run pins s σ H _ I h) fun v s1 ⟨x, H1, I1, r1, q1⟩ => PyProof.Rows.args_nil ?_) na) na rfl
  obtain ⟨l, xs, rfl, hq, hnd, h1, q1⟩ := q1
  cases r1
  obtain ⟨its, r, pl, hz⟩ := I1.tuple hq
  have hl : its.toArray.size = xs.length := by rw [List.size_toArray, ← r.length, List.length_map]
  refine call_set_tupleN (I1.ok.hd hc) pl (by simpa using strsAre_of r) (by unfold scanBound; omega) hnd fun h' tk hS hk => ?_
  refine PyProof.Rows.args_nil ?_
  rw [hl] at hS
  obtain ⟨o, es, ep, t, ho, hex, hd, _, _, _, hf, hn⟩ := hS
  have I2 : Inv X pins σ H1 { s1 with heap := h', toks := tk } := I1.kept fun b o e => hk b o (Heap.lt_size e) e
  exact call_len_set ho hex hd hf (by rw [hn]; omega) ⟨.int xs.length, H1, I2.tok _, ⟨_, by rw [hn]⟩, q1⟩
end WS
set_option Elab.async false
set_option linter.all false
set_option maxRecDepth 100000
set_option maxHeartbeats 4000000
namespace WS
open PySem PySem.Spec PyProof.Rows L2
/-! sorted(t, reverse=True), t a tuple of numbers -/
open PySem.W in
theorem sorted_revT {prog : Program} {w : World} {A : Around} {E : Value → Shared → Prop} {s : Shared} {r : Addr} {ts : List Value} {ns : List Int} {Q : Value → Shared → Prop} (hr : s.heap.IsTuple r ts.toArray) (hZ : ts.length ≤ sizeLine) (hu : A.units + 10 < cLine) (ea : EachIs (fun (v : Value) (n : Int) => ∃ t, v = .int n t) ts ns)
    (h : ∀ (a : Addr) (h' : Heap) (out : List Value) (c : Nat), (∀ b o, s.heap.get? b = some o → h'.get? b = some o) → s.heap.get? a = none → h'.get? a = some (seqObj "list" out.toArray c) → EachIs (fun (v : Value) (n : Int) => ∃ t, v = .int n t) out (ns.mergeSort (dataLe true fun n => PyData.int n)) → Q (.ref a) { s with heap := h' }) :
    wpAny (model prog w) A (call (.builtin "sorted") [.ref r] [(Str.ofString "reverse", .bool true)]) Q E s := by
  obtain ⟨o, ho, hc, n, hd⟩ := hr
  refine call_function_entry_kw kind_sorted plain_sorted entry_sorted (args_sorted_rev _ _) ?_
  unfold Builtin.«sorted»
  refine wpAny_bind (m := checkCount "sorted" 1 1 _) (wpAny_pure ?_)
  refine wpAny_bind (wpAny_collect_seq (hsz := by rw [List.size_toArray]; exact hZ) r (.inr rfl) ho hc hd fun h1 kp1 => ?_)
  have el : ts.toArray.toList = ts := by simp
  rw [el]
  refine wpAny_bind (wpAny_newList ?_ hZ)
  have hL : (h1.push (seqObj "list" ts.toArray 0)).get? h1.objs.size = some (seqObj "list" ts.toArray 0) := Heap.get?_push_size _ rfl
  have ge : s.heap.get? h1.objs.size = none := by
    cases z : s.heap.get? h1.objs.size with
    | none => rfl
    | some o => exact absurd (Heap.lt_size (kp1 _ _ z)) (Nat.lt_irrefl _)
  have er : EachIs (fun v (b : Int) => ∃ as, Reads (h1.push (seqObj "list" ts.toArray 0)) v (PyData.int b) as ∧ h1.objs.size ∉ as) ts ns := ea.mono fun v b ⟨t, e⟩ => ⟨[], by rw [e]; exact .int _ _, by simp⟩
  refine wpAny_bind (wpAny_holding (list_sort_rev_data (A := A.in1) (s := { s with heap := h1.push (seqObj "list" ts.toArray 0) }) (enc := fun n => PyData.int n) hL ea er (fun d hd d' hd' => ?_) (.inr fun d hd => ?_) (by rw [← ea.length]; exact hZ) (fun b _ => ?_) fun out hl eo => ?_))
  · obtain ⟨x, _, rfl⟩ := List.mem_map.mp hd
    obtain ⟨y, _, rfl⟩ := List.mem_map.mp hd'
    rfl
  · obtain ⟨x, _, rfl⟩ := List.mem_map.mp hd
    exact ⟨(fun z => by cases z), (fun xs z => by cases z)⟩
  · show A.units + 1 + 1 + PyData.depth (.int b) < cLine
    simp only [PyData.depth]
    omega
  · obtain ⟨e, ho'⟩ := sortedHeap_at hL (out := out.toArray)
    exact wpAny_pure ⟨_, rfl, h h1.objs.size _ out e (fun b o eb => (sortedHeap_old (Nat.ne_of_lt (Heap.lt_size (kp1 b o eb))) (Heap.lt_size (Heap.get?_push_of_some _ (kp1 b o eb)))).trans (Heap.get?_push_of_some _ (kp1 b o eb))) ge ho' eo⟩
theorem each_ints : ∀ {ns : List Int} {us : List Value}, Vals (ns.map V.int) us → PySem.W.EachIs (fun (v : Value) (n : Int) => ∃ t, v = .int n t) us ns
  | [], _, h => by cases h; exact .nil
  | z :: zs, _, h => by
    cases h with
    | cons r t => exact .cons r (each_ints t)
theorem vals_eints : ∀ {out : List Value} {ns : List Int}, PySem.W.EachIs (fun (v : Value) (n : Int) => ∃ t, v = .int n t) out ns → Vals (ns.map V.int) out
  | _, _, .nil => .nil
  | _, _, .cons r t => .cons r (vals_eints t)
/-- the greatest first -/
def down (ns : List Int) : List Int := ns.mergeSort fun a b => decide (b ≤ a)
theorem down_perm (ns : List Int) : (down ns).Perm ns := List.mergeSort_perm _ _
theorem down_sorted (ns : List Int) : (down ns).Pairwise (· ≥ ·) := by
  have := List.pairwise_mergeSort (le := fun a b : Int => decide (b ≤ a)) (fun a b c h1 h2 => by
    have h1 := of_decide_eq_true h1
    have h2 := of_decide_eq_true h2
    exact decide_eq_true (by omega)) (fun a b => by
    rw [Bool.or_eq_true, decide_eq_true_eq, decide_eq_true_eq]
    omega) ns
  exact this.imp fun h => of_decide_eq_true h
theorem dataLe_down : PySem.W.dataLe true (fun n => PyData.int n) = fun a b => decide (b ≤ a) := by
  funext p q
  show (!PySem.W.dataLt (.int p) (.int q)) = _
  rw [PySem.W.dataLt_int]
  by_cases h : p < q
  · rw [decide_eq_true h, decide_eq_false (by omega)]
    rfl
  · rw [decide_eq_false h, decide_eq_true (by omega)]
    rfl
/-- two rows of numbers, the greatest first: one where they have the same numbers -/
theorem down_one {a b : List Int} (h : a.Perm b) : down a = down b := by
  refine List.Perm.eq_of_pairwise (le := fun x y => x ≥ y) (fun x y _ _ h1 h2 => by omega) (down_sorted a) (down_sorted b) ?_
  exact (down_perm a).trans (h.trans (down_perm b).symm)
def rSortedRT (K : PySem.W.Frag) : List V → List V → Hp → VK → Prop := fun vs zs H Q => ∃ (a : Addr) (ns : List Int), vs = [V.ref a] ∧ zs = [.bl true] ∧ SqT K H a (ns.map V.int) ∧ ns.length ≤ 1000 ∧ ∀ (p : Addr), H p = none → Q (.ref p) (upd H p (.lst ((down ns).map V.int)))
theorem cr_sortedRevT {X : Cx} (hu : X.A.units + 64 < cLine) : CallRK X (.builtin "sorted") [Str.ofString "reverse"] (rSortedRT X.K) := by
  intro pins s σ H vs zs us ws Q I r rz h
  obtain ⟨a, ns, rfl, rfl, hs, hl, q⟩ := h
  obtain rfl := Vals.ref1 r
  obtain ⟨w1, rfl, e1⟩ := vals1 rz
  obtain rfl : w1 = Value.bool true := e1
  obtain ⟨its, rv, pl, hz⟩ := I.tuple hs
  have tl : its.length = ns.length := by
    have := rv.length
    rw [List.length_map] at this
    omega
  refine sorted_revT (A := X.A) pl (by rw [tl]; exact Nat.le_of_lt (small1000 hl)) (by omega) (each_ints rv) fun p h' out c kp ge hp eo => ?_
  rw [dataLe_down] at eo
  have nH : H p = none := by
    cases z : H p with
    | none => rfl
    | some o =>
      obtain ⟨u, e⟩ := obj_there (I.hok p o z)
      rw [ge] at e
      cases e
  refine ⟨.ref p, _, Inv.laidN (t' := s.toks) (o := .lst ((down ns).map V.int)) I kp ge nH ⟨?_, out, c, vals_eints eo, hp⟩, rfl, q p nH⟩
  rw [List.length_map]
  show (down ns).length ≤ sizeLine
  rw [(down_perm ns).length_eq]
  exact Nat.le_of_lt (small1000 hl)
/-! ### evenings -/
def There (ss : List Seat) (zs : List Str) : Prop := 2 ≤ zs.length ∧ zs.length ≤ 100 ∧ zs.Nodup ∧ ∀ z ∈ zs, z ∈ names ss
def spCheckThere (K : PySem.W.Frag) : Sp := fun vs H Q _ => ∃ (v : V) (W : Int) (ss : List Seat) (r : Addr) (zs : List Str), vs = [v, .ref r] ∧ Dp K H v (momD W ss) ∧ ss.length ≤ 100 ∧ SqT K H r (zs.map V.str) ∧ There ss zs ∧ ∀ H', Same H H' → Q .non H'
def spIsDuty (K : PySem.W.Frag) : Sp := fun vs H Q _ => ∃ (v : V) (W : Int) (ss : List Seat) (n : Int), vs = [v, .int n] ∧ Dp K H v (momD W ss) ∧ 1 ≤ n ∧ n ≤ W ∧ ∀ H', Same H H' → Q (.bl true) H'
def spCheckDuties (K : PySem.W.Frag) : Sp := fun vs H Q _ => ∃ (v : V) (W : Int) (ss : List Seat) (r d : Addr) (us : List V) (ns : List Int), vs = [v, .ref r, .ref d] ∧ Dp K H v (momD W ss) ∧ SqT K H r us ∧ SqT K H d (ns.map V.int) ∧ ns.length ≤ us.length ∧ ns.length ≤ 100 ∧ (∀ n ∈ ns, 1 ≤ n ∧ n ≤ W) ∧ ∀ H', Same H H' → Q .non H'
/-- one owes more, or as much and sits ahead -/
def ahead (ss : List Seat) (a b : Str) : Prop := ltp (gs ss (idx ss b)).2 (gs ss (idx ss a)).2 = true ∨ (ltp (gs ss (idx ss b)).2 (gs ss (idx ss a)).2 = false ∧ ltp (gs ss (idx ss a)).2 (gs ss (idx ss b)).2 = false ∧ idx ss a < idx ss b)
def OrderOf (ss : List Seat) (zs os : List Str) : Prop := os.Perm zs ∧ os.Pairwise (ahead ss)
def spInOrder (K : PySem.W.Frag) (TT : List (Addr × Str)) : Sp := fun vs H Q _ => ∃ (v : V) (W : Int) (ss : List Seat) (r : Addr) (zs : List Str), vs = [v, .ref r] ∧ Dp K H v (momD W ss) ∧ ss.length ≤ 100 ∧ (∀ s ∈ ss, Okp 1900 s.2) ∧ SqT K H r (zs.map V.str) ∧ There ss zs ∧ LamX.Tabs TT H ∧
  ∀ t os H', LamX.ExtN H H' → LamX.Tabs TT H' → H' t = some (.tup (os.map V.str)) → OrderOf ss zs os → Q (.ref t) H'
def spServed (K : PySem.W.Frag) (TT : List (Addr × Str)) : Sp := fun vs H Q _ => ∃ (v : V) (W : Int) (ss : List Seat) (r d : Addr) (zs : List Str) (ns : List Int), vs = [v, .ref r, .ref d] ∧ Dp K H v (momD W ss) ∧ ss.length ≤ 100 ∧ (∀ s ∈ ss, Okp 1900 s.2) ∧ SqT K H r (zs.map V.str) ∧ There ss zs ∧ SqT K H d (ns.map V.int) ∧ ns.length ≤ zs.length ∧ (∀ n ∈ ns, 1 ≤ n ∧ n ≤ W) ∧ LamX.Tabs TT H ∧
  ∀ v' os H', LamX.ExtN H H' → LamX.Tabs TT H' → OrderOf ss zs os → Dp K H' v' (.tuple ((os.zip (down ns)).map fun x => .tuple [.str x.1, .int x.2])) → Q v' H'
end WS
set_option Elab.async false
set_option linter.all false
set_option maxRecDepth 100000
set_option maxHeartbeats 4000000
namespace WS
open PySem PySem.Spec PyProof.Rows L2
theorem dpall_mk {K : PySem.W.Frag} {H : Hp} : ∀ {vs : List V} {ds : List PyData}, vs.length = ds.length → (∀ (i : Nat) (v : V) (d : PyData), vs[i]? = some v → ds[i]? = some d → Dp K H v d) → DpAll K H vs ds
  | [], [], _, _ => .nil
  | [], _ :: _, h, _ => by cases h
  | _ :: _, [], h, _ => by cases h
  | v :: vs, d :: ds, h, f => .cons (f 0 v d rfl rfl) (dpall_mk (Nat.succ.inj h) fun i x y h1 h2 => f (i + 1) x y (by simpa using h1) (by simpa using h2))
theorem pairs_dp {K : PySem.W.Frag} {H : Hp} {ts : List Addr} {zs : List Str} {ms : List Int} (h : PairsAt H ts ((zs.map V.str).zip (ms.map V.int))) : DpAll K H (ts.map V.ref) ((zs.zip ms).map fun x => PyData.tuple [.str x.1, .int x.2]) := by
  have t := tops_of (K := K) h
  refine dpall_mk (by have := t.1; simp only [List.length_map] at this ⊢; exact this) fun i v d hv hd => ?_
  obtain ⟨x, u, ex, rfl, hu⟩ := t.2 i v hv
  rw [List.getElem?_map, ex] at hd
  obtain rfl := Option.some.inj hd
  exact mk_dp2 hu (.str _) (.int _)
/-- those there by their seats -/
def bySeats (ss : List Seat) (zs : List Str) : List Str := zs.mergeSort fun a b => decide (((idx ss a : Nat) : Int) ≤ ((idx ss b : Nat) : Int))
theorem bySeats_perm (ss : List Seat) (zs : List Str) : (bySeats ss zs).Perm zs := List.mergeSort_perm _ _
theorem idx_one {ss : List Seat} {a b : Str} (ha : a ∈ names ss) (hb : b ∈ names ss) (e : idx ss a = idx ss b) : a = b := by
  have get : ∀ z, z ∈ names ss → (ss.map Prod.fst)[idx ss z]? = some z := fun z hz => by
    obtain ⟨_, s, hs, rfl⟩ := names_mem.mp hz
    unfold idx
    rw [List.getElem?_eq_getElem (List.idxOf_lt_length_of_mem (List.mem_map_of_mem (f := Prod.fst) hs)), List.getElem_idxOf]
  have h1 := get a ha
  rw [e, get b hb] at h1
  exact (Option.some.inj h1).symm
theorem bySeats_up {ss : List Seat} {zs : List Str} (nd : zs.Nodup) (hin : ∀ z ∈ zs, z ∈ names ss) : (bySeats ss zs).Pairwise fun a b => idx ss a < idx ss b := by
  have sd := List.pairwise_mergeSort (le := fun a b : Str => decide (((idx ss a : Nat) : Int) ≤ ((idx ss b : Nat) : Int))) (fun a b c h1 h2 => by
    have h1 := of_decide_eq_true h1
    have h2 := of_decide_eq_true h2
    exact decide_eq_true (by omega)) (fun a b => by
    rw [Bool.or_eq_true, decide_eq_true_eq, decide_eq_true_eq]
    omega) zs
  have nd' : (bySeats ss zs).Nodup := (bySeats_perm ss zs).nodup_iff.mpr nd
  refine List.Pairwise.imp_of_mem (fun {a b} ha hb ⟨h, n⟩ => ?_) (sd.and nd')
  have h := of_decide_eq_true h
  have n : a ≠ b := n
  have ne : idx ss a ≠ idx ss b := fun e => n (idx_one (hin a ((bySeats_perm ss zs).mem_iff.mp ha)) (hin b ((bySeats_perm ss zs).mem_iff.mp hb)) e)
  omega
def owedOf (ss : List Seat) (z : Str) : Int × Int := (gs ss (idx ss z)).2
theorem order_of {ss : List Seat} {zs : List Str} {ord : List Nat} (nd : zs.Nodup) (hin : ∀ z ∈ zs, z ∈ names ss) (rk : RankedP ((bySeats ss zs).map (owedOf ss)) ord) : OrderOf ss zs (ord.map fun i => (bySeats ss zs).getD i "") := by
  obtain ⟨hp, hw⟩ := rk
  rw [List.length_map] at hp
  have mem : ∀ i ∈ ord, i < (bySeats ss zs).length := fun i hi => List.mem_range.mp (hp.mem_iff.mp hi)
  have up := bySeats_up nd hin
  refine ⟨?_, ?_⟩
  · refine ((hp.map fun i => (bySeats ss zs).getD i "").trans ?_).trans (bySeats_perm ss zs)
    have : (List.range (bySeats ss zs).length).map (fun i => (bySeats ss zs).getD i "") = bySeats ss zs := by
      apply List.ext_getElem?
      intro i
      by_cases h : i < (bySeats ss zs).length
      · rw [List.getElem?_map, List.getElem?_range h, List.getElem?_eq_getElem h, Option.map_some, List.getD_eq_getElem?_getD, List.getElem?_eq_getElem h]
        rfl
      · rw [List.getElem?_eq_none (by simp; omega), List.getElem?_eq_none (by omega)]
    rw [this]
  · rw [List.pairwise_map]
    refine List.Pairwise.imp_of_mem (fun {i j} hi hj h => ?_) hw
    have li := mem i hi
    have lj := mem j hj
    have ei : ((bySeats ss zs).map (owedOf ss)).getD i (0, 1) = owedOf ss ((bySeats ss zs).getD i "") := by
      rw [List.getD_eq_getElem?_getD, List.getElem?_map, List.getElem?_eq_getElem li, List.getD_eq_getElem?_getD, List.getElem?_eq_getElem li]
      rfl
    have ej : ((bySeats ss zs).map (owedOf ss)).getD j (0, 1) = owedOf ss ((bySeats ss zs).getD j "") := by
      rw [List.getD_eq_getElem?_getD, List.getElem?_map, List.getElem?_eq_getElem lj, List.getD_eq_getElem?_getD, List.getElem?_eq_getElem lj]
      rfl
    rw [ei, ej] at h
    unfold ahead ltp
    show decide ((owedOf ss ((bySeats ss zs).getD j "")).1 * (owedOf ss ((bySeats ss zs).getD i "")).2 < (owedOf ss ((bySeats ss zs).getD i "")).1 * (owedOf ss ((bySeats ss zs).getD j "")).2) = true ∨ (decide ((owedOf ss ((bySeats ss zs).getD j "")).1 * (owedOf ss ((bySeats ss zs).getD i "")).2 < (owedOf ss ((bySeats ss zs).getD i "")).1 * (owedOf ss ((bySeats ss zs).getD j "")).2) = false ∧ decide ((owedOf ss ((bySeats ss zs).getD i "")).1 * (owedOf ss ((bySeats ss zs).getD j "")).2 < (owedOf ss ((bySeats ss zs).getD j "")).1 * (owedOf ss ((bySeats ss zs).getD i "")).2) = false ∧ _)
    rcases h with h | ⟨h, hij⟩
    · exact .inl (decide_eq_true h)
    · refine .inr ⟨decide_eq_false (by omega), decide_eq_false (by omega), ?_⟩
      rw [List.getD_eq_getElem?_getD, List.getElem?_eq_getElem li, List.getD_eq_getElem?_getD, List.getElem?_eq_getElem lj]
      exact List.pairwise_iff_getElem.mp up i j li lj hij
end WS
set_option Elab.async false
set_option linter.all false
set_option maxRecDepth 100000
set_option maxHeartbeats 4000000
namespace WS
open PySem PySem.Spec PyProof.Rows L2
/-! ### rows ranked, as the laws rank them -/
def rkR (ps : List (Int × Int)) (i j : Nat) : Prop := (gp ps j).1 * (gp ps i).2 < (gp ps i).1 * (gp ps j).2 ∨ ((gp ps i).1 * (gp ps j).2 = (gp ps j).1 * (gp ps i).2 ∧ i < j)
theorem gp_pos {ps : List (Int × Int)} (h : ∀ q ∈ ps, 0 < q.2) (i : Nat) : 0 < (gp ps i).2 := by
  unfold gp
  rw [List.getD_eq_getElem?_getD]
  cases e : ps[i]? with
  | none => decide
  | some q => exact h q (List.mem_of_getElem? e)
theorem lt_rv {a b : Int × Int} (ha : 0 < a.2) (hb : 0 < b.2) : a.1 * b.2 < b.1 * a.2 ↔ rv a < rv b := by
  rw [← ltp_iff ha hb]
  unfold ltp
  rw [decide_eq_true_eq]
theorem rk_step {ps : List (Int × Int)} (h : ∀ q ∈ ps, 0 < q.2) {t k c : Nat} (h1 : (gp ps t).1 * (gp ps k).2 < (gp ps k).1 * (gp ps t).2) (h2 : c = t ∨ rkR ps t c) : rkR ps k c := by
  have pt := gp_pos h t
  have pk := gp_pos h k
  have pc := gp_pos h c
  rcases h2 with rfl | h2
  · exact .inl h1
  · refine .inl ((lt_rv pc pk).mpr ?_)
    have l1 := (lt_rv pt pk).mp h1
    rcases h2 with h2 | ⟨h2, _⟩
    · have l2 := (lt_rv pc pt).mp h2
      grind
    · have l2 : ¬ rv (gp ps t) < rv (gp ps c) := fun z => by
        have := (lt_rv pt pc).mpr z
        omega
      grind
theorem filter_perm {l : List Nat} (nd : l.Nodup) {t : Nat} (ht : t ∈ l) : (t :: l.filter fun k => !decide (k = t)).Perm l := by
  have e : (l.filter fun k => !decide (k = t)) = l.erase t := by
    rw [nd.erase_eq_filter]
    refine List.filter_congr fun k _ => ?_
    show (!decide (k = t)) = (k != t)
    by_cases h : k = t <;> simp [h]
  rw [e]
  exact (List.perm_cons_erase ht).symm
def spFirstR (K : PySem.W.Frag) : Sp := fun vs H Q _ => ∃ (l : Addr) (rs : List V) (ps : List (Int × Int)), vs = [.ref l] ∧ SqL K H l rs ∧ Parts K H rs ps ∧ (∀ q ∈ ps, Okp 4400 q) ∧ ps.length ≤ 1000 ∧
  ∀ (H' : Hp) (p : Addr) (os : List Nat), Same H H' → H p = none → H' p = some (.lst (os.map fun j : Nat => V.int j)) → RankedP ps os → Q (.ref p) H'
def spRowL8 (K : PySem.W.Frag) : Sp := fun vs H Q _ => ∃ (p : Addr) (m : Nat), vs = [.ref p, .int m] ∧ PotAt H p ∧ m ≤ 12 ∧ ∀ H' D rs ps, SameX p H H' → PotAt H' p → H D = none → H' D = some (.lst rs) → Parts K H' rs ps → ps.length = m → (∀ q ∈ ps, Lowest q.1 q.2 ∧ Okq 190 90 q) → Q (.ref D) H'
def spWeightR (K : PySem.W.Frag) : Sp := fun vs H Q _ => ∃ (l : Addr) (rs : List V) (ps : List (Int × Int)), vs = [.ref l] ∧ SqL K H l rs ∧ Parts K H rs ps ∧ (∀ q ∈ ps, Okp 250 q) ∧ ps.length ≤ 12 ∧ ∀ H' i, Same H H' → 1 ≤ i → Bt 4400 i → Q (.int i) H'
end WS
set_option Elab.async false
set_option linter.all false
set_option maxRecDepth 100000
set_option maxHeartbeats 4000000
namespace WS
open PySem PySem.Spec PyProof.Rows L2
/-! ### evenings, as the laws make them -/
def spMoment (K : PySem.W.Frag) : Sp := fun vs H Q _ => ∃ (p : Addr) (m : Nat), vs = [.ref p, .int m] ∧ PotAt H p ∧ m ≤ 12 ∧ ∀ v W ss H', Dp K H' v (momD W ss) → ss.length ≤ m → (names ss).Nodup → (∀ s ∈ ss, Okp 190 s.2 ∧ Nm0 s.1) → 1 ≤ W → Bt 1500 W → SameX p H H' → PotAt H' p → Q v H'
def spThereL : Sp := fun vs H Q _ => ∃ (p F : Addr) (us : List Str), vs = [.ref p, .ref F] ∧ PotAt H p ∧ F ≠ p ∧ H F = some (.lst (us.map V.str)) ∧ us.Nodup ∧ 2 ≤ us.length ∧ us.length ≤ 100 ∧
  ∀ D (zs : List Str) H', H D = none → H' D = some (.lst (zs.map V.str)) → zs.Nodup → 2 ≤ zs.length → zs.length ≤ us.length → (∀ z ∈ zs, z ∈ us) → SameX p H H' → PotAt H' p → Q (.ref D) H'
def spDuties : Sp := fun vs H Q _ => ∃ (p : Addr) (W : Int) (m : Nat), vs = [.ref p, .int W, .int m] ∧ PotAt H p ∧ 1 ≤ W ∧ Bt 4500 W ∧ m ≤ 100 ∧
  ∀ D (ns : List Int) H', H D = none → H' D = some (.lst (ns.map V.int)) → ns.length ≤ m → (∀ n ∈ ns, 1 ≤ n ∧ n ≤ W) → SameX p H H' → PotAt H' p → Q (.ref D) H'
def spTurnedT (K : PySem.W.Frag) : Sp := fun vs H Q _ => ∃ (p L : Addr) (xs : List V), vs = [.ref p, .ref L] ∧ PotAt H p ∧ (SqL K H L xs ∨ SqT K H L xs) ∧ xs.length ≤ 100 ∧ ∀ t ys H', SqT K H' t ys → ys.Perm xs → SameX p H H' → PotAt H' p → Q (.ref t) H'
def spIsT (K : PySem.W.Frag) : Sp := fun vs H Q _ => ∃ (t : Addr) (v : V) (xs : List V) (d : PyData), vs = [.ref t, v] ∧ SqT K H t xs ∧ Dp K H (.ref t) d ∧ Dp K H v d ∧ Sh 1000000 60 d ∧ Q (.bl true) H
def RowsL (K : PySem.W.Frag) (H : Hp) (vs : List V) (ss : List Seat) : Prop := vs.length = ss.length ∧ ∀ i v, vs[i]? = some v → ∃ r x, v = .ref r ∧ SqL K H r [.str (gs ss i).1, x] ∧ Dp K H x (pdP (gs ss i).2)
def rkS (ss : List Seat) (i j : Nat) : Prop := (gs ss j).2.1 * (gs ss i).2.2 < (gs ss i).2.1 * (gs ss j).2.2 ∨ ((gs ss i).2.1 * (gs ss j).2.2 = (gs ss j).2.1 * (gs ss i).2.2 ∧ i < j)
def placesOf (ss : List Seat) (zs : List Str) : List Nat := (List.range ss.length).filter fun i => decide ((gs ss i).1 ∈ zs)
def spOrderL (K : PySem.W.Frag) : Sp := fun vs H Q _ => ∃ (L Z : Addr) (rs : List V) (ss : List Seat) (zs : List Str), vs = [.ref L, .ref Z] ∧ SqL K H L rs ∧ RowsL K H rs ss ∧ ss.length ≤ 100 ∧ (∀ s ∈ ss, Okp 4400 s.2) ∧ SqT K H Z (zs.map V.str) ∧
  ∀ D (os : List Nat) H', H D = none → H' D = some (.lst (os.map fun j : Nat => V.int j)) → os.Perm (placesOf ss zs) → os.Pairwise (rkS ss) → Same H H' → Q (.ref D) H'
/-- two orders of one company are one -/
theorem order_one {ss : List Seat} {zs a b : List Str} (ha : OrderOf ss zs a) (hb : OrderOf ss zs b) : a = b := by
  refine List.Perm.eq_of_pairwise (le := ahead ss) (fun x y _ _ h1 h2 => ?_) ha.2 hb.2 (ha.1.trans hb.1.symm)
  exfalso
  unfold ahead ltp at h1 h2
  simp only [decide_eq_true_eq, decide_eq_false_iff_not] at h1 h2
  rcases h1 with h1 | ⟨h1, h3, h4⟩ <;> rcases h2 with h2 | ⟨h2, h5, h6⟩ <;> omega
theorem places_lt {ss : List Seat} {zs : List Str} {i : Nat} (h : i ∈ placesOf ss zs) : i < ss.length ∧ (gs ss i).1 ∈ zs := by
  obtain ⟨a, b⟩ := List.mem_filter.mp h
  exact ⟨List.mem_range.mp a, of_decide_eq_true b⟩
theorem places_up (ss : List Seat) (zs : List Str) : (placesOf ss zs).Pairwise (· < ·) := List.pairwise_lt_range.filter _
theorem idx_name {ss : List Seat} {zs : List Str} (nd : (names ss).Nodup) (hin : ∀ z ∈ zs, z ∈ names ss) {i : Nat} (h : i ∈ placesOf ss zs) : idx ss (gs ss i).1 = i := by
  obtain ⟨a, b⟩ := places_lt h
  exact idx_gs nd a (names_mem.mp (hin _ b)).1
theorem due_order {ss : List Seat} {zs : List Str} {os : List Nat} (nd : (names ss).Nodup) (hz : zs.Nodup) (hin : ∀ z ∈ zs, z ∈ names ss) (hp : os.Perm (placesOf ss zs)) (hw : os.Pairwise (rkS ss)) : OrderOf ss zs (os.map fun k => (gs ss k).1) := by
  have mem : ∀ i ∈ os, i ∈ placesOf ss zs := fun i hi => hp.mem_iff.mp hi
  refine ⟨?_, ?_⟩
  · refine (hp.map fun k => (gs ss k).1).trans ((List.perm_ext_iff_of_nodup ?_ hz).mpr fun z => ?_)
    · unfold List.Nodup
      rw [List.pairwise_map]
      refine List.Pairwise.imp_of_mem (fun {i j} hi hj h e => ?_) (places_up ss zs)
      have e1 := idx_name nd hin hi
      have e2 := idx_name nd hin hj
      rw [e, e2] at e1
      omega
    · rw [List.mem_map]
      constructor
      · rintro ⟨i, hi, rfl⟩
        exact (places_lt hi).2
      · intro h
        have hn := hin z h
        have hl := idx_lt hn
        have e : (gs ss (idx ss z)).1 = z := by
          have h1 : (ss.map Prod.fst)[idx ss z]? = some z := by
            unfold idx
            have hm : z ∈ ss.map Prod.fst := (List.mem_filter.mp hn).1
            rw [List.getElem?_eq_getElem (List.idxOf_lt_length_of_mem hm), List.getElem_idxOf]
          rw [List.getElem?_map, at_gs hl] at h1
          exact Option.some.inj h1
        exact ⟨idx ss z, List.mem_filter.mpr ⟨List.mem_range.mpr hl, decide_eq_true (by rw [e]; exact h)⟩, e⟩
  · rw [List.pairwise_map]
    refine List.Pairwise.imp_of_mem (fun {i j} hi hj h => ?_) hw
    unfold ahead ltp
    rw [idx_name nd hin (mem i hi), idx_name nd hin (mem j hj)]
    rcases h with h | ⟨h, hij⟩
    · exact .inl (decide_eq_true h)
    · exact .inr ⟨decide_eq_false (by omega), decide_eq_false (by omega), hij⟩
theorem range_getD {α : Type} (l : List α) (d : α) : (List.range l.length).map (fun i => l.getD i d) = l := by
  apply List.ext_getElem?
  intro i
  by_cases h : i < l.length
  · rw [List.getElem?_map, List.getElem?_range h, List.getElem?_eq_getElem h, Option.map_some, List.getD_eq_getElem?_getD, List.getElem?_eq_getElem h]
    rfl
  · rw [List.getElem?_eq_none (by simp; omega), List.getElem?_eq_none (by omega)]
theorem order_places {ss : List Seat} {pl : List Nat} {ord : List Nat} (up : pl.Pairwise (· < ·)) (rk : RankedP (pl.map fun i => (gs ss i).2) ord) : (ord.map fun a => pl.getD a 0).Perm pl ∧ (ord.map fun a => pl.getD a 0).Pairwise (rkS ss) := by
  obtain ⟨hp, hw⟩ := rk
  rw [List.length_map] at hp
  have mem : ∀ i ∈ ord, i < pl.length := fun i hi => List.mem_range.mp (hp.mem_iff.mp hi)
  refine ⟨?_, ?_⟩
  · have h := hp.map fun a => pl.getD a 0
    rw [range_getD] at h
    exact h
  · rw [List.pairwise_map]
    refine List.Pairwise.imp_of_mem (fun {i j} hi hj h => ?_) hw
    have li := mem i hi
    have lj := mem j hj
    have ei : (pl.map fun i => (gs ss i).2).getD i (0, 1) = (gs ss (pl.getD i 0)).2 := by
      rw [List.getD_eq_getElem?_getD, List.getElem?_map, List.getElem?_eq_getElem li, List.getD_eq_getElem?_getD, List.getElem?_eq_getElem li]
      rfl
    have ej : (pl.map fun i => (gs ss i).2).getD j (0, 1) = (gs ss (pl.getD j 0)).2 := by
      rw [List.getD_eq_getElem?_getD, List.getElem?_map, List.getElem?_eq_getElem lj, List.getD_eq_getElem?_getD, List.getElem?_eq_getElem lj]
      rfl
    rw [ei, ej] at h
    rcases h with h | ⟨h, hij⟩
    · exact .inl h
    · refine .inr ⟨h, ?_⟩
      rw [List.getD_eq_getElem?_getD, List.getElem?_eq_getElem li, List.getD_eq_getElem?_getD, List.getElem?_eq_getElem lj]
      exact List.pairwise_iff_getElem.mp up i j li lj hij
def spWeightS (K : PySem.W.Frag) : Sp := fun vs H Q _ => ∃ (l : Addr) (rs : List V) (ps : List (Int × Int)), vs = [.ref l] ∧ SqL K H l rs ∧ Parts K H rs ps ∧ (∀ q ∈ ps, Okq 190 90 q) ∧ ps.length ≤ 12 ∧ ∀ H' i, Same H H' → 1 ≤ i → Bt 1400 i → Q (.int i) H'
theorem fold_okr : ∀ (ps : List (Int × Int)) (i : Nat) (p : Int × Int), Okq (191 + 91 * i) (1 + 90 * i) p → (∀ q ∈ ps, Okq 190 90 q) → Okq (191 + 91 * (i + ps.length)) (1 + 90 * (i + ps.length)) (ps.foldl pl p)
  | [], i, p, h, _ => by simpa using h
  | q :: ps, i, p, h, k => by
    have h1 := (h.pl (k q List.mem_cons_self)).mono (m := 191 + 91 * (i + 1)) (e := 1 + 90 * (i + 1)) (by omega) (by omega)
    have h2 := fold_okr ps (i + 1) _ h1 fun r hr => k r (List.mem_cons_of_mem _ hr)
    have e : i + 1 + ps.length = i + (q :: ps).length := by simp; omega
    rw [e] at h2
    exact h2
theorem strs_dpT {K : PySem.W.Frag} {H : Hp} {t : Addr} {zs : List Str} (h : SqT K H t (zs.map V.str)) : Dp K H (.ref t) (.tuple (zs.map PyData.str)) := by
  refine .tup h ?_
  clear h
  induction zs with
  | nil => exact .nil
  | cons z zs ih => exact .cons (.str z) ih
theorem ints_dpT {K : PySem.W.Frag} {H : Hp} {t : Addr} {ns : List Int} (h : SqT K H t (ns.map V.int)) : Dp K H (.ref t) (.tuple (ns.map PyData.int)) := .tup h (dpall_ints ns)
theorem strs_imm (zs : List Str) : imm (.tuple (zs.map PyData.str)) = true := immAll_map (fun _ => rfl) zs
theorem ints_imm (ns : List Int) : imm (.tuple (ns.map PyData.int)) = true := immAll_map (fun _ => rfl) ns
theorem mom_shL {W : Int} {ss : List Seat} (hW : Bt 1500 W) (hl : ss.length ≤ 12) (ok : ∀ s ∈ ss, Okp 190 s.2 ∧ Nm0 s.1) : Sh 20000 5 (momD W ss) := by
  have h1 : Sh 9410 4 (.tuple (ss.map seatD)) := by
    refine (Sh.tup (n := 782) (k := 3) (m := 12) (fun d hd => ?_) (by rw [List.length_map]; exact hl)).mono (by omega) (Nat.le_refl _)
    obtain ⟨s, hs, rfl⟩ := List.mem_map.mp hd
    refine (Sh.tup (n := 388) (k := 2) (m := 2) (ds := [.str s.1, pdP s.2]) (fun d hd => ?_) (Nat.le_refl 2)).mono (by omega) (Nat.le_refl _)
    simp only [List.mem_cons, List.not_mem_nil, or_false] at hd
    rcases hd with rfl | rfl
    · exact (nm_sh (ok s hs).2).mono (by omega) (by omega)
    · exact (Sh.pd (m := 190) (by decide) (by decide) (ok s hs).1.2.1 (ok s hs).1.2.2).mono (by omega) (Nat.le_refl _)
  refine (Sh.tup (n := 9410) (k := 4) (m := 2) (ds := [.int W, .tuple (ss.map seatD)]) (fun d hd => ?_) (Nat.le_refl 2)).mono (by omega) (Nat.le_refl _)
  simp only [List.mem_cons, List.not_mem_nil, or_false] at hd
  rcases hd with rfl | rfl
  · exact (Sh.int (by decide) (by decide) hW).mono (by omega) (by omega)
  · exact h1
theorem strs_sh {zs : List Str} (hl : zs.length ≤ 12) (h : ∀ z ∈ zs, Nm0 z) : Sh 20000 5 (.tuple (zs.map PyData.str)) := by
  refine (Sh.tup (n := 82) (k := 1) (m := 12) (fun d hd => ?_) (by rw [List.length_map]; exact hl)).mono (by omega) (by omega)
  obtain ⟨z, hz, rfl⟩ := List.mem_map.mp hd
  exact nm_sh (h z hz)
theorem bt_le {n : Nat} {W i : Int} (h : Bt n W) (h1 : 1 ≤ i) (h2 : i ≤ W) : Bt n i := by
  unfold Bt at *
  omega
theorem ints_sh {W : Int} {ns : List Int} (hW : Bt 1500 W) (hl : ns.length ≤ 12) (h : ∀ n ∈ ns, 1 ≤ n ∧ n ≤ W) : Sh 20000 5 (.tuple (ns.map PyData.int)) := by
  refine (Sh.tup (n := 1501) (k := 1) (m := 12) (fun d hd => ?_) (by rw [List.length_map]; exact hl)).mono (by omega) (by omega)
  obtain ⟨z, hz, rfl⟩ := List.mem_map.mp hd
  exact Sh.int (by decide) (by decide) (bt_le hW (h z hz).1 (h z hz).2)
def pairsD (os : List Str) (ns : List Int) : PyData := .tuple ((os.zip ns).map fun x => .tuple [.str x.1, .int x.2])
theorem prs_imm (os : List Str) (ns : List Int) : imm (pairsD os ns) = true := immAll_map (fun _ => rfl) (os.zip ns)
theorem pairs_sh {W : Int} {os : List Str} {ns : List Int} (hW : Bt 1500 W) (hl : os.length ≤ 12) (ho : ∀ z ∈ os, Nm0 z) (h : ∀ n ∈ ns, 1 ≤ n ∧ n ≤ W) : Sh 50000 5 (pairsD os ns) := by
  refine (Sh.tup (n := 3008) (k := 2) (m := 12) (fun d hd => ?_) (by rw [List.length_map, List.length_zip]; omega)).mono (by omega) (by omega)
  obtain ⟨⟨z, n⟩, hz, rfl⟩ := List.mem_map.mp hd
  refine (Sh.tup (n := 1501) (k := 1) (m := 2) (ds := [.str z, .int n]) (fun d hd => ?_) (Nat.le_refl 2)).mono (by omega) (Nat.le_refl _)
  simp only [List.mem_cons, List.not_mem_nil, or_false] at hd
  have h1 := List.of_mem_zip hz
  rcases hd with rfl | rfl
  · exact (nm_sh (ho z h1.1)).mono (by omega) (by omega)
  · exact (Sh.int (by decide) (by decide) (bt_le hW (h n h1.2).1 (h n h1.2).2)).mono (by omega) (by omega)
def eveD (W : Int) (ss : List Seat) (zs : List Str) (ns : List Int) : PyData := .tuple [momD W ss, .tuple (zs.map PyData.str), .tuple (ns.map PyData.int)]
theorem eve_sh {W : Int} {ss : List Seat} {zs : List Str} {ns : List Int} (hW : Bt 1500 W) (hl : ss.length ≤ 12) (ok : ∀ s ∈ ss, Okp 190 s.2 ∧ Nm0 s.1) (zl : zs.length ≤ 12) (hz : ∀ z ∈ zs, Nm0 z) (nl : ns.length ≤ 12) (hn : ∀ n ∈ ns, 1 ≤ n ∧ n ≤ W) : Sh 1000000 60 (eveD W ss zs ns) := by
  refine (Sh.tup (n := 20000) (k := 5) (m := 3) (ds := [momD W ss, .tuple (zs.map PyData.str), .tuple (ns.map PyData.int)]) (fun d hd => ?_) (Nat.le_refl 3)).mono (by omega) (by omega)
  simp only [List.mem_cons, List.not_mem_nil, or_false] at hd
  rcases hd with rfl | rfl | rfl
  · exact mom_shL hW hl ok
  · exact strs_sh zl hz
  · exact ints_sh hW nl hn
end WS
set_option Elab.async false
set_option linter.all false
set_option maxRecDepth 100000
set_option maxHeartbeats 4000000
namespace WS
open PySem PySem.Spec PyProof.Rows L2
/-- list(x) in a comprehension -/
def rListK (K : PySem.W.Frag) : List V → Hp → VK → Prop := fun xs H Q => ∃ p ys, xs = [.ref p] ∧ (SqL K H p ys ∨ SqT K H p ys) ∧ ∀ l, H l = none → Q (.ref l) (upd H l (.lst ys))
theorem eve_dp {K : PySem.W.Frag} {H : Hp} {t z d r : Addr} {W : Int} {ss : List Seat} {zs : List Str} {ns : List Int} (dm : Dp K H (.ref t) (momD W ss)) (hz : SqT K H z (zs.map V.str)) (hd : SqT K H d (ns.map V.int)) (nr : H r = none) : Dp K (upd H r (.tup [.ref t, .ref z, .ref d])) (.ref r) (eveD W ss zs ns) := by
  have e := same_new (o := .tup [.ref t, .ref z, .ref d]) nr
  exact .tup (.inl (.inl upd_same)) (.cons (dm.sm e) (.cons (strs_dpT (Same.tup e hz)) (.cons (ints_dpT (Same.tup e hd)) .nil)))
end WS
set_option Elab.async false
set_option linter.all false
set_option maxRecDepth 100000
set_option maxHeartbeats 4000000
namespace WS
open PySem PySem.Spec PyProof.Rows L2
open PySem.W
/-! how many in a list of truth values; how many unlike numbers a tuple has -/
def rCntB (K : PySem.W.Frag) : V → List V → Hp → VK → Prop := fun x xs H Q => ∃ (p : Addr) (bs : List Bool) (b : Bool), x = .ref p ∧ xs = [.bl b] ∧ SqL K H p (bs.map V.bl) ∧ Q (.int (bs.count b : Nat)) H
theorem dpall_bools {K : PySem.W.Frag} {H : Hp} : ∀ l : List Bool, DpAll K H (l.map V.bl) (l.map PyData.bool)
  | [] => .nil
  | b :: l => .cons (.bl b) (dpall_bools l)
theorem plain_bools : ∀ l : List Bool, PyData.plainAll (l.map PyData.bool) = true ∧ PyData.depthAll (l.map PyData.bool) ≤ 1
  | [] => ⟨rfl, Nat.zero_le _⟩
  | b :: l => by
    obtain ⟨h1, h2⟩ := plain_bools l
    constructor
    · show (true && PyData.plainAll (l.map PyData.bool)) = true
      rw [Bool.true_and, h1]
    · simp only [List.map_cons, PyData.depthAll, PyData.depth]
      omega
theorem mt_countB {X : Cx} (hu : X.A.units + 64 < cLine) : MtR X "list.count" (rCntB X.K) := by
  intro pins s σ H x xs v us Q I rx rxs h
  obtain ⟨p, ls, b, rfl, rfl, hs, q⟩ := h
  cases rx
  obtain ⟨u, rfl, ru⟩ := rxs.one
  obtain ⟨its, rv, hl, _⟩ := I.list hs
  obtain ⟨as, ra⟩ := Dp.readsAll I (ls.map PyData.bool) _ _ (dpall_bools ls) rv
  obtain ⟨bs, rz⟩ := Dp.reads I (.bool b) (.bl b) u (.bl b) ru
  obtain ⟨h1, h2⟩ := plain_bools ls
  have e : ((ls.map PyData.bool).countP fun y => PyData.eqv y (.bool b)) = ls.count b := by
    rw [List.countP_map]
    unfold List.count
    refine List.countP_congr fun x _ => ?_
    show PyData.eqv (.bool x) (.bool b) = true ↔ (x == b) = true
    cases x <;> cases b <;> simp [PyData.eqv]
  refine PySem.SeqAt.count_list_data (xs := ls.map PyData.bool) (d := .bool b) hl.isList (by simpa using ra) rz h1 rfl (by
    have h3 := Nat.min_le_left (PyData.depthAll (ls.map PyData.bool)) (PyData.depth (.bool b))
    omega) ⟨.int (ls.count b : Nat), H, I.tok _, ⟨s.toks, ?_⟩, q⟩
  rw [e]
def tLenSetT (K : PySem.W.Frag) (ta : TE) : TE := fun σ H Q => ta σ H fun x H1 => ∃ (l : Addr) (ns : List Int), x = .ref l ∧ SqT K H1 l (ns.map V.int) ∧ ns.Nodup ∧ ns.length ≤ 1000 ∧ Q (.int (ns.length : Nat)) H1
theorem pe_lenSetT {X : Cx} {a : Expr} {ta : TE} {p p2 q pos : Pos} (hc : X.calm = true) (hg : Gl X "len") (hm : X.mg "len" = none) (hg2 : Gl X "set") (hm2 : X.mg "set" = none) (ha : PE X a ta)
    (na : starEach [a] X.env = (false, eval a X.env) :: starEach [] X.env := by rfl) : PE X (.Call (.Name "len" p) [.Call (.Name "set" p2) [a] [] q] [] pos) (tLenSetT X.K ta) := by
  constructor
  intro pins s σ H Q I h
  refine Call_ (ld_blt I hg hm boot_len (PyProof.Rows.callWith_builtin1 (PyProof.Rows.args_cons ?_ rfl) rfl rfl))
  refine Call_ (ld_blt I hg2 hm2 boot_set (PyProof.Rows.callWith_type1 (PyProof.Rows.args_cons (thn (ha.run pins s σ H _ I h) ?_) na) na rfl))
  rintro v s1 ⟨x, H1, I1, r1, l, ns, rfl, hq, nd, hb, q1⟩
  refine PyProof.Rows.args_nil ?_
  cases r1
  obtain ⟨its, r, pl, _⟩ := I1.tuple hq
  refine call_set_tupI ns (I1.ok.hd hc) pl (by simpa using intsAre_of r) (by unfold scanBound; omega) fun h' tk c hS hc' hk => PyProof.Rows.args_nil ?_
  obtain ⟨o, es, ep, t, ho, hex, hd, _, _, mem, _, hf, hn, _⟩ := hS
  have le : ns.length ≤ es.size := by
    have := nd.length_le_of_subset (l₂ := es.toList.map keyOf) fun k hk' => (mem k).mp (decide_eq_true hk')
    simpa using this
  have ec : es.size = ns.length := by omega
  have I2 : Inv X pins σ H1 { s1 with heap := h', toks := tk } := I1.kept fun b o e => hk b o e
  exact call_len_set ho hex hd hf (by rw [ec]; omega) ⟨.int ns.length, H1, I2.tok _, ⟨_, by rw [ec]⟩, q1⟩
end WS
set_option Elab.async false
set_option linter.all false
set_option maxRecDepth 100000
set_option maxHeartbeats 4000000
namespace WS
open PySem PySem.Spec PyProof.Rows L2
/-! ### layers -/
def spCheckSeats (K : PySem.W.Frag) : Sp := fun vs H Q _ => ∃ (v : V) (W : Int) (ss : List Seat) (d : Addr) (ns : List Int), vs = [v, .ref d] ∧ Dp K H v (momD W ss) ∧ SqT K H d (ns.map V.int) ∧ ns.Nodup ∧ (∀ n ∈ ns, 0 ≤ n ∧ n < (ss.length : Nat)) ∧ ns.length ≤ 100 ∧ ∀ H', Same H H' → Q .non H'
/-- which of the order sit on these seats -/
def onSeats (ss : List Seat) (ns : List Int) (os : List Str) : List Bool := os.map fun z => decide (((idx ss z : Nat) : Int) ∈ ns)
/-- what a layer brings them -/
def layerC (bs : List Bool) (m : Nat) : Int × Int :=
  let a := lo ((m : Int) * (bs.count true : Nat)) (bs.length : Nat)
  let b := lo ((bs.take m).count true : Nat) 1
  lo (a.1 * b.2 - b.1 * a.2) (a.2 * b.2)
def spLayer (K : PySem.W.Frag) (TT : List (Addr × Str)) : Sp := fun vs H Q _ => ∃ (v : V) (W : Int) (ss : List Seat) (r d : Addr) (zs : List Str) (m : Nat) (ns : List Int), vs = [v, .ref r, .int m, .ref d] ∧ Dp K H v (momD W ss) ∧ ss.length ≤ 100 ∧ (∀ s ∈ ss, Okp 1900 s.2) ∧ SqT K H r (zs.map V.str) ∧ There ss zs ∧ 1 ≤ m ∧ m ≤ zs.length ∧ SqT K H d (ns.map V.int) ∧ ns.Nodup ∧ (∀ n ∈ ns, 0 ≤ n ∧ n < (ss.length : Nat)) ∧ ns.length ≤ 100 ∧ LamX.Tabs TT H ∧
  ∀ u os H', LamX.ExtN H H' → LamX.Tabs TT H' → OrderOf ss zs os → TupI K H' u (layerC (onSeats ss ns os) m).1 (layerC (onSeats ss ns os) m).2 → Q u H'
theorem inV_int (n : Int) (ns : List Int) : inV (.int n) (ns.map V.int) = decide (n ∈ ns) := by
  unfold inV
  rw [List.any_map]
  induction ns with
  | nil => simp
  | cons a l ih =>
    simp only [List.any_cons, Function.comp, List.mem_cons, ih]
    show ((a == n) || decide (n ∈ l)) = decide (n = a ∨ n ∈ l)
    by_cases h : n = a
    · subst h
      simp
    · have h1 : (a == n) = false := by simp [Ne.symm h]
      rw [h1, Bool.false_or]
      simp [h]
theorem flat_ints : ∀ ns : List Int, (ns.map V.int).all flatV = true := fun ns => by
  rw [List.all_map]
  exact List.all_eq_true.mpr fun _ _ => rfl
end WS
set_option Elab.async false
set_option linter.all false
set_option maxRecDepth 100000
set_option maxHeartbeats 4000000
namespace WS
open PySem PySem.Spec PyProof.Rows L2
theorem low_one (n : Int) : lo n 1 = (n, 1) := lo_of ⟨by decide, by simp⟩
/-- what a layer brings, by the numbers -/
def layN (bs : List Bool) (m : Nat) : Int := (m : Int) * (bs.count true : Nat) - ((bs.take m).count true : Nat) * (bs.length : Nat)
theorem layer_eq {bs : List Bool} {m : Nat} (h : 0 < bs.length) : layerC bs m = lo (layN bs m) (bs.length : Nat) := by
  unfold layerC layN
  rw [low_one]
  have hL : (0 : Int) < (bs.length : Nat) := by omega
  have c := lo_cross ((m : Int) * (bs.count true : Nat)) ((bs.length : Nat) : Int)
  have p := (lo_lowest (a := (m : Int) * (bs.count true : Nat)) hL).1
  generalize lo ((m : Int) * (bs.count true : Nat)) ((bs.length : Nat) : Int) = ab at c p ⊢
  show lo (ab.1 * 1 - ((bs.take m).count true : Nat) * ab.2) (ab.2 * 1) = _
  refine lo_congr (by omega) hL ?_
  grind
theorem count_not (bs : List Bool) : (bs.map (!·)).count true = bs.length - bs.count true := by
  induction bs with
  | nil => rfl
  | cons b bs ih =>
    have := List.count_le_length (a := true) (l := bs)
    cases b <;> simp [ih] <;> omega
theorem layN_not {bs : List Bool} {m : Nat} (h : m ≤ bs.length) : layN (bs.map (!·)) m = 0 - layN bs m := by
  unfold layN
  have h1 := List.count_le_length (a := true) (l := bs)
  have h2 := List.count_le_length (a := true) (l := bs.take m)
  rw [List.length_take] at h2
  rw [← List.map_take, count_not, count_not, List.length_map, List.length_take]
  have e1 : ((bs.length - bs.count true : Nat) : Int) = (bs.length : Nat) - (bs.count true : Nat) := by omega
  have e2 : ((min m bs.length - (bs.take m).count true : Nat) : Int) = (m : Nat) - ((bs.take m).count true : Nat) := by omega
  rw [e1, e2]
  grind
theorem layer_not {bs : List Bool} {m : Nat} (h : 0 < bs.length) (hm : m ≤ bs.length) : layerC (bs.map (!·)) m = (0 - (layerC bs m).1, (layerC bs m).2) := by
  rw [layer_eq (by rw [List.length_map]; exact h), layer_eq h, layN_not hm, List.length_map, lo_neg]
/-- the layer's numbers: a behind that sit there, b before that do not -/
theorem layN_ab {bs : List Bool} {m : Nat} (hm : m ≤ bs.length) : layN bs m = ((bs.drop m).count true : Nat) * ((m : Int) - ((bs.take m).count true : Nat)) - ((bs.take m).count true : Nat) * ((bs.length : Int) - m - ((bs.drop m).count true : Nat)) := by
  unfold layN
  have e : bs.count true = (bs.take m).count true + (bs.drop m).count true := by rw [← List.count_append, List.take_append_drop]
  rw [e]
  grind
end WS
set_option Elab.async false
set_option linter.all false
set_option maxRecDepth 100000
set_option maxHeartbeats 4000000
namespace WS
open PySem PySem.Spec PyProof.Rows L2
theorem lay_le {a b q c k L : Int} (ha : 0 ≤ a) (hb : 0 ≤ b) (hq : 0 ≤ q) (hc : 0 ≤ c) (hk : 0 ≤ k) (hkL : k ≤ L) : (a * b - q * c) * k ≤ a * b * L := by
  have h1 : 0 ≤ q * c * k := Int.mul_nonneg (Int.mul_nonneg hq hc) hk
  have h2 : 0 ≤ a * b * (L - k) := Int.mul_nonneg (Int.mul_nonneg ha hb) (by omega)
  rw [Int.sub_mul]
  rw [Int.mul_sub] at h2
  omega
/-- the order's places, and which of them are among the seats -/
theorem on_places {ss : List Seat} {zs : List Str} {os : List Nat} {ns : List Int} (nd : (names ss).Nodup) (hin : ∀ z ∈ zs, z ∈ names ss) (hp : ∀ i ∈ os, i ∈ placesOf ss zs) : onSeats ss ns (os.map fun k => (gs ss k).1) = os.map fun k => decide (((k : Nat) : Int) ∈ ns) := by
  unfold onSeats
  rw [List.map_map]
  refine List.map_congr_left fun k hk => ?_
  show decide (((idx ss (gs ss k).1 : Nat) : Int) ∈ ns) = _
  rw [idx_name nd hin (hp k hk)]
theorem count_dec (os : List Nat) (ns : List Int) : (os.map fun k : Nat => decide ((k : Int) ∈ ns)).count true = (os.filter fun k : Nat => decide ((k : Int) ∈ ns)).length := by
  induction os with
  | nil => rfl
  | cons k os ih =>
    rw [List.map_cons, List.count_cons, ih, List.filter_cons]
    cases decide ((k : Int) ∈ ns) <;> simp
def spSetRight (K : PySem.W.Frag) (TT : List (Addr × Str)) : Sp := fun vs H Q _ => ∃ (t Z O S : Addr) (W : Int) (ss : List Seat) (zs : List Str) (os : List Nat) (m : Nat) (ns : List Int), vs = [.ref t, .ref Z, .ref O, .int m, .ref S] ∧ Dp K H (.ref t) (momD W ss) ∧ ss.length ≤ 12 ∧ (names ss).Nodup ∧ (∀ s ∈ ss, Okp 1900 s.2) ∧ SqT K H Z (zs.map V.str) ∧ There ss zs ∧
  H O = some (.lst (os.map fun j : Nat => V.int j)) ∧ os.Perm (placesOf ss zs) ∧ os.Pairwise (rkS ss) ∧ 1 ≤ m ∧ m ≤ zs.length ∧ H S = some (.lst (ns.map V.int)) ∧ ns.Nodup ∧ (∀ n ∈ ns, 0 ≤ n ∧ n < (ss.length : Nat)) ∧ LamX.Tabs TT H ∧ ∀ H', LamX.ExtN H H' → LamX.Tabs TT H' → Q (.bl true) H'
end WS
set_option Elab.async false
set_option linter.all false
set_option maxRecDepth 100000
set_option maxHeartbeats 4000000
namespace WS
open PySem PySem.Spec PyProof.Rows L2
theorem setsL_nodup : ∀ {n : Nat} {s : List Nat}, s ∈ setsL n → s.Nodup
  | 0, s, h => by
    have : s = [] := by simpa [setsL] using h
    subst this
    exact List.nodup_nil
  | n + 1, s, h => by
    have h' : s ∈ setsL n ++ (setsL n).map (· ++ [n]) := h
    rcases List.mem_append.mp h' with h1 | h1
    · exact setsL_nodup h1
    · obtain ⟨t, ht, rfl⟩ := List.mem_map.mp h1
      have nt := setsL_nodup ht
      have lt := (setsL_lt ht).1
      show (t ++ [n]).Nodup
      rw [List.nodup_append]
      refine ⟨nt, by simp, ?_⟩
      intro a ha b hb
      have := lt a ha
      rw [List.mem_singleton.mp hb]
      omega
end WS
set_option Elab.async false
set_option linter.all false
set_option maxRecDepth 100000
set_option maxHeartbeats 4000000
namespace WS
open PySem PySem.Spec PyProof.Rows L2
/-! ### enumerate(x, start=k) -/
section
variable {M : Model} {A : Around} {E : Value → Shared → Prop} {s : Shared} {env : Env}
theorem callWith_tyKw {pos : Pos} {T : String} {e : Expr} {rest : List Expr} {kws : List Keyword} {Q : Value → Shared → Prop}
    (h : wpAny M A (spliced (backTo pos (starEach (e :: rest) env))) (fun vs s₁ => wpAny M A (evalAll ((backToKw pos (keywordEach kws env)).map (·.2)))
      (fun kvs s₂ => wpAny M A (call (.type T) vs (((backToKw pos (keywordEach kws env)).filterMap (·.1)).zip kvs)) Q E s₂) E s₁) E s)
    (he : backTo pos (starEach (e :: rest) env) = (false, eval e env) :: backTo pos (starEach rest env))
    (hplain : (backTo pos (starEach (e :: rest) env)).any (·.1) = false)
    (hall : (backToKw pos (keywordEach kws env)).all (·.1.isSome) = true)
    (hkw : (backToKw pos (keywordEach kws env)).any (·.1.isNone) = false) :
    wpAny M A (callWith pos (.type T) [] (backTo pos (starEach (e :: rest) env)) (backToKw pos (keywordEach kws env))) Q E s := by
  unfold callWith
  have h2 : wpAny M A (evalArgs (.type T) true (backTo pos (starEach (e :: rest) env)) (backToKw pos (keywordEach kws env))) (fun a s₁ => wpAny M A (call (.type T) ([] ++ a.pos) a.kw) Q E s₁) E s := by
    rw [he] at h ⊢
    exact PyProof.Rows.evalArgs_kwB hall h
  refine wpAny_bind (wpAny_holding (wpAny_mono h2 (fun a s₁ h₁ => wpAny_bind (wpAny_standAt ?_)) fun _ _ x => x))
  simp only [hplain, hkw, Bool.or_false]
  refine wpAny_bind (wpAny_pure ?_)
  exact wpAny_bind (wpAny_mono h₁ (fun r s₂ hr => wpAny_bind (wpAny_holding (wpAny_point (wpAny_pure hr)))) fun _ _ x => x)
end
def iEnS (K : PySem.W.Frag) (ta tk : TA) : TI := fun σ H R => ta σ H fun vs H1 => tk σ H1 fun ks H2 => ∃ b a xs k, vs = [.ref a] ∧ ks = [.int k] ∧ -(2 ^ 63) ≤ k ∧ k < 2 ^ 63 ∧ SqB K b H2 a xs ∧ R (ItE K b a k) H2
theorem pi_enS {X : Cx} {e : Expr} {kws : List Keyword} {ta tk : TA} {p pos tpos : Pos} {elts : List Expr} {kk : Nat} (hg : Gl X "enumerate") (hm : X.mg "enumerate" = none) (ha : PA X [e] ta) (hk : PK X kws tk)
    (he : backTo pos (starEach [e] X.env) = (false, eval e X.env) :: backTo pos (starEach [] X.env) := by rfl) (hpl : (backTo pos (starEach [e] X.env)).any (·.1) = false := by rfl)
    (hall : (backToKw pos (keywordEach kws X.env)).all (·.1.isSome) = true := by rfl) (hnone : (backToKw pos (keywordEach kws X.env)).any (·.1.isNone) = false := by rfl) (hks : (backToKw pos (keywordEach kws X.env)).filterMap (·.1) = [Str.ofString "start"] := by rfl) :
    PI X (.Tuple elts kk tpos) (.Call (.Name "enumerate" p) [e] kws pos) (iEnS X.K ta tk) := by
  constructor
  intro pins s σ H R I h
  refine wpAny_Call_Name_kw (ld_blt I hg hm boot_enumerate ?_)
  refine callWith_tyKw (thn (ha.run pos pins s σ H _ I h) fun us s1 ⟨vs, H1, I1, r1, q1⟩ => thn (hk.run pos pins s1 σ H1 _ I1 q1) fun ws s2 ⟨zs, H2, I2, r2, q2⟩ => ?_) he hpl hall hnone
  rw [hks]
  obtain ⟨b, a, xs, k, rfl, rfl, k0, k1, hq, q⟩ := q2
  obtain _ | ⟨r, rr⟩ := r1
  cases rr
  cases r
  obtain _ | ⟨r', rr'⟩ := r2
  cases rr'
  obtain ⟨tk', rfl⟩ := r'
  obtain ⟨its, rv, hB⟩ := sqb_get I2 hq
  refine enum_begins_start (itb_begins b a its.toArray) hB k0 k1 fun h' he hi _ hk => wpAny_pyIter_enum he ?_
  have he' : IsEnum h' (s2.heap.objs.size + 1) s2.heap.objs.size (k + ((0 : Nat) : Int)) .none := by
    rw [show k + ((0 : Nat) : Int) = k by omega]
    exact he
  have I3 : Inv X pins σ H2 { s2 with heap := h' } := I2.kept (t' := s2.toks) hk
  refine ⟨_, [s2.heap.objs.size + 1, s2.heap.objs.size], _, _, H2, rfl, I3, turn_enumB (b := b) (k := k) a (s2.heap.objs.size + 1) s2.heap.objs.size (Nat.succ_ne_self _), ⟨⟨.none, he'⟩, itb_start hi⟩, fun c hc => ?_, q⟩
  have hle : s2.heap.objs.size ≤ c := by
    have z : c = s2.heap.objs.size + 1 ∨ c = s2.heap.objs.size := by simpa using hc
    rcases z with rfl | rfl
    · exact Nat.le_succ _
    · exact Nat.le_refl _
  exact I2.fpOk hle (I2.hok.fresh hle)
end WS
set_option Elab.async false
set_option linter.all false
set_option maxRecDepth 100000
set_option maxHeartbeats 4000000
namespace WS
open PySem PySem.Spec PyProof.Rows L2
/-! ### parts whose two numbers have bounds of their own -/
def Ok2 (N D : Nat) (p : Int × Int) : Prop := 0 < p.2 ∧ Bt N p.1 ∧ Bt D p.2
theorem Ok2.mono {N D N' D' : Nat} {p : Int × Int} (h : Ok2 N D p) (a : N ≤ N') (b : D ≤ D') : Ok2 N' D' p := ⟨h.1, h.2.1.mono a, h.2.2.mono b⟩
theorem Ok2.of {n : Nat} {p : Int × Int} (h : Okp n p) : Ok2 n n p := h
theorem Ok2.pl {N D N' D' M : Nat} {p q : Int × Int} (h : Ok2 N D p) (k : Ok2 N' D' q) (h1 : N + D' ≤ M) (h2 : N' + D ≤ M) : Ok2 (M + 1) (D + D') (pl p q) :=
  ⟨(lo_lowest (Int.mul_pos h.1 k.1)).1, Bt.lo1 (((h.2.1.mul k.2.2).mono h1).add ((k.2.1.mul h.2.2).mono h2)), Bt.lo2 (h.2.2.mul k.2.2)⟩
theorem Ok2.mi {N D N' D' M : Nat} {p q : Int × Int} (h : Ok2 N D p) (k : Ok2 N' D' q) (h1 : N + D' ≤ M) (h2 : N' + D ≤ M) : Ok2 (M + 1) (D + D') (mi p q) :=
  ⟨(lo_lowest (Int.mul_pos h.1 k.1)).1, Bt.lo1 (((h.2.1.mul k.2.2).mono h1).sub ((k.2.1.mul h.2.2).mono h2)), Bt.lo2 (h.2.2.mul k.2.2)⟩
theorem Ok2.tm {N D M : Nat} {p : Int × Int} {i : Int} (h : Ok2 N D p) (k : Bt M i) : Ok2 (N + M) D (tm p i) :=
  ⟨(lo_lowest h.1).1, Bt.lo1 (h.2.1.mul k), Bt.lo2 h.2.2⟩
theorem ok2_lo {N D : Nat} {a b : Int} (hb : 0 < b) (ha : Bt N a) (hd : Bt D b) : Ok2 N D (lo a b) := ⟨(lo_lowest hb).1, ha.lo1, hd.lo2⟩
theorem Ok2.fold {N D : Nat} : ∀ (ps : List (Int × Int)) (s : Int × Int) (k : Nat), Ok2 (N + k * (D + 1) + 1) (k * D + 1) s → (∀ q ∈ ps, Ok2 N D q) → Ok2 (N + (k + ps.length) * (D + 1) + 1) ((k + ps.length) * D + 1) (ps.foldl WS.pl s)
  | [], s, k, h, _ => h
  | p :: ps, s, k, h, hp => by
    have h1 := h.pl (M := N + (k + 1) * (D + 1)) (hp p List.mem_cons_self) (by rw [Nat.add_mul]; omega) (by rw [Nat.add_mul, Nat.mul_add]; omega)
    have h2 := Ok2.fold ps (WS.pl s p) (k + 1) (h1.mono (Nat.le_refl _) (by rw [Nat.add_mul]; omega)) (fun q hq => hp q (List.mem_cons_of_mem _ hq))
    rw [List.foldl_cons, List.length_cons, show k + (ps.length + 1) = k + 1 + ps.length by omega]
    exact h2
theorem fold_pos : ∀ (ps : List (Int × Int)) (s : Int × Int), 0 < s.2 → (∀ q ∈ ps, 0 < q.2) → 0 < (ps.foldl WS.pl s).2
  | [], s, h, _ => h
  | p :: ps, s, h, hp => fold_pos ps _ (lo_lowest (Int.mul_pos h (hp p List.mem_cons_self))).1 (fun q hq => hp q (List.mem_cons_of_mem _ hq))
theorem rv_fold : ∀ (ps : List (Int × Int)) (s : Int × Int), 0 < s.2 → (∀ q ∈ ps, 0 < q.2) → rv (ps.foldl WS.pl s) = rv s + (ps.map rv).sum
  | [], s, h, _ => by simp [Rat.add_zero]
  | p :: ps, s, h, hp => by
    have h1 := hp p List.mem_cons_self
    rw [List.foldl_cons, rv_fold ps (WS.pl s p) (lo_lowest (Int.mul_pos h h1)).1 (fun q hq => hp q (List.mem_cons_of_mem _ hq)), rv_pl h h1, List.map_cons, List.sum_cons, Rat.add_assoc]
theorem fold_low (ps : List (Int × Int)) (hp : ∀ q ∈ ps, 0 < q.2) : Lowest (ps.foldl WS.pl (0, 1)).1 (ps.foldl WS.pl (0, 1)).2 := by
  rcases List.eq_nil_or_concat ps with rfl | ⟨qs, q, rfl⟩
  · exact ⟨by decide, by decide⟩
  · rw [List.concat_eq_append, List.foldl_append]
    exact lo_lowest (Int.mul_pos (fold_pos qs _ (by decide) (fun x hx => hp x (by rw [List.concat_eq_append]; exact List.mem_append_left _ hx))) (hp q (by rw [List.concat_eq_append]; simp)))
/-- a part in lowest terms is known by what it stands for -/
theorem rv_inj {p q : Int × Int} (hp : Lowest p.1 p.2) (hq : Lowest q.1 q.2) (e : rv p = rv q) : p = q := by
  have h1 := cast_ne hp.1
  have h2 := cast_ne hq.1
  have c : p.1 * q.2 = q.1 * p.2 := by
    unfold rv at e
    have : (p.1 : Rat) * q.2 = q.1 * p.2 := by grind
    exact_mod_cast this
  have := lo_congr hp.1 hq.1 c
  rw [lo_of hp, lo_of hq] at this
  exact this
/-! ### a row behind an evening -/
def rowF (ps : List (Int × Int)) (is : List Nat) (s : Int × Int) (j : Nat) : Int × Int := if j ∈ is then pl (gp ps j) s else gp ps j
def rowG (f : Nat → Int × Int) (ds : List (Nat × Int)) (j : Nat) : Int × Int := match ds.lookup j with
  | some d => mi (f j) (lo d 1)
  | none => f j
def rowE (ps : List (Int × Int)) (is : List Nat) (ds : List (Nat × Int)) : List (Int × Int) := (List.range ps.length).map (rowG (rowF ps is (lo (ds.map Prod.snd).sum (is.length : Nat))) ds)
theorem rowE_len (ps : List (Int × Int)) (is : List Nat) (ds : List (Nat × Int)) : (rowE ps is ds).length = ps.length := by unfold rowE; rw [List.length_map, List.length_range]
theorem rowE_at {ps : List (Int × Int)} {is : List Nat} {ds : List (Nat × Int)} {j : Nat} (h : j < ps.length) : gp (rowE ps is ds) j = rowG (rowF ps is (lo (ds.map Prod.snd).sum (is.length : Nat))) ds j := by
  unfold rowE gp
  rw [List.getD_eq_getElem?_getD, List.getElem?_map, List.getElem?_range h]
  rfl
theorem map_set {α : Type} (f : Nat → α) (n i : Nat) (v : α) : ((List.range n).map f).set i v = (List.range n).map fun j => if j = i then v else f j := by
  refine List.ext_getElem? fun j => ?_
  rw [List.getElem?_set, List.getElem?_map, List.getElem?_map, List.length_map, List.length_range]
  by_cases hj : j < n
  · rw [List.getElem?_range hj]
    by_cases e : i = j
    · subst e
      simp [hj]
    · simp [e, Ne.symm e]
  · rw [List.getElem?_eq_none (by rw [List.length_range]; omega)]
    by_cases e : i = j
    · subst e
      simp [hj]
    · simp [e]
theorem rowF_set {ps : List (Int × Int)} {is : List Nat} {s : Int × Int} {k i : Nat} (hi : is[k]? = some i) : (fun j => if j = i then pl (gp ps i) s else rowF ps (is.take k) s j) = rowF ps (is.take (k + 1)) s := by
  funext j
  unfold rowF
  rw [List.take_add_one, hi]
  by_cases e : j = i
  · subst e
    simp
  · simp [e]
theorem lookup_app : ∀ (xs ys : List (Nat × Int)) (j : Nat), (xs ++ ys).lookup j = (xs.lookup j).or (ys.lookup j)
  | [], ys, j => by simp
  | x :: xs, ys, j => by
    obtain ⟨a, b⟩ := x
    rw [List.cons_append, List.lookup_cons, List.lookup_cons, lookup_app xs ys j]
    cases j == a <;> rfl
theorem lookup_none {xs : List (Nat × Int)} {j : Nat} (h : j ∉ xs.map Prod.fst) : xs.lookup j = none := by
  induction xs with
  | nil => rfl
  | cons x xs ih =>
    obtain ⟨a, b⟩ := x
    rw [List.lookup_cons]
    have h1 : j ≠ a := fun e => h (by simp [e])
    have h2 : (j == a) = false := by simp [h1]
    rw [h2]
    exact ih (fun z => h (by simp only [List.map_cons, List.mem_cons]; exact .inr z))
theorem rowG_set {f : Nat → Int × Int} {ds : List (Nat × Int)} {k i : Nat} {d : Int} (hi : ds[k]? = some (i, d)) (nd : (ds.map Prod.fst).Nodup) : (fun j => if j = i then mi (f i) (lo d 1) else rowG f (ds.take k) j) = rowG f (ds.take (k + 1)) := by
  have ni : i ∉ (ds.take k).map Prod.fst := by
    rw [← List.take_append_drop k ds, List.map_append, List.nodup_append] at nd
    intro h
    have hk := (List.getElem?_eq_some_iff.mp hi).1
    have h2 : i ∈ (ds.drop k).map Prod.fst := by
      refine List.mem_map.mpr ⟨(i, d), ?_, rfl⟩
      refine List.mem_of_getElem? (i := 0) ?_
      rw [List.getElem?_drop]
      exact hi
    exact nd.2.2 i h i h2 rfl
  funext j
  unfold rowG
  rw [List.take_add_one, hi, lookup_app]
  by_cases e : j = i
  · subst e
    rw [lookup_none ni]
    simp
  · have : ([(i, d)] : List (Nat × Int)).lookup j = none := by
      rw [List.lookup_cons]
      have h2 : (j == i) = false := by simp [e]
      rw [h2]
      rfl
    simp only [Option.toList_some, this, Option.or_none, e, if_false]
theorem rowG_fresh {f : Nat → Int × Int} {ds : List (Nat × Int)} {k i : Nat} {d : Int} (hi : ds[k]? = some (i, d)) (nd : (ds.map Prod.fst).Nodup) : rowG f (ds.take k) i = f i := by
  have ni : i ∉ (ds.take k).map Prod.fst := by
    rw [← List.take_append_drop k ds, List.map_append, List.nodup_append] at nd
    intro h
    have h2 : i ∈ (ds.drop k).map Prod.fst := by
      refine List.mem_map.mpr ⟨(i, d), ?_, rfl⟩
      refine List.mem_of_getElem? (i := 0) ?_
      rw [List.getElem?_drop]
      exact hi
    exact nd.2.2 i h i h2 rfl
  unfold rowG
  rw [lookup_none ni]
theorem rowF_fresh {ps : List (Int × Int)} {is : List Nat} {s : Int × Int} {k i : Nat} (hi : is[k]? = some i) (nd : is.Nodup) : rowF ps (is.take k) s i = gp ps i := by
  unfold rowF
  rw [if_neg]
  rw [← List.take_append_drop k is, List.nodup_append] at nd
  intro h
  refine nd.2.2 i h i ?_ rfl
  refine List.mem_of_getElem? (i := 0) ?_
  rw [List.getElem?_drop]
  exact hi
/-- what it stands for -/
theorem rv_rowE {ps : List (Int × Int)} {is : List Nat} {ds : List (Nat × Int)} {j : Nat} (hp : ∀ q ∈ ps, 0 < q.2) (hn : 0 < is.length) (h : j < ps.length) :
    rv (gp (rowE ps is ds) j) = rv (gp ps j) + (if j ∈ is then (((ds.map Prod.snd).sum : Int) : Rat) / ((is.length : Nat) : Int) else 0) - (((ds.lookup j).getD 0 : Int) : Rat) := by
  have hgp : 0 < (gp ps j).2 := by
    refine hp _ ?_
    unfold gp
    rw [List.getD_eq_getElem?_getD, List.getElem?_eq_getElem h]
    exact List.getElem_mem h
  have hL : (0 : Int) < ((is.length : Nat) : Int) := by omega
  have hs := lo_lowest (a := (ds.map Prod.snd).sum) hL
  have eF : rv (rowF ps is (lo (ds.map Prod.snd).sum (is.length : Nat)) j) = rv (gp ps j) + (if j ∈ is then (((ds.map Prod.snd).sum : Int) : Rat) / ((is.length : Nat) : Int) else 0) := by
    unfold rowF
    split
    · rw [rv_pl hgp hs.1, rv_lo hL]
    · rw [Rat.add_zero]
  have pF : 0 < (rowF ps is (lo (ds.map Prod.snd).sum (is.length : Nat)) j).2 := by
    unfold rowF
    split
    · exact (lo_lowest (Int.mul_pos hgp hs.1)).1
    · exact hgp
  rw [rowE_at h]
  unfold rowG
  split
  · rename_i d e
    rw [rv_mi pF (lo_lowest (by decide)).1, eF, rv_lo (by decide), e]
    show _ - (d : Rat) / ((1 : Int) : Rat) = _ - (d : Rat)
    have : (d : Rat) / ((1 : Int) : Rat) = d := by
      have e1 : ((1 : Int) : Rat) = 1 := rfl
      rw [e1]
      grind
    rw [this]
  · rename_i e
    rw [eF, e]
    simp [Rat.sub_eq_add_neg, Rat.add_zero]
theorem rowF_ok {ps : List (Int × Int)} {is : List Nat} {s : Int × Int} {N D N' D' M : Nat} (hp : ∀ q ∈ ps, Ok2 N D q) (hs : Ok2 N' D' s) (h1 : N + D' ≤ M) (h2 : N' + D ≤ M) {j : Nat} (h : j < ps.length) : Ok2 (M + 1) (D + D') (rowF ps is s j) := by
  have hgp : Ok2 N D (gp ps j) := by
    refine hp _ ?_
    unfold gp
    rw [List.getD_eq_getElem?_getD, List.getElem?_eq_getElem h]
    exact List.getElem_mem h
  unfold rowF
  split
  · exact hgp.pl hs h1 h2
  · exact hgp.mono (by omega) (by omega)
theorem rowG_ok {f : Nat → Int × Int} {ds : List (Nat × Int)} {N D B : Nat} {j : Nat} (hf : Ok2 N D (f j)) (hd : ∀ x ∈ ds, Bt B x.2) : Ok2 (N + B + D + 2) (D + 1) (rowG f ds j) := by
  unfold rowG
  split
  · rename_i d e
    have hm : Bt B d := by
      obtain ⟨a, b, h1, -⟩ := List.lookup_eq_some_iff.mp e
      exact hd (j, d) (by rw [h1]; simp)
    have b1 : Bt 1 (1 : Int) := by unfold Bt; decide
    have := hf.mi (M := N + B + D + 1) (ok2_lo (D := 1) (by decide) hm b1) (by omega) (by omega)
    exact this.mono (by omega) (by omega)
  · exact hf.mono (by omega) (by omega)
end WS
set_option Elab.async false
set_option linter.all false
set_option maxRecDepth 100000
set_option maxHeartbeats 4000000
namespace WS
open PySem PySem.Spec PyProof.Rows L2
/-! ### evenings: promises -/
def setRow (ss : List Seat) (ps : List (Int × Int)) : List Seat := (ss.zip ps).map fun x => (x.1.1, x.2)
def spWithRow (K : PySem.W.Frag) : Sp := fun vs H Q _ => ∃ (v u : V) (W : Int) (ss : List Seat) (ps : List (Int × Int)), vs = [v, u] ∧ Dp K H v (momD W ss) ∧ Dp K H u (.tuple (ps.map pdP)) ∧ ss.length ≤ 100 ∧ ps.length = ss.length ∧ ∀ v' H', Same H H' → Dp K H' v' (momD W (setRow ss ps)) → Q v' H'
def dutD (x : Nat × Int) : PyData := .tuple [.int x.1, .int x.2]
def spRowBehind (K : PySem.W.Frag) : Sp := fun vs H Q _ => ∃ (u : V) (L M : Addr) (ps : List (Int × Int)) (is : List Nat) (ws : List V) (ds : List (Nat × Int)), vs = [u, .ref L, .ref M] ∧ Dp K H u (.tuple (ps.map pdP)) ∧ H L = some (.lst (is.map fun j : Nat => V.int j)) ∧ H M = some (.lst ws) ∧ DpAll K H ws (ds.map dutD) ∧ is.Nodup ∧ 0 < is.length ∧ is.length ≤ 100 ∧ (∀ i ∈ is, i < ps.length) ∧ (ds.map Prod.fst).Nodup ∧ (∀ x ∈ ds, x.1 < ps.length ∧ Bt 50000 x.2) ∧ ds.length ≤ 100 ∧ ps.length ≤ 100 ∧ (∀ q ∈ ps, Ok2 100000 4000 q) ∧ ∀ v' H', Same H H' → Dp K H' v' (.tuple ((rowE ps is ds).map pdP)) → Q v' H'
/-- who served what, by seats -/
def byS (ss : List Seat) (os : List Str) (dn : List Int) : List (Nat × Int) := (os.zip dn).map fun x => (idx ss x.1, x.2)
def behS (ss : List Seat) (zs os : List Str) (dn : List Int) : List Seat := setRow ss (rowE (ss.map Prod.snd) (zs.map (idx ss)) (byS ss os dn))
def spBehindS (K : PySem.W.Frag) : Sp := fun vs H Q _ => ∃ (v w : V) (W : Int) (ss : List Seat) (r : Addr) (zs os : List Str) (dn : List Int), vs = [v, .ref r, w] ∧ Dp K H v (momD W ss) ∧ ss.length ≤ 100 ∧ (names ss).Nodup ∧ (∀ s ∈ ss, Ok2 100000 4000 s.2) ∧ SqT K H r (zs.map V.str) ∧ There ss zs ∧ os.Perm zs ∧ Dp K H w (pairsD os dn) ∧ (∀ n ∈ dn, Bt 50000 n) ∧ ∀ v' H', Same H H' → Dp K H' v' (momD W (behS ss zs os dn)) → Q v' H'
def spBehind (K : PySem.W.Frag) (TT : List (Addr × Str)) : Sp := fun vs H Q _ => ∃ (v : V) (W : Int) (ss : List Seat) (r d : Addr) (zs : List Str) (ns : List Int), vs = [v, .ref r, .ref d] ∧ Dp K H v (momD W ss) ∧ ss.length ≤ 100 ∧ (names ss).Nodup ∧ (∀ s ∈ ss, Okp 1900 s.2) ∧ SqT K H r (zs.map V.str) ∧ There ss zs ∧ SqT K H d (ns.map V.int) ∧ ns.length ≤ zs.length ∧ (∀ n ∈ ns, 1 ≤ n ∧ n ≤ W) ∧ Bt 50000 W ∧ LamX.Tabs TT H ∧
  ∀ u os H', LamX.ExtN H H' → LamX.Tabs TT H' → OrderOf ss zs os → Dp K H' u (momD W (behS ss zs os (down ns))) → Q u H'
def spSumX (K : PySem.W.Frag) : Sp := fun vs H Q _ => ∃ (l : Addr) (rs : List V) (ps : List (Int × Int)), vs = [.ref l] ∧ SqL K H l rs ∧ Parts K H rs ps ∧ ∃ N D : Nat, (∀ q ∈ ps, Ok2 N D q) ∧ (ps.length + 1) * (D + 1) ≤ 4300 ∧ N + (ps.length + 1) * (D + 1) ≤ 390000 ∧ ∀ v H', Same H H' → TupI K H' v (ps.foldl pl (0, 1)).1 (ps.foldl pl (0, 1)).2 → Q v H'
def owedAt (ss : List Seat) (is : List Nat) : List (Int × Int) := is.map fun i => (gs ss i).2
def spOwedL (K : PySem.W.Frag) : Sp := fun vs H Q _ => ∃ (v : V) (W : Int) (ss : List Seat) (r : Addr) (is : List Nat), vs = [v, .ref r] ∧ Dp K H v (momD W ss) ∧ SqT K H r (is.map fun j : Nat => V.int j) ∧ (∀ i ∈ is, i < ss.length) ∧ is.length ≤ 100 ∧ ∃ N D : Nat, (∀ s ∈ ss, Ok2 N D s.2) ∧ (is.length + 1) * (D + 1) ≤ 4300 ∧ N + (is.length + 1) * (D + 1) ≤ 390000 ∧ ∀ v H', Same H H' → TupI K H' v ((owedAt ss is).foldl pl (0, 1)).1 ((owedAt ss is).foldl pl (0, 1)).2 → Q v H'
/-! ### layers -/
def stp (dn : List Int) (i : Nat) : Int := dn.getD i 0 - dn.getD (i + 1) 0
def lays (dn : List Int) (k : Nat) : List (Nat × Int) := ((List.range k).filter fun i => decide (0 < stp dn i)).map fun i => (i + 1, stp dn i)
def laysD (xs : List (Nat × Int)) : PyData := .tuple (xs.map dutD)
def spLayers (K : PySem.W.Frag) : Sp := fun vs H Q _ => ∃ (d : Addr) (ns : List Int), vs = [.ref d] ∧ SqT K H d (ns.map V.int) ∧ ns.length < 64 ∧ ∀ t ws H', Same H H' → SqT K H' t ws → DpAll K H' ws ((lays (down ns) ns.length).map dutD) → Q (.ref t) H'
def spLayersL (K : PySem.W.Frag) : Sp := fun vs H Q _ => ∃ (d : Addr) (ns : List Int), vs = [.ref d] ∧ H d = some (.lst (ns.map V.int)) ∧ ns.length < 64 ∧ ∀ v H', Same H H' → Dp K H' v (laysD (lays (down ns) ns.length)) → Q v H'
theorem lays_succ (dn : List Int) (k : Nat) : lays dn (k + 1) = lays dn k ++ (if 0 < stp dn k then [(k + 1, stp dn k)] else []) := by
  unfold lays
  rw [List.range_succ, List.filter_append, List.map_append]
  congr 1
  by_cases h : 0 < stp dn k
  · simp [h]
  · simp [h]
theorem down_len (ns : List Int) : (down ns).length = ns.length := (down_perm ns).length_eq
theorem stp_nn {dn : List Int} (hs : dn.Pairwise (· ≥ ·)) (h0 : ∀ n ∈ dn, 0 ≤ n) (i : Nat) : 0 ≤ stp dn i := by
  unfold stp
  rw [List.getD_eq_getElem?_getD, List.getD_eq_getElem?_getD]
  by_cases h1 : i + 1 < dn.length
  · rw [List.getElem?_eq_getElem h1, List.getElem?_eq_getElem (show i < dn.length by omega)]
    have := List.pairwise_iff_getElem.mp hs i (i + 1) (by omega) h1 (by omega)
    simp only [Option.getD_some]
    omega
  · rw [List.getElem?_eq_none (show dn.length ≤ i + 1 by omega)]
    by_cases h2 : i < dn.length
    · rw [List.getElem?_eq_getElem h2]
      have := h0 _ (List.getElem_mem h2)
      simp only [Option.getD_some, Option.getD_none]
      omega
    · rw [List.getElem?_eq_none (show dn.length ≤ i by omega)]
      simp
/-- layers of the numbers C, that grow by c -/
theorem lays_sum {dn : List Int} (hs : dn.Pairwise (· ≥ ·)) (h0 : ∀ n ∈ dn, 0 ≤ n) (C c : Nat → Int) (hC : C 0 = 0) (hc : ∀ i, C (i + 1) = C i + c i) : ∀ k, ((lays dn k).map fun x => x.2 * C x.1).sum = ((List.range k).map fun i => dn.getD i 0 * c i).sum - dn.getD k 0 * C k
  | 0 => by simp [lays, hC]
  | k + 1 => by
    rw [lays_succ, List.map_append, List.sum_append, lays_sum hs h0 C c hC hc k, List.range_succ, List.map_append, List.sum_append]
    have e : ((if 0 < stp dn k then [(k + 1, stp dn k)] else []).map fun x : Nat × Int => x.2 * C x.1).sum = stp dn k * C (k + 1) := by
      split
      · simp
      · have := stp_nn hs h0 k
        have : stp dn k = 0 := by omega
        simp [this]
    rw [e, hc]
    simp only [List.map_cons, List.map_nil, List.sum_cons, List.sum_nil]
    unfold stp
    grind
theorem lays_weigh {dn : List Int} (hs : dn.Pairwise (· ≥ ·)) (h0 : ∀ n ∈ dn, 0 ≤ n) : ∀ k, ((lays dn k).map Prod.snd).sum = dn.getD 0 0 - dn.getD k 0
  | 0 => by simp [lays]
  | k + 1 => by
    rw [lays_succ, List.map_append, List.sum_append, lays_weigh hs h0 k]
    have e : ((if 0 < stp dn k then [(k + 1, stp dn k)] else []).map Prod.snd : List Int).sum = stp dn k := by
      split
      · simp
      · have := stp_nn hs h0 k
        have : stp dn k = 0 := by omega
        simp [this]
    rw [e]
    unfold stp
    omega
theorem range_sum (dn : List Int) : ((List.range dn.length).map fun i => dn.getD i 0).sum = dn.sum := by
  congr 1
  refine List.ext_getElem? fun j => ?_
  rw [List.getElem?_map]
  by_cases h : j < dn.length
  · rw [List.getElem?_range h, List.getElem?_eq_getElem h]
    simp [List.getD_eq_getElem?_getD, h]
  · rw [List.getElem?_eq_none (by rw [List.length_range]; omega), List.getElem?_eq_none (by omega)]
    rfl
theorem lays_mem {dn : List Int} {k : Nat} {x : Nat × Int} (h : x ∈ lays dn k) : 1 ≤ x.1 ∧ x.1 ≤ k ∧ 0 < x.2 ∧ x.2 = stp dn (x.1 - 1) := by
  unfold lays at h
  obtain ⟨i, hi, rfl⟩ := List.mem_map.mp h
  rw [List.mem_filter, List.mem_range] at hi
  exact ⟨by simp, by simp; omega, of_decide_eq_true hi.2, by simp⟩
theorem lays_len (dn : List Int) (k : Nat) : (lays dn k).length ≤ k := by
  unfold lays
  rw [List.length_map]
  have := List.length_filter_le (fun i => decide (0 < stp dn i)) (List.range k)
  rw [List.length_range] at this
  exact this
theorem dut_imm (xs : List (Nat × Int)) : immAll (xs.map dutD) = true := immAll_map (fun _ => rfl) xs
end WS
set_option Elab.async false
set_option linter.all false
set_option maxRecDepth 100000
set_option maxHeartbeats 4000000
namespace WS
open PySem PySem.Spec PyProof.Rows L2
theorem ixN_nat {n k : Nat} (h : k < n) : ixN n (k : Int) = some k := by
  unfold ixN
  rw [if_pos (by omega), if_pos (by omega)]
  simp
theorem dpall_set {K : PySem.W.Frag} {H : Hp} {v : V} {d : PyData} : ∀ {vs : List V} {ds : List PyData} {i : Nat}, DpAll K H vs ds → Dp K H v d → DpAll K H (vs.set i v) (ds.set i d)
  | _, [], i, h, k => by cases h; exact .nil
  | _, e :: ds, 0, h, k => by
    cases h with
    | cons a b => exact .cons k b
  | _, e :: ds, i + 1, h, k => by
    cases h with
    | cons a b => exact .cons a (dpall_set b k)
theorem map_nodup {α β : Type} {f : α → β} : ∀ {l : List α}, l.Nodup → (∀ a ∈ l, ∀ b ∈ l, f a = f b → a = b) → (l.map f).Nodup
  | [], _, _ => List.nodup_nil
  | a :: l, h, hf => by
    rw [List.nodup_cons] at h
    rw [List.map_cons, List.nodup_cons]
    refine ⟨fun hm => ?_, map_nodup h.2 fun x hx y hy => hf x (List.mem_cons_of_mem _ hx) y (List.mem_cons_of_mem _ hy)⟩
    obtain ⟨b, hb, e⟩ := List.mem_map.mp hm
    have := hf b (List.mem_cons_of_mem _ hb) a List.mem_cons_self e
    exact h.1 (this ▸ hb)
theorem idxs_nodup {ss : List Seat} {zs : List Str} (h : zs.Nodup) (hin : ∀ z ∈ zs, z ∈ names ss) : (zs.map (idx ss)).Nodup := map_nodup h fun a ha b hb e => idx_one (hin a ha) (hin b hb) e
theorem zip_fst {α β : Type} : ∀ (xs : List α) (ys : List β), (xs.zip ys).map Prod.fst = xs.take ys.length
  | [], ys => by simp
  | x :: xs, [] => by simp
  | x :: xs, y :: ys => by simp [zip_fst xs ys]
theorem byS_fst (ss : List Seat) (os : List Str) (dn : List Int) : (byS ss os dn).map Prod.fst = (os.take dn.length).map (idx ss) := by
  unfold byS
  rw [← zip_fst, List.map_map, List.map_map]
  rfl
theorem byS_snd {ss : List Seat} : ∀ {os : List Str} {dn : List Int}, dn.length ≤ os.length → (byS ss os dn).map Prod.snd = dn
  | [], [], _ => rfl
  | [], d :: dn, h => by simp at h
  | o :: os, [], _ => rfl
  | o :: os, d :: dn, h => by
    have := byS_snd (ss := ss) (os := os) (dn := dn) (by simpa using h)
    unfold byS at this ⊢
    simp only [List.zip_cons_cons, List.map_cons, this]
theorem byS_mem {ss : List Seat} {os : List Str} {dn : List Int} {x : Nat × Int} (h : x ∈ byS ss os dn) : (∃ z ∈ os, x.1 = idx ss z) ∧ x.2 ∈ dn := by
  unfold byS at h
  obtain ⟨⟨z, n⟩, hz, rfl⟩ := List.mem_map.mp h
  exact ⟨⟨z, (List.of_mem_zip hz).1, rfl⟩, (List.of_mem_zip hz).2⟩
end WS
set_option Elab.async false
set_option linter.all false
set_option maxRecDepth 100000
set_option maxHeartbeats 4000000
namespace WS
open PySem PySem.Spec PyProof.Rows L2
/-! ### sums over seats -/
theorem perm_sumR {xs ys : List Rat} (h : xs.Perm ys) : xs.sum = ys.sum := by
  induction h with
  | nil => rfl
  | cons a _ ih => rw [List.sum_cons, List.sum_cons, ih]
  | swap a b l => simp only [List.sum_cons]; grind
  | trans _ _ h1 h2 => rw [h1, h2]
theorem sum_addR {α : Type} (f g : α → Rat) : ∀ l : List α, (l.map fun x => f x + g x).sum = (l.map f).sum + (l.map g).sum
  | [] => by simp [Rat.add_zero]
  | x :: l => by
    simp only [List.map_cons, List.sum_cons, sum_addR f g l]
    grind
theorem sum_subR {α : Type} (f g : α → Rat) : ∀ l : List α, (l.map fun x => f x - g x).sum = (l.map f).sum - (l.map g).sum
  | [] => by
    simp only [List.map_nil, List.sum_nil]
    grind
  | x :: l => by
    simp only [List.map_cons, List.sum_cons, sum_subR f g l]
    grind
theorem sum_ifR {α : Type} (p : α → Bool) (f : α → Rat) : ∀ l : List α, (l.map fun x => if p x = true then f x else 0).sum = ((l.filter p).map f).sum
  | [] => rfl
  | x :: l => by
    rw [List.map_cons, List.sum_cons, sum_ifR p f l, List.filter_cons]
    cases p x
    · simp [Rat.zero_add]
    · simp
theorem sum_constR {α : Type} (c : Rat) : ∀ l : List α, (l.map fun _ => c).sum = ((l.length : Nat) : Int) * c
  | [] => by simp
  | x :: l => by
    rw [List.map_cons, List.sum_cons, sum_constR c l, List.length_cons]
    have : (((l.length + 1 : Nat) : Int) : Rat) = ((l.length : Nat) : Int) + 1 := by
      rw [show ((l.length + 1 : Nat) : Int) = ((l.length : Nat) : Int) + 1 by omega, cast_add]
      rfl
    rw [this]
    grind
theorem sum_castR {α : Type} (f : α → Int) : ∀ l : List α, (l.map fun x => ((f x : Int) : Rat)).sum = (((l.map f).sum : Int) : Rat)
  | [] => rfl
  | x :: l => by
    rw [List.map_cons, List.sum_cons, sum_castR f l, List.map_cons, List.sum_cons, cast_add]
theorem sum_divR {α : Type} (f : α → Int) (n : Rat) : ∀ l : List α, (l.map fun x => ((f x : Int) : Rat) / n).sum = (((l.map f).sum : Int) : Rat) / n
  | [] => by
    simp only [List.map_nil, List.sum_nil]
    show (0 : Rat) = (0 : Rat) / n
    rw [Rat.div_def, Rat.zero_mul]
  | x :: l => by
    rw [List.map_cons, List.sum_cons, sum_divR f n l, List.map_cons, List.sum_cons, cast_add, Rat.div_def, Rat.div_def, Rat.div_def, Rat.add_mul]
/-- both ways -/
theorem inter_perm {S O : List Nat} (hS : S.Nodup) (hO : O.Nodup) : (S.filter fun j => decide (j ∈ O)).Perm (O.filter fun j => decide (j ∈ S)) := by
  refine (List.perm_ext_iff_of_nodup (hS.filter _) (hO.filter _)).mpr fun j => ?_
  rw [List.mem_filter, List.mem_filter, decide_eq_true_eq, decide_eq_true_eq]
  exact And.comm
theorem lookup_sum : ∀ (ds : List (Nat × Int)) (S : List Nat), S.Nodup → (ds.map Prod.fst).Nodup → (S.map fun j => (ds.lookup j).getD 0).sum = (ds.map fun x => if x.1 ∈ S then x.2 else 0).sum
  | [], S, _, _ => by
    simp only [List.lookup_nil, Option.getD_none, List.map_nil, List.sum_nil]
    have : ∀ l : List Nat, (l.map fun _ => (0 : Int)).sum = 0 := fun l => by
      induction l with
      | nil => rfl
      | cons a l ih => rw [List.map_cons, List.sum_cons, ih]; rfl
    exact this S
  | (k, d) :: ds, S, hS, hd => by
    rw [List.map_cons, List.nodup_cons] at hd
    have ih := lookup_sum ds S hS hd.2
    rw [List.map_cons, List.sum_cons, ← ih]
    have hk := lookup_none hd.1
    clear ih
    induction S with
    | nil => simp
    | cons a S ih =>
      rw [List.nodup_cons] at hS
      have i2 := ih hS.2
      rw [List.map_cons, List.sum_cons, List.map_cons, List.sum_cons, i2, List.lookup_cons]
      by_cases e : a = k
      · subst e
        have hk' : List.lookup a ds = none := hk
        simp [hS.1, hk']
      · have : (a == k) = false := by simp [e]
        rw [this]
        have : (k = a ∨ k ∈ S) ↔ k ∈ S := ⟨fun h => h.resolve_left (Ne.symm e), .inr⟩
        simp only [List.mem_cons, this]
        omega
theorem zip_range {O : List Nat} {dn : List Int} (S : List Nat) (h : dn.length ≤ O.length) : ((O.zip dn).map fun x => if x.1 ∈ S then x.2 else 0) = (List.range dn.length).map fun i => dn.getD i 0 * (if O.getD i 0 ∈ S then 1 else 0) := by
  refine List.ext_getElem? fun i => ?_
  rw [List.getElem?_map, List.getElem?_map]
  by_cases hi : i < dn.length
  · rw [List.getElem?_range hi]
    have h1 : O[i]? = some (O.getD i 0) := by
      rw [List.getD_eq_getElem?_getD, List.getElem?_eq_getElem (by omega)]
      rfl
    have h2 : dn[i]? = some (dn.getD i 0) := by
      rw [List.getD_eq_getElem?_getD, List.getElem?_eq_getElem hi]
      rfl
    rw [(List.getElem?_zip_eq_some (z := (O.getD i 0, dn.getD i 0))).mpr ⟨h1, h2⟩]
    simp only [Option.map_some]
    split <;> simp
  · rw [List.getElem?_eq_none (by rw [List.length_zip]; omega), List.getElem?_eq_none (by rw [List.length_range]; omega)]
    rfl
/-- how many of the first ones -/
theorem count_step {O : List Nat} (p : Nat → Bool) (i : Nat) (hi : i < O.length) : ((O.take (i + 1)).filter p).length = ((O.take i).filter p).length + (if p (O.getD i 0) = true then 1 else 0) := by
  have h1 : O[i]? = some (O.getD i 0) := by
    rw [List.getD_eq_getElem?_getD, List.getElem?_eq_getElem hi]
    rfl
  rw [List.take_add_one, h1, List.filter_append, List.length_append]
  congr 1
  simp only [Option.toList_some, List.filter_cons, List.filter_nil]
  split <;> rfl
theorem gs_setRow {ss : List Seat} {ps : List (Int × Int)} {i : Nat} (h : i < ss.length) (hl : ps.length = ss.length) : gs (setRow ss ps) i = ((gs ss i).1, gp ps i) := by
  unfold setRow
  refine gs_at ?_
  rw [List.getElem?_map, (List.getElem?_zip_eq_some (z := (gs ss i, gp ps i))).mpr ⟨at_gs h, ?_⟩]
  · rfl
  · unfold gp
    rw [List.getD_eq_getElem?_getD, List.getElem?_eq_getElem (by omega)]
    rfl
theorem setRow_len {ss : List Seat} {ps : List (Int × Int)} (hl : ps.length = ss.length) : (setRow ss ps).length = ss.length := by
  unfold setRow
  rw [List.length_map, List.length_zip]
  omega
theorem gp_snd (ss : List Seat) {i : Nat} (h : i < ss.length) : gp (ss.map Prod.snd) i = (gs ss i).2 := by
  unfold gp
  rw [List.getD_eq_getElem?_getD, List.getElem?_map, at_gs h]
  rfl
theorem behS_len (ss : List Seat) (zs os : List Str) (dn : List Int) : (behS ss zs os dn).length = ss.length := by
  unfold behS
  exact setRow_len (by rw [rowE_len, List.length_map])
/-- what a seat owes behind an evening -/
theorem rv_behS {ss : List Seat} {zs os : List Str} {dn : List Int} (hp : ∀ s ∈ ss, 0 < s.2.2) (hz : 0 < zs.length) (hd : dn.length ≤ os.length) {i : Nat} (h : i < ss.length) :
    rv (gs (behS ss zs os dn) i).2 = rv (gs ss i).2 + (if i ∈ zs.map (idx ss) then ((dn.sum : Int) : Rat) / ((zs.length : Nat) : Int) else 0) - ((((byS ss os dn).lookup i).getD 0 : Int) : Rat) := by
  unfold behS
  rw [gs_setRow h (by rw [rowE_len, List.length_map])]
  show rv (gp (rowE _ _ _) i) = _
  rw [rv_rowE (fun q hq => by obtain ⟨s, hs, rfl⟩ := List.mem_map.mp hq; exact hp s hs) (by rw [List.length_map]; exact hz) (by rw [List.length_map]; exact h), gp_snd ss h, byS_snd hd, List.length_map]
/-- what seats owe behind an evening, all together -/
theorem owed_behS {ss : List Seat} {zs : List Str} {O : List Nat} {dn : List Int} {S : List Nat} (hp : ∀ s ∈ ss, 0 < s.2.2) (hz : 0 < zs.length) (nd : (names ss).Nodup) (hin : ∀ z ∈ zs, z ∈ names ss) (hO : ∀ i ∈ O, i ∈ placesOf ss zs) (ond : O.Nodup) (hOz : (O.map fun k => (gs ss k).1).Perm zs) (hd : dn.length ≤ O.length)
    (hS : S.Nodup) (hl : ∀ i ∈ S, i < ss.length) :
    ((owedAt (behS ss zs (O.map fun k => (gs ss k).1) dn) S).map rv).sum = ((owedAt ss S).map rv).sum + (((O.filter fun j => decide (j ∈ S)).length : Nat) : Int) * (((dn.sum : Int) : Rat) / ((zs.length : Nat) : Int)) - (((((List.range dn.length).map fun i => dn.getD i 0 * (if O.getD i 0 ∈ S then 1 else 0)).sum : Int)) : Rat) := by
  have eO : (O.map fun k => (gs ss k).1).map (idx ss) = O := by
    rw [List.map_map]
    conv => rhs; rw [← List.map_id O]
    refine List.map_congr_left fun k hk => ?_
    exact idx_name nd hin (hO k hk)
  have eB : byS ss (O.map fun k => (gs ss k).1) dn = O.zip dn := by
    have : byS ss (O.map fun k => (gs ss k).1) dn = ((O.map fun k => (gs ss k).1).map (idx ss)).zip dn := by
      unfold byS
      rw [List.zip_map_left (l₁ := O.map fun k => (gs ss k).1)]
      rfl
    rw [this, eO]
  have mz : ∀ i, i ∈ zs.map (idx ss) ↔ i ∈ O := fun i => by
    rw [← (hOz.map (idx ss)).mem_iff, eO]
  have e1 : ((owedAt (behS ss zs (O.map fun k => (gs ss k).1) dn) S).map rv) = S.map fun i => rv (gs ss i).2 + (if decide (i ∈ O) = true then ((dn.sum : Int) : Rat) / ((zs.length : Nat) : Int) else 0) - ((((O.zip dn).lookup i).getD 0 : Int) : Rat) := by
    unfold owedAt
    rw [List.map_map]
    refine List.map_congr_left fun i hi => ?_
    show rv (gs (behS ss zs (O.map fun k => (gs ss k).1) dn) i).2 = _
    rw [rv_behS hp hz (by rw [List.length_map]; exact hd) (hl i hi), eB]
    congr 2
    simp only [mz, decide_eq_true_eq]
  rw [e1, sum_subR, sum_addR, sum_ifR, sum_constR, sum_castR, lookup_sum _ _ hS (by rw [zip_fst]; exact ond.sublist (List.take_sublist _ _)), zip_range S hd, (inter_perm hS ond).length_eq]
  unfold owedAt
  rw [List.map_map]
  rfl
end WS
set_option Elab.async false
set_option linter.all false
set_option maxRecDepth 100000
set_option maxHeartbeats 4000000
namespace WS
open PySem PySem.Spec PyProof.Rows L2
theorem mem_cast (S : List Nat) (k : Nat) : ((k : Int) ∈ S.map fun j : Nat => (j : Int)) ↔ k ∈ S := by
  rw [List.mem_map]
  constructor
  · rintro ⟨j, hj, e⟩
    have : j = k := by omega
    exact this ▸ hj
  · exact fun h => ⟨k, h, rfl⟩
theorem dec_cast (O S : List Nat) : (O.map fun k : Nat => decide ((k : Int) ∈ S.map fun j : Nat => (j : Int))) = O.map fun k => decide (k ∈ S) := by
  refine List.map_congr_left fun k _ => ?_
  rw [decide_eq_decide]
  exact mem_cast S k
theorem count_decN (O S : List Nat) : (O.map fun k => decide (k ∈ S)).count true = (O.filter fun k => decide (k ∈ S)).length := by
  induction O with
  | nil => rfl
  | cons k os ih =>
    rw [List.map_cons, List.count_cons, ih, List.filter_cons]
    cases decide (k ∈ S) <;> simp
theorem sum_linI {α : Type} (f g : α → Int) (a b : Int) : ∀ l : List α, (l.map fun x => a * f x - b * g x).sum = a * (l.map f).sum - b * (l.map g).sum
  | [] => by simp
  | x :: l => by
    simp only [List.map_cons, List.sum_cons, sum_linI f g a b l]
    grind
theorem lays_layN {dn : List Int} (hs : dn.Pairwise (· ≥ ·)) (h0 : ∀ n ∈ dn, 0 ≤ n) {O S : List Nat} (hd : dn.length ≤ O.length) :
    ((lays dn dn.length).map fun x => x.2 * layN (O.map fun k => decide (k ∈ S)) x.1).sum = (((O.filter fun j => decide (j ∈ S)).length : Nat) : Int) * dn.sum - (O.length : Nat) * ((List.range dn.length).map fun i => dn.getD i 0 * (if O.getD i 0 ∈ S then 1 else 0)).sum := by
  have e : (fun x : Nat × Int => x.2 * layN (O.map fun k => decide (k ∈ S)) x.1) = fun x => (((O.filter fun j => decide (j ∈ S)).length : Nat) : Int) * (x.2 * (x.1 : Nat)) - ((O.length : Nat) : Int) * (x.2 * ((((O.take x.1).filter fun j => decide (j ∈ S)).length : Nat) : Int)) := by
    funext x
    unfold layN
    rw [count_decN, ← List.map_take, count_decN, List.length_map]
    grind
  have g0 : dn.getD dn.length 0 = 0 := by
    rw [List.getD_eq_getElem?_getD, List.getElem?_eq_none (Nat.le_refl _)]
    rfl
  rw [e, sum_linI]
  rw [lays_sum hs h0 (fun m => ((m : Nat) : Int)) (fun _ => 1) rfl (fun i => by simp), lays_sum hs h0 (fun m => ((((O.take m).filter fun j => decide (j ∈ S)).length : Nat) : Int)) (fun i => if i < O.length ∧ O.getD i 0 ∈ S then 1 else 0) (by simp) (fun i => ?_)]
  · rw [g0]
    have e1 : ((List.range dn.length).map fun i => dn.getD i 0 * 1).sum = dn.sum := by
      rw [show (fun i => dn.getD i 0 * 1) = fun i => dn.getD i 0 from funext fun i => Int.mul_one _]
      exact range_sum dn
    have e2 : ((List.range dn.length).map fun i => dn.getD i 0 * (if i < O.length ∧ O.getD i 0 ∈ S then 1 else 0)) = (List.range dn.length).map fun i => dn.getD i 0 * (if O.getD i 0 ∈ S then 1 else 0) := by
      refine List.map_congr_left fun i hi => ?_
      have := List.mem_range.mp hi
      have hi2 : i < O.length := by omega
      simp only [hi2, true_and]
    rw [e1, e2]
    simp
  · by_cases hi : i < O.length
    · rw [count_step (fun j => decide (j ∈ S)) i hi]
      simp only [hi, true_and, decide_eq_true_eq]
      split <;> omega
    · rw [List.take_of_length_le (by omega), List.take_of_length_le (by omega)]
      simp [hi]
theorem rv_nought : rv (0, 1) = 0 := by
  unfold rv
  show (0 : Rat) / (1 : Rat) = 0
  grind
theorem rv_change {bs : List Bool} (hL : 0 < bs.length) (xs : List (Nat × Int)) : rv ((xs.map fun x => tm (layerC bs x.1) x.2).foldl pl (0, 1)) = (((xs.map fun x => x.2 * layN bs x.1).sum : Int) : Rat) / ((bs.length : Nat) : Int) := by
  have hL2 : (0 : Int) < ((bs.length : Nat) : Int) := by omega
  have hp : ∀ m, 0 < (layerC bs m).2 := fun m => by rw [layer_eq hL]; exact (lo_lowest hL2).1
  rw [rv_fold _ _ (by decide) (fun q hq => by obtain ⟨x, _, rfl⟩ := List.mem_map.mp hq; exact (lo_lowest (hp x.1)).1), rv_nought, Rat.zero_add, List.map_map, ← sum_divR]
  congr 1
  refine List.map_congr_left fun x _ => ?_
  show rv (tm (layerC bs x.1) x.2) = _
  rw [rv_tm (hp x.1), layer_eq hL, rv_lo hL2, cast_mul]
  grind
theorem layer_due {bs : List Bool} {m : Nat} : layerC bs m = pl (lo ((m : Int) * (bs.count true : Nat)) (bs.length : Nat)) (0 - (((bs.take m).count true : Nat) : Int), 1) := by
  unfold layerC pl
  rw [low_one]
  show lo (_ * 1 - _ * _) _ = lo (_ * 1 + (0 - _) * _) _
  congr 1
  rw [Int.sub_mul, Int.zero_mul]
  show _ - (((bs.take m).count true : Nat) : Int) * _ = _ + (0 - (((bs.take m).count true : Nat) : Int) * _)
  omega
theorem behS_ok {ss : List Seat} {zs os : List Str} {dn : List Int} {N D B : Nat} (hp : ∀ s ∈ ss, Ok2 N D s.2) (hb : ∀ n ∈ dn, Bt B n) (hz : 0 < zs.length) (z100 : zs.length ≤ 100) (hd : dn.length ≤ os.length) (d100 : dn.length ≤ 100) : ∀ s ∈ behS ss zs os dn, Ok2 (N + 2 * B + 2 * D + 240) (D + 11) s.2 := fun s hs => by
  have hsum : ∀ l : List Int, (∀ n ∈ l, Bt B n) → Bt (B + l.length) l.sum := by
    intro l
    induction l with
    | nil => intro _; exact (by unfold Bt; decide : Bt 0 (0 : Int)).mono (by omega)
    | cons x l ih =>
      intro hx
      rw [List.sum_cons, List.length_cons]
      exact (((hx x List.mem_cons_self).mono (by omega)).add (ih fun y hy => hx y (List.mem_cons_of_mem _ hy))).mono (by omega)
  have oS : Ok2 (B + 100) 10 (lo ((byS ss os dn).map Prod.snd).sum ((zs.map (idx ss)).length : Nat)) := by
    rw [byS_snd hd, List.length_map]
    exact ok2_lo (by omega) ((hsum dn hb).mono (by omega)) (Bt.of_lt (by omega) (by omega))
  obtain ⟨i, hi⟩ := List.getElem?_of_mem hs
  have hl : i < ss.length := by
    have := (List.getElem?_eq_some_iff.mp hi).1
    rw [behS_len] at this
    exact this
  have e : s.2 = gp (rowE (ss.map Prod.snd) (zs.map (idx ss)) (byS ss os dn)) i := by
    rw [← gs_at hi]
    unfold behS
    rw [gs_setRow hl (by rw [rowE_len, List.length_map])]
  rw [e, rowE_at (by rw [List.length_map]; exact hl)]
  have oF := rowF_ok (ps := ss.map Prod.snd) (is := zs.map (idx ss)) (M := N + B + D + 110) (fun q hq => by obtain ⟨s, hs, rfl⟩ := List.mem_map.mp hq; exact hp s hs) oS (by omega) (by omega) (j := i) (by rw [List.length_map]; exact hl)
  have oG := rowG_ok (f := rowF (ss.map Prod.snd) (zs.map (idx ss)) (lo ((byS ss os dn).map Prod.snd).sum ((zs.map (idx ss)).length : Nat))) (ds := byS ss os dn) (B := B) oF (fun x hx => hb _ (byS_mem hx).2)
  exact oG.mono (by omega) (by omega)
/-- layers add up -/
theorem layers_add {ss : List Seat} {zs : List Str} {O : List Nat} {dn : List Int} {S : List Nat} (hs : dn.Pairwise (· ≥ ·)) (h0 : ∀ n ∈ dn, 0 ≤ n) (hp : ∀ s ∈ ss, 0 < s.2.2) (hp2 : ∀ s ∈ behS ss zs (O.map fun k => (gs ss k).1) dn, 0 < s.2.2) (hz : 0 < zs.length) (nd : (names ss).Nodup) (hin : ∀ z ∈ zs, z ∈ names ss) (hO : ∀ i ∈ O, i ∈ placesOf ss zs) (ond : O.Nodup) (hOz : (O.map fun k => (gs ss k).1).Perm zs) (hd : dn.length ≤ O.length)
    (hS : S.Nodup) (hl : ∀ i ∈ S, i < ss.length) :
    (owedAt (behS ss zs (O.map fun k => (gs ss k).1) dn) S).foldl pl (0, 1) = pl ((owedAt ss S).foldl pl (0, 1)) (((lays dn dn.length).map fun x => tm (layerC (O.map fun k => decide (k ∈ S)) x.1) x.2).foldl pl (0, 1)) := by
  have ol : O.length = zs.length := by rw [← hOz.length_eq, List.length_map]
  have bl : (O.map fun k => decide (k ∈ S)).length = O.length := List.length_map _
  have hL2 : (0 : Int) < ((O.length : Nat) : Int) := by omega
  have q1 : ∀ q ∈ owedAt ss S, 0 < q.2 := fun q hq => by obtain ⟨i, hi, rfl⟩ := List.mem_map.mp hq; exact hp _ (gs_mem (hl i hi))
  have q2 : ∀ q ∈ owedAt (behS ss zs (O.map fun k => (gs ss k).1) dn) S, 0 < q.2 := fun q hq => by obtain ⟨i, hi, rfl⟩ := List.mem_map.mp hq; exact hp2 _ (gs_mem (by rw [behS_len]; exact hl i hi))
  have q3 : ∀ q ∈ ((lays dn dn.length).map fun x => tm (layerC (O.map fun k => decide (k ∈ S)) x.1) x.2), 0 < q.2 := fun q hq => by
    obtain ⟨x, _, rfl⟩ := List.mem_map.mp hq
    refine (lo_lowest ?_).1
    rw [layer_eq (by omega)]
    exact (lo_lowest (by omega)).1
  have p1 := fold_pos _ (0, 1) (by decide) q1
  have p3 := fold_pos _ (0, 1) (by decide) q3
  refine rv_inj (fold_low _ q2) (lo_lowest (Int.mul_pos p1 p3)) ?_
  rw [rv_pl p1 p3, rv_fold _ _ (by decide) q2, rv_fold _ _ (by decide) q1, rv_nought, Rat.zero_add, Rat.zero_add, rv_change (by omega), owed_behS hp hz nd hin hO ond hOz hd hS hl, lays_layN hs h0 hd, bl, cast_sub, cast_mul, cast_mul, ← ol]
  have hne := cast_ne hL2
  grind
theorem lays_sh {W : Int} {dn : List Int} {k : Nat} (hW : Bt 1500 W) (hk : k ≤ 12) (hb : ∀ x ∈ lays dn k, x.2 ≤ W) : Sh 60000 5 (laysD (lays dn k)) := by
  refine (Sh.tup (n := 3008) (k := 2) (m := 12) (fun d hd => ?_) (by rw [List.length_map]; have := lays_len dn k; omega)).mono (by omega) (by omega)
  obtain ⟨x, hx, rfl⟩ := List.mem_map.mp hd
  have hm := lays_mem hx
  have b1 : Bt 1500 ((x.1 : Nat) : Int) := (Bt.of_lt (n := 10) (by omega) (by omega) : Bt 10 _).mono (by decide)
  exact Sh.pd (by decide) (by decide) b1 (bt_le hW (by omega) (hb x hx))
theorem stp_le {dn : List Int} {W : Int} (h0 : ∀ n ∈ dn, 0 ≤ n ∧ n ≤ W) (hW : 0 ≤ W) (i : Nat) : stp dn i ≤ W := by
  have : ∀ j, 0 ≤ dn.getD j 0 ∧ dn.getD j 0 ≤ W := fun j => by
    rw [List.getD_eq_getElem?_getD]
    cases e : dn[j]? with
    | none => exact ⟨Int.le_refl _, hW⟩
    | some n => exact h0 n (List.mem_of_getElem? e)
  have h1 := this i
  have h2 := this (i + 1)
  unfold stp
  omega
theorem max_down {ns : List Int} {m : Int} (h0 : ∀ n ∈ ns, 1 ≤ n) (hm : m ∈ ns ++ [0]) (hy : ∀ y ∈ ns ++ [0], y ≤ m) : (down ns).getD 0 0 = m := by
  rw [List.getD_eq_getElem?_getD]
  cases e : (down ns)[0]? with
  | none =>
    have : (down ns).length = 0 := by
      have := List.getElem?_eq_none_iff.mp e
      omega
    rw [down_len] at this
    have : ns = [] := List.eq_nil_of_length_eq_zero this
    subst this
    have : m = 0 := by simpa using hm
    rw [this]
    rfl
  | some a =>
    show a = m
    have ha : a ∈ ns := (down_perm ns).mem_iff.mp (List.mem_of_getElem? e)
    have h1 := hy a (List.mem_append_left _ ha)
    have h2 : m ≤ a := by
      rcases List.mem_append.mp hm with h | h
      · have hd := (down_perm ns).mem_iff.mpr h
        obtain ⟨i, hi⟩ := List.getElem?_of_mem hd
        obtain ⟨il, ei⟩ := List.getElem?_eq_some_iff.mp hi
        obtain ⟨zl, ez⟩ := List.getElem?_eq_some_iff.mp e
        rcases Nat.eq_zero_or_pos i with rfl | hp
        · rw [← ei, ← ez]
          omega
        · have := List.pairwise_iff_getElem.mp (down_sorted ns) 0 i zl il hp
          rw [ei, ez] at this
          exact this
      · have := h0 a ha
        have : m = 0 := by simpa using h
        omega
    omega
theorem layer_ok {O G : List Nat} {m : Nat} (h : 0 < O.length) (hl : O.length ≤ 100) (hm : m ≤ 100) : Ok2 31 20 (layerC (O.map fun k => decide (k ∈ G)) m) := by
  rw [layer_due, count_decN, ← List.map_take, count_decN, List.length_map]
  have h1 : (O.filter fun k => decide (k ∈ G)).length ≤ O.length := List.length_filter_le _ _
  have h2 : ((O.take m).filter fun k => decide (k ∈ G)).length ≤ O.length := by
    have := List.length_filter_le (fun k => decide (k ∈ G)) (O.take m)
    rw [List.length_take] at this
    omega
  have bm : Bt 10 ((m : Nat) : Int) := Bt.of_lt (by omega) (by omega)
  have bh : Bt 10 (((O.filter fun k => decide (k ∈ G)).length : Nat) : Int) := Bt.of_lt (by omega) (by omega)
  have bz : Bt 10 ((O.length : Nat) : Int) := Bt.of_lt (by omega) (by omega)
  have bq : Bt 10 (0 - (((O.take m).filter fun k => decide (k ∈ G)).length : Int)) := Bt.of_lt (by omega) (by omega)
  exact (Ok2.pl (N := 20) (D := 10) (N' := 10) (D' := 10) (M := 30) (ok2_lo (by omega) (bm.mul bh) bz) ⟨by show (0 : Int) < 1; decide, bq, by show Bt 10 (1 : Int); unfold Bt; decide⟩ (by decide) (by decide)).mono (by decide) (by decide)
theorem places_nodup (ss : List Seat) (zs : List Str) : (placesOf ss zs).Nodup := (places_up ss zs).imp fun h => Nat.ne_of_lt h
end WS
set_option Elab.async false
set_option linter.all false
set_option maxRecDepth 100000
set_option maxHeartbeats 4000000
namespace WS
open PySem PySem.Spec PyProof.Rows L2
/-! ### within -/
def sumF (f : Nat → Rat) (S : List Nat) : Rat := (S.map f).sum
def mostR (W : Rat) (n k : Nat) : Rat := W * (((k : Nat) : Int) : Rat) * ((((n : Nat) : Int) : Rat) - (((k : Nat) : Int) : Rat)) / 2
def WthF (W : Rat) (n : Nat) (f : Nat → Rat) : Prop := ∀ S : List Nat, S.Nodup → (∀ i ∈ S, i < n) → sumF f S ≤ mostR W n S.length
theorem sum_take_monoR {z : Rat} : ∀ {zs : List Rat} {k : Nat}, (∀ y ∈ zs, y ≤ z) → zs.Pairwise (fun a b => b ≤ a) → k ≤ zs.length → (zs.take k).sum ≤ ((z :: zs).take k).sum
  | zs, 0, _, _, _ => by simp [Rat.le_refl]
  | [], k + 1, _, _, h => by simp at h
  | y :: zs, k + 1, h, p, hk => by
    have p' := List.pairwise_cons.mp p
    rw [List.take_succ_cons, List.take_succ_cons, List.sum_cons, List.sum_cons]
    have h1 := sum_take_monoR (z := y) (zs := zs) (k := k) p'.1 p'.2 (by simpa using hk)
    have h2 := h y List.mem_cons_self
    grind
theorem sub_le_takeR : ∀ {zs ys : List Rat}, zs.Pairwise (fun a b => b ≤ a) → ys.Sublist zs → ys.sum ≤ (zs.take ys.length).sum := by
  intro zs ys p h
  induction h with
  | slnil => simp [Rat.le_refl]
  | cons z h ih =>
    have p' := List.pairwise_cons.mp p
    exact Rat.le_trans (ih p'.2) (sum_take_monoR p'.1 p'.2 h.length_le)
  | cons_cons z h ih =>
    have p' := List.pairwise_cons.mp p
    rw [List.length_cons, List.take_succ_cons, List.sum_cons, List.sum_cons]
    have := ih p'.2
    grind
theorem sumF_perm {f : Nat → Rat} {S T : List Nat} (h : S.Perm T) : sumF f S = sumF f T := perm_sumR (h.map f)
theorem sumF_app (f : Nat → Rat) (S T : List Nat) : sumF f (S ++ T) = sumF f S + sumF f T := by
  unfold sumF
  rw [List.map_append, List.sum_append]
theorem sub_perm {S A : List Nat} (hS : S.Nodup) (hA : A.Nodup) (h : ∀ i ∈ A, i ∈ S) : (S.filter fun i => decide (i ∈ A)).Perm A := by
  refine (List.perm_ext_iff_of_nodup (hS.filter _) hA).mpr fun i => ?_
  rw [List.mem_filter, decide_eq_true_eq]
  exact ⟨fun h => h.2, fun hi => ⟨h i hi, hi⟩⟩
theorem split_perm (S A : List Nat) : (S.filter (fun i => decide (i ∈ A)) ++ S.filter fun i => !decide (i ∈ A)).Perm S := by
  induction S with
  | nil => exact .refl _
  | cons a S ih =>
    rw [List.filter_cons, List.filter_cons]
    cases decide (a ∈ A)
    · simp only [Bool.not_false, if_true, Bool.false_eq_true, if_false]
      exact List.perm_middle.trans (ih.cons a)
    · simp only [Bool.not_true, if_true, Bool.false_eq_true, if_false, List.cons_append]
      exact ih.cons a
theorem top_most {f : Nat → Rat} {O S : List Nat} (hO : O.Nodup) (hs : O.Pairwise fun i j => f j ≤ f i) (hS : S.Nodup) (hin : ∀ i ∈ S, i ∈ O) : sumF f S ≤ sumF f (O.take S.length) := by
  have hp := sub_perm hO hS hin
  rw [← sumF_perm hp, ← hp.length_eq]
  unfold sumF
  have := sub_le_takeR (zs := O.map f) (ys := (O.filter fun i => decide (i ∈ S)).map f) (by rw [List.pairwise_map]; exact hs) (List.filter_sublist.map f)
  rw [List.length_map, ← List.map_take] at this
  exact this
theorem wth_of {W : Rat} {n : Nat} {f : Nat → Rat} {O : List Nat} (hp : O.Perm (List.range n)) (hs : O.Pairwise fun i j => f j ≤ f i) (h : ∀ k, k ≤ n → sumF f (O.take k) ≤ mostR W n k) : WthF W n f := fun S hS hn => by
  have hl : S.length ≤ n := by
    have := hS.length_le_of_subset (l₂ := List.range n) fun i hi => List.mem_range.mpr (hn i hi)
    rw [List.length_range] at this
    exact this
  exact Rat.le_trans (top_most (hp.nodup_iff.mpr List.nodup_range) hs hS fun i hi => hp.mem_iff.mpr (List.mem_range.mpr (hn i hi))) (h _ hl)
/-- each of these no more than each of those -/
theorem cross_sum {f : Nat → Rat} : ∀ (A B : List Nat), (∀ i ∈ A, ∀ j ∈ B, f i ≤ f j) → sumF f A * (((B.length : Nat) : Int) : Rat) ≤ sumF f B * (((A.length : Nat) : Int) : Rat)
  | [], B, _ => by
    unfold sumF
    simp only [List.map_nil, List.sum_nil, List.length_nil]
    show (0 : Rat) * _ ≤ _ * (0 : Rat)
    rw [Rat.zero_mul, Rat.mul_zero]
    exact Rat.le_refl
  | a :: A, B, h => by
    have ih := cross_sum A B fun i hi j hj => h i (List.mem_cons_of_mem _ hi) j hj
    have hb : ∀ B : List Nat, (∀ j ∈ B, f a ≤ f j) → f a * (((B.length : Nat) : Int) : Rat) ≤ sumF f B := by
      intro B
      induction B with
      | nil =>
        intro _
        unfold sumF
        show f a * (0 : Rat) ≤ 0
        rw [Rat.mul_zero]
        exact Rat.le_refl
      | cons b B ih2 =>
        intro hB
        have h1 := hB b List.mem_cons_self
        have h2 := ih2 fun j hj => hB j (List.mem_cons_of_mem _ hj)
        have e : (((b :: B).length : Nat) : Int) = ((B.length : Nat) : Int) + 1 := by simp
        unfold sumF at h2 ⊢
        rw [e, cast_add, List.map_cons, List.sum_cons]
        have : ((1 : Int) : Rat) = 1 := rfl
        rw [this]
        grind
    have h3 := hb B fun j hj => h a List.mem_cons_self j hj
    have e : (((a :: A).length : Nat) : Int) = ((A.length : Nat) : Int) + 1 := by simp
    have e2 : sumF f (a :: A) = f a + sumF f A := by unfold sumF; rw [List.map_cons, List.sum_cons]
    rw [e, e2, cast_add]
    have : ((1 : Int) : Rat) = 1 := rfl
    rw [this]
    grind
/-- of a layer: the idle ones of these, the others of its first -/
def idleL (O S : List Nat) (m : Nat) : List Nat := (O.drop m).filter fun i => decide (i ∈ S)
def othL (O S : List Nat) (m : Nat) : List Nat := (O.take m).filter fun i => !decide (i ∈ S)
section
variable {O S : List Nat} {m n : Nat}
theorem idle_nodup (hO : O.Nodup) : (idleL O S m).Nodup := (hO.sublist (List.drop_sublist _ _)).filter _
theorem oth_nodup (hO : O.Nodup) : (othL O S m).Nodup := (hO.sublist (List.take_sublist _ _)).filter _
theorem idle_in {i : Nat} (h : i ∈ idleL O S m) : i ∈ O.drop m ∧ i ∈ S := by
  unfold idleL at h
  rw [List.mem_filter, decide_eq_true_eq] at h
  exact h
theorem oth_in {i : Nat} (h : i ∈ othL O S m) : i ∈ O.take m ∧ i ∉ S := by
  unfold othL at h
  rw [List.mem_filter, Bool.not_eq_true', decide_eq_false_iff_not] at h
  exact h
theorem less_len (hS : S.Nodup) (hO : O.Nodup) : (S.filter fun i => !decide (i ∈ idleL O S m)).length + (idleL O S m).length = S.length := by
  have h1 := (split_perm S (idleL O S m)).length_eq
  rw [List.length_append, (sub_perm hS (idle_nodup hO) fun i hi => (idle_in hi).2).length_eq] at h1
  omega
theorem less_sum (f : Nat → Rat) (hS : S.Nodup) (hO : O.Nodup) : sumF f (S.filter fun i => !decide (i ∈ idleL O S m)) = sumF f S - sumF f (idleL O S m) := by
  have h1 := sumF_perm (f := f) (split_perm S (idleL O S m))
  rw [sumF_app, sumF_perm (sub_perm hS (idle_nodup hO) fun i hi => (idle_in hi).2)] at h1
  grind
theorem more_nodup (hS : S.Nodup) (hO : O.Nodup) : (S ++ othL O S m).Nodup := by
  rw [List.nodup_append]
  exact ⟨hS, oth_nodup hO, fun a ha b hb e => (oth_in hb).2 (e ▸ ha)⟩
theorem oth_le (hS : S.Nodup) (hO : O.Nodup) (hSn : ∀ i ∈ S, i < n) (hOn : ∀ i ∈ O, i < n) : S.length + (othL O S m).length ≤ n := by
  have := (more_nodup (m := m) hS hO).length_le_of_subset (l₂ := List.range n) fun i hi => by
    rw [List.mem_range]
    rcases List.mem_append.mp hi with h | h
    · exact hSn i h
    · exact hOn i (List.mem_of_mem_take (oth_in h).1)
  rw [List.length_append, List.length_range] at this
  exact this
theorem q_oth (hm : m ≤ O.length) : ((O.take m).filter fun i => decide (i ∈ S)).length + (othL O S m).length = m := by
  have h := (split_perm (O.take m) S).length_eq
  rw [List.length_append, List.length_take, Nat.min_eq_left hm] at h
  exact h
theorem layN_io (hm : m ≤ O.length) : layN (O.map fun k => decide (k ∈ S)) m = ((idleL O S m).length : Nat) * ((othL O S m).length : Nat) - (((O.take m).filter fun i => decide (i ∈ S)).length : Nat) * ((O.length : Int) - m - ((idleL O S m).length : Nat)) := by
  rw [layN_ab (by rw [List.length_map]; exact hm), ← List.map_take, ← List.map_drop, count_decN, count_decN, List.length_map]
  have := q_oth (S := S) hm
  have e : (m : Int) - (((O.take m).filter fun i => decide (i ∈ S)).length : Nat) = ((othL O S m).length : Nat) := by omega
  rw [e]
  rfl
theorem idle_le : m ≤ O.length → (idleL O S m).length + m ≤ O.length := fun hm => by
  have := List.length_filter_le (fun i => decide (i ∈ S)) (O.drop m)
  rw [List.length_drop] at this
  unfold idleL
  omega
/-- what a layer brings these, no more than half of the idle ones times the others -/
theorem lay_half (hm : m ≤ O.length) (h2 : 2 ≤ O.length) : ((layN (O.map fun k => decide (k ∈ S)) m : Int) : Rat) / (((O.length : Nat) : Int) : Rat) ≤ ((((idleL O S m).length : Nat) : Int) : Rat) * ((((othL O S m).length : Nat) : Int) : Rat) / 2 := by
  have hi := idle_le (S := S) hm
  have h := lay_le (a := ((idleL O S m).length : Nat)) (b := ((othL O S m).length : Nat)) (q := (((O.take m).filter fun i => decide (i ∈ S)).length : Nat)) (c := (O.length : Int) - m - ((idleL O S m).length : Nat)) (k := 2) (L := (O.length : Nat)) (by omega) (by omega) (by omega) (by omega) (by omega) (by omega)
  rw [← layN_io hm] at h
  have hp : (0 : Int) < ((O.length : Nat) : Int) := by omega
  have h3 : ((layN (O.map fun k => decide (k ∈ S)) m : Int) : Rat) * 2 ≤ ((((idleL O S m).length : Nat) : Int) : Rat) * ((((othL O S m).length : Nat) : Int) : Rat) * (((O.length : Nat) : Int) : Rat) := by
    have := cast_le.mpr h
    rw [cast_mul, cast_mul, cast_mul] at this
    exact this
  refine Rat.not_lt.mp fun z => ?_
  rw [Rat.lt_div_iff (cast_pos hp)] at z
  grind
variable {f : Nat → Rat} {W : Rat}
theorem order_cross (hs : O.Pairwise fun i j => f j ≤ f i) : sumF f (idleL O S m) * ((((othL O S m).length : Nat) : Int) : Rat) ≤ sumF f (othL O S m) * ((((idleL O S m).length : Nat) : Int) : Rat) := by
  refine cross_sum _ _ fun i hi j hj => ?_
  rw [← List.take_append_drop m O, List.pairwise_append] at hs
  exact hs.2.2 j (oth_in hj).1 i (idle_in hi).1
/-- each layer leaves room -/
theorem lay_room (hW : 0 < W) (wf : WthF W n f) (hO : O.Nodup) (hOn : ∀ i ∈ O, i < n) (hs : O.Pairwise fun i j => f j ≤ f i) (hS : S.Nodup) (hSn : ∀ i ∈ S, i < n) (hm : m ≤ O.length) (h2 : 2 ≤ O.length) :
    W * (((layN (O.map fun k => decide (k ∈ S)) m : Int) : Rat) / (((O.length : Nat) : Int) : Rat)) ≤ mostR W n S.length - sumF f S := by
  have l1 := less_len (m := m) hS hO
  have w0 := wf S hS hSn
  have w1 := wf _ (hS.filter fun i => !decide (i ∈ idleL O S m)) fun i hi => hSn i (List.mem_filter.mp hi).1
  have w2 := wf _ (more_nodup (m := m) hS hO) fun i hi => by
    rcases List.mem_append.mp hi with h | h
    · exact hSn i h
    · exact hOn i (List.mem_of_mem_take (oth_in h).1)
  rw [less_sum f hS hO] at w1
  rw [sumF_app, List.length_append] at w2
  have oc := order_cross (m := m) (S := S) hs
  have lh := lay_half (S := S) hm h2
  have e1 : (((S.filter fun i => !decide (i ∈ idleL O S m)).length : Nat) : Int) = ((S.length : Nat) : Int) - ((idleL O S m).length : Nat) := by omega
  have e2 : ((S.length + (othL O S m).length : Nat) : Int) = ((S.length : Nat) : Int) + ((othL O S m).length : Nat) := by omega
  unfold mostR at w0 w1 w2 ⊢
  rw [e1, cast_sub] at w1
  rw [e2, cast_add] at w2
  have ha : (0 : Rat) ≤ ((((idleL O S m).length : Nat) : Int) : Rat) := cast_nn (by omega)
  have hb : (0 : Rat) ≤ ((((othL O S m).length : Nat) : Int) : Rat) := cast_nn (by omega)
  exact row_bound (n := (((n : Nat) : Int) : Rat)) hW ha hb w0 w1 w2 (by grind) lh
end
/-- an evening keeps within -/
theorem eve_within {O S : List Nat} {n : Nat} {f : Nat → Rat} {W : Int} (hW : 0 < W) (wf : WthF W n f) (hO : O.Nodup) (hOn : ∀ i ∈ O, i < n) (hs : O.Pairwise fun i j => f j ≤ f i) (hS : S.Nodup) (hSn : ∀ i ∈ S, i < n) (h2 : 2 ≤ O.length) {xs : List (Nat × Int)} (hx : ∀ x ∈ xs, x.1 ≤ O.length ∧ 0 ≤ x.2) (hw : (xs.map Prod.snd).sum ≤ W) :
    sumF f S + (((xs.map fun x => x.2 * layN (O.map fun k => decide (k ∈ S)) x.1).sum : Int) : Rat) / (((O.length : Nat) : Int) : Rat) ≤ mostR W n S.length := by
  have hW' : (0 : Rat) < W := cast_pos hW
  have w0 := wf S hS hSn
  have D0 : (0 : Rat) ≤ mostR W n S.length - sumF f S := by grind
  have key : ∀ xs : List (Nat × Int), (∀ x ∈ xs, x.1 ≤ O.length ∧ 0 ≤ x.2) → (W : Rat) * ((((xs.map fun x => x.2 * layN (O.map fun k => decide (k ∈ S)) x.1).sum : Int) : Rat) / (((O.length : Nat) : Int) : Rat)) ≤ (((xs.map Prod.snd).sum : Int) : Rat) * (mostR W n S.length - sumF f S) := by
    intro xs
    induction xs with
    | nil =>
      intro _
      simp only [List.map_nil, List.sum_nil]
      show (W : Rat) * ((0 : Rat) / _) ≤ (0 : Rat) * _
      rw [Rat.div_def, Rat.zero_mul, Rat.mul_zero, Rat.zero_mul]
      exact Rat.le_refl
    | cons x xs ih =>
      intro hx
      have i2 := ih fun y hy => hx y (List.mem_cons_of_mem _ hy)
      obtain ⟨h1, h3⟩ := hx x List.mem_cons_self
      have lr := lay_room (W := (W : Rat)) hW' wf hO hOn hs hS hSn h1 h2
      have l2 := Rat.mul_le_mul_of_nonneg_left lr (cast_nn h3)
      rw [List.map_cons, List.sum_cons, List.map_cons, List.sum_cons, cast_add, cast_add, cast_mul]
      generalize (((xs.map fun x => x.2 * layN (O.map fun k => decide (k ∈ S)) x.1).sum : Int) : Rat) = A at *
      generalize (((xs.map Prod.snd).sum : Int) : Rat) = B at *
      generalize ((layN (O.map fun k => decide (k ∈ S)) x.1 : Int) : Rat) = C at *
      rw [Rat.div_def] at i2 l2 ⊢
      generalize ((((O.length : Nat) : Int) : Rat))⁻¹ = I at *
      grind
  have h4 := key xs hx
  have h5 := Rat.mul_le_mul_of_nonneg_right (cast_le.mpr hw) D0
  have h6 := Rat.le_of_mul_le_mul_left (Rat.le_trans h4 h5) hW'
  grind
end WS
set_option Elab.async false
set_option linter.all false
set_option maxRecDepth 100000
set_option maxHeartbeats 4000000
namespace WS
open PySem PySem.Spec PyProof.Rows L2
/-! ### good moments: within, and all together nought -/
def owF (ss : List Seat) (i : Nat) : Rat := rv (gs ss i).2
structure Good (W : Int) (ss : List Seat) : Prop where
  w : WthF W ss.length (owF ss)
  z : sumF (owF ss) (List.range ss.length) = 0
def spRowZ (K : PySem.W.Frag) : Sp := fun vs H Q _ => ∃ (p : Addr) (m : Nat), vs = [.ref p, .int m] ∧ PotAt H p ∧ m ≤ 12 ∧ ∀ H' D rs ps, SameX p H H' → PotAt H' p → H D = none → H' D = some (.lst rs) → Parts K H' rs ps → ps.length = m → (ps.map rv).sum = 0 → (∀ q ∈ ps, Lowest q.1 q.2 ∧ Okq 190 90 q) → Q (.ref D) H'
def spWeightZ (K : PySem.W.Frag) : Sp := fun vs H Q _ => ∃ (l : Addr) (rs : List V) (ps : List (Int × Int)), vs = [.ref l] ∧ SqL K H l rs ∧ Parts K H rs ps ∧ (∀ q ∈ ps, Okq 190 90 q) ∧ ps.length ≤ 12 ∧ (ps.map rv).sum = 0 ∧ ∀ H' (i : Int), Same H H' → 1 ≤ i → Bt 1400 i → WthF i ps.length (fun j => rv (gp ps j)) → Q (.int i) H'
def spMomentZ (K : PySem.W.Frag) : Sp := fun vs H Q _ => ∃ (p : Addr) (m : Nat), vs = [.ref p, .int m] ∧ PotAt H p ∧ m ≤ 12 ∧ ∀ v W ss H', Dp K H' v (momD W ss) → ss.length ≤ m → (names ss).Nodup → (∀ s ∈ ss, Okp 190 s.2 ∧ Nm0 s.1) → 1 ≤ W → Bt 1500 W → (∀ s ∈ ss, Lowest s.2.1 s.2.2 ∧ Okq 190 90 s.2) → Good W ss → SameX p H H' → PotAt H' p → Q v H'
theorem mostR_mono {W W' : Rat} {n k : Nat} (h : W ≤ W') (hk : k ≤ n) : mostR W n k ≤ mostR W' n k := by
  unfold mostR
  have h1 : (0 : Rat) ≤ (((k : Nat) : Int) : Rat) := cast_nn (by omega)
  have h2 : (0 : Rat) ≤ (((n : Nat) : Int) : Rat) - (((k : Nat) : Int) : Rat) := by
    have : (((k : Nat) : Int) : Rat) ≤ (((n : Nat) : Int) : Rat) := cast_le.mpr (by omega)
    grind
  have h3 := Rat.mul_nonneg h1 h2
  have h4 := Rat.mul_le_mul_of_nonneg_right h h3
  grind
theorem WthF.up {W W' : Rat} {n : Nat} {f : Nat → Rat} (h : WthF W n f) (hw : W ≤ W') : WthF W' n f := fun S hS hn => by
  have hl : S.length ≤ n := by
    have := hS.length_le_of_subset (l₂ := List.range n) fun i hi => List.mem_range.mpr (hn i hi)
    rw [List.length_range] at this
    exact this
  exact Rat.le_trans (h S hS hn) (mostR_mono hw hl)
theorem WthF.congr {W : Rat} {n : Nat} {f g : Nat → Rat} (h : WthF W n f) (e : ∀ i, i < n → f i = g i) : WthF W n g := fun S hS hn => by
  have : sumF g S = sumF f S := by
    unfold sumF
    congr 1
    exact List.map_congr_left fun i hi => (e i (hn i hi)).symm
  rw [this]
  exact h S hS hn
theorem sum_range_gp (ps : List (Int × Int)) : sumF (fun j => rv (gp ps j)) (List.range ps.length) = (ps.map rv).sum := by
  unfold sumF
  congr 1
  refine List.ext_getElem? fun j => ?_
  rw [List.getElem?_map, List.getElem?_map]
  by_cases h : j < ps.length
  · rw [List.getElem?_range h, List.getElem?_eq_getElem h]
    simp [gp, List.getD_eq_getElem?_getD, h]
  · rw [List.getElem?_eq_none (by rw [List.length_range]; omega), List.getElem?_eq_none (by omega)]
    rfl
theorem ow_gp {ss : List Seat} {ps : List (Int × Int)} (h : ss.map Prod.snd = ps) (i : Nat) (hi : i < ss.length) : rv (gp ps i) = owF ss i := by
  subst h
  rw [gp_snd ss hi]
  rfl
theorem good_mk {W : Int} {ss : List Seat} {ps : List (Int × Int)} (h : ss.map Prod.snd = ps) (w : WthF W ps.length fun j => rv (gp ps j)) (z : (ps.map rv).sum = 0) : Good W ss := by
  have hl : ps.length = ss.length := by rw [← h, List.length_map]
  refine ⟨?_, ?_⟩
  · rw [hl] at w
    exact w.congr (ow_gp h)
  · rw [← z, ← sum_range_gp, hl]
    unfold sumF
    congr 1
    exact List.map_congr_left fun i hi => (ow_gp h i (List.mem_range.mp hi)).symm
theorem ranked_desc {ps : List (Int × Int)} {os : List Nat} (h : RankedP ps os) (hp : ∀ q ∈ ps, 0 < q.2) : os.Pairwise fun i j => rv (gp ps j) ≤ rv (gp ps i) := h.2.imp fun {i j} hr => by
  have pi := gp_pos hp i
  have pj := gp_pos hp j
  rcases hr with hr | ⟨hr, _⟩
  · exact Rat.le_of_lt ((lt_rv pj pi).mp hr)
  · refine Rat.not_lt.mp fun z => ?_
    have := (lt_rv pi pj).mpr z
    unfold gp at this
    omega
theorem rkS_desc {ss : List Seat} {os : List Nat} (h : os.Pairwise (rkS ss)) (hp : ∀ s ∈ ss, 0 < s.2.2) : os.Pairwise fun i j => owF ss j ≤ owF ss i := h.imp fun {i j} hr => by
  have pg : ∀ i, 0 < (gs ss i).2.2 := fun i => by
    unfold gs
    rw [List.getD_eq_getElem?_getD]
    cases e : ss[i]? with
    | none => show (0 : Int) < 1; decide
    | some s => exact hp s (List.mem_of_getElem? e)
  rcases hr with hr | ⟨hr, _⟩
  · exact Rat.le_of_lt ((lt_rv (pg j) (pg i)).mp hr)
  · refine Rat.not_lt.mp fun z => ?_
    have := (lt_rv (pg i) (pg j)).mpr z
    omega
/-- half the weight, by whole numbers -/
theorem most_of {a b W : Int} {n k : Nat} (hb : 0 < b) (h : 2 * a ≤ W * (b * (k : Nat) * ((n : Int) - (k : Nat)))) : (a : Rat) / b ≤ mostR W n k := by
  unfold mostR
  refine Rat.not_lt.mp fun z => ?_
  rw [Rat.lt_div_iff (cast_pos hb)] at z
  have h2 := cast_le.mpr h
  rw [cast_mul, cast_mul, cast_mul, cast_mul, cast_sub] at h2
  have : ((2 : Int) : Rat) = 2 := rfl
  rw [this] at h2
  grind
theorem ceil_le {x d W : Int} (hd : 0 < d) (h : (x + d - 1) / d ≤ W) : x ≤ W * d := by
  have h1 : x + d - 1 < ((x + d - 1) / d + 1) * d := Int.lt_mul_of_ediv_lt hd (by omega)
  have h2 : ((x + d - 1) / d) * d ≤ W * d := Int.mul_le_mul_of_nonneg_right h (by omega)
  rw [Int.add_mul, Int.one_mul] at h1
  omega
theorem sumF_gp {ps : List (Int × Int)} (hp : ∀ q ∈ ps, 0 < q.2) (S : List Nat) : sumF (fun j => rv (gp ps j)) S = rv ((S.map (gp ps)).foldl pl (0, 1)) := by
  rw [rv_fold _ _ (by decide) (fun q hq => by obtain ⟨i, _, rfl⟩ := List.mem_map.mp hq; exact gp_pos hp i), rv_nought, Rat.zero_add, List.map_map]
  rfl
theorem zero_half : (0 : Rat) ≤ 0 / 2 := by
  rw [Rat.div_def, Rat.zero_mul]
  exact Rat.le_refl
theorem most_zero (W : Rat) (n : Nat) (f : Nat → Rat) (O : List Nat) : sumF f (O.take 0) ≤ mostR W n 0 := by
  unfold sumF mostR
  show (0 : Rat) ≤ W * (0 : Rat) * _ / 2
  rw [Rat.mul_zero, Rat.zero_mul]
  exact zero_half
theorem most_full (W : Rat) (n : Nat) : (0 : Rat) ≤ mostR W n n := by
  unfold mostR
  have : (((n : Nat) : Int) : Rat) - (((n : Nat) : Int) : Rat) = 0 := by grind
  rw [this, Rat.mul_zero]
  exact zero_half
end WS
set_option Elab.async false
set_option linter.all false
set_option maxRecDepth 100000
set_option maxHeartbeats 4000000
namespace WS
open PySem PySem.Spec PyProof.Rows L2
theorem sumF_owed (ss : List Seat) (S : List Nat) : sumF (owF ss) S = ((owedAt ss S).map rv).sum := by
  unfold sumF owedAt owF
  rw [List.map_map]
  rfl
/-- a good moment stays good by an evening -/
theorem good_behS {W : Int} {ss : List Seat} {zs : List Str} {O : List Nat} {ns : List Int} (hW : 1 ≤ W) (g : Good W ss) (hp : ∀ s ∈ ss, 0 < s.2.2) (hz : 2 ≤ zs.length) (nd : (names ss).Nodup) (hin : ∀ z ∈ zs, z ∈ names ss) (po : O.Perm (placesOf ss zs)) (wo : O.Pairwise (rkS ss)) (hOz : (O.map fun k => (gs ss k).1).Perm zs) (hd : ns.length ≤ zs.length) (hn : ∀ n ∈ ns, 1 ≤ n ∧ n ≤ W) :
    Good W (behS ss zs (O.map fun k => (gs ss k).1) (down ns)) := by
  have hO : ∀ i ∈ O, i ∈ placesOf ss zs := fun i hi => po.mem_iff.mp hi
  have ond : O.Nodup := po.nodup_iff.mpr (places_nodup ss zs)
  have hOn : ∀ i ∈ O, i < ss.length := fun i hi => (places_lt (hO i hi)).1
  have ol : O.length = zs.length := by rw [← hOz.length_eq, List.length_map]
  have dl := down_len ns
  have dnn : ∀ n ∈ down ns, 0 ≤ n := fun n h => by have := hn n ((down_perm ns).mem_iff.mp h); omega
  have hd2 : (down ns).length ≤ O.length := by omega
  have hL : (0 : Int) < ((O.length : Nat) : Int) := by omega
  have hne := cast_ne hL
  have each : ∀ S : List Nat, S.Nodup → (∀ i ∈ S, i < ss.length) → sumF (owF (behS ss zs (O.map fun k => (gs ss k).1) (down ns))) S = sumF (owF ss) S + ((((lays (down ns) (down ns).length).map fun x => x.2 * layN (O.map fun k => decide (k ∈ S)) x.1).sum : Int) : Rat) / (((O.length : Nat) : Int) : Rat) := fun S hS hl => by
    rw [sumF_owed, sumF_owed, owed_behS hp (by omega) nd hin hO ond hOz hd2 hS hl, lays_layN (down_sorted ns) dnn hd2, cast_sub, cast_mul, cast_mul, ← ol]
    grind
  refine ⟨fun S hS hl => ?_, ?_⟩
  · rw [behS_len] at hl ⊢
    rw [each S hS hl]
    refine eve_within (by omega) g.w ond hOn (rkS_desc wo hp) hS hl (by omega) (fun x hx => ?_) ?_
    · have := lays_mem hx
      exact ⟨by omega, by omega⟩
    · rw [lays_weigh (down_sorted ns) dnn]
      have g0 : (down ns).getD (down ns).length 0 = 0 := by
        rw [List.getD_eq_getElem?_getD, List.getElem?_eq_none (Nat.le_refl _)]
        rfl
      have g1 : (down ns).getD 0 0 ≤ W := by
        rw [List.getD_eq_getElem?_getD]
        cases e : (down ns)[0]? with
        | none => show (0 : Int) ≤ W; omega
        | some n => exact (hn n ((down_perm ns).mem_iff.mp (List.mem_of_getElem? e))).2
      omega
  · rw [behS_len, sumF_owed, owed_behS hp (by omega) nd hin hO ond hOz hd2 List.nodup_range (fun i hi => List.mem_range.mp hi), ← sumF_owed, g.z, Rat.zero_add]
    have e1 : (O.filter fun j => decide (j ∈ List.range ss.length)) = O := by
      rw [List.filter_eq_self]
      exact fun i hi => decide_eq_true (List.mem_range.mpr (hOn i hi))
    have e2 : ((List.range (down ns).length).map fun i => (down ns).getD i 0 * (if O.getD i 0 ∈ List.range ss.length then 1 else 0)) = (List.range (down ns).length).map fun i => (down ns).getD i 0 := by
      refine List.map_congr_left fun i hi => ?_
      have hi2 := List.mem_range.mp hi
      rw [if_pos, Int.mul_one]
      rw [List.getD_eq_getElem?_getD, List.getElem?_eq_getElem (show i < O.length by omega)]
      exact List.mem_range.mpr (hOn _ (List.getElem_mem _))
    rw [e1, e2, range_sum, ← ol]
    grind
theorem owF_rat (ss : List Seat) {i : Nat} : owF ss i = ((gs ss i).2.1 : Rat) / (gs ss i).2.2 := rfl
/-- what a seat of a good moment owes has few signs -/
theorem good_bits {W : Int} {ss : List Seat} {D B : Nat} (hW : 1 ≤ W) (g : Good W ss) (bW : Bt B W) (hl : ss.length ≤ 15) (hp : ∀ s ∈ ss, 0 < s.2.2 ∧ Bt D s.2.2) : ∀ s ∈ ss, Ok2 (B + 4 + D) D s.2 := fun s hs => by
  obtain ⟨h0, hd⟩ := hp s hs
  obtain ⟨i, hi⟩ := List.getElem?_of_mem hs
  have il := (List.getElem?_eq_some_iff.mp hi).1
  have e := gs_at hi
  refine ⟨h0, ?_, hd⟩
  have n1 : (1 : Int) ≤ ss.length := by omega
  have u1 := g.w [i] (by simp) (fun j hj => by rw [List.mem_singleton.mp hj]; exact il)
  have fp := filter_perm List.nodup_range (List.mem_range.mpr il)
  have u2 := g.w ((List.range ss.length).filter fun k => !decide (k = i)) (List.nodup_range.filter _) (fun j hj => List.mem_range.mp (List.mem_filter.mp hj).1)
  have ln := fp.length_eq
  rw [List.length_cons, List.length_range] at ln
  have sm := sumF_perm (f := owF ss) fp
  rw [g.z] at sm
  have s1 : sumF (owF ss) [i] = owF ss i := by
    unfold sumF
    simp [Rat.add_zero]
  have s2 : sumF (owF ss) (i :: (List.range ss.length).filter fun k => !decide (k = i)) = owF ss i + sumF (owF ss) ((List.range ss.length).filter fun k => !decide (k = i)) := by
    unfold sumF
    rw [List.map_cons, List.sum_cons]
  rw [s1] at u1
  rw [s2] at sm
  unfold mostR at u1 u2
  have el : ((((List.range ss.length).filter fun k => !decide (k = i)).length : Nat) : Int) = ((ss.length : Nat) : Int) - 1 := by omega
  rw [el, cast_sub] at u2
  have o1 : ((1 : Int) : Rat) = 1 := rfl
  have o2 : ((([i] : List Nat).length : Nat) : Int) = 1 := rfl
  rw [o2] at u1
  rw [o1] at u1 u2
  rw [owF_rat, e] at u1 sm
  have hb := cast_pos h0
  have hbn := cast_ne h0
  have hWn : (0 : Rat) ≤ (W : Rat) := cast_nn (by omega)
  have k1 : (s.2.1 : Rat) * 2 ≤ (W : Rat) * ((((ss.length : Nat) : Int) : Rat) - 1) * s.2.2 := by
    have : (s.2.1 : Rat) / s.2.2 * s.2.2 = s.2.1 := by grind
    have := Rat.mul_le_mul_of_nonneg_right u1 (Rat.le_of_lt hb)
    grind
  have k2 : -(s.2.1 : Rat) * 2 ≤ (W : Rat) * ((((ss.length : Nat) : Int) : Rat) - 1) * s.2.2 := by
    have : (s.2.1 : Rat) / s.2.2 * s.2.2 = s.2.1 := by grind
    have h3 : -((s.2.1 : Rat) / s.2.2) ≤ (W : Rat) * ((((ss.length : Nat) : Int) : Rat) - 1) * 1 / 2 := by grind
    have := Rat.mul_le_mul_of_nonneg_right h3 (Rat.le_of_lt hb)
    grind
  have i1 : s.2.1 * 2 ≤ W * (((ss.length : Nat) : Int) - 1) * s.2.2 := by
    refine cast_le.mp ?_
    rw [cast_mul, cast_mul, cast_mul, cast_sub]
    exact k1
  have i2 : (0 - s.2.1) * 2 ≤ W * (((ss.length : Nat) : Int) - 1) * s.2.2 := by
    refine cast_le.mp ?_
    rw [cast_mul, cast_mul, cast_mul, cast_sub, cast_sub]
    have : ((0 : Int) : Rat) = 0 := rfl
    rw [this]
    have e2 : ((2 : Int) : Rat) = 2 := rfl
    rw [e2, o1]
    grind
  have bn : Bt 4 (((ss.length : Nat) : Int) - 1) := Bt.of_lt (by omega) (by omega)
  have bb := (bW.mul bn).mul hd
  refine bb.of_le ?_
  omega
theorem behS_den {ss : List Seat} {zs os : List Str} {dn : List Int} {D : Nat} (hp : ∀ s ∈ ss, 0 < s.2.2 ∧ Bt D s.2.2) (hz : 0 < zs.length) (z15 : zs.length ≤ 15) (hd : dn.length ≤ os.length) : ∀ s ∈ behS ss zs os dn, 0 < s.2.2 ∧ Bt (D + 4) s.2.2 := fun s hs => by
  obtain ⟨i, hi⟩ := List.getElem?_of_mem hs
  have hl : i < ss.length := by
    have := (List.getElem?_eq_some_iff.mp hi).1
    rw [behS_len] at this
    exact this
  have e : s.2 = gp (rowE (ss.map Prod.snd) (zs.map (idx ss)) (byS ss os dn)) i := by
    rw [← gs_at hi]
    unfold behS
    rw [gs_setRow hl (by rw [rowE_len, List.length_map])]
  have e0 := hp _ (gs_mem hl)
  rw [e, rowE_at (by rw [List.length_map]; exact hl), byS_snd hd, List.length_map]
  have bz : Bt 4 ((zs.length : Nat) : Int) := Bt.of_lt (by omega) (by omega)
  have oF : 0 < (rowF (ss.map Prod.snd) (zs.map (idx ss)) (lo dn.sum (zs.length : Nat)) i).2 ∧ Bt (D + 4) (rowF (ss.map Prod.snd) (zs.map (idx ss)) (lo dn.sum (zs.length : Nat)) i).2 := by
    unfold rowF
    rw [gp_snd ss hl]
    have pz := lo_lowest (a := dn.sum) (b := ((zs.length : Nat) : Int)) (by omega)
    split
    · exact ⟨(lo_lowest (Int.mul_pos e0.1 pz.1)).1, Bt.lo2 (e0.2.mul bz.lo2)⟩
    · exact ⟨e0.1, e0.2.mono (by omega)⟩
  unfold rowG
  split
  · rename_i d _
    rw [low_one]
    exact ⟨(lo_lowest (Int.mul_pos oF.1 (by show (0 : Int) < 1; decide))).1, Bt.lo2 (by show Bt _ (_ * (1 : Int)); rw [Int.mul_one]; exact oF.2)⟩
  · exact oF
theorem behS_names {ss : List Seat} {zs os : List Str} {dn : List Int} : (behS ss zs os dn).map Prod.fst = ss.map Prod.fst := by
  refine List.ext_getElem? fun i => ?_
  rw [List.getElem?_map, List.getElem?_map]
  by_cases h : i < ss.length
  · rw [at_gs h, at_gs (by rw [behS_len]; exact h)]
    unfold behS
    rw [gs_setRow h (by rw [rowE_len, List.length_map])]
    rfl
  · rw [List.getElem?_eq_none (by rw [behS_len]; omega), List.getElem?_eq_none (by omega)]
theorem names_behS {ss : List Seat} {zs os : List Str} {dn : List Int} : names (behS ss zs os dn) = names ss := by
  unfold names
  rw [behS_names]
/-- new seats that owe nought -/
theorem good_zeros {W : Int} {ss : List Seat} (hW : 0 ≤ W) (g : Good W ss) (us : List Str) : Good W (ss ++ us.map fun z => ((z, (0, 1)) : Seat)) := by
  have hl : (ss ++ us.map fun z => ((z, (0, 1)) : Seat)).length = ss.length + us.length := by rw [List.length_append, List.length_map]
  have f1 : ∀ i, i < ss.length → owF (ss ++ us.map fun z => ((z, (0, 1)) : Seat)) i = owF ss i := fun i hi => by
    unfold owF gs
    rw [List.getD_eq_getElem?_getD, List.getD_eq_getElem?_getD, List.getElem?_append_left hi]
  have f2 : ∀ i, ss.length ≤ i → owF (ss ++ us.map fun z => ((z, (0, 1)) : Seat)) i = 0 := fun i hi => by
    unfold owF gs
    rw [List.getD_eq_getElem?_getD, List.getElem?_append_right hi, List.getElem?_map]
    cases us[i - ss.length]? with
    | none => exact rv_nought
    | some z => exact rv_nought
  have spl : ∀ S : List Nat, sumF (owF (ss ++ us.map fun z => ((z, (0, 1)) : Seat))) S = sumF (owF ss) (S.filter fun i => decide (i < ss.length)) := fun S => by
    unfold sumF
    rw [← sum_ifR]
    congr 1
    refine List.map_congr_left fun i _ => ?_
    by_cases h : i < ss.length
    · rw [f1 i h, decide_eq_true h, if_pos rfl]
    · rw [f2 i (by omega), decide_eq_false h]
      rfl
  refine ⟨fun S hS hn => ?_, ?_⟩
  · rw [spl]
    have h1 := g.w _ (hS.filter fun i => decide (i < ss.length)) (fun i hi => of_decide_eq_true (List.mem_filter.mp hi).2)
    refine Rat.le_trans h1 ?_
    rw [hl] at hn ⊢
    have a1 : (S.filter fun i => decide (i < ss.length)).length ≤ S.length := List.length_filter_le _ _
    have a2 : (S.filter fun i => decide (i < ss.length)).length ≤ ss.length := by
      have := (show (S.filter fun i => decide (i < ss.length)).Nodup from hS.filter _).length_le_of_subset (l₂ := List.range ss.length) fun i hi => List.mem_range.mpr (of_decide_eq_true (List.mem_filter.mp hi).2)
      rw [List.length_range] at this
      exact this
    have a3 : S.length ≤ (S.filter fun i => decide (i < ss.length)).length + us.length := by
      have h2 := (show (S.filter fun i => !decide (i < ss.length)).Nodup from hS.filter _).length_le_of_subset (l₂ := (List.range us.length).map fun j => ss.length + j) fun i hi => by
        obtain ⟨hi1, hi2⟩ := List.mem_filter.mp hi
        have hi3 : ¬ i < ss.length := by simpa using hi2
        have := hn i hi1
        exact List.mem_map.mpr ⟨i - ss.length, List.mem_range.mpr (by omega), by omega⟩
      rw [List.length_map, List.length_range] at h2
      have h3 : (S.filter fun i => decide (i < ss.length)).length + (S.filter fun i => !decide (i < ss.length)).length = S.length := by
        clear h1 h2 a1 a2 hn hS
        induction S with
        | nil => rfl
        | cons a S ih =>
          rw [List.filter_cons, List.filter_cons]
          cases decide (a < ss.length) <;> simp <;> omega
      omega
    generalize (S.filter fun i => decide (i < ss.length)).length = k' at *
    generalize S.length = k at *
    unfold mostR
    have b1 : (((k' : Nat) : Int) : Rat) ≤ (((k : Nat) : Int) : Rat) := cast_le.mpr (by omega)
    have b0 : (0 : Rat) ≤ (((k' : Nat) : Int) : Rat) := cast_nn (by omega)
    have b2 : (0 : Rat) ≤ (((ss.length : Nat) : Int) : Rat) - (((k' : Nat) : Int) : Rat) := by
      have : (((k' : Nat) : Int) : Rat) ≤ (((ss.length : Nat) : Int) : Rat) := cast_le.mpr (by omega)
      grind
    have b3 : (((ss.length : Nat) : Int) : Rat) - (((k' : Nat) : Int) : Rat) ≤ (((ss.length + us.length : Nat) : Int) : Rat) - (((k : Nat) : Int) : Rat) := by
      have : (((ss.length : Nat) : Int) : Rat) + (((k : Nat) : Int) : Rat) ≤ (((ss.length + us.length : Nat) : Int) : Rat) + (((k' : Nat) : Int) : Rat) := by
        rw [← cast_add, ← cast_add]
        exact cast_le.mpr (by omega)
      grind
    have c1 := Rat.mul_le_mul_of_nonneg_right b1 b2
    have c2 := Rat.mul_le_mul_of_nonneg_left b3 (Rat.le_trans b0 b1)
    have c3 := Rat.mul_le_mul_of_nonneg_left (Rat.le_trans c1 c2) (cast_nn hW)
    grind
  · rw [spl, hl, ← g.z]
    congr 1
    rw [List.range_eq_range', List.range_eq_range']
    rw [show List.range' 0 (ss.length + us.length) = List.range' 0 ss.length ++ List.range' ss.length us.length from by
      have := List.range'_append_1 (s := 0) (m := ss.length) (n := us.length)
      simpa using this.symm]
    rw [List.filter_append]
    have e1 : (List.range' 0 ss.length).filter (fun i => decide (i < ss.length)) = List.range' 0 ss.length := by
      rw [List.filter_eq_self]
      intro i hi
      have := List.mem_range'_1.mp hi
      exact decide_eq_true (by omega)
    have e2 : (List.range' ss.length us.length).filter (fun i => decide (i < ss.length)) = [] := by
      rw [List.filter_eq_nil_iff]
      intro i hi
      have := List.mem_range'_1.mp hi
      simp
      omega
    rw [e1, e2, List.append_nil]
end WS
set_option Elab.async false
set_option linter.all false
set_option maxRecDepth 100000
set_option maxHeartbeats 4000000
namespace WS
open PySem PySem.Spec PyProof.Rows L2
/-! ### rows of seats that change in place -/
def RowsN (K : PySem.W.Frag) (H : Hp) (L : Addr) (rs : List V) (n : Nat) (nm : Nat → Str) (f : Nat → Int × Int) : Prop :=
  H L = some (.lst rs) ∧ rs.length = n ∧ rs.Nodup ∧ ∀ i v, rs[i]? = some v → ∃ r x, v = .ref r ∧ r ≠ L ∧ H r = some (.lst [.str (nm i), x]) ∧ Dp K H x (pdP (f i))
def RowsM (K : PySem.W.Frag) (H : Hp) (L : Addr) (rs : List V) (ss : List Seat) : Prop := RowsN K H L rs ss.length (fun i => (gs ss i).1) (fun i => (gs ss i).2)
/-- all but the rows is as it was -/
def SameR (rs : List V) (H H' : Hp) : Prop := ∀ b o, H b = some o → V.ref b ∉ rs → H' b = some o
theorem SameR.refl (rs : List V) (H : Hp) : SameR rs H H := fun _ _ h _ => h
theorem SameR.trans {rs : List V} {H H1 H2 : Hp} (a : SameR rs H H1) (b : SameR rs H1 H2) : SameR rs H H2 := fun c o h n => b c o (a c o h n) n
theorem SameR.of {rs : List V} {H H1 : Hp} (a : Same H H1) : SameR rs H H1 := fun c o h _ => a c o h
section
variable {K : PySem.W.Frag} {H H' : Hp} {L : Addr} {rs : List V} {n : Nat} {nm : Nat → Str} {f : Nat → Int × Int}
theorem RowsN.row (h : RowsN K H L rs n nm f) {i : Nat} (hi : i < n) : ∃ r x, rs[i]? = some (.ref r) ∧ r ≠ L ∧ H r = some (.lst [.str (nm i), x]) ∧ Dp K H x (pdP (f i)) := by
  obtain ⟨v, hv⟩ : ∃ v, rs[i]? = some v := ⟨_, List.getElem?_eq_getElem (by rw [h.2.1]; exact hi)⟩
  obtain ⟨r, x, rfl, h1, h2, h3⟩ := h.2.2.2 i v hv
  exact ⟨r, x, hv, h1, h2, h3⟩
theorem RowsN.keep (h : RowsN K H L rs n nm f) (hL : ∀ o, H L = some (.lst o) → H' L = some (.lst o)) (hr : ∀ r o, V.ref r ∈ rs → H r = some (.lst o) → H' r = some (.lst o)) (k : KT H H') : RowsN K H' L rs n nm f := by
  refine ⟨hL _ h.1, h.2.1, h.2.2.1, fun i v e => ?_⟩
  obtain ⟨r, x, rfl, h1, h2, h3⟩ := h.2.2.2 i v e
  exact ⟨r, x, rfl, h1, hr r _ (List.mem_of_getElem? e) h2, h3.kt k rfl⟩
theorem RowsN.sm (h : RowsN K H L rs n nm f) (s : Same H H') : RowsN K H' L rs n nm f := h.keep (fun _ e => s _ _ e) (fun _ _ _ e => s _ _ e) (kt_same s)
theorem RowsN.ne (h : RowsN K H L rs n nm f) {p : Addr} (np : H p = none) : L ≠ p ∧ V.ref p ∉ rs := by
  refine ⟨ne_of_none h.1 np, fun hm => ?_⟩
  obtain ⟨i, hi⟩ := List.getElem?_of_mem hm
  obtain ⟨r, x, e, _, h2, _⟩ := h.2.2.2 i _ hi
  cases e
  rw [np] at h2
  cases h2
theorem RowsN.other (h : RowsN K H L rs n nm f) {F : Addr} {xs ys : List V} (hF : H F = some (.lst xs)) (n1 : L ≠ F) (n2 : V.ref F ∉ rs) : RowsN K (upd H F (.lst ys)) L rs n nm f :=
  h.keep (fun _ e => by rw [upd_ne n1]; exact e) (fun r _ hm e => by rw [upd_ne (show r ≠ F from fun z => n2 (by rw [← z]; exact hm))]; exact e) (kt_set hF)
theorem RowsN.set (h : RowsN K H L rs n nm f) {k : Nat} {r : Addr} {x w : V} {p : Int × Int} (hk : rs[k]? = some (.ref r)) (hr : H r = some (.lst [.str (nm k), x])) (nL : r ≠ L) (hw : Dp K H w (pdP p)) : RowsN K (upd H r (.lst [.str (nm k), w])) L rs n nm fun j => if j = k then p else f j := by
  have kt : KT H (upd H r (.lst [.str (nm k), w])) := kt_set hr
  refine ⟨by rw [upd_ne nL.symm]; exact h.1, h.2.1, h.2.2.1, fun i v e => ?_⟩
  obtain ⟨r2, x2, rfl, h1, h2, h3⟩ := h.2.2.2 i v e
  by_cases hi : i = k
  · subst hi
    rw [hk] at e
    obtain rfl := V.ref.inj (Option.some.inj e)
    exact ⟨r, w, rfl, h1, upd_same, by show Dp K _ w (pdP (if i = i then p else f i)); rw [if_pos rfl]; exact hw.kt kt rfl⟩
  · have ne : r2 ≠ r := fun z => by
      subst z
      have hi1 := (List.getElem?_eq_some_iff.mp e)
      have hk1 := (List.getElem?_eq_some_iff.mp hk)
      exact hi ((List.getElem_inj h.2.2.1).mp (hi1.2.trans hk1.2.symm))
    exact ⟨r2, x2, rfl, h1, by rw [upd_ne ne]; exact h2, by show Dp K _ x2 (pdP (if i = k then p else f i)); rw [if_neg hi]; exact h3.kt kt rfl⟩
theorem RowsN.congr {nm' : Nat → Str} {f' : Nat → Int × Int} (h : RowsN K H L rs n nm f) (e1 : ∀ i, i < n → nm i = nm' i) (e2 : ∀ i, i < n → f i = f' i) : RowsN K H L rs n nm' f' := by
  refine ⟨h.1, h.2.1, h.2.2.1, fun i v e => ?_⟩
  have hi : i < n := by
    have := (List.getElem?_eq_some_iff.mp e).1
    rw [h.2.1] at this
    exact this
  rw [← e1 i hi, ← e2 i hi]
  exact h.2.2.2 i v e
theorem SameR.set {rs : List V} {H H1 : Hp} {r : Addr} {o : HO} (a : SameR rs H H1) (hr : V.ref r ∈ rs) : SameR rs H (upd H1 r o) := fun b x h nb => by
  rw [upd_ne (fun z => nb (by rw [z]; exact hr))]
  exact a b x h nb
theorem SameR.new {rs : List V} {H H1 : Hp} {F : Addr} {o : HO} (a : SameR rs H H1) (nF : H F = none) : SameR rs H (upd H1 F o) := fun b x h nb => by
  rw [upd_ne (ne_of_none h nF)]
  exact a b x h nb
end
def spOrderZ (K : PySem.W.Frag) : Sp := fun vs H Q _ => ∃ (L Z : Addr) (rs : List V) (ss : List Seat) (zs : List Str), vs = [.ref L, .ref Z] ∧ SqL K H L rs ∧ RowsL K H rs ss ∧ ss.length ≤ 100 ∧ (∀ s ∈ ss, Okp 4400 s.2) ∧ H Z = some (.lst (zs.map V.str)) ∧
  ∀ D (os : List Nat) H', H D = none → H' D = some (.lst (os.map fun j : Nat => V.int j)) → os.Perm (placesOf ss zs) → os.Pairwise (rkS ss) → Same H H' → Q (.ref D) H'
def spEvening (K : PySem.W.Frag) : Sp := fun vs H Q _ => ∃ (L Z D : Addr) (rs : List V) (ss : List Seat) (zs : List Str) (ns : List Int), vs = [.ref L, .ref Z, .ref D] ∧ RowsM K H L rs ss ∧ ss.length ≤ 100 ∧ (∀ s ∈ ss, Ok2 4000 4000 s.2) ∧ (names ss).Nodup ∧ H Z = some (.lst (zs.map V.str)) ∧ There ss zs ∧ H D = some (.lst (ns.map V.int)) ∧ V.ref D ∉ rs ∧ ns.length ≤ zs.length ∧ ns.length < 64 ∧ (∀ n ∈ ns, Bt 50000 n) ∧
  ∀ v H' (O : List Nat), O.Perm (placesOf ss zs) → O.Pairwise (rkS ss) → RowsM K H' L rs (behS ss zs (O.map fun k => (gs ss k).1) (down ns)) → SameR rs H H' → Q v H'
theorem pl_minus {p : Int × Int} {d : Int} : pl p (0 - d, 1) = mi p (lo d 1) := by
  rw [low_one]
  exact pl_neg (q := (d, 1))
/-- the row behind an evening, by places -/
theorem behS_rows {ss : List Seat} {zs : List Str} {O : List Nat} {dn : List Int} (nd : (names ss).Nodup) (hin : ∀ z ∈ zs, z ∈ names ss) (hO : ∀ i ∈ O, i ∈ placesOf ss zs) (hOz : (O.map fun k => (gs ss k).1).Perm zs) (hd : dn.length ≤ O.length) {i : Nat} (hi : i < ss.length) :
    gs (behS ss zs (O.map fun k => (gs ss k).1) dn) i = ((gs ss i).1, rowG (rowF (ss.map Prod.snd) O (lo dn.sum (zs.length : Nat))) (O.zip dn) i) := by
  have eO : (O.map fun k => (gs ss k).1).map (idx ss) = O := by
    rw [List.map_map]
    conv => rhs; rw [← List.map_id O]
    refine List.map_congr_left fun k hk => ?_
    exact idx_name nd hin (hO k hk)
  have eB : byS ss (O.map fun k => (gs ss k).1) dn = O.zip dn := by
    have : byS ss (O.map fun k => (gs ss k).1) dn = ((O.map fun k => (gs ss k).1).map (idx ss)).zip dn := by
      unfold byS
      rw [List.zip_map_left (l₁ := O.map fun k => (gs ss k).1)]
      rfl
    rw [this, eO]
  have mz : ∀ i, i ∈ zs.map (idx ss) ↔ i ∈ O := fun i => by
    rw [← (hOz.map (idx ss)).mem_iff, eO]
  unfold behS
  rw [gs_setRow hi (by rw [rowE_len, List.length_map]), rowE_at (by rw [List.length_map]; exact hi), byS_snd (by rw [List.length_map]; exact hd), List.length_map, eB]
  congr 1
  have : rowF (ss.map Prod.snd) (zs.map (idx ss)) (lo dn.sum (zs.length : Nat)) = rowF (ss.map Prod.snd) O (lo dn.sum (zs.length : Nat)) := by
    funext j
    unfold rowF
    simp only [mz]
  rw [this]
end WS
set_option Elab.async false
set_option linter.all false
set_option maxRecDepth 100000
set_option maxHeartbeats 4000000
namespace WS
open PySem PySem.Spec PyProof.Rows L2
def spFalls (K : PySem.W.Frag) : Sp := fun vs H Q _ => ∃ (W : Int) (l : Addr) (rs : List V) (ps : List (Int × Int)), vs = [.int W, .ref l] ∧ SqL K H l rs ∧ Parts K H rs ps ∧ (∀ q ∈ ps, Ok2 1900 200 q) ∧ ps.length ≤ 15 ∧ Bt 2000 W ∧ WthF W ps.length (fun j => rv (gp ps j)) ∧ ∀ D H', Same H H' → H' D = some (.lst []) → Q (.ref D) H'
def spIsMoment (K : PySem.W.Frag) : Sp := fun vs H Q _ => ∃ (v : V) (W : Int) (L : Addr) (rs : List V) (ss : List Seat), vs = [v, .int W, .ref L] ∧ Dp K H v (momD W ss) ∧ RowsM K H L rs ss ∧ Good W ss ∧ (∀ s ∈ ss, Ok2 1900 200 s.2 ∧ Nm0 s.1) ∧ ss.length ≤ 15 ∧ Bt 1500 W ∧ ∀ H', Same H H' → Q (.bl true) H'
def spBegin (K : PySem.W.Frag) : Sp := fun vs H Q _ => ∃ (p : Addr), vs = [.ref p] ∧ PotAt H p ∧ ∀ v W ss H', Dp K H' v (momD W ss) → ss.length ≤ 12 → (names ss).Nodup → 2 ≤ (names ss).length → (∀ s ∈ ss, Nm0 s.1 ∧ 0 < s.2.2 ∧ Bt 90 s.2.2) → 1 ≤ W → Bt 1500 W → Good W ss → SameX p H H' → PotAt H' p → Q v H'
theorem mom_sh2 {W : Int} {ss : List Seat} (hW : Bt 1500 W) (hl : ss.length ≤ 15) (ok : ∀ s ∈ ss, Ok2 1900 200 s.2 ∧ Nm0 s.1) : Sh 1000000 60 (momD W ss) := by
  refine (Sh.tup (n := 116000) (k := 5) (m := 2) (ds := [.int W, .tuple (ss.map seatD)]) (fun d hd => ?_) (Nat.le_refl 2)).mono (by omega) (by omega)
  simp only [List.mem_cons, List.not_mem_nil, or_false] at hd
  rcases hd with rfl | rfl
  · exact (Sh.int (by decide) (by decide) hW).mono (by omega) (by omega)
  · refine (Sh.tup (n := 7700) (k := 3) (m := 15) (fun d hd => ?_) (by rw [List.length_map]; exact hl)).mono (by omega) (by omega)
    obtain ⟨s, hs, rfl⟩ := List.mem_map.mp hd
    obtain ⟨h1, h2⟩ := ok s hs
    refine (Sh.tup (n := 3810) (k := 2) (m := 2) (ds := [.str s.1, pdP s.2]) (fun d hd => ?_) (Nat.le_refl 2)).mono (by omega) (by omega)
    simp only [List.mem_cons, List.not_mem_nil, or_false] at hd
    rcases hd with rfl | rfl
    · exact (nm_sh h2).mono (by omega) (by omega)
    · refine (Sh.tup (n := 1901) (k := 1) (m := 2) (ds := [.int s.2.1, .int s.2.2]) (fun d hd => ?_) (Nat.le_refl 2) |>.mono (by omega) (by omega))
      simp only [List.mem_cons, List.not_mem_nil, or_false] at hd
      rcases hd with rfl | rfl
      · exact (Sh.int (by decide) (by decide) h1.2.1).mono (by omega) (by omega)
      · exact (Sh.int (m := 200) (by decide) (by decide) h1.2.2).mono (by omega) (by omega)
/-- all parts of a good moment come to nought, as they are added up -/
theorem good_nought {W : Int} {ss : List Seat} (g : Good W ss) (hp : ∀ s ∈ ss, 0 < s.2.2) : (ss.map Prod.snd).foldl pl (0, 1) = (0, 1) := by
  have q1 : ∀ q ∈ ss.map Prod.snd, 0 < q.2 := fun q hq => by obtain ⟨s, hs, rfl⟩ := List.mem_map.mp hq; exact hp s hs
  refine rv_inj (fold_low _ q1) ⟨by decide, by decide⟩ ?_
  rw [rv_fold _ _ (by decide) q1, rv_nought, Rat.zero_add, ← sum_range_gp, List.length_map, ← g.z]
  unfold sumF
  congr 1
  exact List.map_congr_left fun i hi => ow_gp rfl i (List.mem_range.mp hi)
theorem good_row {W : Int} {ss : List Seat} (g : Good W ss) : WthF W (ss.map Prod.snd).length (fun j => rv (gp (ss.map Prod.snd) j)) := by
  rw [List.length_map]
  exact g.w.congr fun i hi => (ow_gp rfl i hi).symm
theorem names_zeros {us : List Str} (h : ∀ z ∈ us, Nm z) : names (us.map fun z => ((z, (0, 1)) : Seat)) = us := by
  unfold names
  rw [List.map_map]
  have e : (Prod.fst ∘ fun z : Str => ((z, (0, 1)) : Seat)) = id := rfl
  rw [e, List.map_id, List.filter_eq_self]
  intro z hz
  rw [Bool.not_eq_true', decide_eq_false_iff_not]
  exact nm_ne (h z hz)
/-- of four unlike names, one of which is taken at the most, two are left -/
theorem two_left {us fs : List Str} (hu : us.Nodup) (hl : us.length = 4) (hf : fs.length ≤ 1) : 2 ≤ (us.filter fun z => !decide (z ∈ fs)).length := by
  have h1 : (us.filter fun z => decide (z ∈ fs)).length ≤ fs.length := by
    have nd : (us.filter fun z => decide (z ∈ fs)).Nodup := hu.filter _
    exact nd.length_le_of_subset fun z hz => of_decide_eq_true (List.mem_filter.mp hz).2
  have h2 : (us.filter fun z => decide (z ∈ fs)).length + (us.filter fun z => !decide (z ∈ fs)).length = us.length := by
    clear h1 hl hu
    induction us with
    | nil => rfl
    | cons a l ih =>
      rw [List.filter_cons, List.filter_cons]
      cases decide (a ∈ fs) <;> simp <;> omega
  omega
end WS
set_option Elab.async false
set_option linter.all false
set_option maxRecDepth 100000
set_option maxHeartbeats 4000000
namespace WS
open PySem PySem.Spec PyProof.Rows L2
section
variable {K : PySem.W.Frag} {H H' : Hp} {L : Addr} {rs : List V} {n : Nat} {nm : Nat → Str} {f : Nat → Int × Int}
theorem RowsN.isl (h : RowsN K H L rs n nm f) {b : Addr} (hb : V.ref b ∈ rs) : ∃ xs, H b = some (.lst xs) := by
  obtain ⟨i, hi⟩ := List.getElem?_of_mem hb
  obtain ⟨r, x, e, _, h2, _⟩ := h.2.2.2 i _ hi
  cases e
  exact ⟨_, h2⟩
theorem SameR.kt (s : SameR rs H H') (h : RowsN K H L rs n nm f) : KT H H' := by
  refine ⟨fun a xs e => s _ _ e fun z => ?_, fun a o xs e => s _ _ e fun z => ?_⟩
  · obtain ⟨ys, e2⟩ := h.isl z
    rw [e] at e2
    cases e2
  · obtain ⟨ys, e2⟩ := h.isl z
    rw [e] at e2
    cases e2
open LamX in
theorem Tabs.r {TT : List (Addr × Str)} (t : Tabs TT H) (s : SameR rs H H') (h : RowsN K H L rs n nm f) : Tabs TT H' := fun q hq => by
  obtain ⟨ps, h1, h2, h3⟩ := t q hq
  refine ⟨ps, s _ _ h1 (fun z => ?_), h2, fun pos cv hc => ?_⟩
  · obtain ⟨ys, e2⟩ := h.isl z
    rw [h1] at e2
    cases e2
  · obtain ⟨c, e1, e2⟩ := h3 pos cv hc
    refine ⟨c, e1, s _ _ e2 (fun z => ?_)⟩
    obtain ⟨ys, e3⟩ := h.isl z
    rw [e2] at e3
    unfold CodeO at e3
    cases e3
theorem RowsN.en (h : RowsN K H L rs n nm f) (s : LamX.ExtN H H') : RowsN K H' L rs n nm f := h.keep (fun _ e => s _ _ e (fun _ z => by cases z)) (fun _ _ _ e => s _ _ e (fun _ z => by cases z)) (ExtN.kt s)
theorem RowsN.x (h : RowsN K H L rs n nm f) {p : Addr} (s : SameX p H H') (hp : PotAt H p) (n1 : L ≠ p) (n2 : V.ref p ∉ rs) : RowsN K H' L rs n nm f := h.keep (fun _ e => s _ _ n1 e) (fun r _ hm e => s _ _ (fun z => n2 (by rw [← z]; exact hm)) e) (kt_x s hp)
end
end WS
set_option Elab.async false
set_option linter.all false
set_option maxRecDepth 100000
set_option maxHeartbeats 4000000
namespace WS
open PySem PySem.Spec PyProof.Rows L2
/-! ### walks over a list or a tuple; vouchers of evenings -/
theorem pi_or {X : Cx} {tg iter : Expr} {w1 w2 : TI} (h1 : PI X tg iter w1) (h2 : PI X tg iter w2) : PI X tg iter (fun σ H R => w1 σ H R ∨ w2 σ H R) := ⟨fun pins s σ H R I h => h.elim (fun h => h1.run pins s σ H R I h) (fun h => h2.run pins s σ H R I h)⟩
def Okv2 (p : Int × Int) : Prop := Lowest p.1 p.2 ∧ Okq 1300 1090 p
theorem Okv2.okp {m : Nat} {p : Int × Int} (h : Okv2 p) (hm : 1300 ≤ m) : Okp m p := h.2.okp hm (by omega)
def Okr2 (n k : Int) (r : VR) : Prop := 0 ≤ r.a ∧ r.a ≤ k ∧ 0 ≤ r.b ∧ r.b ≤ n - k ∧ Bt 1500 r.w ∧ Okv2 r.l ∧ Okv2 r.m ∧ Lowest r.c.1 r.c.2 ∧ Okq 31 20 r.c
def OkH2 (W n k : Int) (s : Int × Int) : Prop := 1 ≤ W ∧ Bt 1500 W ∧ 0 ≤ k ∧ k ≤ n ∧ n ≤ 12 ∧ Okv2 s
theorem mo_okq2 {W n k : Int} (h : Bt 1500 W) (h0 : 0 ≤ k) (h1 : k ≤ n) (h2 : n ≤ 12) : Okq 1510 2 (mo W n k) := by
  have bk : Bt 4 k := Bt.of_lt (by omega) (by omega)
  have bn : Bt 4 (n - k) := Bt.of_lt (by omega) (by omega)
  exact ⟨(lo_lowest (by decide)).1, (((h.mul bk).mul bn).mono (by decide)).lo1, (show Bt 2 2 by unfold Bt; decide).lo2⟩
def spRowHX (K : PySem.W.Frag) : Sp := fun vs H Q _ => ∃ W h v n k u s r, vs = [.int W, .ref h, v] ∧ SqT K H h [.int n, .int k, u] ∧ TupI K H u s.1 s.2 ∧ VRow K H v r ∧ OkH2 W n k s ∧ Okr2 n k r ∧ ∀ H', Same H H' → Q (.bl (rowB W n k s r)) H'
def spHeadHX (K : PySem.W.Frag) : Sp := fun vs H Q _ => ∃ W n k u s, vs = [.int W, .int n, .int k, u] ∧ TupI K H u s.1 s.2 ∧ OkH2 W n k s ∧ ∀ H', Same H H' → Q (.bl (headB W n k s)) H'
def spHoldsX (K : PySem.W.Frag) : Sp := fun vs H Q _ => ∃ W v n k s rs, vs = [.int W, v] ∧ Vch K H v n k s rs ∧ OkH2 W n k s ∧ rs.length ≤ 12 ∧ (∀ r ∈ rs, Okr2 n k r) ∧ ∀ H', Same H H' → Q (.bl (holdB W n k s rs)) H'
def spVouchedX (K : PySem.W.Frag) : Sp := fun vs H Q _ => ∃ v n k s rs, vs = [v] ∧ Vch K H v n k s rs ∧ Okv2 s ∧ rs.length ≤ 12 ∧ (∀ r ∈ rs, Okr2 n k r) ∧ NewT K H (vsum s rs).1 (vsum s rs).2 Q
theorem vsum_ok2 {n k : Int} : ∀ (rs : List VR) (j : Nat) (s : Int × Int), Ok2 (2800 + 21 * j) (1090 + 20 * j) s → j + rs.length ≤ 12 → (∀ r ∈ rs, Okr2 n k r) → Ok2 (2800 + 21 * (j + rs.length)) (1090 + 20 * (j + rs.length)) (vsum s rs)
  | [], j, s, h, _, _ => h
  | r :: rs, j, s, h, hl, hr => by
    have o := hr r List.mem_cons_self
    rw [List.length_cons] at hl
    have oc : Ok2 1531 20 (tm r.c r.w) := Ok2.tm (N := 31) (D := 20) (M := 1500) o.2.2.2.2.2.2.2.2 o.2.2.2.2.1
    have h2 := h.pl (M := 2800 + 21 * j + 20) oc (by omega) (by omega)
    have := vsum_ok2 rs (j + 1) (pl s (tm r.c r.w)) (h2.mono (by omega) (by omega)) (by omega) (fun x hx => hr x (List.mem_cons_of_mem _ hx))
    rw [List.length_cons, show j + (rs.length + 1) = j + 1 + rs.length by omega]
    exact this
/-! as data -/
def vrD (r : VR) : PyData := .tuple [.int r.w, .int r.a, .int r.b, pdP r.l, pdP r.m, pdP r.c]
def vchD (n k : Int) (s : Int × Int) (rs : List VR) : PyData := .tuple [.int n, .int k, pdP s, .tuple (rs.map vrD)]
theorem vr_get {K : PySem.W.Frag} {H : Hp} {v : V} {r : VR} (h : Dp K H v (vrD r)) : VRow K H v r := by
  obtain ⟨t, vs, rfl, h0, h1⟩ := dp_tup h
  cases h1 with
  | cons a1 h1 => cases h1 with
    | cons a2 h1 => cases h1 with
      | cons a3 h1 => cases h1 with
        | cons a4 h1 => cases h1 with
          | cons a5 h1 => cases h1 with
            | cons a6 h1 =>
              cases h1
              rw [dp_int a1, dp_int a2, dp_int a3] at h0
              exact ⟨t, _, _, _, rfl, h0, dp_pd a4, dp_pd a5, dp_pd a6⟩
theorem vrows_get {K : PySem.W.Frag} {H : Hp} {vs : List V} {rs : List VR} (h : DpAll K H vs (rs.map vrD)) : VRows K H vs rs := by
  refine ⟨by rw [dpall_len h, List.length_map], fun i v e => ?_⟩
  obtain ⟨d, ed, hd⟩ := dpall_at h e
  rw [List.getElem?_map] at ed
  cases z : rs[i]? with
  | none => rw [z] at ed; cases ed
  | some r =>
    rw [z] at ed
    obtain rfl := Option.some.inj ed
    exact ⟨r, rfl, vr_get hd⟩
theorem vch_get {K : PySem.W.Frag} {H : Hp} {v : V} {n k : Int} {s : Int × Int} {rs : List VR} (h : Dp K H v (vchD n k s rs)) : Vch K H v n k s rs ∧ ∃ t xs, v = .ref t ∧ SqT K H t xs := by
  obtain ⟨t, vs, rfl, h0, h1⟩ := dp_tup h
  refine ⟨?_, t, vs, rfl, h0⟩
  cases h1 with
  | cons a1 h1 => cases h1 with
    | cons a2 h1 => cases h1 with
      | cons a3 h1 => cases h1 with
        | cons a4 h1 =>
          cases h1
          obtain ⟨R, us, rfl, h2, h3⟩ := dp_tup a4
          rw [dp_int a1, dp_int a2] at h0
          exact ⟨t, _, R, us, rfl, h0, dp_pd a3, h2, vrows_get h3⟩
theorem vr_imm (rs : List VR) : immAll (rs.map vrD) = true := immAll_map (fun _ => rfl) rs
theorem vch_imm (n k : Int) (s : Int × Int) (rs : List VR) : imm (vchD n k s rs) = true := by
  show (true && (true && (true && (immAll (rs.map vrD) && true)))) = true
  rw [vr_imm]
  rfl
theorem vch_sh {n k : Int} {s : Int × Int} {rs : List VR} (hn : Bt 1500 n) (hk : Bt 1500 k) (os : Okv2 s) (hl : rs.length ≤ 12) (ok : ∀ r ∈ rs, Okr2 n k r ∧ Bt 1500 r.a ∧ Bt 1500 r.b) : Sh 1000000 60 (vchD n k s rs) := by
  have p1 : ∀ p : Int × Int, Okv2 p → Sh 2610 2 (pdP p) := fun p h => (Sh.pd (m := 1300) (by decide) (by decide) h.2.2.1 (h.2.2.2.mono (by decide))).mono (by decide) (by decide)
  have i1 : ∀ i : Int, Bt 1500 i → Sh 1501 1 (.int i) := fun i h => Sh.int (by decide) (by decide) h
  refine (Sh.tup (n := 200000) (k := 6) (m := 4) (ds := [.int n, .int k, pdP s, .tuple (rs.map vrD)]) (fun d hd => ?_) (Nat.le_refl 4)).mono (by omega) (by omega)
  simp only [List.mem_cons, List.not_mem_nil, or_false] at hd
  rcases hd with rfl | rfl | rfl | rfl
  · exact (i1 _ hn).mono (by omega) (by omega)
  · exact (i1 _ hk).mono (by omega) (by omega)
  · exact (p1 _ os).mono (by omega) (by omega)
  · refine (Sh.tup (n := 16000) (k := 4) (m := 12) (fun d hd => ?_) (by rw [List.length_map]; exact hl)).mono (by omega) (by omega)
    obtain ⟨r, hr, rfl⟩ := List.mem_map.mp hd
    obtain ⟨⟨_, _, _, _, bw, ol, om, _, oc⟩, ba, bb⟩ := ok r hr
    refine (Sh.tup (n := 2612) (k := 2) (m := 6) (ds := [.int r.w, .int r.a, .int r.b, pdP r.l, pdP r.m, pdP r.c]) (fun d hd => ?_) (Nat.le_refl 6)).mono (by omega) (by omega)
    simp only [List.mem_cons, List.not_mem_nil, or_false] at hd
    rcases hd with rfl | rfl | rfl | rfl | rfl | rfl
    · exact (i1 _ bw).mono (by omega) (by omega)
    · exact (i1 _ ba).mono (by omega) (by omega)
    · exact (i1 _ bb).mono (by omega) (by omega)
    · exact (p1 _ ol).mono (by omega) (by omega)
    · exact (p1 _ om).mono (by omega) (by omega)
    · exact (Sh.pd (m := 40) (by decide) (by decide) (oc.2.1.mono (by decide)) (oc.2.2.mono (by decide))).mono (by omega) (by omega)
/-! by seats -/
def lessS (O S : List Nat) (m : Nat) : List Nat := S.filter fun i => !decide (i ∈ idleL O S m)
def vrOf (ss : List Seat) (O S : List Nat) (x : Nat × Int) : VR := ⟨x.2, ((idleL O S x.1).length : Nat), ((othL O S x.1).length : Nat), (owedAt ss (lessS O S x.1)).foldl pl (0, 1), (owedAt ss (S ++ othL O S x.1)).foldl pl (0, 1), layerC (O.map fun k => decide (k ∈ S)) x.1⟩
def vrsOf (ss : List Seat) (O S : List Nat) (ns : List Int) : List VR := (lays (down ns) ns.length).map (vrOf ss O S)
theorem owed_okv {ss : List Seat} {S : List Nat} (ok : ∀ s ∈ ss, Okq 190 90 s.2) (hS : ∀ i ∈ S, i < ss.length) (hl : S.length ≤ 12) : Okv2 ((owedAt ss S).foldl pl (0, 1)) := by
  have q1 : ∀ q ∈ owedAt ss S, Okq 190 90 q := fun q hq => by
    obtain ⟨i, hi, rfl⟩ := List.mem_map.mp hq
    exact ok _ (gs_mem (hS i hi))
  have o := fold_okr (owedAt ss S) 0 (0, 1) ⟨by decide, by unfold Bt; decide +kernel, by unfold Bt; decide +kernel⟩ q1
  have : (owedAt ss S).length ≤ 12 := by unfold owedAt; rw [List.length_map]; exact hl
  exact ⟨fold_low _ fun q hq => (q1 q hq).1, o.mono (by omega) (by omega)⟩
section
variable {ss : List Seat} {zs : List Str} {O S : List Nat} {ns : List Int} {W : Int}
theorem vr_ok (hW : 1 ≤ W) (ok : ∀ s ∈ ss, Okq 190 90 s.2) (bW : Bt 1500 W) (hn : ∀ n ∈ ns, 1 ≤ n ∧ n ≤ W) (hO : O.Nodup) (hOn : ∀ i ∈ O, i < ss.length) (hS : S.Nodup) (hSn : ∀ i ∈ S, i < ss.length) (l12 : ss.length ≤ 12) (hnl : ns.length ≤ O.length) (o2 : 2 ≤ O.length) : ∀ r ∈ vrsOf ss O S ns, Okr2 (ss.length : Nat) (S.length : Nat) r ∧ Bt 1500 r.a ∧ Bt 1500 r.b := fun r hr => by
  obtain ⟨x, hx, rfl⟩ := List.mem_map.mp hr
  have hm := lays_mem hx
  have hOl : O.length ≤ ss.length := by
    have := hO.length_le_of_subset (l₂ := List.range ss.length) fun i hi => List.mem_range.mpr (hOn i hi)
    rw [List.length_range] at this
    exact this
  have hSl : S.length ≤ ss.length := by
    have := hS.length_le_of_subset (l₂ := List.range ss.length) fun i hi => List.mem_range.mpr (hSn i hi)
    rw [List.length_range] at this
    exact this
  have l1 := less_len (m := x.1) hS hO
  have l2 := oth_le (m := x.1) hS hO hSn hOn
  have xW : x.2 ≤ W := by
    rw [hm.2.2.2]
    refine stp_le (fun n h => ?_) (by omega) _
    have := hn n ((down_perm ns).mem_iff.mp h)
    exact ⟨by omega, this.2⟩
  have oc := layer_ok (O := O) (G := S) (m := x.1) (by omega) (by omega) (by omega)
  have ba : Bt 1500 (((idleL O S x.1).length : Nat) : Int) := (Bt.of_lt (n := 10) (by omega) (by omega) : Bt 10 _).mono (by decide)
  have bb : Bt 1500 (((othL O S x.1).length : Nat) : Int) := (Bt.of_lt (n := 10) (by omega) (by omega) : Bt 10 _).mono (by decide)
  refine ⟨⟨by show (0 : Int) ≤ ((idleL O S x.1).length : Nat); omega, by show (((idleL O S x.1).length : Nat) : Int) ≤ _; omega, by show (0 : Int) ≤ ((othL O S x.1).length : Nat); omega, by show (((othL O S x.1).length : Nat) : Int) ≤ _; omega, (show Bt 1500 x.2 from bt_le bW (by omega) xW), ?_, ?_, ?_, oc⟩, ba, bb⟩
  · exact owed_okv ok (fun i hi => hSn i (List.mem_filter.mp hi).1) (by unfold lessS; omega)
  · refine owed_okv ok (fun i hi => ?_) (by rw [List.length_append]; omega)
    rcases List.mem_append.mp hi with h | h
    · exact hSn i h
    · exact hOn i (List.mem_of_mem_take (oth_in h).1)
  · show Lowest (layerC _ _).1 (layerC _ _).2
    rw [layer_eq (by rw [List.length_map]; omega)]
    exact lo_lowest (by rw [List.length_map]; omega)
end
end WS
set_option Elab.async false
set_option linter.all false
set_option maxRecDepth 100000
set_option maxHeartbeats 4000000
namespace WS
open PySem PySem.Spec PyProof.Rows L2
theorem rv_owed {ss : List Seat} {S : List Nat} (hp : ∀ s ∈ ss, 0 < s.2.2) (hS : ∀ i ∈ S, i < ss.length) : rv ((owedAt ss S).foldl pl (0, 1)) = sumF (owF ss) S ∧ 0 < ((owedAt ss S).foldl pl (0, 1)).2 := by
  have q1 : ∀ q ∈ owedAt ss S, 0 < q.2 := fun q hq => by
    obtain ⟨i, hi, rfl⟩ := List.mem_map.mp hq
    exact hp _ (gs_mem (hS i hi))
  exact ⟨by rw [rv_fold _ _ (by decide) q1, rv_nought, Rat.zero_add, sumF_owed], fold_pos _ _ (by decide) q1⟩
section
variable {ss : List Seat} {zs : List Str} {O S : List Nat} {ns : List Int} {W : Int}
theorem more_in (hSn : ∀ i ∈ S, i < ss.length) (hOn : ∀ i ∈ O, i < ss.length) {m : Nat} : ∀ i ∈ S ++ othL O S m, i < ss.length := fun i hi => by
  rcases List.mem_append.mp hi with h | h
  · exact hSn i h
  · exact hOn i (List.mem_of_mem_take (oth_in h).1)
theorem vch_holds (hW : 1 ≤ W) (g : Good W ss) (hp : ∀ s ∈ ss, 0 < s.2.2) (hn : ∀ n ∈ ns, 1 ≤ n ∧ n ≤ W) (hO : O.Nodup) (hOn : ∀ i ∈ O, i < ss.length) (hs : O.Pairwise fun i j => owF ss j ≤ owF ss i) (hS : S.Nodup) (hSn : ∀ i ∈ S, i < ss.length) (hnl : ns.length ≤ O.length) (o2 : 2 ≤ O.length) :
    holdB W (ss.length : Nat) (S.length : Nat) ((owedAt ss S).foldl pl (0, 1)) (vrsOf ss O S ns) = true := by
  have rS := rv_owed hp hSn
  have dnn : ∀ n ∈ down ns, 0 ≤ n := fun n h => by have := hn n ((down_perm ns).mem_iff.mp h); omega
  unfold holdB
  rw [Bool.and_eq_true, Bool.and_eq_true]
  refine ⟨?_, ?_, ?_⟩
  · unfold headB
    rw [Bool.not_eq_true', ltp_no (mo_low _ _ _).1 rS.2, rv_mo, rS.1]
    exact g.w S hS hSn
  · rw [List.all_eq_true]
    intro r hr
    obtain ⟨x, hx, rfl⟩ := List.mem_map.mp hr
    have hm := lays_mem hx
    have hmO : x.1 ≤ O.length := by omega
    have l1 := less_len (m := x.1) hS hO
    have rL := rv_owed (S := lessS O S x.1) hp (fun i hi => hSn i (List.mem_filter.mp hi).1)
    have rM := rv_owed (S := S ++ othL O S x.1) hp (more_in hSn hOn)
    have w1 := g.w (lessS O S x.1) (hS.filter _) (fun i hi => hSn i (List.mem_filter.mp hi).1)
    have w2 := g.w (S ++ othL O S x.1) (more_nodup hS hO) (more_in hSn hOn)
    have oc := order_cross (m := x.1) (S := S) hs
    have lh := lay_half (S := S) hmO o2
    have sl : sumF (owF ss) (lessS O S x.1) = sumF (owF ss) S - sumF (owF ss) (idleL O S x.1) := less_sum _ hS hO
    have sm : sumF (owF ss) (S ++ othL O S x.1) = sumF (owF ss) S + sumF (owF ss) (othL O S x.1) := sumF_app _ _ _
    have hL : 0 < (O.map fun k => decide (k ∈ S)).length := by rw [List.length_map]; omega
    have hL2 : (0 : Int) < (((O.map fun k => decide (k ∈ S)).length : Nat) : Int) := by omega
    unfold rowB
    simp only [Bool.and_eq_true, decide_eq_true_iff, Bool.not_eq_true']
    show (1 : Int) ≤ x.2 ∧ ltp (mo W (ss.length : Nat) ((S.length : Nat) - ((idleL O S x.1).length : Nat))) ((owedAt ss (lessS O S x.1)).foldl pl (0, 1)) = false ∧ ltp (mo W (ss.length : Nat) ((S.length : Nat) + ((othL O S x.1).length : Nat))) ((owedAt ss (S ++ othL O S x.1)).foldl pl (0, 1)) = false ∧ ltp (tm (mi ((owedAt ss (S ++ othL O S x.1)).foldl pl (0, 1)) ((owedAt ss S).foldl pl (0, 1))) ((idleL O S x.1).length : Nat)) (tm (mi ((owedAt ss S).foldl pl (0, 1)) ((owedAt ss (lessS O S x.1)).foldl pl (0, 1))) ((othL O S x.1).length : Nat)) = false ∧ ltp (lo (((idleL O S x.1).length : Nat) * ((othL O S x.1).length : Nat)) 2) (layerC (O.map fun k => decide (k ∈ S)) x.1) = false
    refine ⟨by omega, ?_, ?_, ?_, ?_⟩
    · rw [ltp_no (mo_low _ _ _).1 rL.2, rv_mo, rL.1]
      unfold mostR at w1
      have e : ((lessS O S x.1).length : Int) = (S.length : Int) - ((idleL O S x.1).length : Int) := by unfold lessS; omega
      rw [e] at w1
      exact w1
    · rw [ltp_no (mo_low _ _ _).1 rM.2, rv_mo, rM.1]
      unfold mostR at w2
      rw [List.length_append] at w2
      have e : ((S.length + (othL O S x.1).length : Nat) : Int) = (S.length : Int) + ((othL O S x.1).length : Int) := by omega
      rw [e] at w2
      exact w2
    · have p1 : 0 < (mi ((owedAt ss (S ++ othL O S x.1)).foldl pl (0, 1)) ((owedAt ss S).foldl pl (0, 1))).2 := (lo_lowest (Int.mul_pos rM.2 rS.2)).1
      have p2 : 0 < (mi ((owedAt ss S).foldl pl (0, 1)) ((owedAt ss (lessS O S x.1)).foldl pl (0, 1))).2 := (lo_lowest (Int.mul_pos rS.2 rL.2)).1
      rw [ltp_no (p := tm _ _) (q := tm _ _) (lo_lowest p1).1 (lo_lowest p2).1, rv_tm p1, rv_tm p2, rv_mi rM.2 rS.2, rv_mi rS.2 rL.2, rS.1, rL.1, rM.1, sl, sm]
      grind
    · rw [ltp_no (lo_lowest (by decide)).1 (by rw [layer_eq hL]; exact (lo_lowest hL2).1), rv_lo (by decide), layer_eq hL, rv_lo hL2, cast_mul, List.length_map]
      exact lh
  · rw [decide_eq_true_iff]
    have e : (vrsOf ss O S ns).map VR.w = (lays (down ns) ns.length).map Prod.snd := by
      unfold vrsOf
      rw [List.map_map]
      rfl
    have g0 : (down ns).getD ns.length 0 = 0 := by
      rw [List.getD_eq_getElem?_getD, List.getElem?_eq_none (by rw [down_len]; exact Nat.le_refl _)]
      rfl
    have g1 : (down ns).getD 0 0 ≤ W := by
      rw [List.getD_eq_getElem?_getD]
      cases e : (down ns)[0]? with
      | none => show (0 : Int) ≤ W; omega
      | some n => exact (hn n ((down_perm ns).mem_iff.mp (List.mem_of_getElem? e))).2
    rw [e, lays_weigh (down_sorted ns) dnn]
    omega
/-- what is vouched is what they owe behind the evening -/
theorem vsum_after (hp : ∀ s ∈ ss, 0 < s.2.2) (hp2 : ∀ s ∈ behS ss zs (O.map fun k => (gs ss k).1) (down ns), 0 < s.2.2) (hn : ∀ n ∈ ns, 1 ≤ n) (hz : 2 ≤ zs.length) (nd : (names ss).Nodup) (hin : ∀ z ∈ zs, z ∈ names ss) (po : O.Perm (placesOf ss zs)) (hOz : (O.map fun k => (gs ss k).1).Perm zs) (hd : ns.length ≤ zs.length) (hS : S.Nodup) (hSn : ∀ i ∈ S, i < ss.length) :
    vsum ((owedAt ss S).foldl pl (0, 1)) (vrsOf ss O S ns) = (owedAt (behS ss zs (O.map fun k => (gs ss k).1) (down ns)) S).foldl pl (0, 1) := by
  have hO : ∀ i ∈ O, i ∈ placesOf ss zs := fun i hi => po.mem_iff.mp hi
  have ond : O.Nodup := po.nodup_iff.mpr (places_nodup ss zs)
  have ol : O.length = zs.length := by rw [← hOz.length_eq, List.length_map]
  have dl := down_len ns
  have dnn : ∀ n ∈ down ns, 0 ≤ n := fun n h => by have := hn n ((down_perm ns).mem_iff.mp h); omega
  have hL : 0 < (O.map fun k => decide (k ∈ S)).length := by rw [List.length_map]; omega
  have hL2 : (0 : Int) < (((O.map fun k => decide (k ∈ S)).length : Nat) : Int) := by omega
  have rS := rv_owed hp hSn
  have cp : ∀ r ∈ vrsOf ss O S ns, 0 < r.c.2 := fun r hr => by
    obtain ⟨x, _, rfl⟩ := List.mem_map.mp hr
    show 0 < (layerC _ x.1).2
    rw [layer_eq hL]
    exact (lo_lowest hL2).1
  have q2 : ∀ q ∈ owedAt (behS ss zs (O.map fun k => (gs ss k).1) (down ns)) S, 0 < q.2 := fun q hq => by obtain ⟨i, hi, rfl⟩ := List.mem_map.mp hq; exact hp2 _ (gs_mem (by rw [behS_len]; exact hSn i hi))
  have q1 : ∀ q ∈ owedAt ss S, 0 < q.2 := fun q hq => by obtain ⟨i, hi, rfl⟩ := List.mem_map.mp hq; exact hp _ (gs_mem (hSn i hi))
  have low : Lowest (vsum ((owedAt ss S).foldl pl (0, 1)) (vrsOf ss O S ns)).1 (vsum ((owedAt ss S).foldl pl (0, 1)) (vrsOf ss O S ns)).2 := by
    rcases List.eq_nil_or_concat (vrsOf ss O S ns) with e | ⟨qs, r, e⟩
    · rw [e]
      exact fold_low _ q1
    · rw [e, List.concat_eq_append] at cp ⊢
      unfold vsum
      rw [List.foldl_append]
      have h1 := vsum_pos qs ((owedAt ss S).foldl pl (0, 1)) rS.2 (fun r hr => cp r (List.mem_append_left _ hr))
      exact lo_lowest (Int.mul_pos h1 (lo_lowest (cp r (by simp))).1)
  refine rv_inj low (fold_low _ q2) ?_
  rw [rv_vsum _ _ rS.2 cp, rS.1, rv_fold _ _ (by decide) q2, rv_nought, Rat.zero_add, sumF_owed, owed_behS hp (by omega) nd hin hO ond hOz (by omega) hS hSn]
  have ew : wsum (vrsOf ss O S ns) = ((((lays (down ns) (down ns).length).map fun x => x.2 * layN (O.map fun k => decide (k ∈ S)) x.1).sum : Int) : Rat) / (((O.length : Nat) : Int) : Rat) := by
    unfold wsum vrsOf
    rw [List.map_map, ← sum_divR, dl]
    congr 1
    refine List.map_congr_left fun x _ => ?_
    show rv (layerC (O.map fun k => decide (k ∈ S)) x.1) * (x.2 : Rat) = _
    rw [layer_eq hL, rv_lo hL2, cast_mul, List.length_map]
    grind
  have hne := cast_ne hL2
  rw [List.length_map] at hne
  rw [ew, lays_layN (down_sorted ns) dnn (by omega), cast_sub, cast_mul, cast_mul, ← ol]
  grind
end
/-! promises -/
def spOwedB (K : PySem.W.Frag) : Sp := fun vs H Q _ => ∃ (v : V) (W : Int) (ss : List Seat) (r : Addr) (is : List Nat), vs = [v, .ref r] ∧ Dp K H v (momD W ss) ∧ (SqL K H r (is.map fun j : Nat => V.int j) ∨ SqT K H r (is.map fun j : Nat => V.int j)) ∧ (∀ i ∈ is, i < ss.length) ∧ is.length ≤ 100 ∧ ∃ N D : Nat, (∀ s ∈ ss, Ok2 N D s.2) ∧ (is.length + 1) * (D + 1) ≤ 4300 ∧ N + (is.length + 1) * (D + 1) ≤ 390000 ∧ ∀ v H', Same H H' → TupI K H' v ((owedAt ss is).foldl pl (0, 1)).1 ((owedAt ss is).foldl pl (0, 1)).2 → Q v H'
/-- what a voucher is made of -/
structure VIn (K : PySem.W.Frag) (H : Hp) (v : V) (r g : Addr) (W : Int) (ss : List Seat) (zs : List Str) (O S : List Nat) : Prop where
  m : Dp K H v (momD W ss)
  l : ss.length ≤ 12
  nd : (names ss).Nodup
  ok : ∀ s ∈ ss, Okq 190 90 s.2
  z : SqT K H r (zs.map V.str)
  th : There ss zs
  po : O.Perm (placesOf ss zs)
  wo : O.Pairwise (rkS ss)
  g : SqT K H g (S.map fun j : Nat => V.int j)
  sn : S.Nodup
  sl : ∀ i ∈ S, i < ss.length
theorem VIn.k {K : PySem.W.Frag} {H H' : Hp} {v : V} {r g : Addr} {W : Int} {ss : List Seat} {zs : List Str} {O S : List Nat} (h : VIn K H v r g W ss zs O S) (e : KT H H') : VIn K H' v r g W ss zs O S := ⟨h.m.kt e (mom_imm _ _), h.l, h.nd, h.ok, e.sqt h.z, h.th, h.po, h.wo, e.sqt h.g, h.sn, h.sl⟩
def spRowLayer (K : PySem.W.Frag) (TT : List (Addr × Str)) : Sp := fun vs H Q _ => ∃ (v y : V) (r g : Addr) (W : Int) (ss : List Seat) (zs : List Str) (O S : List Nat) (x : Nat × Int), vs = [v, .ref r, y, .ref g] ∧ VIn K H v r g W ss zs O S ∧ Dp K H y (dutD x) ∧ 1 ≤ x.1 ∧ x.1 ≤ zs.length ∧ LamX.Tabs TT H ∧ ∀ u H', LamX.ExtN H H' → LamX.Tabs TT H' → Dp K H' u (vrD (vrOf ss O S x)) → Q u H'
def spVoucherOf (K : PySem.W.Frag) (TT : List (Addr × Str)) : Sp := fun vs H Q _ => ∃ (v : V) (r d g : Addr) (W : Int) (ss : List Seat) (zs : List Str) (O S : List Nat) (ns : List Int), vs = [v, .ref r, .ref d, .ref g] ∧ VIn K H v r g W ss zs O S ∧ SqT K H d (ns.map V.int) ∧ ns.length ≤ zs.length ∧ (∀ n ∈ ns, 1 ≤ n ∧ n ≤ W) ∧ LamX.Tabs TT H ∧ ∀ u H', LamX.ExtN H H' → LamX.Tabs TT H' → Dp K H' u (vchD (ss.length : Nat) (S.length : Nat) ((owedAt ss S).foldl pl (0, 1)) (vrsOf ss O S ns)) → Q u H'
def spDueV (K : PySem.W.Frag) : Sp := fun vs H Q _ => ∃ (v : V) (r o d g : Addr) (W : Int) (ss : List Seat) (zs : List Str) (O S : List Nat) (ns : List Int), vs = [v, .ref o, .ref d, .ref g] ∧ VIn K H v r g W ss zs O S ∧ H o = some (.lst (O.map fun j : Nat => V.int j)) ∧ SqT K H d (ns.map V.int) ∧ ns.length ≤ zs.length ∧ ∀ u H', Same H H' → Dp K H' u (vchD (ss.length : Nat) (S.length : Nat) ((owedAt ss S).foldl pl (0, 1)) (vrsOf ss O S ns)) → Q u H'
def spSetV (K : PySem.W.Frag) (TT : List (Addr × Str)) : Sp := fun vs H Q _ => ∃ (v v2 : V) (r d o g : Addr) (W : Int) (ss : List Seat) (zs : List Str) (O S : List Nat) (ns : List Int), vs = [v, .ref r, .ref d, .ref o, v2, .ref g] ∧ VIn K H v r g W ss zs O S ∧ H o = some (.lst (O.map fun j : Nat => V.int j)) ∧ SqT K H d (ns.map V.int) ∧ ns.length ≤ zs.length ∧ (∀ n ∈ ns, 1 ≤ n ∧ n ≤ W) ∧ 1 ≤ W ∧ Bt 110 W ∧ Good W ss ∧ Dp K H v2 (momD W (behS ss zs (O.map fun k => (gs ss k).1) (down ns))) ∧ LamX.Tabs TT H ∧ ∀ H', LamX.ExtN H H' → LamX.Tabs TT H' → Q (.bl true) H'
end WS
set_option Elab.async false
set_option linter.all false
set_option maxRecDepth 100000
set_option maxHeartbeats 4000000
namespace WS
open PySem PySem.Spec PyProof.Rows L2
/-! ### how far what is owed goes -/
def Bd (n : Nat) (x : Rat) : Prop := -(((2 ^ n : Nat) : Int) : Rat) ≤ x ∧ x ≤ (((2 ^ n : Nat) : Int) : Rat)
theorem rv_bd {n : Nat} {p : Int × Int} (h0 : 0 < p.2) (hb : Bt n p.1) : Bd n (rv p) := by
  have hp := cast_pos h0
  have hn := cast_ne h0
  have h1 : (1 : Rat) ≤ p.2 := by
    have : ((1 : Int) : Rat) ≤ p.2 := cast_le.mpr (by omega)
    exact this
  have hB : (0 : Rat) ≤ (((2 ^ n : Nat) : Int) : Rat) := cast_nn (Int.natCast_nonneg _)
  have h2 := Rat.mul_le_mul_of_nonneg_left h1 hB
  unfold Bt at hb
  have a1 : (p.1 : Rat) ≤ (((2 ^ n : Nat) : Int) : Rat) := cast_le.mpr (by omega)
  have a2 : -(((2 ^ n : Nat) : Int) : Rat) ≤ (p.1 : Rat) := by
    have : ((-((2 ^ n : Nat) : Int) : Int) : Rat) ≤ (p.1 : Rat) := cast_le.mpr (by omega)
    rw [Rat.intCast_neg] at this
    exact this
  have e : rv p * p.2 = p.1 := by
    unfold rv
    grind
  constructor
  · refine Rat.not_lt.mp fun z => ?_
    have := Rat.mul_lt_mul_of_pos_right z hp
    rw [e] at this
    grind
  · refine Rat.not_lt.mp fun z => ?_
    have := Rat.mul_lt_mul_of_pos_right z hp
    rw [e] at this
    grind
theorem sum_bd {n : Nat} : ∀ (l : List Rat), (∀ x ∈ l, Bd n x) → -((((l.length : Nat) : Int) : Rat) * (((2 ^ n : Nat) : Int) : Rat)) ≤ l.sum ∧ l.sum ≤ (((l.length : Nat) : Int) : Rat) * (((2 ^ n : Nat) : Int) : Rat)
  | [], _ => by
    simp only [List.length_nil, List.sum_nil]
    show -((0 : Rat) * _) ≤ 0 ∧ 0 ≤ (0 : Rat) * _
    rw [Rat.zero_mul]
    exact ⟨by grind, Rat.le_refl⟩
  | x :: l, h => by
    obtain ⟨h1, h2⟩ := sum_bd l fun y hy => h y (List.mem_cons_of_mem _ hy)
    obtain ⟨b1, b2⟩ := h x List.mem_cons_self
    rw [List.sum_cons]
    have e : (((x :: l).length : Nat) : Int) = ((l.length : Nat) : Int) + 1 := by simp
    have e1 : ((1 : Int) : Rat) = 1 := rfl
    rw [e, cast_add, e1]
    constructor <;> grind
def spRowY (K : PySem.W.Frag) : Sp := fun vs H Q _ => ∃ (p : Addr) (m : Nat), vs = [.ref p, .int m] ∧ PotAt H p ∧ m ≤ 12 ∧ ∀ H' D rs ps, SameX p H H' → PotAt H' p → H D = none → H' D = some (.lst rs) → Parts K H' rs ps → ps.length = m → (ps.map rv).sum = 0 → (∀ q ∈ ps, Bd 98 (rv q)) → (∀ q ∈ ps, Lowest q.1 q.2 ∧ Okq 190 90 q) → Q (.ref D) H'
def spWeightY (K : PySem.W.Frag) : Sp := fun vs H Q _ => ∃ (l : Addr) (rs : List V) (ps : List (Int × Int)), vs = [.ref l] ∧ SqL K H l rs ∧ Parts K H rs ps ∧ (∀ q ∈ ps, Okq 190 90 q) ∧ ps.length ≤ 12 ∧ (ps.map rv).sum = 0 ∧ (∀ q ∈ ps, Bd 98 (rv q)) ∧ ∀ H' (i : Int), Same H H' → 1 ≤ i → Bt 104 i → WthF i ps.length (fun j => rv (gp ps j)) → Q (.int i) H'
def spMomentY (K : PySem.W.Frag) : Sp := fun vs H Q _ => ∃ (p : Addr) (m : Nat), vs = [.ref p, .int m] ∧ PotAt H p ∧ m ≤ 12 ∧ ∀ v W ss H', Dp K H' v (momD W ss) → ss.length ≤ m → (names ss).Nodup → (∀ s ∈ ss, Okp 190 s.2 ∧ Nm0 s.1) → 1 ≤ W → Bt 110 W → (∀ s ∈ ss, Lowest s.2.1 s.2.2 ∧ Okq 190 90 s.2) → Good W ss → SameX p H H' → PotAt H' p → Q v H'
theorem Bd.add {n : Nat} {x y : Rat} (h : Bd n x) (k : Bd n y) : Bd (n + 1) (x + y) := by
  unfold Bd at *
  have e : (((2 ^ (n + 1) : Nat) : Int) : Rat) = (((2 ^ n : Nat) : Int) : Rat) + (((2 ^ n : Nat) : Int) : Rat) := by
    rw [Nat.pow_succ, show ((2 ^ n * 2 : Nat) : Int) = ((2 ^ n : Nat) : Int) + ((2 ^ n : Nat) : Int) by omega, cast_add]
  rw [e]
  constructor <;> grind
/-- a share of a sum -/
theorem share_bd {n m : Nat} (hm : 0 < m) {x : Rat} (h : -((((m : Nat) : Int) : Rat) * (((2 ^ n : Nat) : Int) : Rat)) ≤ x ∧ x ≤ (((m : Nat) : Int) : Rat) * (((2 ^ n : Nat) : Int) : Rat)) {y : Rat} (e : y * (((m : Nat) : Int) : Rat) = -x) : Bd n y := by
  have hp : (0 : Rat) < (((m : Nat) : Int) : Rat) := cast_pos (by omega)
  constructor
  · refine Rat.not_lt.mp fun z => ?_
    have := Rat.mul_lt_mul_of_pos_right z hp
    grind
  · refine Rat.not_lt.mp fun z => ?_
    have := Rat.mul_lt_mul_of_pos_right z hp
    grind
/-- a weight that is asked is not far -/
theorem weigh_bd {a b by_ : Int} {n : Nat} (hb : 0 < b) (hby : b ≤ by_) (h : (a : Rat) / b ≤ (((2 ^ n : Nat) : Int) : Rat)) : (2 * a + by_ - 1) / by_ ≤ 2 * ((2 ^ n : Nat) : Int) := by
  have h1 : a ≤ ((2 ^ n : Nat) : Int) * b := by
    refine cast_le.mp ?_
    rw [cast_mul]
    refine Rat.not_lt.mp fun z => ?_
    have := (Rat.lt_div_iff (cast_pos hb)).mpr z
    grind
  have h0 : (0 : Int) ≤ ((2 ^ n : Nat) : Int) := Int.natCast_nonneg _
  have h2 : ((2 ^ n : Nat) : Int) * b ≤ ((2 ^ n : Nat) : Int) * by_ := Int.mul_le_mul_of_nonneg_left hby h0
  have hbp : 0 < by_ := by omega
  refine Int.le_of_lt_add_one ?_
  refine Int.ediv_lt_of_lt_mul hbp ?_
  rw [Int.add_mul, Int.mul_assoc, Int.one_mul]
  omega
end WS
set_option Elab.async false
set_option linter.all false
set_option maxRecDepth 100000
set_option maxHeartbeats 4000000
namespace WS
open PySem PySem.Spec PyProof.Rows L2
theorem rv_neg (p : Int × Int) : rv (-p.1, p.2) = -rv p := by
  unfold rv
  show ((-p.1 : Int) : Rat) / p.2 = -((p.1 : Rat) / p.2)
  rw [Rat.intCast_neg, Rat.div_def, Rat.div_def, Rat.neg_mul]
section
variable {ss : List Seat} {O S : List Nat} {m : Nat}
theorem owed_pos (hp : ∀ s ∈ ss, 0 < s.2.2) (hS : ∀ i ∈ S, i < ss.length) : ∀ q ∈ owedAt ss S, 0 < q.2 := fun q hq => by
  obtain ⟨i, hi, rfl⟩ := List.mem_map.mp hq
  exact hp _ (gs_mem (hS i hi))
theorem less_eq (hp : ∀ s ∈ ss, 0 < s.2.2) (hO : O.Nodup) (hOn : ∀ i ∈ O, i < ss.length) (hS : S.Nodup) (hSn : ∀ i ∈ S, i < ss.length) : pl ((owedAt ss S).foldl pl (0, 1)) (-((owedAt ss (idleL O S m)).foldl pl (0, 1)).1, ((owedAt ss (idleL O S m)).foldl pl (0, 1)).2) = (owedAt ss (lessS O S m)).foldl pl (0, 1) := by
  have iI : ∀ i ∈ idleL O S m, i < ss.length := fun i hi => hSn i (idle_in hi).2
  have iL : ∀ i ∈ lessS O S m, i < ss.length := fun i hi => hSn i (List.mem_filter.mp hi).1
  have rS := rv_owed hp hSn
  have rI := rv_owed hp iI
  have rL := rv_owed hp iL
  refine rv_inj (lo_lowest (Int.mul_pos rS.2 rI.2)) (fold_low _ (owed_pos hp iL)) ?_
  have p2 : 0 < (-((owedAt ss (idleL O S m)).foldl pl (0, 1)).1, ((owedAt ss (idleL O S m)).foldl pl (0, 1)).2).2 := rI.2
  rw [rv_pl rS.2 p2, rv_neg, rS.1, rI.1, rL.1]
  have := less_sum (m := m) (owF ss) hS hO
  show _ = sumF (owF ss) (S.filter fun i => !decide (i ∈ idleL O S m))
  rw [this, Rat.sub_eq_add_neg]
theorem more_eq (hp : ∀ s ∈ ss, 0 < s.2.2) (hOn : ∀ i ∈ O, i < ss.length) (hSn : ∀ i ∈ S, i < ss.length) : pl ((owedAt ss S).foldl pl (0, 1)) ((owedAt ss (othL O S m)).foldl pl (0, 1)) = (owedAt ss (S ++ othL O S m)).foldl pl (0, 1) := by
  have iJ : ∀ i ∈ othL O S m, i < ss.length := fun i hi => hOn i (List.mem_of_mem_take (oth_in hi).1)
  have rS := rv_owed hp hSn
  have rJ := rv_owed hp iJ
  have rM := rv_owed hp (more_in (S := S) (O := O) (m := m) hSn hOn)
  refine rv_inj (lo_lowest (Int.mul_pos rS.2 rJ.2)) (fold_low _ (owed_pos hp (more_in hSn hOn))) ?_
  rw [rv_pl rS.2 rJ.2, rS.1, rJ.1, rM.1, sumF_app]
end
def spLayersT (K : PySem.W.Frag) : Sp := fun vs H Q _ => ∃ (d : Addr) (ns : List Int), vs = [.ref d] ∧ SqT K H d (ns.map V.int) ∧ ns.length < 64 ∧ ∀ D ws H', Same H H' → H' D = some (.lst ws) → DpAll K H' ws ((lays (down ns) ns.length).map dutD) → Q (.ref D) H'
def spRowDue (K : PySem.W.Frag) : Sp := fun vs H Q _ => ∃ (St o g : Addr) (m : Nat) (wt : Int) (xs : List V) (ss : List Seat) (O S : List Nat), vs = [.ref St, .ref o, .ref g, .int m, .int wt] ∧ SqT K H St xs ∧ DpAll K H xs (ss.map seatD) ∧ ss.length ≤ 12 ∧ (∀ s ∈ ss, Okq 190 90 s.2) ∧ H o = some (.lst (O.map fun j : Nat => V.int j)) ∧ O.Nodup ∧ (∀ i ∈ O, i < ss.length) ∧ 0 < O.length ∧ SqT K H g (S.map fun j : Nat => V.int j) ∧ S.Nodup ∧ (∀ i ∈ S, i < ss.length) ∧ m ≤ O.length ∧ ∀ u H', Same H H' → Dp K H' u (vrD (vrOf ss O S (m, wt))) → Q u H'
def spSome (K : PySem.W.Frag) : Sp := fun vs H Q _ => ∃ (p : Addr) (m : Nat), vs = [.ref p, .int m] ∧ PotAt H p ∧ m ≤ 12 ∧ ∀ (g : Addr) (S : List Nat) H', SqT K H' g (S.map fun j : Nat => V.int j) → S.Nodup → (∀ k ∈ S, k < m) → SameX p H H' → PotAt H' p → Q (.ref g) H'
def spOneV (K : PySem.W.Frag) (TT : List (Addr × Str)) : Sp := fun vs H Q _ => ∃ (v : V) (r d g o : Addr) (W : Int) (ss : List Seat) (zs : List Str) (O S : List Nat) (ns : List Int), vs = [v, .ref r, .ref d, .ref g, .ref o] ∧ VIn K H v r g W ss zs O S ∧ H o = some (.lst (O.map fun j : Nat => V.int j)) ∧ SqT K H d (ns.map V.int) ∧ ns.length ≤ zs.length ∧ (∀ n ∈ ns, 1 ≤ n ∧ n ≤ W) ∧ 1 ≤ W ∧ Bt 110 W ∧ Good W ss ∧ LamX.Tabs TT H ∧ ∀ H', LamX.ExtN H H' → LamX.Tabs TT H' → Q (.bl true) H'
end WS
set_option Elab.async false
set_option linter.all false
set_option maxRecDepth 100000
set_option maxHeartbeats 4000000
namespace WS
open PySem PySem.Spec PyProof.Rows L2
theorem vch_sh10 {n k : Int} {s : Int × Int} {rs : List VR} (hn : Bt 1500 n) (hk : Bt 1500 k) (os : Okv2 s) (hl : rs.length ≤ 12) (ok : ∀ r ∈ rs, Okr2 n k r ∧ Bt 1500 r.a ∧ Bt 1500 r.b) : Sh 1000000 10 (vchD n k s rs) := by
  have p1 : ∀ p : Int × Int, Okv2 p → Sh 2610 2 (pdP p) := fun p h => (Sh.pd (m := 1300) (by decide) (by decide) h.2.2.1 (h.2.2.2.mono (by decide))).mono (by decide) (by decide)
  have i1 : ∀ i : Int, Bt 1500 i → Sh 1501 1 (.int i) := fun i h => Sh.int (by decide) (by decide) h
  refine (Sh.tup (n := 200000) (k := 6) (m := 4) (ds := [.int n, .int k, pdP s, .tuple (rs.map vrD)]) (fun d hd => ?_) (Nat.le_refl 4)).mono (by omega) (by omega)
  simp only [List.mem_cons, List.not_mem_nil, or_false] at hd
  rcases hd with rfl | rfl | rfl | rfl
  · exact (i1 _ hn).mono (by omega) (by omega)
  · exact (i1 _ hk).mono (by omega) (by omega)
  · exact (p1 _ os).mono (by omega) (by omega)
  · refine (Sh.tup (n := 16000) (k := 4) (m := 12) (fun d hd => ?_) (by rw [List.length_map]; exact hl)).mono (by omega) (by omega)
    obtain ⟨r, hr, rfl⟩ := List.mem_map.mp hd
    obtain ⟨⟨_, _, _, _, bw, ol, om, _, oc⟩, ba, bb⟩ := ok r hr
    refine (Sh.tup (n := 2612) (k := 2) (m := 6) (ds := [.int r.w, .int r.a, .int r.b, pdP r.l, pdP r.m, pdP r.c]) (fun d hd => ?_) (Nat.le_refl 6)).mono (by omega) (by omega)
    simp only [List.mem_cons, List.not_mem_nil, or_false] at hd
    rcases hd with rfl | rfl | rfl | rfl | rfl | rfl
    · exact (i1 _ bw).mono (by omega) (by omega)
    · exact (i1 _ ba).mono (by omega) (by omega)
    · exact (i1 _ bb).mono (by omega) (by omega)
    · exact (p1 _ ol).mono (by omega) (by omega)
    · exact (p1 _ om).mono (by omega) (by omega)
    · exact (Sh.pd (m := 40) (by decide) (by decide) (oc.2.1.mono (by decide)) (oc.2.2.mono (by decide))).mono (by omega) (by omega)
theorem two_sh {d : PyData} (h : Sh 1000000 10 d) : (PyData.list [d, d]).showable = true ∧ (PyData.list [d, d]).hasDict = false ∧ (PyData.list [d, d]).depth ≤ 60 ∧ (PyData.list [d, d]).shown.length ≤ sizeLine := by
  have : Sh (2 * (1000000 + 2) + 2) (10 + 1) (PyData.list [d, d]) := Sh.lst (fun x hx => by
    simp only [List.mem_cons, List.not_mem_nil, or_false, or_self] at hx
    subst hx
    exact h) (Nat.le_refl 2)
  exact ⟨this.1, this.2.1, Nat.le_trans this.2.2.1 (by decide), Nat.le_trans this.2.2.2 (by rw [sizeLine_eq]; decide)⟩
end WS
set_option Elab.async false
set_option linter.all false
set_option maxRecDepth 100000
set_option maxHeartbeats 4000000
namespace WS
open PySem PySem.Spec PyProof.Rows L2
/-! ### the order, by places -/
theorem gs_idx {ss : List Seat} {z : Str} (h : z ∈ names ss) : (gs ss (idx ss z)).1 = z := by
  obtain ⟨_, s, hs, rfl⟩ := names_mem.mp h
  have hl := List.idxOf_lt_length_of_mem (List.mem_map_of_mem (f := Prod.fst) hs)
  have e : ((ss.map Prod.fst)[idx ss s.1]?) = some s.1 := by
    unfold idx
    rw [List.getElem?_eq_getElem hl, List.getElem_idxOf]
  rw [List.getElem?_map, at_gs (idx_lt h)] at e
  exact Option.some.inj e
theorem order_O {ss : List Seat} {zs os : List Str} (hin : ∀ z ∈ zs, z ∈ names ss) (hz : zs.Nodup) (nd : (names ss).Nodup) (h : OrderOf ss zs os) : (os.map (idx ss)).Perm (placesOf ss zs) ∧ (os.map (idx ss)).Pairwise (rkS ss) ∧ ((os.map (idx ss)).map fun k => (gs ss k).1) = os := by
  have oin : ∀ z ∈ os, z ∈ names ss := fun z hz => hin z (h.1.mem_iff.mp hz)
  have ond : os.Nodup := h.1.nodup_iff.mpr hz
  refine ⟨?_, ?_, ?_⟩
  · refine (List.perm_ext_iff_of_nodup (idxs_nodup ond oin) (places_nodup ss zs)).mpr fun i => ?_
    rw [List.mem_map]
    constructor
    · rintro ⟨z, hz, rfl⟩
      unfold placesOf
      rw [List.mem_filter, List.mem_range]
      exact ⟨idx_lt (oin z hz), by rw [gs_idx (oin z hz)]; exact decide_eq_true (h.1.mem_iff.mp hz)⟩
    · intro hi
      exact ⟨(gs ss i).1, h.1.mem_iff.mpr (places_lt hi).2, idx_name nd hin hi⟩
  · rw [List.pairwise_map]
    refine h.2.imp fun {a b} hab => ?_
    unfold ahead ltp at hab
    unfold rkS
    rcases hab with h1 | ⟨h1, h2, h3⟩
    · exact .inl (of_decide_eq_true h1)
    · have h1 := of_decide_eq_false h1
      have h2 := of_decide_eq_false h2
      exact .inr ⟨by omega, h3⟩
  · rw [List.map_map]
    conv => rhs; rw [← List.map_id os]
    exact List.map_congr_left fun z hz => gs_idx (oin z hz)
section
variable {O S : List Nat} {m n : Nat} {f : Nat → Rat} {W : Rat}
/-- where some rest and others serve, these owe so much less than the most -/
theorem step_room (wf : WthF W n f) (hO : O.Nodup) (hOn : ∀ i ∈ O, i < n) (hs : O.Pairwise fun i j => f j ≤ f i) (hS : S.Nodup) (hSn : ∀ i ∈ S, i < n) (ha : 0 < (idleL O S m).length) :
    sumF f S ≤ mostR W n S.length - W * ((((idleL O S m).length : Nat) : Int) : Rat) * ((((othL O S m).length : Nat) : Int) : Rat) / 2 := by
  have l1 := less_len (m := m) hS hO
  have w1 := wf _ (hS.filter fun i => !decide (i ∈ idleL O S m)) fun i hi => hSn i (List.mem_filter.mp hi).1
  have w2 := wf _ (more_nodup (m := m) hS hO) fun i hi => by
    rcases List.mem_append.mp hi with h | h
    · exact hSn i h
    · exact hOn i (List.mem_of_mem_take (oth_in h).1)
  rw [less_sum f hS hO] at w1
  rw [sumF_app, List.length_append] at w2
  have oc := order_cross (m := m) (S := S) hs
  have e1 : (((S.filter fun i => !decide (i ∈ idleL O S m)).length : Nat) : Int) = ((S.length : Nat) : Int) - ((idleL O S m).length : Nat) := by omega
  have e2 : ((S.length + (othL O S m).length : Nat) : Int) = ((S.length : Nat) : Int) + ((othL O S m).length : Nat) := by omega
  unfold mostR at w1 w2 ⊢
  rw [e1, cast_sub] at w1
  rw [e2, cast_add] at w2
  have ha' : (0 : Rat) < ((((idleL O S m).length : Nat) : Int) : Rat) := cast_pos (by omega)
  have hb : (0 : Rat) ≤ ((((othL O S m).length : Nat) : Int) : Rat) := cast_nn (by omega)
  generalize ((((idleL O S m).length : Nat) : Int) : Rat) = a at *
  generalize ((((othL O S m).length : Nat) : Int) : Rat) = b at *
  generalize (((S.length : Nat) : Int) : Rat) = k at *
  generalize (((n : Nat) : Int) : Rat) = N at *
  generalize sumF f S = s at *
  generalize sumF f (idleL O S m) = x at *
  generalize sumF f (othL O S m) = y at *
  have h1 := Rat.mul_le_mul_of_nonneg_left w1 hb
  have h2 := Rat.mul_le_mul_of_nonneg_left w2 (Rat.le_of_lt ha')
  have hab : 0 < a + b := by grind
  have h3 : (a + b) * s ≤ (a + b) * (W * k * (N - k) / 2 - W * a * b / 2) := by grind
  exact Rat.le_of_mul_le_mul_left h3 hab
end
theorem lay_part {O S : List Nat} {m : Nat} (hm : m ≤ O.length) (h2 : 0 < O.length) : layN (O.map fun k => decide (k ∈ S)) m * (((idleL O S m).length : Nat) + ((othL O S m).length : Nat) + (((O.take m).filter fun i => decide (i ∈ S)).length : Nat) : Int) ≤ ((idleL O S m).length : Nat) * ((othL O S m).length : Nat) * (O.length : Nat) := by
  have hi := idle_le (S := S) hm
  have qo := q_oth (S := S) hm
  have h := lay_le (a := ((idleL O S m).length : Nat)) (b := ((othL O S m).length : Nat)) (q := (((O.take m).filter fun i => decide (i ∈ S)).length : Nat)) (c := (O.length : Int) - m - ((idleL O S m).length : Nat)) (k := ((idleL O S m).length : Nat) + ((othL O S m).length : Nat) + (((O.take m).filter fun i => decide (i ∈ S)).length : Nat)) (L := (O.length : Nat)) (by omega) (by omega) (by omega) (by omega) (by omega) (by omega)
  rw [← layN_io hm] at h
  exact h
theorem lay_none {O S : List Nat} {m : Nat} (hm : m ≤ O.length) (h : (idleL O S m).length = 0 ∨ (othL O S m).length = 0) : layN (O.map fun k => decide (k ∈ S)) m ≤ 0 := by
  have hi := idle_le (S := S) hm
  rw [layN_io hm]
  have e : (((idleL O S m).length : Nat) : Int) * ((othL O S m).length : Nat) = 0 := by
    rcases h with h | h <;> rw [h] <;> simp
  have n0 : (0 : Int) ≤ (((O.take m).filter fun i => decide (i ∈ S)).length : Nat) * ((O.length : Int) - m - ((idleL O S m).length : Nat)) := Int.mul_nonneg (by omega) (by omega)
  omega
/-! a dict of persons and their seats -/
def kvsOf (ss : List Seat) (j : Nat) : List (Key × V) := (List.range j).map fun k => ((.inr (gs ss k).1 : Key), V.int (k : Nat))
theorem kvs_val {ss : List Seat} (nd : (names ss).Nodup) : ∀ j, j ≤ ss.length → ∀ i, i < j → (gs ss i).1 ≠ "" → valV (mergeK [] (kvsOf ss j)) (.inr (gs ss i).1) = some (.int (i : Nat))
  | 0, _, i, hi, _ => by omega
  | j + 1, hj, i, hi, hn => by
    have e : mergeK [] (kvsOf ss (j + 1)) = putK (mergeK [] (kvsOf ss j)) (.inr (gs ss j).1) (.int (j : Nat)) := by
      unfold mergeK kvsOf
      rw [List.range_succ, List.map_append, List.foldl_append]
      rfl
    rw [e, valV_put]
    by_cases hij : i = j
    · subst hij
      simp
    · have ne : ¬ (Sum.inr (gs ss i).1 : Key) = .inr (gs ss j).1 := fun z => by
        have z := Sum.inr.inj z
        have h1 := idx_gs nd (show i < ss.length by omega) hn
        have h2 := idx_gs nd (show j < ss.length by omega) (by rw [← z]; exact hn)
        rw [z] at h1
        omega
      rw [if_neg ne]
      exact kvs_val nd j (by omega) i (by omega) hn
def spAllR (K : PySem.W.Frag) (TT : List (Addr × Str)) : Sp := fun vs H Q _ => ∃ (v : V) (r : Addr) (m : Nat) (W : Int) (ss : List Seat) (zs : List Str), vs = [v, .ref r, .int m] ∧ Dp K H v (momD W ss) ∧ ss.length ≤ 12 ∧ (names ss).Nodup ∧ (∀ s ∈ ss, Okq 190 90 s.2) ∧ SqT K H r (zs.map V.str) ∧ There ss zs ∧ 1 ≤ m ∧ m ≤ zs.length ∧ 1 ≤ W ∧ Bt 110 W ∧ Good W ss ∧ LamX.Tabs TT H ∧ ∀ H', LamX.ExtN H H' → LamX.Tabs TT H' → Q (.bl true) H'
def spSetS (K : PySem.W.Frag) : Sp := fun vs H Q _ => ∃ (v cv : V) (o sm : Addr) (m : Nat) (W : Int) (ss : List Seat) (O S : List Nat), vs = [v, .ref o, .int m, .ref sm, cv] ∧ Dp K H v (momD W ss) ∧ ss.length ≤ 12 ∧ (∀ s ∈ ss, Okq 190 90 s.2) ∧ H o = some (.lst (O.map fun j : Nat => V.int j)) ∧ O.Nodup ∧ (∀ i ∈ O, i < ss.length) ∧ 2 ≤ O.length ∧ O.Pairwise (rkS ss) ∧ H sm = some (.lst (S.map fun j : Nat => V.int j)) ∧ S.Nodup ∧ (∀ i ∈ S, i < ss.length) ∧ m ≤ O.length ∧ 1 ≤ W ∧ Bt 110 W ∧ Good W ss ∧ TupI K H cv (layerC (O.map fun k => decide (k ∈ S)) m).1 (layerC (O.map fun k => decide (k ∈ S)) m).2 ∧ ∀ H', Same H H' → Q (.bl true) H'
theorem part_no {L k x ab : Rat} (hk : 0 < k) (hL : 0 < L) (h : x * k ≤ ab * L) : x / L ≤ ab / k := by
  refine Rat.not_lt.mp fun z => ?_
  rw [Rat.lt_div_iff hL] at z
  have z2 := Rat.mul_lt_mul_of_pos_right z hk
  have hkn : k ≠ 0 := fun e => by rw [e] at hk; exact Rat.lt_irrefl hk
  have e : ab / k * L * k = ab * L := by grind
  rw [e] at z2
  exact absurd h (Rat.not_le.mpr z2)
end WS
set_option Elab.async false
set_option linter.all false
set_option maxRecDepth 100000
set_option maxHeartbeats 4000000
namespace WS
open PySem PySem.Spec PyProof.Rows L2
/-! ### sum(tuple of numbers) -/
section
variable {X : Cx}
theorem cr_sumT (hc : X.calm = true) : CallR X (.builtin "sum") (fun vs H Q => ∃ (a : Addr) (ns : List Int), vs = [V.ref a] ∧ SqT X.K H a (ns.map V.int) ∧ Q (.int ns.sum) H) := by
  intro pins s σ H vs us Q I r h
  obtain ⟨a, ns, rfl, hs, q⟩ := h
  obtain ⟨its, rv, hl, _⟩ := I.tuple hs
  rw [Vals.ref1 r]
  have hi := rv.ints
  obtain ⟨xs, e⟩ := hi.allInts.items
  have hn : numsOf (intItems xs).toList = ns := by rw [← e]; exact hi.numsOf
  rw [nums_intItems] at hn
  rw [e] at hl
  have hlt : a < s.heap.objs.size := hl.lt
  have ht : s.heap.IsTuple a (intItems xs) := hl
  refine call_sum_walkG (wpAny_pyIter_tuple ht ?_)
  refine ⟨_, _, _, _, _, _, numAt xs, rfl, Walks.tuple (A := X.A.in1) (I.ok.hd hc) _ a (Nat.ne_of_lt hlt) (intItems xs), ⟨⟨_, Heap.get?_push_size _ rfl, rfl, rfl⟩, ht.push _⟩, fun b hb => ?_, (fun _ _ => intItems_at), fun h' tk t' hk => ?_⟩
  · show b < (s.heap.push _).objs.size
    rw [Heap.size_push]
    rcases List.mem_cons.mp hb with rfl | hb
    · exact Nat.lt_succ_self _
    · rcases List.mem_cons.mp hb with rfl | hb
      · exact Nat.lt_succ_of_lt hlt
      · cases hb
  · refine ⟨.int ns.sum, H, I.kept fun b o e => hk b o (fun hm => Nat.ne_of_lt (Heap.lt_size e) (List.mem_singleton.mp hm)) (Heap.get?_push_of_some _ e), ⟨t', ?_⟩, q⟩
    rw [preSum_eq, List.take_of_length_le (by simp [intItems]), hn]
end
/-! ### tuple(zip(a, b)), and what it is made of -/
def Froz (H : Hp) (a : Addr) (xs : List V) : Prop := ∃ o : Obj, H a = some (.frz o (.tup xs)) ∧ o.dict = none
theorem Froz.sqt {K : PySem.W.Frag} {H : Hp} {a : Addr} {xs : List V} (h : Froz H a xs) : SqT K H a xs := by
  obtain ⟨o, e, _⟩ := h
  exact .inl (.inr ⟨o, e⟩)
def tTupF (K : PySem.W.Frag) (ta : TA) : TE := fun σ H Q => ta σ H fun vs H1 => ∃ b1 b2 a1 a2 xs ys, vs = [.ref a1, .ref a2] ∧ SqB K b1 H1 a1 xs ∧ SqB K b2 H1 a2 ys ∧ min xs.length ys.length ≤ sizeLine ∧
  ∀ p ts H', Same H1 H' → H1 p = none → (∀ t ∈ ts, H1 t = none) → Froz H' p (ts.map V.ref) → PairsAt H' ts (xs.zip ys) → Q (.ref p) H'
section
variable {X : Cx} {e e2 : Expr} {ta : TA} {p p2 cpos pos : Pos}
theorem pe_tupZF (hc : X.calm = true) (hg : Gl X "tuple") (hm : X.mg "tuple" = none) (hv : bootBuiltins "tuple" = some (.type "tuple")) (hg2 : Gl X "zip") (hm2 : X.mg "zip" = none) (ha : PA X [e, e2] ta)
    (hs : starEach [.Call (.Name "zip" p2) [e, e2] [] cpos] X.env = (false, eval (.Call (.Name "zip" p2) [e, e2] [] cpos) X.env) :: starEach [] X.env := by rfl)
    (hs2 : starEach [e, e2] X.env = (false, eval e X.env) :: starEach [e2] X.env := by rfl) (hp2 : (backTo cpos (starEach [e2] X.env)).any (·.1) = false := by rfl) :
    PE X (.Call (.Name "tuple" p) [.Call (.Name "zip" p2) [e, e2] [] cpos] [] pos) (tTupF X.K ta) := by
  refine ⟨fun pins s σ H Q I hq => ?_⟩
  refine wpAny_Call_Name_kw (ld_blt I hg hm hv ?_)
  refine PyProof.Rows.callWith_type1 ?_ hs rfl
  rw [hs]
  show wpAny _ _ (spliced ((false, eval (.Call (.Name "zip" p2) [e, e2] [] cpos) X.env) :: backTo pos (starEach [] X.env))) _ _ s
  refine Calls.spliced_cons ?_
  refine Call_ (ld_blt I hg2 hm2 PyProof.Rows.boot_zip (PyProof.Rows.callWith_type1 (thn (ha.run cpos pins s σ H _ I hq) fun us s1 ⟨vs, H1, I1, r1, q1⟩ => ?_) hs2 hp2))
  obtain ⟨b1, b2, a1, a2, xs, ys, rfl, hq1, hq2, hz, q⟩ := q1
  obtain _ | ⟨r, _ | ⟨r', rr⟩⟩ := r1
  cases rr
  cases r
  cases r'
  obtain ⟨t1, v1, B1⟩ := sqb_get I1 hq1
  obtain ⟨t2, v2, B2⟩ := sqb_get I1 hq2
  have l1 := isb_lt B1
  have l2 := isb_lt B2
  refine zip_begins2 (itb_begins b1 a1 t1.toArray) (itb_begins b2 a2 t2.toArray) B1 B2 fun h1 hz1 hTI hTO g1 g2 hsz hk => ?_
  refine Calls.spliced_nil ?_
  have Z := zip_sep2 (N := s1.heap.objs.size) (fp1 := [a1]) (fp2 := [a2]) (fun c hc => by rw [List.mem_singleton.mp hc]; exact l1) (fun c hc => by rw [List.mem_singleton.mp hc]; exact l2)
  have n1 : a1 ≠ s1.heap.objs.size := Nat.ne_of_lt l1
  have n2 : a2 ≠ s1.heap.objs.size + 1 := Nat.ne_of_lt (Nat.lt_succ_of_lt l2)
  have D1 := itb_draws (b := b1) (prog := X.prog) (w := X.w) (A := X.A.in1.in1.in1.in1) (I1.ok.hd hc) _ a1 n1 t1.toArray
  have D2 := itb_draws (b := b2) (prog := X.prog) (w := X.w) (A := X.A.in1.in1.in1.in1) (I1.ok.hd hc) _ a2 n2 t2.toArray
  have hmin : min t1.toArray.size t2.toArray.size ≤ sizeLine := by rw [val_size v1, val_size v2]; exact hz
  have two : ∀ {c b a : Addr}, c ∈ [b, a] → c = b ∨ c = a := fun h => by simpa using h
  refine zl_tuple (s := { s1 with heap := h1 }) (A := X.A) Z D1 D2 (fun b hb => ?_) (fun b hb => ?_) hmin hz1 hTI ⟨_, _, hTO⟩ ⟨itb_start g1, isb_keep B1 fun o e => hk _ _ e⟩ ⟨itb_start g2, isb_keep B2 fun o e => hk _ _ e⟩ fun h' tk as hk' hl hG => ?_
  · show b < h1.objs.size
    rw [hsz]
    rcases two hb with rfl | rfl
    · show s1.heap.objs.size < s1.heap.objs.size + 5; omega
    · exact Nat.lt_of_lt_of_le l1 (Nat.le_add_right _ 5)
  · show b < h1.objs.size
    rw [hsz]
    rcases two hb with rfl | rfl
    · show s1.heap.objs.size + 1 < s1.heap.objs.size + 5; omega
    · exact Nat.lt_of_lt_of_le l2 (Nat.le_add_right _ 5)
  · have up : ∀ b o, s1.heap.get? b = some o → h'.get? b = some o := fun b o eb => by
      have := zip_low (Heap.lt_size eb)
      exact hk' b o this.1 this.2.1 this.2.2.1 this.2.2.2 (hk b o eb)
    have hle : s1.heap.objs.size ≤ h1.objs.size := by rw [hsz]; exact Nat.le_add_right _ 5
    have hle' : s1.heap.objs.size ≤ h'.objs.size := by
      apply Decidable.byContradiction
      intro hlt
      have : h'.objs.size < s1.heap.objs.size := by omega
      obtain ⟨o, eo⟩ : ∃ o, h1.get? s1.heap.objs.size = some o := ⟨_, g1⟩
      have nz := zip_mid s1.heap.objs.size
      have e9 := hk' (s1.heap.objs.size + 2) _ nz.1 nz.2.1 nz.2.2.1 nz.2.2.2 hTI
      have h8 : s1.heap.objs.size + 2 < h'.objs.size := Heap.lt_size e9
      omega
    have hG' : ZlG (fun i v => t1.toArray[i]? = some v) (fun i v => t2.toArray[i]? = some v) h1.objs.size (h'.push { cls := .type "tuple", data := .seq (as.map Value.ref).toArray }) as := ⟨hG.rise, hG.above, fun j a hj => let ⟨x, y, p1, p2, e⟩ := hG.pairs j a hj; ⟨x, y, p1, p2, Heap.get?_push_of_some _ e⟩⟩
    obtain ⟨H', k1, k2, k3, k4, k5, k6, J⟩ := pairs_laid (tk := tk) (ob := .frz { cls := .type "tuple", data := .seq (as.map Value.ref).toArray } (.tup (as.map V.ref))) I1 v1 v2 (fun b o e => Heap.get?_push_of_some _ (up b o e)) hle hl hG' hle' (fun m => Nat.lt_irrefl _ (hG.there m)) (fun H' => ⟨Heap.get?_push_size _ rfl, by rw [List.length_map]; show as.length ≤ sizeLine; rw [hl]; exact hmin, as.map Value.ref, vals_refs' as, ⟨_, Heap.get?_push_size _ rfl, rfl, _, rfl⟩⟩)
    exact ⟨.ref _, H', J, rfl, q _ as H' k1 k2 k3 ⟨_, k4, rfl⟩ ⟨k5, k6⟩⟩
end
section
variable {X : Cx}
/-- dict(t) of a tuple of pairs -/
theorem call_dictPT (hcalm : X.calm = true) : CallR X (.type "dict") (fun xs H Q => ∃ (a : Addr) (ps : List Addr) (kvs : List (Key × V)), xs = [.ref a] ∧ Froz H a (ps.map V.ref) ∧ Paired (fun p kv => SqT X.K H p [kV kv.1, kv.2]) ps kvs ∧
    ∀ p, H p = none → Q (.ref p) (upd H p (.dK (mergeK [] kvs)))) := by
  intro pins s σ H xs us Q I r q
  obtain ⟨a, ps, kvs, ex, hq, hp, q⟩ := q
  subst ex
  obtain ⟨u, eu, rx⟩ := vals1 r
  subst eu
  cases rx
  obtain ⟨its, rv, hl, hz⟩ := I.tuple (hq.sqt (K := X.K))
  have ei := refs_at rv
  subst ei
  rw [List.length_map] at hz
  obtain ⟨o, eo, od⟩ := hq
  obtain ⟨ho, _⟩ := (show ObjOk X.prog X.w H s.heap a (.frz o (.tup (ps.map V.ref))) from I.hok a _ eo)
  obtain ⟨prs, rel, hln, hpr⟩ := pairs_of I hp
  obtain ⟨o', ho', hc', n', hd'⟩ := hl
  rw [ho] at ho'
  cases ho'
  have key : ∀ (j : Nat) (q : Key × Value), prs[j]? = some q → ∃ (b : Addr) (u : Value), ps[j]? = some b ∧ IsTup s.heap b #[u, q.2] ∧ keyIs q.1 u = true := hpr
  -- the keys, as values
  obtain ⟨us, ul, hu⟩ : ∃ us : List (Value × Value), us.length = prs.length ∧ ∀ (j : Nat) (q : Key × Value), prs[j]? = some q → ∃ (b : Addr) (u : Value), ps[j]? = some b ∧ us[j]? = some (u, q.2) ∧ IsTup s.heap b #[u, q.2] ∧ keyIs q.1 u = true := by
    clear hd' hc' rel rv
    have : ∀ (prs : List (Key × Value)) (ps : List Addr), (∀ (j : Nat) (q : Key × Value), prs[j]? = some q → ∃ (b : Addr) (u : Value), ps[j]? = some b ∧ IsTup s.heap b #[u, q.2] ∧ keyIs q.1 u = true) → ∃ us : List (Value × Value), us.length = prs.length ∧ ∀ (j : Nat) (q : Key × Value), prs[j]? = some q → ∃ (b : Addr) (u : Value), ps[j]? = some b ∧ us[j]? = some (u, q.2) ∧ IsTup s.heap b #[u, q.2] ∧ keyIs q.1 u = true := by
      intro prs
      induction prs with
      | nil => exact fun _ _ => ⟨[], rfl, fun j q e => by simp at e⟩
      | cons q0 r ih =>
        intro ps h
        obtain ⟨b0, u0, e0, t0, k0⟩ := h 0 q0 rfl
        obtain ⟨us, l1, h1⟩ := ih ps.tail (fun j q e => by
          obtain ⟨b, u, e1, e2, e3⟩ := h (j + 1) q (by simpa using e)
          exact ⟨b, u, by rw [List.getElem?_tail]; exact e1, e2, e3⟩)
        refine ⟨(u0, q0.2) :: us, by simp [l1], fun j q e => ?_⟩
        cases j with
        | zero =>
          obtain rfl : q0 = q := by simpa using e
          exact ⟨b0, u0, e0, rfl, t0, k0⟩
        | succ j =>
          obtain ⟨b, u, e1, e2, e3, e4⟩ := h1 j q (by simpa using e)
          exact ⟨b, u, by rw [List.getElem?_tail] at e1; exact e1, by simpa using e2, e3, e4⟩
    exact this prs ps key
  have P := PairArg.tuple (prog := X.prog) (w := X.w) a (ps.map Value.ref).toArray (fun j => ps.getD j 0) us
  have inv : ∀ (j : Nat) (k v : Value), us[j]? = some (k, v) → ∃ q : Key × Value, prs[j]? = some q ∧ q.2 = v ∧ ∃ b, ps[j]? = some b ∧ IsTup s.heap b #[k, v] ∧ keyIs q.1 k = true := fun j k v e => by
    have hj := (List.getElem?_eq_some_iff.mp e).1
    obtain ⟨q, eq⟩ : ∃ q, prs[j]? = some q := ⟨_, List.getElem?_eq_getElem (by omega)⟩
    obtain ⟨b, u, e1, e2, e3, e4⟩ := hu j q eq
    rw [e] at e2
    cases e2
    exact ⟨q, eq, rfl, b, e1, e3, e4⟩
  refine PySem.call_dict_pairs (knd := mixKind X.prog X.w) (kvs := prs) P (I.ok.hd hcalm) ⟨⟨o, n', ho, hc', od, hd'⟩, by simp [ul, hln], fun j k v e => ?_⟩ ⟨ul.symm, fun i k v e => ?_⟩ (by rw [ul, hln]; exact hz) fun h' tk hd' k => ?_
  · obtain ⟨q, eq, e2, b, eb, tb, kb⟩ := inv j k v e
    have eg : ps.getD j 0 = b := by rw [List.getD_eq_getElem?_getD, eb]; rfl
    refine ⟨by simp [eb, eg], ?_⟩
    show PairAt s.heap (ps.getD j 0) k v
    rw [eg]
    exact .inl tb
  · obtain ⟨q, eq, e2, b, eb, tb, kb⟩ := inv i k v e
    exact ⟨q.1, by rw [eq, ← e2], kb⟩
  · have hm : (s.heap.objs.size == sysModules) = false := beq_eq_false_iff_ne.mpr (Nat.ne_of_gt I.big)
    have hlen : (mergeK [] kvs).length ≤ sizeLine := by
      refine Nat.le_trans (length_mergeK kvs []) ?_
      rw [List.length_nil, Nat.zero_add, rel.length, hln]
      exact hz
    exact ⟨.ref s.heap.objs.size, upd H s.heap.objs.size (.dK (mergeK [] kvs)), I.laid (t' := tk) (fun b o e => k b o (by simp) e) (Nat.le_refl _) (show ObjOk X.prog X.w _ _ _ (.dK (mergeK [] kvs)) from ⟨hlen, hm, merged [] prs, KV.merge rel .nil, hd'⟩), rfl, q _ (I.hok.fresh (Nat.le_refl _))⟩
end
def spServedF (K : PySem.W.Frag) (TT : List (Addr × Str)) : Sp := fun vs H Q _ => ∃ (v : V) (W : Int) (ss : List Seat) (r d : Addr) (zs : List Str) (ns : List Int), vs = [v, .ref r, .ref d] ∧ Dp K H v (momD W ss) ∧ ss.length ≤ 100 ∧ (∀ s ∈ ss, Okp 1900 s.2) ∧ SqT K H r (zs.map V.str) ∧ There ss zs ∧ SqT K H d (ns.map V.int) ∧ ns.length ≤ zs.length ∧ (∀ n ∈ ns, 1 ≤ n ∧ n ≤ W) ∧ LamX.Tabs TT H ∧
  ∀ t ts os H', LamX.ExtN H H' → LamX.Tabs TT H' → OrderOf ss zs os → Froz H' t (ts.map V.ref) → PairsAt H' ts ((os.map V.str).zip ((down ns).map V.int)) → Q (.ref t) H'
end WS
set_option Elab.async false
set_option linter.all false
set_option maxRecDepth 100000
set_option maxHeartbeats 4000000
namespace WS
open PySem PySem.Spec PyProof.Rows L2
/-! ### the persons told, in a dict -/
def kvp (l : List (Str × Int)) : List (Key × V) := l.map fun x => ((.inr x.1 : Key), V.int x.2)
theorem paired_kv {K : PySem.W.Frag} {H : Hp} : ∀ {ts : List Addr} {l : List (Str × Int)}, PairsAt H ts (l.map fun x => (V.str x.1, V.int x.2)) → Paired (fun p kv => SqT K H p [kV kv.1, kv.2]) ts (kvp l)
  | [], [], _ => .nil
  | [], _ :: _, h => by cases h.1
  | _ :: _, [], h => by cases h.1
  | t :: ts, x :: l, h => .cons (.inl (.inl (h.2 0 t _ rfl rfl))) (paired_kv ⟨Nat.succ.inj h.1, fun j a p e1 e2 => h.2 (j + 1) a p (by simpa using e1) (by simpa using e2)⟩)
theorem zip_kv (os : List Str) (dn : List Int) : (os.map V.str).zip (dn.map V.int) = (os.zip dn).map fun x => (V.str x.1, V.int x.2) := by
  rw [List.zip_map]
  rfl
theorem merge_app : ∀ (kvs acc : List (Key × V)), ((acc ++ kvs).map (·.1)).Nodup → mergeK acc kvs = acc ++ kvs
  | [], acc, _ => by simp [mergeK]
  | p :: r, acc, h => by
    have hn : valV acc p.1 = none := by
      have e := valV_any p.1 acc
      cases z : valV acc p.1 with
      | none => rfl
      | some v =>
        rw [z] at e
        obtain ⟨kv, hk, hkv⟩ := List.any_eq_true.mp e
        rw [List.map_append, List.nodup_append] at h
        exact absurd (of_decide_eq_true hkv) (h.2.2 _ (List.mem_map_of_mem hk) _ (by simp))
    show mergeK (putK acc p.1 p.2) r = _
    rw [putK_new p.2 hn, merge_app r (acc ++ [p]) (by simpa using h)]
    simp
theorem kvp_keys (l : List (Str × Int)) : (kvp l).map (·.1) = (l.map Prod.fst).map fun z => (Sum.inr z : Key) := by
  unfold kvp
  rw [List.map_map, List.map_map]
  rfl
theorem merge_kvp {l : List (Str × Int)} (h : (l.map Prod.fst).Nodup) : mergeK [] (kvp l) = kvp l := by
  rw [merge_app]
  · rfl
  · rw [List.nil_append, kvp_keys]
    exact List.Pairwise.map _ (fun a b hab e => hab (Sum.inr.inj e)) h
def toldL (ss : List Seat) (l : List (Str × Int)) (i : Nat) : List (Str × Int) := l.filter fun x => decide (i ≤ idx ss x.1)
theorem told_zero {ss : List Seat} {l : List (Str × Int)} : toldL ss l 0 = l := by simp [toldL]
theorem told_end {ss : List Seat} {l : List (Str × Int)} (h : ∀ x ∈ l, idx ss x.1 < ss.length) : toldL ss l ss.length = [] := by
  unfold toldL
  rw [List.filter_eq_nil_iff]
  intro x hx
  have := h x hx
  simp
  omega
theorem told_val {ss : List Seat} {z : Str} {i : Nat} (hz : idx ss z = i) : ∀ (l : List (Str × Int)), (∀ x ∈ l, idx ss x.1 = i → x.1 = z) → valV (kvp (toldL ss l i)) (.inr z) = ((l.map fun x => (idx ss x.1, x.2)).lookup i).map V.int
  | [], _ => rfl
  | x :: l, h => by
    have ih := told_val hz l fun y hy => h y (List.mem_cons_of_mem _ hy)
    rw [List.map_cons, List.lookup_cons]
    by_cases e : idx ss x.1 = i
    · have ez := h x List.mem_cons_self e
      have t : toldL ss (x :: l) i = x :: toldL ss l i := by
        unfold toldL
        rw [List.filter_cons_of_pos (by simp; omega)]
      rw [t]
      show valV ((.inr x.1, V.int x.2) :: kvp (toldL ss l i)) _ = _
      rw [valV_pos (by rw [ez])]
      simp [e]
    · have nz : ¬ (Sum.inr x.1 : Key) = .inr z := fun q => e (by rw [Sum.inr.inj q]; exact hz)
      have ei : (i == idx ss x.1) = false := by simp; omega
      rw [ei]
      by_cases c : i ≤ idx ss x.1
      · have t : toldL ss (x :: l) i = x :: toldL ss l i := by
          unfold toldL
          rw [List.filter_cons_of_pos (by simp; omega)]
        rw [t]
        show valV ((.inr x.1, V.int x.2) :: kvp (toldL ss l i)) _ = _
        rw [valV_neg nz]
        exact ih
      · have t : toldL ss (x :: l) i = toldL ss l i := by
          unfold toldL
          rw [List.filter_cons_of_neg (by simp; omega)]
        rw [t]
        exact ih
theorem told_drop {ss : List Seat} {z : Str} {i : Nat} {l : List (Str × Int)} (hz : idx ss z = i) (h : ∀ x ∈ l, idx ss x.1 = i → x.1 = z) : dropK (kvp (toldL ss l i)) (.inr z) = kvp (toldL ss l (i + 1)) := by
  unfold dropK kvp toldL
  rw [List.filter_map, List.filter_filter]
  congr 1
  refine List.filter_congr fun x hx => ?_
  show (decide ((Sum.inr x.1 : Key) ≠ .inr z) && decide (i ≤ idx ss x.1)) = decide (i + 1 ≤ idx ss x.1)
  by_cases e : x.1 = z
  · rw [e, hz]
    simp
  · have ne : idx ss x.1 ≠ i := fun q => e (h x hx q)
    have e1 : (decide ((Sum.inr x.1 : Key) ≠ .inr z)) = true := decide_eq_true fun q => e (Sum.inr.inj q)
    rw [e1, Bool.true_and]
    exact decide_eq_decide.mpr (by omega)
theorem dropK_none {kvs : List (Key × V)} {k : Key} (h : valV kvs k = none) : dropK kvs k = kvs := by
  have e := valV_any k kvs
  rw [h] at e
  unfold dropK
  rw [List.filter_eq_self]
  intro kv hkv
  have := (List.any_eq_false.mp e) kv hkv
  simpa using this
theorem told_skip {ss : List Seat} {i : Nat} {l : List (Str × Int)} (h : ∀ x ∈ l, idx ss x.1 ≠ i) : toldL ss l (i + 1) = toldL ss l i := by
  unfold toldL
  refine List.filter_congr fun x hx => ?_
  have := h x hx
  exact decide_eq_decide.mpr (by omega)
/-! ### a seat behind an evening, as the law reckons it -/
theorem beh_in {ss : List Seat} {zs os : List Str} {dn : List Int} {i : Nat} (hi : i < ss.length) (hz : i ∈ zs.map (idx ss)) (hp : ∀ s ∈ ss, 0 < s.2.2) (hl : 0 < zs.length) (hd : dn.length ≤ os.length) :
    gs (behS ss zs os dn) i = ((gs ss i).1, pl (pl (gs ss i).2 (lo dn.sum (zs.length : Nat))) (-(((byS ss os dn).lookup i).getD 0), 1)) := by
  unfold behS
  rw [gs_setRow hi (by rw [rowE_len, List.length_map]), rowE_at (by rw [List.length_map]; exact hi)]
  have eF : rowF (ss.map Prod.snd) (zs.map (idx ss)) (lo (((byS ss os dn).map Prod.snd).sum) ((zs.map (idx ss)).length : Nat)) i = pl (gs ss i).2 (lo dn.sum (zs.length : Nat)) := by
    unfold rowF
    rw [if_pos hz, gp_snd ss hi, byS_snd hd, List.length_map]
  have p0 : 0 < (gs ss i).2.2 := hp _ (List.mem_of_getElem? (at_gs hi))
  have ps : 0 < (lo dn.sum (zs.length : Nat)).2 := (lo_lowest (by omega)).1
  have lowX : Lowest (pl (gs ss i).2 (lo dn.sum (zs.length : Nat))).1 (pl (gs ss i).2 (lo dn.sum (zs.length : Nat))).2 := lo_lowest (Int.mul_pos p0 ps)
  have eG : rowG (rowF (ss.map Prod.snd) (zs.map (idx ss)) (lo (((byS ss os dn).map Prod.snd).sum) ((zs.map (idx ss)).length : Nat))) (byS ss os dn) i = pl (pl (gs ss i).2 (lo dn.sum (zs.length : Nat))) (-(((byS ss os dn).lookup i).getD 0), 1) := by
    unfold rowG
    rw [eF]
    generalize pl (gs ss i).2 (lo dn.sum (zs.length : Nat)) = X at lowX
    have pX : 0 < X.2 := lowX.1
    cases e : (byS ss os dn).lookup i with
    | none =>
      refine rv_inj lowX (lo_lowest (Int.mul_pos pX (by decide))) ?_
      rw [rv_pl pX (by decide)]
      have : rv (-((none : Option Int).getD 0), 1) = 0 := by unfold rv; simp; grind
      rw [this]
      grind
    | some d =>
      refine rv_inj (lo_lowest (Int.mul_pos pX (lo_lowest (by decide)).1)) (lo_lowest (Int.mul_pos pX (show (0 : Int) < 1 by decide))) ?_
      show rv (mi X (lo d 1)) = rv (pl X (-d, 1))
      rw [rv_mi pX (lo_lowest (by decide)).1, rv_pl pX (show (0 : Int) < 1 by decide), rv_lo (by decide)]
      have : rv ((-d, 1) : Int × Int) = -((d : Rat) / ((1 : Int) : Rat)) := by
        unfold rv
        simp
        grind
      rw [this]
      grind
  rw [eG]
theorem beh_out {ss : List Seat} {zs os : List Str} {dn : List Int} {i : Nat} (hi : i < ss.length) (hz : i ∉ zs.map (idx ss)) (ho : ∀ z ∈ os, z ∈ zs) : gs (behS ss zs os dn) i = gs ss i := by
  unfold behS
  rw [gs_setRow hi (by rw [rowE_len, List.length_map]), rowE_at (by rw [List.length_map]; exact hi)]
  have e : (byS ss os dn).lookup i = none := List.lookup_eq_none_iff.mpr fun x hx => by
    obtain ⟨z, h1, h2⟩ := (byS_mem hx).1
    have : i ≠ x.1 := fun q => hz (by rw [q, h2]; exact List.mem_map_of_mem (ho z h1))
    simpa using this
  unfold rowG
  rw [e]
  show ((gs ss i).1, rowF _ _ _ i) = _
  unfold rowF
  rw [if_neg hz, gp_snd ss hi]
theorem place_in {ss : List Seat} {zs : List Str} (nd : (names ss).Nodup) (hin : ∀ z ∈ zs, z ∈ names ss) {i : Nat} (hi : i < ss.length) : i ∈ zs.map (idx ss) ↔ (gs ss i).1 ∈ zs := by
  constructor
  · intro h
    obtain ⟨z, hz, e⟩ := List.mem_map.mp h
    rw [← e, gs_idx (hin z hz)]
    exact hz
  · intro h
    have hn := (names_mem.mp (hin _ h)).1
    exact List.mem_map.mpr ⟨_, h, idx_gs nd hi hn⟩
theorem kt_dict {H : Hp} {D : Addr} {xs ys : List (Key × V)} (h : H D = some (.dK xs)) : KT H (upd H D (.dK ys)) :=
  ⟨fun a zs e => by rw [upd_ne (fun z => by rw [z, h] at e; cases e)]; exact e, fun a o zs e => by rw [upd_ne (fun z => by rw [z, h] at e; cases e)]; exact e⟩
def spRB (K : PySem.W.Frag) (TT : List (Addr × Str)) : Sp := fun vs H Q _ => ∃ (v : V) (W : Int) (ss : List Seat) (r d : Addr) (zs : List Str) (ns : List Int), vs = [v, .ref r, .ref d] ∧ Dp K H v (momD W ss) ∧ ss.length ≤ 12 ∧ (names ss).Nodup ∧ Good W ss ∧ (∀ s ∈ ss, Nm0 s.1 ∧ 0 < s.2.2 ∧ Bt 110 s.2.2) ∧ SqT K H r (zs.map V.str) ∧ There ss zs ∧ SqT K H d (ns.map V.int) ∧ ns.length ≤ zs.length ∧ (∀ n ∈ ns, 1 ≤ n ∧ n ≤ W) ∧ 1 ≤ W ∧ Bt 110 W ∧ LamX.Tabs TT H ∧
  ∀ H', LamX.ExtN H H' → LamX.Tabs TT H' → Q (.bl true) H'
theorem upd_self {H : Hp} {p : Addr} {o : HO} (h : H p = some o) : upd H p o = H := by
  funext b
  by_cases e : b = p
  · rw [e, upd_same, h]
  · rw [upd_ne e]
theorem dpop_in {i j : Nat} {x : Int} {σ : L2.St} {H : Hp} {Q : V → Hp → Prop} {p : Addr} {kvs : List (Key × V)} {z : Str} {o : Option Int} (h1 : tVar i σ H fun v H' => v = .ref p ∧ H' = H) (h2 : tVar j σ H fun v H' => v = .str z ∧ H' = H) (hp : H p = some (.dK kvs)) (e : valV kvs (.inr z) = o.map V.int)
    (q : Q (.int (o.getD x)) (upd H p (.dK (dropK kvs (.inr z))))) : tDPop2 (tVar i) (tVar j) (tC (V.int x)) σ H Q := by
  obtain ⟨v, hv, rfl, _⟩ := h1
  obtain ⟨u, hu, rfl, _⟩ := h2
  refine ⟨_, hv, p, rfl, .inl ⟨_, .inl hp⟩, _, hu, kvs, .inr z, hp, rfl, fun v ev => ?_, fun ev => ?_⟩
  · rw [ev] at e
    cases o with
    | none => cases e
    | some d =>
      obtain rfl := Option.some.inj e
      exact q
  · rw [ev] at e
    cases o with
    | some d => cases e
    | none =>
      rw [dropK_none ev, upd_self hp] at q
      exact q
end WS
set_option Elab.async false
set_option linter.all false
set_option maxRecDepth 100000
set_option maxHeartbeats 4000000
namespace WS
open PySem PySem.Spec PyProof.Rows L2
theorem mom_sh3 {W : Int} {ss : List Seat} (hW : Bt 1500 W) (hl : ss.length ≤ 12) (ok : ∀ s ∈ ss, Okp 230 s.2 ∧ Nm0 s.1) : Sh 60000 5 (momD W ss) := by
  refine (Sh.tup (n := 29000) (k := 4) (m := 2) (ds := [.int W, .tuple (ss.map seatD)]) (fun d hd => ?_) (Nat.le_refl 2)).mono (by omega) (by omega)
  simp only [List.mem_cons, List.not_mem_nil, or_false] at hd
  rcases hd with rfl | rfl
  · exact (Sh.int (by decide) (by decide) hW).mono (by omega) (by omega)
  · refine (Sh.tup (n := 2300) (k := 3) (m := 12) (fun d hd => ?_) (by rw [List.length_map]; exact hl)).mono (by omega) (by omega)
    obtain ⟨s, hs, rfl⟩ := List.mem_map.mp hd
    obtain ⟨h1, h2⟩ := ok s hs
    refine (Sh.tup (n := 1000) (k := 2) (m := 2) (ds := [.str s.1, pdP s.2]) (fun d hd => ?_) (Nat.le_refl 2)).mono (by omega) (by omega)
    simp only [List.mem_cons, List.not_mem_nil, or_false] at hd
    rcases hd with rfl | rfl
    · exact (nm_sh h2).mono (by omega) (by omega)
    · exact (Sh.pd (m := 230) (by decide) (by decide) h1.2.1 h1.2.2).mono (by omega) (by omega)
def eveL (W : Int) (ss : List Seat) (zs : List Str) (ns : List Int) : PyData := .tuple [momD W ss, .list (zs.map PyData.str), .tuple (ns.map PyData.int)]
theorem eveL_sh {W : Int} {ss : List Seat} {zs : List Str} {ns : List Int} (hW : Bt 1500 W) (hl : ss.length ≤ 12) (ok : ∀ s ∈ ss, Okp 230 s.2 ∧ Nm0 s.1) (zl : zs.length ≤ 12) (hz : ∀ z ∈ zs, Nm0 z) (nl : ns.length ≤ 12) (hn : ∀ n ∈ ns, 1 ≤ n ∧ n ≤ W) : Sh 1000000 60 (eveL W ss zs ns) := by
  refine (Sh.tup (n := 60000) (k := 5) (m := 3) (ds := [momD W ss, .list (zs.map PyData.str), .tuple (ns.map PyData.int)]) (fun d hd => ?_) (Nat.le_refl 3)).mono (by omega) (by omega)
  simp only [List.mem_cons, List.not_mem_nil, or_false] at hd
  rcases hd with rfl | rfl | rfl
  · exact mom_sh3 hW hl ok
  · refine (Sh.lst (n := 1000) (k := 1) (m := 12) (fun d hd => ?_) (by rw [List.length_map]; exact zl)).mono (by omega) (by omega)
    obtain ⟨z, h, rfl⟩ := List.mem_map.mp hd
    exact (nm_sh (hz z h)).mono (by omega) (by omega)
  · exact (ints_sh hW nl hn).mono (by omega) (by omega)
theorem eveL_dp {K : PySem.W.Frag} {H : Hp} {t z d r : Addr} {W : Int} {ss : List Seat} {zs : List Str} {ns : List Int} (dm : Dp K H (.ref t) (momD W ss)) (hz : H z = some (.lst (zs.map V.str))) (hd : SqT K H d (ns.map V.int)) (nr : H r = none) : Dp K (upd H r (.tup [.ref t, .ref z, .ref d])) (.ref r) (eveL W ss zs ns) := by
  have e := same_new (o := .tup [.ref t, .ref z, .ref d]) nr
  exact .tup (.inl (.inl upd_same)) (.cons (dm.sm e) (.cons (.lst (.inl (.inl (e _ _ hz))) (dpall_strs zs)) (.cons (ints_dpT (Same.tup e hd)) .nil)))
end WS
set_option Elab.async false
set_option linter.all false
set_option maxRecDepth 100000
set_option maxHeartbeats 4000000
namespace WS
open PySem PySem.Spec PyProof.Rows L2
/-! ### dict(zip(a, b)) of two lists -/
theorem zap {N a1 a2 : Nat} (n1 : a1 < N) (n2 : a2 < N) : ZipApart (N + 4) (N + 2) (N + 3) N (N + 1) a1 a2 := by
  constructor <;> exact fun (h : @Eq Nat _ _) => by omega
theorem not_wr {N b : Nat} (h : b < N) : b ∉ [N + 4, N + 3, N, N + 1] := by
  simp only [List.mem_cons, List.not_mem_nil, or_false]
  omega
theorem kv_zip : ∀ {ys : List V} {t2 : List Value}, Vals ys t2 → ∀ ks : List Key, KV (ks.zip ys) (ks.zip t2)
  | _, _, .nil, ks => by simp; exact .nil
  | _, _, .cons r rs, [] => by simp; exact .nil
  | _, _, .cons r rs, k :: ks => by
    rw [List.zip_cons_cons, List.zip_cons_cons]
    exact .cons ⟨rfl, r⟩ (kv_zip rs ks)
def tDictZ (K : PySem.W.Frag) (ta : TA) : TE := fun σ H Q => ta σ H fun vs H1 => ∃ (a1 a2 : Addr) (ks : List Key) (ys : List V), vs = [.ref a1, .ref a2] ∧ SqL K H1 a1 (ks.map kV) ∧ SqL K H1 a2 ys ∧ min ks.length ys.length ≤ sizeLine ∧
  ∀ p, H1 p = none → Q (.ref p) (upd H1 p (.dK (mergeK [] (ks.zip ys))))
section
variable {X : Cx} {e e2 : Expr} {ta : TA} {p p2 cpos pos : Pos}
theorem pe_dictZ (hc : X.calm = true) (hg : Gl X "dict") (hm : X.mg "dict" = none) (hv : bootBuiltins "dict" = some (.type "dict")) (hg2 : Gl X "zip") (hm2 : X.mg "zip" = none) (ha : PA X [e, e2] ta)
    (hs : starEach [.Call (.Name "zip" p2) [e, e2] [] cpos] X.env = (false, eval (.Call (.Name "zip" p2) [e, e2] [] cpos) X.env) :: starEach [] X.env := by rfl)
    (hs2 : starEach [e, e2] X.env = (false, eval e X.env) :: starEach [e2] X.env := by rfl) (hp2 : (backTo cpos (starEach [e2] X.env)).any (·.1) = false := by rfl) :
    PE X (.Call (.Name "dict" p) [.Call (.Name "zip" p2) [e, e2] [] cpos] [] pos) (tDictZ X.K ta) := by
  refine ⟨fun pins s σ H Q I hq => ?_⟩
  refine wpAny_Call_Name_kw (ld_blt I hg hm hv ?_)
  refine PyProof.Rows.callWith_type1 ?_ hs rfl
  rw [hs]
  show wpAny _ _ (spliced ((false, eval (.Call (.Name "zip" p2) [e, e2] [] cpos) X.env) :: backTo pos (starEach [] X.env))) _ _ s
  refine Calls.spliced_cons ?_
  refine Call_ (ld_blt I hg2 hm2 PyProof.Rows.boot_zip (PyProof.Rows.callWith_type1 (thn (ha.run cpos pins s σ H _ I hq) fun us s1 ⟨vs, H1, I1, r1, q1⟩ => ?_) hs2 hp2))
  obtain ⟨a1, a2, ks, ys, rfl, hq1, hq2, hz, q⟩ := q1
  obtain _ | ⟨r, _ | ⟨r', rr⟩⟩ := r1
  cases rr
  cases r
  cases r'
  obtain ⟨t1, v1, B1⟩ := sqb_get (b := true) I1 hq1
  obtain ⟨t2, v2, B2⟩ := sqb_get (b := true) I1 hq2
  have l1 := isb_lt B1
  have l2 := isb_lt B2
  refine zip_begins2 (itb_begins true a1 t1.toArray) (itb_begins true a2 t2.toArray) B1 B2 fun h1 hz1 hTI hTO g1 g2 hsz hk => ?_
  refine Calls.spliced_nil ?_
  have n1 : a1 < s1.heap.objs.size := l1
  have n2 : a2 < s1.heap.objs.size := l2
  have D : ZipApart (s1.heap.objs.size + 4) (s1.heap.objs.size + 2) (s1.heap.objs.size + 3) s1.heap.objs.size (s1.heap.objs.size + 1) a1 a2 := by
    exact zap l1 l2
  have P := PairArg.zip (prog := X.prog) (w := X.w) _ _ _ _ _ a1 a2 D t1.toArray t2.toArray
  have e1 : t1.length = ks.length := by have := v1.length; rw [List.length_map] at this; exact this.symm
  have e2 : t2.length = ys.length := v2.length.symm
  have hmin : min t1.toArray.size t2.toArray.size ≤ sizeLine := by simp only [List.size_toArray]; omega
  refine PySem.call_dict_pairs (knd := mixKind X.prog X.w) (kvs := ks.zip t2) (s := { s1 with heap := h1 }) P (I1.ok.hd hc) ⟨hz1, hTI, ⟨_, _, hTO⟩, itb_start (b := true) g1, itb_start (b := true) g2, isb_keep (b := true) B1 fun o e => hk _ _ e, isb_keep (b := true) B2 fun o e => hk _ _ e⟩ ⟨by rw [List.length_zip]; simp only [List.size_toArray]; omega, fun i k v hr => ?_⟩ hmin fun h' tk hd' k => ?_
  · obtain ⟨r1, r2⟩ := hr
    rw [List.getElem?_toArray] at r1 r2
    have il : i < t1.length := (List.getElem?_eq_some_iff.mp r1).1
    have ek : ks[i]? = some (ks[i]'(by omega)) := List.getElem?_eq_getElem (by omega)
    refine ⟨ks[i]'(by omega), List.getElem?_zip_eq_some.mpr ⟨ek, r2⟩, ?_⟩
    have := val_at v1 (i := i) (x := kV (ks[i]'(by omega))) (by rw [List.getElem?_map, ek]; rfl) (by rw [List.getElem?_toArray]; exact r1)
    exact kV_is this
  · have hm3 : (h1.objs.size == sysModules) = false := beq_eq_false_iff_ne.mpr (Nat.ne_of_gt (Nat.lt_of_lt_of_le I1.big (by rw [hsz]; exact Nat.le_add_right _ 5)))
    have hlen : (mergeK [] (ks.zip ys)).length ≤ sizeLine := by
      refine Nat.le_trans (length_mergeK _ []) ?_
      rw [List.length_nil, Nat.zero_add, List.length_zip]
      omega
    have up : ∀ b o, s1.heap.get? b = some o → h'.get? b = some o := fun b o eb => by
      have := Heap.lt_size eb
      exact k b o (not_wr this) (hk b o eb)
    have hle : s1.heap.objs.size ≤ h1.objs.size := by rw [hsz]; exact Nat.le_add_right _ 5
    exact ⟨.ref h1.objs.size, upd H1 h1.objs.size (.dK (mergeK [] (ks.zip ys))), I1.laid (t' := tk) up hle (show ObjOk X.prog X.w _ _ _ (.dK (mergeK [] (ks.zip ys))) from ⟨hlen, hm3, merged [] (ks.zip t2), KV.merge (kv_zip v2 ks) .nil, hd'⟩), rfl, q _ (I1.hok.fresh hle)⟩
end
end WS
set_option Elab.async false
set_option linter.all false
set_option maxRecDepth 100000
set_option maxHeartbeats 4000000
namespace WS
open PySem PySem.Spec PyProof.Rows L2
/-! ### other names -/
def kvS (l : List (Str × Str)) : List (Key × V) := l.map fun x => ((.inr x.1 : Key), V.str x.2)
theorem kvS_val (z : Str) : ∀ l : List (Str × Str), valV (kvS l) (.inr z) = (l.lookup z).map V.str
  | [] => rfl
  | x :: l => by
    rw [List.lookup_cons]
    show valV ((.inr x.1, V.str x.2) :: kvS l) _ = _
    by_cases e : x.1 = z
    · rw [valV_pos (by rw [e])]
      simp [e]
    · rw [valV_neg (fun q => e (Sum.inr.inj q)), kvS_val z l]
      have : (z == x.1) = false := by simp; exact fun q => e q.symm
      rw [this]
def ren (l : List (Str × Str)) (z : Str) : Str := (l.lookup z).getD ""
theorem kvS_get (l : List (Str × Str)) (z : Str) : (valV (kvS l) (.inr z)).getD (.str "") = .str (ren l z) := by
  rw [kvS_val]
  unfold ren
  cases l.lookup z <;> rfl
def rns (f : Str → Str) (ss : List Seat) : List Seat := ss.map fun s => (f s.1, s.2)
structure RenOk (f : Str → Str) (us : List Str) : Prop where
  nz : f "" = ""
  ne : ∀ z ∈ us, f z ≠ ""
  inj : ∀ a ∈ us, ∀ b ∈ us, f a = f b → a = b
def spNamed (K : PySem.W.Frag) : Sp := fun vs H Q _ => ∃ (v : V) (N : Addr) (W : Int) (ss : List Seat) (l : List (Str × Str)), vs = [v, .ref N] ∧ Dp K H v (momD W ss) ∧ ss.length ≤ 100 ∧ H N = some (.dK (kvS l)) ∧ ∀ v' H', Same H H' → Dp K H' v' (momD W (rns (ren l) ss)) → Q v' H'
section
variable {f : Str → Str} {ss : List Seat}
theorem rns_len : (rns f ss).length = ss.length := by unfold rns; rw [List.length_map]
theorem gs_rns {i : Nat} (h : i < ss.length) : gs (rns f ss) i = (f (gs ss i).1, (gs ss i).2) := by
  refine gs_at ?_
  unfold rns
  rw [List.getElem?_map, at_gs h]
  rfl
theorem fst_rns : (rns f ss).map Prod.fst = (ss.map Prod.fst).map f := by
  unfold rns
  rw [List.map_map, List.map_map]
  rfl
theorem snd_rns : (rns f ss).map Prod.snd = ss.map Prod.snd := by
  unfold rns
  rw [List.map_map]
  rfl
theorem names_map (z0 : f "" = "") : ∀ us : List Str, (∀ z ∈ us, z ≠ "" → f z ≠ "") → (us.map f).filter (fun z : Str => !decide (z = "")) = (us.filter fun z : Str => !decide (z = "")).map f
  | [], _ => rfl
  | u :: us, h => by
    have ih := names_map z0 us fun z hz => h z (List.mem_cons_of_mem _ hz)
    rw [List.map_cons]
    by_cases e : u = ""
    · rw [List.filter_cons_of_neg (by simp [e, z0]), List.filter_cons_of_neg (by simp [e]), ih]
    · rw [List.filter_cons_of_pos (by simp [h u List.mem_cons_self e]), List.filter_cons_of_pos (by simp [e]), ih, List.map_cons]
theorem fst_names {z : Str} (h : z ∈ ss.map Prod.fst) (hz : z ≠ "") : z ∈ names ss := by
  obtain ⟨s, hs, e⟩ := List.mem_map.mp h
  exact names_mem.mpr ⟨hz, s, hs, e⟩
theorem names_rns (r : RenOk f (names ss)) : names (rns f ss) = (names ss).map f := by
  show ((rns f ss).map Prod.fst).filter _ = _
  rw [fst_rns, names_map r.nz _ fun z hz hn => r.ne z (fst_names hz hn)]
  rfl
theorem idxOf_map {z : Str} : ∀ us : List Str, (∀ a ∈ us, f a = f z → a = z) → (us.map f).idxOf (f z) = us.idxOf z
  | [], _ => rfl
  | u :: us, h => by
    rw [List.map_cons, List.idxOf_cons, List.idxOf_cons, idxOf_map us fun a ha => h a (List.mem_cons_of_mem _ ha)]
    by_cases e : u = z
    · rw [e, beq_self_eq_true, beq_self_eq_true]
    · have h1 : (f u == f z) = false := beq_eq_false_iff_ne.mpr fun q => e (h u List.mem_cons_self q)
      have h2 : (u == z) = false := beq_eq_false_iff_ne.mpr e
      rw [h1, h2]
theorem idx_rns (r : RenOk f (names ss)) {z : Str} (hz : z ∈ names ss) : idx (rns f ss) (f z) = idx ss z := by
  unfold idx
  rw [fst_rns]
  refine idxOf_map _ fun a ha e => ?_
  by_cases e0 : a = ""
  · rw [e0, r.nz] at e
    exact absurd e.symm (r.ne z hz)
  · exact r.inj a (fst_names ha e0) z hz e
theorem map_inj_nodup (r : RenOk f (names ss)) {zs : List Str} (hz : ∀ z ∈ zs, z ∈ names ss) (nd : zs.Nodup) : (zs.map f).Nodup := map_nodup nd fun a ha b hb e => r.inj a (hz a ha) b (hz b hb) e
theorem there_rns (r : RenOk f (names ss)) {zs ys : List Str} (h : There ss zs) (p : ys.Perm zs) : There (rns f ss) (ys.map f) := by
  refine ⟨by rw [List.length_map, p.length_eq]; exact h.1, by rw [List.length_map, p.length_eq]; exact h.2.1, map_inj_nodup r (fun z hz => h.2.2.2 z (p.mem_iff.mp hz)) (p.nodup_iff.mpr h.2.2.1), fun z hz => ?_⟩
  obtain ⟨a, ha, rfl⟩ := List.mem_map.mp hz
  rw [names_rns r]
  exact List.mem_map_of_mem (h.2.2.2 a (p.mem_iff.mp ha))
theorem order_rns (r : RenOk f (names ss)) {zs ys os : List Str} (hin : ∀ z ∈ zs, z ∈ names ss) (p : ys.Perm zs) (h : OrderOf ss zs os) : OrderOf (rns f ss) (ys.map f) (os.map f) := by
  refine ⟨(h.1.trans p.symm).map f, ?_⟩
  rw [List.pairwise_map]
  refine List.Pairwise.imp_of_mem (fun {a b} ha hb hab => ?_) h.2
  have na := hin a (h.1.mem_iff.mp ha)
  have nb := hin b (h.1.mem_iff.mp hb)
  unfold ahead at hab ⊢
  rw [idx_rns r na, idx_rns r nb, gs_rns (idx_lt na), gs_rns (idx_lt nb)]
  exact hab
theorem rowE_perm {ps : List (Int × Int)} {is js : List Nat} {ds : List (Nat × Int)} (p : is.Perm js) : rowE ps is ds = rowE ps js ds := by
  unfold rowE
  rw [p.length_eq]
  refine congrArg (fun g => (List.range ps.length).map (rowG g ds)) ?_
  funext j
  unfold rowF
  by_cases c : j ∈ is
  · rw [if_pos c, if_pos (p.mem_iff.mp c)]
  · rw [if_neg c, if_neg fun z => c (p.mem_iff.mpr z)]
theorem byS_rns (r : RenOk f (names ss)) {os : List Str} (hin : ∀ z ∈ os, z ∈ names ss) (dn : List Int) : byS (rns f ss) (os.map f) dn = byS ss os dn := by
  unfold byS
  rw [List.zip_map_left, List.map_map]
  refine List.map_congr_left fun x hx => ?_
  show (idx (rns f ss) (f x.1), x.2) = _
  rw [idx_rns r (hin _ (List.of_mem_zip hx).1)]
theorem setRow_rns (ps : List (Int × Int)) : setRow (rns f ss) ps = rns f (setRow ss ps) := by
  unfold setRow rns
  rw [List.zip_map_left, List.map_map, List.map_map]
  rfl
theorem behS_rns (r : RenOk f (names ss)) {zs ys os : List Str} (hin : ∀ z ∈ zs, z ∈ names ss) (p : ys.Perm zs) (ho : ∀ z ∈ os, z ∈ names ss) (dn : List Int) : behS (rns f ss) (ys.map f) (os.map f) dn = rns f (behS ss zs os dn) := by
  unfold behS
  rw [snd_rns, byS_rns r ho, setRow_rns]
  have e : (ys.map f).map (idx (rns f ss)) = ys.map (idx ss) := by
    rw [List.map_map]
    exact List.map_congr_left fun z hz => idx_rns r (hin z (p.mem_iff.mp hz))
  rw [e, rowE_perm (p.map (idx ss))]
theorem good_rns {W : Int} (g : Good W ss) : Good W (rns f ss) := by
  have e : ∀ i, i < ss.length → owF ss i = owF (rns f ss) i := fun i hi => by
    unfold owF
    rw [gs_rns hi]
  constructor
  · rw [rns_len]
    exact g.w.congr e
  · rw [rns_len, ← g.z]
    unfold sumF
    exact congrArg List.sum (List.map_congr_left fun i hi => (e i (List.mem_range.mp hi)).symm)
end
end WS
set_option Elab.async false
set_option linter.all false
set_option maxRecDepth 100000
set_option maxHeartbeats 4000000
namespace WS
open PySem PySem.Spec PyProof.Rows L2
theorem kvS_at {l : List (Str × Str)} {z : Str} (h : (l.lookup z).isSome = true) : valV (kvS l) (.inr z) = some (.str (ren l z)) := by
  rw [kvS_val]
  unfold ren
  cases e : l.lookup z with
  | none => rw [e] at h; cases h
  | some y => rfl
theorem shaped_strsT (l : List Str) (hl : ∀ z ∈ l, Nm0 z) : SeqAt.shaped (.tuple (l.map PyData.str)) = true := shaped_strs l hl
theorem eqv_strsT (l : List Str) (hl : ∀ z ∈ l, Nm0 z) : PyData.eqv (.tuple (l.map PyData.str)) (.tuple (l.map PyData.str)) = true := SeqAt.eqv_refl _ (SeqAt.canLay_of_shaped (shaped_strsT l hl))
theorem pairs_rns (f : Str → Str) (os : List Str) (dn : List Int) : (os.map f).zip dn = (os.zip dn).map fun x => (f x.1, x.2) := by
  rw [List.zip_map_left]
  rfl
/-- two moments that differ by their names -/
structure Both (l : List (Str × Str)) (W : Int) (ss : List Seat) (D : Nat) : Prop where
  r : RenOk (ren l) (names ss)
  at_ : ∀ z ∈ names ss, (l.lookup z).isSome = true
  nm' : ∀ z ∈ names ss, Nm0 (ren l z)
  l12 : ss.length ≤ 12
  nd : (names ss).Nodup
  l2 : 2 ≤ (names ss).length
  g : Good W ss
  ok : ∀ s ∈ ss, Nm0 s.1 ∧ 0 < s.2.2 ∧ Bt D s.2.2
  w1 : 1 ≤ W
  bW : Bt 110 W
def spBoth (K : PySem.W.Frag) (TT : List (Addr × Str)) : Sp := fun vs H Q _ => ∃ (p N : Addr) (v v' : V) (W : Int) (ss : List Seat) (l : List (Str × Str)) (D : Nat), vs = [.ref p, v, v', .ref N] ∧ PotAt H p ∧ Dp K H v (momD W ss) ∧ Dp K H v' (momD W (rns (ren l) ss)) ∧ H N = some (.dK (kvS l)) ∧ D ≤ 112 ∧ Both l W ss D ∧ LamX.Tabs TT H ∧
  ∀ Z u u' B H', H' Z = some (.lst [u, u']) → Dp K H' u (momD W B) → Dp K H' u' (momD W (rns (ren l) B)) → Both l W B (D + 4) → ExtX p H H' → PotAt H' p → LamX.Tabs TT H' → Q (.ref Z) H'
theorem Both.ok19 {l : List (Str × Str)} {W : Int} {ss : List Seat} {D : Nat} (h : Both l W ss D) (hD : D ≤ 116) : (∀ s ∈ ss, Okp 230 s.2) ∧ ∀ s ∈ rns (ren l) ss, Okp 230 s.2 := by
  have okb := good_bits (D := D) (B := 110) h.w1 h.g h.bW (by have := h.l12; omega) (fun s hs => (h.ok s hs).2)
  have a : ∀ s ∈ ss, Okp 230 s.2 := fun s hs => ⟨(okb s hs).1, (okb s hs).2.1.mono (by omega), (okb s hs).2.2.mono (by omega)⟩
  refine ⟨a, fun s hs => ?_⟩
  obtain ⟨s', hs', rfl⟩ := List.mem_map.mp hs
  exact a s' hs'
end WS
set_option Elab.async false
set_option linter.all false
set_option maxRecDepth 100000
set_option maxHeartbeats 4000000
namespace WS
open PySem PySem.Spec PyProof.Rows L2
theorem look_mem : ∀ (as bs : List Str), as.length = bs.length → ∀ z ∈ as, ∃ y ∈ bs, (as.zip bs).lookup z = some y
  | [], _, _, z, h => by simp at h
  | a :: as, [], e, z, h => by simp at e
  | a :: as, b :: bs, e, z, h => by
    rw [List.zip_cons_cons, List.lookup_cons]
    by_cases c : z = a
    · exact ⟨b, List.mem_cons_self, by simp [c]⟩
    · obtain ⟨y, hy, ey⟩ := look_mem as bs (by simpa using e) z (by rcases List.mem_cons.mp h with h | h; exact absurd h c; exact h)
      have : (z == a) = false := beq_eq_false_iff_ne.mpr c
      rw [this]
      exact ⟨y, List.mem_cons_of_mem _ hy, ey⟩
theorem look_in : ∀ {as bs : List Str} {z y : Str}, (as.zip bs).lookup z = some y → z ∈ as ∧ y ∈ bs := fun {as bs z y} h => by
  obtain ⟨l1, l2, e, _⟩ := List.lookup_eq_some_iff.mp h
  have : (z, y) ∈ as.zip bs := by rw [e]; simp
  exact List.of_mem_zip this
theorem look_inj : ∀ (as bs : List Str), bs.Nodup → ∀ {a b y : Str}, (as.zip bs).lookup a = some y → (as.zip bs).lookup b = some y → a = b
  | [], _, _, a, b, y, h, _ => by simp at h
  | x :: as, [], _, a, b, y, h, _ => by simp at h
  | x :: as, x' :: bs, nd, a, b, y, h, k => by
    have nd' := List.nodup_cons.mp nd
    rw [List.zip_cons_cons, List.lookup_cons] at h k
    by_cases c : a = x
    · by_cases d : b = x
      · rw [c, d]
      · have e2 : (b == x) = false := beq_eq_false_iff_ne.mpr d
        have e1 : (a == x) = true := beq_iff_eq.mpr c
        rw [e1] at h
        rw [e2] at k
        have := (look_in k).2
        rw [← Option.some.inj h] at this
        exact absurd this nd'.1
    · have e1 : (a == x) = false := beq_eq_false_iff_ne.mpr c
      rw [e1] at h
      by_cases d : b = x
      · have e2 : (b == x) = true := beq_iff_eq.mpr d
        rw [e2] at k
        have := (look_in h).2
        rw [← Option.some.inj k] at this
        exact absurd this nd'.1
      · have e2 : (b == x) = false := beq_eq_false_iff_ne.mpr d
        rw [e2] at k
        exact look_inj as bs nd'.2 h k
theorem ren_at {l : List (Str × Str)} {z y : Str} (h : l.lookup z = some y) : ren l z = y := by unfold ren; rw [h]; rfl
theorem ren_zip {us ms : List Str} (e : us.length = ms.length) (nz : ("" : Str) ∉ us) (md : ms.Nodup) (mn : ∀ z ∈ ms, z ≠ "") : RenOk (ren (us.zip ms)) us := by
  refine ⟨?_, fun z hz => ?_, fun a ha b hb h => ?_⟩
  · have : (us.zip ms).lookup ("" : Str) = none := by
      cases c : (us.zip ms).lookup ("" : Str) with
      | none => rfl
      | some y => exact absurd (look_in c).1 nz
    unfold ren
    rw [this]
    rfl
  · obtain ⟨y, hy, ey⟩ := look_mem us ms e z hz
    rw [ren_at ey]
    exact mn y hy
  · obtain ⟨y, hy, ey⟩ := look_mem us ms e a ha
    obtain ⟨x, hx, ex⟩ := look_mem us ms e b hb
    rw [ren_at ey, ren_at ex] at h
    rw [← h] at ex
    exact look_inj us ms md ey ex
theorem keys_zip (us ms : List Str) : (us.map fun z => (Sum.inr z : Key)).zip (ms.map V.str) = kvS (us.zip ms) := by
  rw [List.zip_map]
  rfl
theorem merge_kvS {us ms : List Str} (h : us.Nodup) : mergeK [] (kvS (us.zip ms)) = kvS (us.zip ms) := by
  rw [merge_app]
  · rfl
  · rw [List.nil_append]
    have : (kvS (us.zip ms)).map (·.1) = ((us.zip ms).map Prod.fst).map fun z => (Sum.inr z : Key) := by
      unfold kvS
      rw [List.map_map, List.map_map]
      rfl
    rw [this, zip_fst]
    exact List.Pairwise.map _ (fun a b hab e => hab (Sum.inr.inj e)) (h.sublist (List.take_sublist _ _))
end WS
set_option Elab.async false
set_option linter.all false
set_option maxRecDepth 100000
set_option maxHeartbeats 4000000
namespace WS
open PySem PySem.Spec PyProof.Rows L2
theorem told_imm (ss : List Seat) (l : List (Nat × Int)) : immAll (l.map fun x => PyData.tuple [.str (gs ss x.1).1, .int x.2]) = true := immAll_map (fun _ => rfl) l
theorem told_pairs (ss : List Seat) (O : List Nat) (dn : List Int) : (((O.map fun k => (gs ss k).1).zip dn).map fun x => PyData.tuple [.str x.1, .int x.2]) = (O.zip dn).map fun x => PyData.tuple [.str (gs ss x.1).1, .int x.2] := by
  rw [List.zip_map_left, List.map_map]
  rfl
def spEveningT (K : PySem.W.Frag) : Sp := fun vs H Q _ => ∃ (L Z D : Addr) (rs : List V) (ss : List Seat) (zs : List Str) (ns : List Int), vs = [.ref L, .ref Z, .ref D] ∧ RowsM K H L rs ss ∧ ss.length ≤ 100 ∧ (∀ s ∈ ss, Ok2 4000 4000 s.2) ∧ (names ss).Nodup ∧ H Z = some (.lst (zs.map V.str)) ∧ There ss zs ∧ H D = some (.lst (ns.map V.int)) ∧ V.ref D ∉ rs ∧ ns.length ≤ zs.length ∧ ns.length < 64 ∧ (∀ n ∈ ns, Bt 50000 n) ∧
  ∀ v H' (O : List Nat), O.Perm (placesOf ss zs) → O.Pairwise (rkS ss) → Dp K H' v (pairsD (O.map fun k => (gs ss k).1) (down ns)) → RowsM K H' L rs (behS ss zs (O.map fun k => (gs ss k).1) (down ns)) → SameR rs H H' → Q v H'
theorem sum_set : ∀ (l : List Int) (i : Nat) (h : i < l.length) (v : Int), (l.set i v).sum = l.sum - l[i] + v
  | [], i, h, v => by simp at h
  | x :: l, 0, h, v => by simp; omega
  | x :: l, i + 1, h, v => by
    have := sum_set l i (by simpa using h) v
    simp only [List.set_cons_succ, List.sum_cons, List.getElem_cons_succ]
    omega
theorem rep_zero (k : Nat) : (List.replicate k [V.int 0]).flatten = (List.replicate k (0 : Int)).map V.int := by
  induction k with
  | zero => rfl
  | succ k ih => rw [List.replicate_succ, List.flatten_cons, ih, List.replicate_succ, List.map_cons]; rfl
/-- a row of 1, 0, -1 that comes to nought -/
structure Few (l : List Int) (m : Nat) : Prop where
  len : l.length = m
  s : l.sum = 0
  b : ∀ x ∈ l, -1 ≤ x ∧ x ≤ 1
theorem few_zero (m : Nat) : Few (List.replicate m 0) m := ⟨List.length_replicate, by induction m with | zero => rfl | succ m ih => rw [List.replicate_succ, List.sum_cons, ih]; rfl, fun x hx => by rw [List.eq_of_mem_replicate hx]; omega⟩
theorem few_set {l : List Int} {m i j : Nat} (h : Few l m) (hi : i < m) (hj : j < m) (ne : i ≠ j) (zi : l[i]? = some 0) (zj : l[j]? = some 0) {a b : Int} (e : a + b = 0) (ha : -1 ≤ a ∧ a ≤ 1) : Few ((l.set i a).set j b) m := by
  have hl := h.len
  refine ⟨by rw [List.length_set, List.length_set, hl], ?_, fun x hx => ?_⟩
  · have e1 : l[i]'(by omega) = 0 := (List.getElem?_eq_some_iff.mp zi).2
    have e2 : (l.set i a)[j]'(by rw [List.length_set]; omega) = 0 := by
      rw [List.getElem_set_ne ne]
      exact (List.getElem?_eq_some_iff.mp zj).2
    rw [sum_set _ j (by rw [List.length_set]; omega), sum_set l i (by omega), e1, e2, h.s]
    omega
  · rcases List.mem_or_eq_of_mem_set hx with hx | rfl
    · rcases List.mem_or_eq_of_mem_set hx with hx | rfl
      · exact h.b x hx
      · exact ha
    · omega
theorem few_swap {l : List Int} {m i j : Nat} (h : Few l m) (hi : i < l.length) (hj : j < l.length) : Few ((l.set i l[j]).set j l[i]) m := by
  have p := List.set_set_perm hi hj
  exact ⟨by rw [p.length_eq, h.len], by rw [perm_sum p, h.s], fun x hx => h.b x (p.mem_iff.mp hx)⟩
def spFew (K : PySem.W.Frag) : Sp := fun vs H Q _ => ∃ (p : Addr), vs = [.ref p] ∧ PotAt H p ∧ ∀ Z L rs W ss H', H' Z = some (.lst [.int W, .ref L]) → RowsM K H' L rs ss → (∀ r, V.ref r ∈ rs → H r = none) → H L = none → H Z = none → Z ≠ L → V.ref Z ∉ rs → ss.length ≤ 12 → (names ss).Nodup → (∀ s ∈ ss, Nm0 s.1 ∧ 0 < s.2.2 ∧ Bt 90 s.2.2) → 1 ≤ W → Bt 110 W → Good W ss → SameX p H H' → PotAt H' p → Q (.ref Z) H'
theorem few_sum {un be : Int} (hb : 0 < be) : ∀ row : List Int, ((row.map fun x => lo (x * un) be).map rv).sum = ((row.sum * un : Int) : Rat) / (be : Rat)
  | [] => by simp; grind
  | x :: row => by
    rw [List.map_cons, List.map_cons, List.sum_cons, few_sum hb row, rv_lo hb, List.sum_cons, Int.add_mul]
    rw [cast_add]
    grind
/-- tuple(x) in a comprehension -/
def rTupK (K : PySem.W.Frag) : List V → Hp → VK → Prop := fun xs H Q => ∃ p ys, xs = [.ref p] ∧ ((SqL K H p ys ∧ ∀ l, H l = none → Q (.ref l) (upd H l (.tup ys))) ∨ (SqT K H p ys ∧ Q (.ref p) H))
def spAmongI (K : PySem.W.Frag) : Sp := fun vs H Q _ => ∃ (p l : Addr) (ns : List Int), vs = [.ref p, .ref l] ∧ PotAt H p ∧ l ≠ p ∧ H l = some (.lst (ns.map V.int)) ∧ 0 < ns.length ∧ ns.length ≤ 100 ∧ ∀ n H', n ∈ ns → SameX p H H' → PotAt H' p → Q (.int n) H'
end WS
set_option Elab.async false
set_option linter.all false
set_option maxRecDepth 100000
set_option maxHeartbeats 4000000
namespace WS
open PySem PySem.Spec PyProof.Rows L2
/-! ### data that is numbers, texts, tuples, lists: one just where it is equal -/
mutual
def pln : PyData → Bool
  | .int _ => true
  | .str _ => true
  | .tuple ds => plnAll ds
  | .list ds => plnAll ds
  | _ => false
def plnAll : List PyData → Bool
  | [] => true
  | d :: ds => pln d && plnAll ds
end
mutual
theorem eqv_pln : ∀ (d e : PyData), pln d = true → pln e = true → (PyData.eqv d e = true ↔ d = e)
  | .int i, e, _, k => by cases e <;> simp_all [pln, PyData.eqv]
  | .str i, e, _, k => by cases e <;> simp_all [pln, PyData.eqv]
  | .tuple xs, e, h, k => by
    cases e with
    | tuple ys =>
      have := eqv_plnAll xs ys (by simpa [pln] using h) (by simpa [pln] using k)
      simp only [PyData.eqv]
      rw [this]
      exact ⟨fun e => by rw [e], fun e => by injection e⟩
    | _ => simp_all [pln, PyData.eqv]
  | .list xs, e, h, k => by
    cases e with
    | list ys =>
      have := eqv_plnAll xs ys (by simpa [pln] using h) (by simpa [pln] using k)
      simp only [PyData.eqv]
      rw [this]
      exact ⟨fun e => by rw [e], fun e => by injection e⟩
    | _ => simp_all [pln, PyData.eqv]
  | .none, e, h, k => by simp [pln] at h
  | .bool _, e, h, k => by simp [pln] at h
  | .dict _, e, h, k => by simp [pln] at h
theorem eqv_plnAll : ∀ (d e : List PyData), plnAll d = true → plnAll e = true → (PyData.eqvAll d e = true ↔ d = e)
  | [], [], _, _ => by simp [PyData.eqvAll]
  | [], _ :: _, _, _ => by simp [PyData.eqvAll]
  | _ :: _, [], _, _ => by simp [PyData.eqvAll]
  | x :: xs, y :: ys, h, k => by
    simp only [plnAll, Bool.and_eq_true] at h k
    have h1 := eqv_pln x y h.1 k.1
    have h2 := eqv_plnAll xs ys h.2 k.2
    simp only [PyData.eqvAll, Bool.and_eq_true, h1, h2]
    exact ⟨fun ⟨a, b⟩ => by rw [a, b], fun e => by injection e with a b; exact ⟨a, b⟩⟩
end
theorem plnAll_map {α : Type} {f : α → PyData} (h : ∀ x, pln (f x) = true) : ∀ l : List α, plnAll (l.map f) = true
  | [] => rfl
  | x :: l => by
    show (pln (f x) && plnAll (l.map f)) = true
    rw [h x, plnAll_map h l]
    rfl
theorem eqv_lst {xs ys : List PyData} (h : plnAll xs = true) (k : plnAll ys = true) : PyData.eqv (.list xs) (.list ys) = true ↔ xs = ys :=
  (eqv_pln (.list xs) (.list ys) h k).trans ⟨fun e => by injection e, fun e => by rw [e]⟩
/-! ### a dict comprehension over what is walked -/
theorem dc_it {J : It} {n : Nat} {G : Hp → Prop} {Y : Nat → Hp → V → Hp → Prop} (w : Walk J n G Y) {g : TG} {tt : TT} {tk tv : TE} {vs : List Nat} {σ : L2.St} {H1 : Hp} {D : Addr} {Qd : Hp → Prop} (Pv : Nat → Hp → Prop) (h0 : Pv 0 (upd H1 D (.dK []))) (hG : ∀ i H, i ≤ n → Pv i H → G H)
    (hs : ∀ i x H H', i < n → Pv i H → Y i H x H' → g x (wipe σ vs) H' fun σ2 H2 => wipe σ2 vs = wipe σ vs ∧ tt σ2 H2 fun b H3 =>
      if b = true then tk σ2 H3 fun y H4 => tv σ2 H4 fun z H5 => ∃ kvs k, y = kV k ∧ H5 D = some (.dK kvs) ∧ kvs.length < sizeLine ∧ Pv (i + 1) (upd H5 D (.dK (putK kvs k z))) else Pv (i + 1) H3) (hd : ∀ H, Pv n H → Qd H) :
    ∃ W : Nat → Nat → Hp → Prop, (∃ m, W 0 m (upd H1 D (.dK []))) ∧ ∀ i m H, W i m H →
      (J.stop i H ∧ Qd H) ∨ (J.go i H ∧ ∃ Nx : Hp → Prop, (∀ H', Nx H' → ∃ m', m' < m ∧ W (i + 1) m' H') ∧ ∀ x H', J.yld i H x H' → g x (wipe σ vs) H' fun σ2 H2 => wipe σ2 vs = wipe σ vs ∧ tt σ2 H2 fun b H3 =>
        if b = true then tk σ2 H3 fun y H4 => tv σ2 H4 fun z H5 => ∃ kvs k, y = kV k ∧ H5 D = some (.dK kvs) ∧ kvs.length < sizeLine ∧ Nx (upd H5 D (.dK (putK kvs k z))) else Nx H3) := by
  refine ⟨fun i m H => m = n - i ∧ i ≤ n ∧ Pv i H, ⟨n, by simp, Nat.zero_le _, h0⟩, ?_⟩
  rintro i m H ⟨rfl, hi, p⟩
  have q := hG i H hi p
  by_cases hlt : i < n
  · refine .inr ⟨w.goes i H hlt q, Pv (i + 1), fun H' p' => ⟨n - (i + 1), by omega, rfl, hlt, p'⟩, fun x H' y => hs i x H H' hlt p (w.yields i H x H' hlt q y)⟩
  · have e : i = n := by omega
    subst e
    exact .inl ⟨w.stops H q, hd H p⟩
/-! ### sums ahead, falls, within, with several tables -/
open LamX in
theorem Tabs.lx {TT : List (Addr × Str)} {D : Addr} {H H' : Hp} {xs : List V} (t : Tabs TT H) (s : SameX D H H') (h : H D = some (.lst xs)) : Tabs TT H' := fun q hq => by
  obtain ⟨tp, h1, h2, h3⟩ := t q hq
  refine ⟨tp, s _ _ (fun z => by rw [z, h] at h1; cases h1) h1, h2, fun pos cv hc => ?_⟩
  obtain ⟨c, e1, e2⟩ := h3 pos cv hc
  exact ⟨c, e1, s _ _ (fun z => by rw [z, h] at e2; unfold CodeO at e2; cases e2) e2⟩
def spAheadT (K : PySem.W.Frag) (TT : List (Addr × Str)) : Sp := fun vs H Q _ => ∃ (l : Addr) (ps : List (Int × Int)), vs = [.ref l] ∧ RowAt K H l ps ∧ LamX.Tabs TT H ∧
  ∀ H' p ts ord, LamX.ExtN H H' → LamX.Tabs TT H' → New H p → H' p = some (.lst ts) → Parts K H' ts (sumsP ps ord) → RankedP ps ord → Q (.ref p) H'
def spFallT (K : PySem.W.Frag) (TT : List (Addr × Str)) : Sp := fun vs H Q _ => ∃ (w : Int) (l : Addr) (ps : List (Int × Int)), vs = [.int w, .ref l] ∧ Bt 2000 w ∧ RowAt K H l ps ∧ LamX.Tabs TT H ∧
  ∀ H' ord, LamX.ExtN H H' → LamX.Tabs TT H' → RankedP ps ord → Q (fallV w ps ord) H'
def spWithinT (K : PySem.W.Frag) (TT : List (Addr × Str)) : Sp := fun vs H Q _ => ∃ (w : Int) (l : Addr) (ps : List (Int × Int)), vs = [.int w, .ref l] ∧ Bt 2000 w ∧ RowAt K H l ps ∧ (∀ q ∈ ps, Okp 250 q) ∧ ps.length ≤ 16 ∧ LamX.Tabs TT H ∧
  ∀ H' b, LamX.ExtN H H' → LamX.Tabs TT H' → (b = true ↔ (ps.map rv).sum = 0 ∧ WthF w ps.length (fun j => rv (gp ps j))) → Q (.bl b) H'
theorem fallsAt_no {w : Int} {ps : List (Int × Int)} {ord : List Nat} (hp : ∀ q ∈ ps, 0 < q.2) (k : Nat) : fallsAt w ps ord k = false ↔ sumF (fun j => rv (gp ps j)) (ord.take k) ≤ mostR w ps.length k := by
  have e1 : fallsAt w ps ord k = ltp (mo w ps.length k) (sumK ps ord k) := rfl
  have h2 : 0 < (sumK ps ord k).2 := fold_pos _ _ (by decide) fun q hq => by
    obtain ⟨i, hi, rfl⟩ := List.mem_map.mp hq
    exact gp_pos hp i
  have h1 : 0 < (mo w ps.length k).2 := (lo_lowest (by decide)).1
  rw [e1, ltp_no h1 h2, sumF_gp hp, rv_mo]
  exact Iff.rfl
theorem fallV_wth {w : Int} {ps : List (Int × Int)} {ord : List Nat} (h : RankedP ps ord) (hp : ∀ q ∈ ps, 0 < q.2) : fallV w ps ord = .non ↔ WthF w ps.length (fun j => rv (gp ps j)) := by
  unfold fallV
  cases z : (List.range (ps.length + 1)).find? (fallsAt w ps ord) with
  | none =>
    refine ⟨fun _ => wth_of h.1 (ranked_desc h hp) fun k hk => ?_, fun _ => rfl⟩
    have := List.find?_eq_none.mp z k (List.mem_range.mpr (by omega))
    exact (fallsAt_no hp k).mp (Bool.eq_false_iff.mpr this)
  | some k =>
    refine ⟨fun e => (by cases e), fun f => ?_⟩
    have h1 := List.find?_some z
    have h2 := List.mem_range.mp (List.mem_of_find?_eq_some z)
    have nd : ord.Nodup := h.1.nodup_iff.mpr List.nodup_range
    have := f (ord.take k) (nd.sublist (List.take_sublist _ _)) fun i hi => h.lt.2 i (List.mem_of_mem_take hi)
    rw [List.length_take, h.lt.1, Nat.min_eq_left (by omega)] at this
    rw [(fallsAt_no hp k).mpr this] at h1
    cases h1
theorem nought_iff {ps : List (Int × Int)} (hp : ∀ q ∈ ps, 0 < q.2) : ps.foldl pl (0, 1) = (0, 1) ↔ (ps.map rv).sum = 0 := by
  have e : rv (ps.foldl pl (0, 1)) = (ps.map rv).sum := by rw [rv_fold _ _ (by decide) hp, rv_nought, Rat.zero_add]
  constructor
  · intro h
    rw [← e, h, rv_nought]
  · intro h
    exact rv_inj (fold_low _ hp) ⟨by decide, by decide⟩ (by rw [e, h, rv_nought])
theorem New.extN {H H1 : Hp} {p : Addr} (e : LamX.ExtN H H1) (n : H1 p = none) : New H p := fun o z => by
  by_cases ht : ∃ ps, o = .tbl ps
  · exact ht
  · exact absurd (e _ _ z (fun tp e => ht ⟨tp, e⟩)) (by rw [n]; simp)
theorem New.same {H H1 : Hp} {p : Addr} (e : Same H H1) (n : New H1 p) : New H p := fun o z => n o (e _ _ z)
theorem New.ext {H H1 : Hp} {p : Addr} (e : LamX.ExtN H H1) (n : New H1 p) : New H p := fun o z => by
  by_cases ht : ∃ ps, o = .tbl ps
  · exact ht
  · exact n o (e _ _ z (fun tp e => ht ⟨tp, e⟩))
end WS
set_option Elab.async false
set_option linter.all false
set_option maxRecDepth 100000
set_option maxHeartbeats 4000000
namespace WS
open PySem PySem.Spec PyProof.Rows L2
/-! ### papers -/
abbrev PRow := Int × (Int × Int) × (Int × Int) × (Int × Int)
def prD (r : PRow) : PyData := .tuple [.int r.1, pdP r.2.1, pdP r.2.2.1, pdP r.2.2.2]
def paperR (W : Int) (ps : List (Int × Int)) (ord : List Nat) : List PRow := (List.range ps.length).map fun k => (((ord.getD k 0 : Nat) : Int), gp ps (ord.getD k 0), sumK ps ord (k + 1), mo W ps.length ((k + 1 : Nat) : Int))
def prLow (r : PRow) : Prop := Lowest r.2.1.1 r.2.1.2 ∧ Lowest r.2.2.1.1 r.2.2.1.2 ∧ Lowest r.2.2.2.1 r.2.2.2.2
theorem pr_imm (rs : List PRow) : immAll (rs.map prD) = true := immAll_map (fun _ => rfl) rs
theorem pr_pln (rs : List PRow) : plnAll (rs.map prD) = true := plnAll_map (fun _ => rfl) rs
theorem prD_inj {r t : PRow} (h : prD r = prD t) : r = t := by
  obtain ⟨a, ⟨b1, b2⟩, ⟨c1, c2⟩, ⟨d1, d2⟩⟩ := r
  obtain ⟨a', ⟨b1', b2'⟩, ⟨c1', c2'⟩, ⟨d1', d2'⟩⟩ := t
  unfold prD pdP pd at h
  simp only [PyData.tuple.injEq, List.cons.injEq, PyData.int.injEq, and_true] at h
  obtain ⟨rfl, ⟨rfl, rfl⟩, ⟨rfl, rfl⟩, ⟨rfl, rfl⟩⟩ := h
  rfl
theorem map_inj {α β : Type} {f : α → β} (h : ∀ a b, f a = f b → a = b) : ∀ {xs ys : List α}, xs.map f = ys.map f → xs = ys
  | [], [], _ => rfl
  | [], _ :: _, e => by simp at e
  | _ :: _, [], e => by simp at e
  | x :: xs, y :: ys, e => by
    simp only [List.map_cons, List.cons.injEq] at e
    rw [h x y e.1, map_inj h e.2]
theorem eqv_pr (xs ys : List PRow) : PyData.eqv (.list (xs.map prD)) (.list (ys.map prD)) = true ↔ xs = ys :=
  (eqv_lst (pr_pln xs) (pr_pln ys)).trans ⟨fun e => map_inj (fun _ _ => prD_inj) e, fun e => by rw [e]⟩
theorem pr_lay : ∀ rs : List PRow, PyData.canLayAll0 (rs.map prD) = true ∧ PyData.depthAll (rs.map prD) ≤ 8
  | [] => ⟨by simp [PyData.canLayAll0], by simp [PyData.depthAll]⟩
  | n :: ns => by
    obtain ⟨a, b⟩ := pr_lay ns
    refine ⟨by simp [PyData.canLayAll0, PyData.canLay0, prD, pdP, pd, a], ?_⟩
    simp only [List.map_cons, PyData.depthAll, PyData.depth, prD, pdP, pd]
    omega
theorem pr_shaped (rs : List PRow) : SeqAt.shaped (.list (rs.map prD)) = true := by
  obtain ⟨a, b⟩ := pr_lay rs
  unfold SeqAt.shaped
  rw [show (PyData.list (rs.map prD)).canLay0 = true from by simp only [PyData.canLay0]; exact a, show (PyData.list (rs.map prD)).depth = PyData.depthAll (rs.map prD) + 1 from by simp only [PyData.depth], Bool.true_and, decide_eq_true_eq]
  omega
theorem eqv_ints (xs ys : List Int) : PyData.eqv (.list (xs.map PyData.int)) (.list (ys.map PyData.int)) = true ↔ xs = ys :=
  (eqv_lst (plnAll_map (fun _ => rfl) xs) (plnAll_map (fun _ => rfl) ys)).trans ⟨fun e => map_inj (fun _ _ => PyData.int.inj) e, fun e => by rw [e]⟩
theorem dp4 {K : PySem.W.Frag} {H : Hp} {v : V} {d e f g : PyData} (h : Dp K H v (.tuple [d, e, f, g])) : ∃ t x y z w, v = .ref t ∧ SqT K H t [x, y, z, w] ∧ Dp K H x d ∧ Dp K H y e ∧ Dp K H z f ∧ Dp K H w g := by
  obtain ⟨t, vs, rfl, h0, h1⟩ := dp_tup h
  cases h1 with
  | cons a b => cases b with
    | cons c d => cases d with
      | cons e f => cases f with
        | cons g h => cases h; exact ⟨t, _, _, _, _, rfl, h0, a, c, e, g⟩
theorem pr_get {K : PySem.W.Frag} {H : Hp} {v : V} {r : PRow} (h : Dp K H v (prD r)) : ∃ t y z w, v = .ref t ∧ SqT K H t [.int r.1, y, z, w] ∧ Dp K H y (pdP r.2.1) ∧ Dp K H z (pdP r.2.2.1) ∧ Dp K H w (pdP r.2.2.2) := by
  obtain ⟨t, x, y, z, w, rfl, h0, hx, h1, h2, h3⟩ := dp4 h
  rw [dp_int hx] at h0
  exact ⟨t, y, z, w, rfl, h0, h1, h2, h3⟩
theorem pr_mk {K : PySem.W.Frag} {H : Hp} {t : Addr} {y z w : V} {r : PRow} (h : SqT K H t [.int r.1, y, z, w]) (h1 : Dp K H y (pdP r.2.1)) (h2 : Dp K H z (pdP r.2.2.1)) (h3 : Dp K H w (pdP r.2.2.2)) : Dp K H (.ref t) (prD r) := .tup h (.cons (.int _) (.cons h1 (.cons h2 (.cons h3 .nil))))
theorem paperR_len (W : Int) (ps : List (Int × Int)) (ord : List Nat) : (paperR W ps ord).length = ps.length := by
  unfold paperR
  rw [List.length_map, List.length_range]
theorem paperR_at {W : Int} {ps : List (Int × Int)} {ord : List Nat} {k : Nat} (h : k < ps.length) : (paperR W ps ord)[k]? = some (((ord.getD k 0 : Nat) : Int), gp ps (ord.getD k 0), sumK ps ord (k + 1), mo W ps.length ((k + 1 : Nat) : Int)) := by
  unfold paperR
  rw [List.getElem?_map, List.getElem?_range h]
  rfl
theorem paperR_fst {W : Int} {ps : List (Int × Int)} {ord : List Nat} (h : ord.length = ps.length) : (paperR W ps ord).map (·.1) = ord.map fun j : Nat => (j : Int) := by
  unfold paperR
  rw [List.map_map, ← h]
  conv => rhs; rw [← range_getD ord 0]
  rw [List.map_map]
  rfl
theorem sumK_low {ps : List (Int × Int)} {ord : List Nat} (hp : ∀ q ∈ ps, 0 < q.2) (k : Nat) : Lowest (sumK ps ord k).1 (sumK ps ord k).2 := fold_low _ fun q hq => by
  obtain ⟨i, hi, rfl⟩ := List.mem_map.mp hq
  exact gp_pos hp i
theorem gp_low {ps : List (Int × Int)} (h : ∀ q ∈ ps, Lowest q.1 q.2) (i : Nat) : Lowest (gp ps i).1 (gp ps i).2 := by
  rcases Nat.lt_or_ge i ps.length with hi | hi
  · exact h _ (gp_mem hi)
  · unfold gp
    rw [List.getD_eq_getElem?_getD, List.getElem?_eq_none hi]
    exact ⟨by decide, by decide⟩
theorem paperR_low {W : Int} {ps : List (Int × Int)} {ord : List Nat} (h : ∀ q ∈ ps, Lowest q.1 q.2) : ∀ r ∈ paperR W ps ord, prLow r := fun r hr => by
  obtain ⟨k, _, rfl⟩ := List.mem_map.mp hr
  exact ⟨gp_low h _, sumK_low (fun q hq => (h q hq).1) _, lo_lowest (by decide)⟩
theorem sumK_ok2 {ps : List (Int × Int)} {ord : List Nat} (rk : RankedP ps ord) (h : ∀ q ∈ ps, Ok2 300 100 q) (hl : ps.length ≤ 15) (k : Nat) : Ok2 1900 1900 (sumK ps ord k) := by
  have z0 : Ok2 (300 + 0 * (100 + 1) + 1) (0 * 100 + 1) ((0, 1) : Int × Int) := ⟨by decide, by unfold Bt; decide +kernel, by unfold Bt; decide +kernel⟩
  have := Ok2.fold (N := 300) (D := 100) ((ord.take k).map (gp ps)) (0, 1) 0 z0 fun q hq => by
    obtain ⟨i, hi, rfl⟩ := List.mem_map.mp hq
    exact h _ (gp_mem (rk.lt.2 i (List.mem_of_mem_take hi)))
  have l : ((ord.take k).map (gp ps)).length ≤ 15 := by
    rw [List.length_map, List.length_take, rk.lt.1]
    omega
  exact this.mono (by omega) (by omega)
theorem paperR_sh {W : Int} {ps : List (Int × Int)} {ord : List Nat} (rk : RankedP ps ord) (h : ∀ q ∈ ps, Ok2 300 100 q) (hl : ps.length ≤ 15) (bW : Bt 1500 W) : Sh 1000000 60 (.list ((paperR W ps ord).map prD)) := by
  refine (Sh.lst (n := 60000) (k := 5) (m := 15) (fun d hd => ?_) (by rw [List.length_map, paperR_len]; exact hl)).mono (by omega) (by omega)
  obtain ⟨r, hr, rfl⟩ := List.mem_map.mp hd
  obtain ⟨k, hk, rfl⟩ := List.mem_map.mp hr
  have hk := List.mem_range.mp hk
  have two : ∀ (p : Int × Int), Ok2 1900 1900 p → Sh 10000 4 (pdP p) := fun p hp => (Sh.pd (m := 1900) (by decide) (by decide) hp.2.1 hp.2.2).mono (by omega) (by omega)
  have o1 : Ok2 300 100 (gp ps (ord.getD k 0)) := by
    rcases Nat.lt_or_ge (ord.getD k 0) ps.length with hi | hi
    · exact h _ (gp_mem hi)
    · unfold gp
      rw [List.getD_eq_getElem?_getD, List.getElem?_eq_none hi]
      exact ⟨by decide, by unfold Bt; decide +kernel, by unfold Bt; decide +kernel⟩
  have o2 := sumK_ok2 rk h hl (k + 1)
  have o3 : Ok2 1900 1900 (mo W ps.length ((k + 1 : Nat) : Int)) := by
    have bk : Bt 10 (((k + 1 : Nat) : Int)) := Bt.of_lt (by omega) (by omega)
    have bn : Bt 10 (((ps.length : Nat) : Int) - ((k + 1 : Nat) : Int)) := Bt.of_lt (by omega) (by omega)
    exact ok2_lo (by decide) (((bW.mul bk).mul bn).mono (by decide)) (by unfold Bt; exact Nat.lt_of_lt_of_le (by decide : (2 : Int).natAbs < 2 ^ 2) (Nat.pow_le_pow_right (by decide) (by decide)))
  have ox : Bt 10 (((ord.getD k 0 : Nat) : Int)) := by
    have : ord.getD k 0 < 20 := by
      rw [List.getD_eq_getElem?_getD]
      cases z : ord[k]? with
      | none => decide
      | some i =>
        have := rk.lt.2 i (List.mem_of_getElem? z)
        show i < 20
        omega
    exact Bt.of_lt (by omega) (by omega)
  refine (Sh.tup (n := 10000) (k := 4) (m := 4) (ds := [.int ((ord.getD k 0 : Nat) : Int), pdP (gp ps (ord.getD k 0)), pdP (sumK ps ord (k + 1)), pdP (mo W ps.length ((k + 1 : Nat) : Int))]) (fun d hd => ?_) (Nat.le_refl 4)).mono (by omega) (by omega)
  simp only [List.mem_cons, List.not_mem_nil, or_false] at hd
  rcases hd with rfl | rfl | rfl | rfl
  · exact (Sh.int (m := 10) (by decide) (by decide) ox).mono (by omega) (by omega)
  · exact two _ (o1.mono (by decide) (by decide))
  · exact two _ o2
  · exact two _ o3
/-- two weights make one paper just where there is no most between -/
theorem paper_few {W w : Int} {ps : List (Int × Int)} {ord : List Nat} (hw : W < w) : paperR W ps ord = paperR w ps ord ↔ ps.length < 2 := by
  constructor
  · intro e
    refine Decidable.byContradiction fun n => ?_
    have h0 : 0 < ps.length := by omega
    have := congrArg (fun l : List PRow => l[0]?) e
    simp only [paperR_at h0, Option.some.injEq, Prod.mk.injEq, true_and] at this
    have h1 : mo W ps.length ((0 + 1 : Nat) : Int) = mo w ps.length ((0 + 1 : Nat) : Int) := this
    have h2 := congrArg rv h1
    rw [rv_mo, rv_mo] at h2
    have a : ((W : Int) : Rat) < w := cast_lt.mpr hw
    have hn : (0 : Rat) < (((ps.length : Nat) : Int) : Rat) - (((0 + 1 : Nat) : Int) : Rat) := by
      rw [← cast_sub]
      exact cast_pos (by omega)
    have e1 : (((0 + 1 : Nat) : Int) : Rat) = 1 := rfl
    rw [e1] at h2 hn
    generalize (((ps.length : Nat) : Int) : Rat) - 1 = x at *
    have := Rat.mul_lt_mul_of_pos_right a hn
    grind
  · intro h
    unfold paperR
    refine List.map_congr_left fun k hk => ?_
    have hk := List.mem_range.mp hk
    have hl : ps.length = 1 := by omega
    have hk0 : k = 0 := by omega
    subst hk0
    rw [hl]
    simp only [Prod.mk.injEq, true_and]
    show mo W 1 1 = mo w 1 1
    unfold mo
    simp
/-! ### dicts whose keys are unlike -/
theorem putK_new {kvs : List (Key × V)} {k : Key} {v : V} (h : k ∉ kvs.map (·.1)) : putK kvs k v = kvs ++ [(k, v)] := by
  unfold putK
  rw [if_neg]
  intro z
  rw [List.any_eq_true] at z
  obtain ⟨x, hx, e⟩ := z
  exact h (by rw [← of_decide_eq_true e]; exact List.mem_map_of_mem hx)
theorem valV_new {kvs : List (Key × V)} {k : Key} (h : k ∉ kvs.map (·.1)) : valV kvs k = none := by
  unfold valV
  rw [List.find?_eq_none.mpr]
  · rfl
  · intro x hx z
    exact h (by rw [← of_decide_eq_true z]; exact List.mem_map_of_mem hx)
/-! ### promises -/
def spRowsOf (K : PySem.W.Frag) (TT : List (Addr × Str)) : Sp := fun vs H Q _ => ∃ (w : Int) (l : Addr) (ps : List (Int × Int)), vs = [.int w, .ref l] ∧ Bt 2000 w ∧ RowAt K H l ps ∧ ps.length ≤ 100 ∧ LamX.Tabs TT H ∧
  ∀ H' D us ord, LamX.ExtN H H' → LamX.Tabs TT H' → New H D → H' D = some (.lst us) → DpAll K H' us ((paperR w ps ord).map prD) → RankedP ps ord → Q (.ref D) H'
def spPaperOf (K : PySem.W.Frag) (TT : List (Addr × Str)) : Sp := fun vs H Q _ => ∃ (v : V) (W : Int) (ss : List Seat), vs = [v] ∧ Dp K H v (momD W ss) ∧ ss.length ≤ 15 ∧ (∀ s ∈ ss, Okp 250 s.2) ∧ Bt 2000 W ∧ LamX.Tabs TT H ∧
  ∀ H' D us ord, LamX.ExtN H H' → LamX.Tabs TT H' → New H D → H' D = some (.lst us) → DpAll K H' us ((paperR W (ss.map Prod.snd) ord).map prD) → RankedP (ss.map Prod.snd) ord → Q (.ref D) H'
def spPaperRow (K : PySem.W.Frag) : Sp := fun vs H Q _ => ∃ (v : V) (r : PRow), vs = [v] ∧ Dp K H v (prD r) ∧ prLow r ∧ ∀ H', Same H H' → Q (.bl true) H'
def spPaperHolds (K : PySem.W.Frag) (TT : List (Addr × Str)) : Sp := fun vs H Q _ => ∃ (w : Int) (D : Addr) (us : List V) (rows : List PRow), vs = [.int w, .ref D] ∧ H D = some (.lst us) ∧ DpAll K H us (rows.map prD) ∧ (∀ r ∈ rows, prLow r) ∧ rows.length ≤ 16 ∧ (rows.map (·.1)).Nodup ∧ Bt 2000 w ∧ LamX.Tabs TT H ∧
  (((∃ x ∈ rows.map (·.1), x < 0) ∧ ∀ H', LamX.ExtN H H' → LamX.Tabs TT H' → Q (.bl false) H') ∨
   ∃ W ps ord, rows = paperR W ps ord ∧ RankedP ps ord ∧ (∀ q ∈ ps, Okp 250 q) ∧ ps.length ≤ 15 ∧ ∀ H' b, LamX.ExtN H H' → LamX.Tabs TT H' → (b = true ↔ paperR W ps ord = paperR w ps ord ∧ (ps.map rv).sum = 0 ∧ WthF w ps.length (fun j => rv (gp ps j))) → Q (.bl b) H')
def spIsPaper (K : PySem.W.Frag) (TT : List (Addr × Str)) : Sp := fun vs H Q _ => ∃ (v : V) (W : Int) (ss : List Seat) (D : Addr) (us : List V) (ps : List (Int × Int)) (ord : List Nat), vs = [v, .ref D] ∧ Dp K H v (momD W ss) ∧ ss.length ≤ 15 ∧ (∀ s ∈ ss, Okp 250 s.2) ∧ Bt 2000 W ∧ H D = some (.lst us) ∧ DpAll K H us ((paperR W ps ord).map prD) ∧ RankedP ps ord ∧ (∀ q ∈ ps, Okp 250 q ∧ Lowest q.1 q.2) ∧ ps.length ≤ 15 ∧ (ps.map rv).sum = 0 ∧ WthF W ps.length (fun j => rv (gp ps j)) ∧ LamX.Tabs TT H ∧
  ∀ H' b, LamX.ExtN H H' → LamX.Tabs TT H' → (∀ ord2, RankedP (ss.map Prod.snd) ord2 → (b = true ↔ paperR W ps ord = paperR W (ss.map Prod.snd) ord2)) → Q (.bl b) H'
def spPaperL (K : PySem.W.Frag) : Sp := fun vs H Q _ => ∃ (v : V) (W : Int) (ss : List Seat), vs = [v] ∧ Dp K H v (momD W ss) ∧ ss.length ≤ 15 ∧ (∀ s ∈ ss, Ok2 300 100 s.2) ∧ Bt 2000 W ∧
  ∀ H' D us ord, Same H H' → H D = none → H' D = some (.lst us) → DpAll K H' us ((paperR W (ss.map Prod.snd) ord).map prD) → RankedP (ss.map Prod.snd) ord → Q (.ref D) H'
/-- a moment whose paper can be looked at -/
structure PMom (W : Int) (ss : List Seat) : Prop where
  l : ss.length ≤ 15
  w : 1 ≤ W
  b : Bt 1500 W
  ok : ∀ s ∈ ss, Ok2 240 100 s.2 ∧ Lowest s.2.1 s.2.2
  g : Good W ss
def spPaperRight (K : PySem.W.Frag) (TT : List (Addr × Str)) : Sp := fun vs H Q _ => ∃ (v : V) (W : Int) (ss : List Seat), vs = [v] ∧ Dp K H v (momD W ss) ∧ PMom W ss ∧ LamX.Tabs TT H ∧ ∀ H', LamX.ExtN H H' → LamX.Tabs TT H' → Q (.bl true) H'
def spBehindL (K : PySem.W.Frag) (TT : List (Addr × Str)) : Sp := fun vs H Q _ => ∃ (p : Addr) (v : V) (W : Int) (ss : List Seat), vs = [.ref p, v] ∧ PotAt H p ∧ Dp K H v (momD W ss) ∧ ss.length ≤ 12 ∧ (names ss).Nodup ∧ 1 ≤ W ∧ Bt 110 W ∧ (∀ s ∈ ss, Lowest s.2.1 s.2.2 ∧ Okq 190 90 s.2) ∧ (∀ s ∈ ss, Nm0 s.1) ∧ Good W ss ∧ LamX.Tabs TT H ∧
  ∀ H' v' ss', ExtX p H H' → PotAt H' p → LamX.Tabs TT H' → Dp K H' v (momD W ss) → Dp K H' v' (momD W ss') → PMom W ss' → Q v' H'
theorem setRow_low {ss : List Seat} {ps : List (Int × Int)} (h : ∀ q ∈ ps, Lowest q.1 q.2) : ∀ s ∈ setRow ss ps, Lowest s.2.1 s.2.2 := fun s hs => by
  obtain ⟨x, hx, rfl⟩ := List.mem_map.mp hs
  exact h _ (List.of_mem_zip hx).2
theorem behS_low {ss : List Seat} {zs os : List Str} {dn : List Int} (h : ∀ s ∈ ss, Lowest s.2.1 s.2.2) (hz : 0 < zs.length) : ∀ s ∈ behS ss zs os dn, Lowest s.2.1 s.2.2 := by
  refine setRow_low fun q hq => ?_
  obtain ⟨j, hj, rfl⟩ := List.mem_map.mp hq
  have hg : ∀ i, Lowest (gp (ss.map Prod.snd) i).1 (gp (ss.map Prod.snd) i).2 := gp_low fun q hq => by obtain ⟨s, hs, rfl⟩ := List.mem_map.mp hq; exact h s hs
  have hF : ∀ j, Lowest (rowF (ss.map Prod.snd) (zs.map (idx ss)) (lo (((byS ss os dn).map Prod.snd).sum) ((zs.map (idx ss)).length : Nat)) j).1 (rowF (ss.map Prod.snd) (zs.map (idx ss)) (lo (((byS ss os dn).map Prod.snd).sum) ((zs.map (idx ss)).length : Nat)) j).2 := fun j => by
    unfold rowF
    split
    · exact lo_lowest (Int.mul_pos (hg j).1 (lo_lowest (by rw [List.length_map]; omega)).1)
    · exact hg j
  unfold rowG
  split
  · exact lo_lowest (Int.mul_pos (hF j).1 (lo_lowest (by decide)).1)
  · exact hF j
theorem Good.up {W W' : Int} {ss : List Seat} (g : Good W ss) (h : W ≤ W') : Good W' ss := ⟨g.w.up (cast_le.mpr h), g.z⟩
theorem good_sum {W : Int} {ss : List Seat} (g : Good W ss) : ((ss.map Prod.snd).map rv).sum = 0 := by
  rw [← sum_range_gp, List.length_map, ← g.z]
  unfold sumF
  congr 1
  exact List.map_congr_left fun i hi => ow_gp rfl i (List.mem_range.mp hi)
theorem bool_sh (b : Bool) : (PyData.bool b).showable = true ∧ (PyData.bool b).hasDict = false ∧ (PyData.bool b).depth ≤ 60 ∧ (PyData.bool b).shown.length ≤ sizeLine := by
  cases b <;> exact ⟨rfl, rfl, by simp [PyData.depth], by decide +kernel⟩
theorem paperR_nd {W : Int} {ps : List (Int × Int)} {ord : List Nat} (rk : RankedP ps ord) : ((paperR W ps ord).map (·.1)).Nodup := by
  rw [paperR_fst rk.lt.1]
  exact map_nodup (rk.1.nodup_iff.mpr List.nodup_range) fun a _ b _ e => by omega
theorem PMom.ok250 {W : Int} {ss : List Seat} (h : PMom W ss) : ∀ s ∈ ss, Okp 250 s.2 := fun s hs => ⟨(h.ok s hs).1.1, (h.ok s hs).1.2.1.mono (by decide), (h.ok s hs).1.2.2.mono (by decide)⟩
theorem PMom.ok3 {W : Int} {ss : List Seat} (h : PMom W ss) : ∀ s ∈ ss, Ok2 300 100 s.2 := fun s hs => (h.ok s hs).1.mono (by decide) (by decide)
theorem PMom.row {W : Int} {ss : List Seat} (h : PMom W ss) : ∀ q ∈ ss.map Prod.snd, Okp 250 q ∧ Lowest q.1 q.2 := fun q hq => by
  obtain ⟨s, hs, rfl⟩ := List.mem_map.mp hq
  exact ⟨h.ok250 s hs, (h.ok s hs).2⟩
theorem PMom.row3 {W : Int} {ss : List Seat} (h : PMom W ss) : ∀ q ∈ ss.map Prod.snd, Ok2 300 100 q := fun q hq => by
  obtain ⟨s, hs, rfl⟩ := List.mem_map.mp hq
  exact h.ok3 s hs
theorem PMom.l15 {W : Int} {ss : List Seat} (h : PMom W ss) : (ss.map Prod.snd).length ≤ 15 := by rw [List.length_map]; exact h.l
theorem PMom.w20 {W : Int} {ss : List Seat} (h : PMom W ss) : Bt 2000 W := h.b.mono (by decide)
end WS
set_option Elab.async false
set_option linter.all false
set_option maxRecDepth 100000
set_option maxHeartbeats 4000000
namespace WS
open PySem PySem.Spec PyProof.Rows L2
/-! ### sorted(x), x a list or a tuple of alike data -/
open PySem.W in
theorem sorted_seqD {prog : Program} {w : World} {A : Around} {E : Value → Shared → Prop} {s : Shared} {r : Addr} {T : String} {o : Obj} {n : Nat} {ts : List Value} {bs : List (V × PyData)} {Q : Value → Shared → Prop} (hT : T = "list" ∨ T = "tuple") (ho : s.heap.get? r = some o) (hc : o.cls = .type T) (hd : o.data = .seq ts.toArray n) (hZ : ts.length ≤ sizeLine) (hu : A.units + 64 < cLine) (ea : EachIs (fun (v : Value) (b : V × PyData) => RelV b.1 v) ts bs) (er : EachIs (fun (v : Value) (b : V × PyData) => ∃ as, Reads s.heap v b.2 as) ts bs) (hal : AllAlike (bs.map Prod.snd)) (hk : Sortable (bs.map Prod.snd)) (hdep : ∀ b ∈ bs, b.2.depth ≤ 60)
    (h : ∀ (a : Addr) (h' : Heap) (out : List Value) (c : Nat), (∀ b o, s.heap.get? b = some o → h'.get? b = some o) → s.heap.get? a = none → h'.get? a = some (seqObj "list" out.toArray c) → EachIs (fun (v : Value) (b : V × PyData) => RelV b.1 v) out (bs.mergeSort (dataLe false Prod.snd)) → Q (.ref a) { s with heap := h' }) :
    wpAny (model prog w) A (call (.builtin "sorted") [.ref r]) Q E s := by
  refine Calls.call_function_entry kind_sorted plain_sorted entry_sorted (args_sorted1 _) ?_
  unfold Builtin.«sorted»
  refine wpAny_bind (m := checkCount "sorted" 1 1 _) (wpAny_pure ?_)
  refine wpAny_bind (wpAny_collect_seq (hsz := by rw [List.size_toArray]; exact hZ) r hT ho hc hd fun h1 kp1 => ?_)
  have el : ts.toArray.toList = ts := by simp
  rw [el]
  refine wpAny_bind (wpAny_newList ?_ hZ)
  have hL : (h1.push (seqObj "list" ts.toArray 0)).get? h1.objs.size = some (seqObj "list" ts.toArray 0) := Heap.get?_push_size _ rfl
  have ge : s.heap.get? h1.objs.size = none := by
    cases z : s.heap.get? h1.objs.size with
    | none => rfl
    | some o => exact absurd (Heap.lt_size (kp1 _ _ z)) (Nat.lt_irrefl _)
  have er2 : EachIs (fun v (b : V × PyData) => ∃ as, Reads (h1.push (seqObj "list" ts.toArray 0)) v b.2 as ∧ h1.objs.size ∉ as) ts bs := er.mono fun v b ⟨as, rd⟩ => by
    refine ⟨as, PyProof.Rows.Reads.keeps (fun b o e => Heap.get?_push_of_some _ (kp1 b o e)) rd, fun hm => ?_⟩
    obtain ⟨o, e⟩ := PyProof.On.reads_mem_get rd _ hm
    rw [ge] at e
    cases e
  refine wpAny_bind (wpAny_holding (list_sort_data (A := A.in1) (s := { s with heap := h1.push (seqObj "list" ts.toArray 0) }) (enc := fun b : V × PyData => b.2) (R := fun (v : Value) (b : V × PyData) => RelV b.1 v) hL ea er2 hal hk (by rw [← ea.length]; exact hZ) (fun b hb => ?_) fun out hl eo => ?_))
  · have := hdep b hb
    show A.units + 1 + 1 + PyData.depth b.2 < cLine
    omega
  · obtain ⟨e, ho'⟩ := sortedHeap_at hL (out := out.toArray)
    exact wpAny_pure ⟨_, rfl, h h1.objs.size _ out e (fun b o eb => (sortedHeap_old (Nat.ne_of_lt (Heap.lt_size (kp1 b o eb))) (Heap.lt_size (Heap.get?_push_of_some _ (kp1 b o eb)))).trans (Heap.get?_push_of_some _ (kp1 b o eb))) ge ho' eo⟩
theorem each_rel : ∀ {bs : List (V × PyData)} {us : List Value}, Vals (bs.map Prod.fst) us → PySem.W.EachIs (fun (v : Value) (b : V × PyData) => RelV b.1 v) us bs
  | [], _, h => by cases h; exact .nil
  | b :: bs, _, h => by
    cases h with
    | cons r t => exact .cons r (each_rel t)
theorem vals_rel : ∀ {out : List Value} {bs : List (V × PyData)}, PySem.W.EachIs (fun (v : Value) (b : V × PyData) => RelV b.1 v) out bs → Vals (bs.map Prod.fst) out
  | _, _, .nil => .nil
  | _, _, .cons r t => .cons r (vals_rel t)
theorem each_reads {h : Heap} : ∀ {bs : List (V × PyData)} {us : List Value} {as : List Addr}, ReadsAll h us (bs.map Prod.snd) as → PySem.W.EachIs (fun (v : Value) (b : V × PyData) => ∃ as, Reads h v b.2 as) us bs
  | [], _, _, h => by cases h; exact .nil
  | b :: bs, _, _, h => by
    cases h with
    | cons r t => exact .cons ⟨_, r⟩ (each_reads t)
def rSortedD (K : PySem.W.Frag) : List V → Hp → VK → Prop := fun vs H Q => ∃ (a : Addr) (bs : List (V × PyData)), vs = [V.ref a] ∧ (SqL K H a (bs.map Prod.fst) ∨ SqT K H a (bs.map Prod.fst)) ∧ DpAll K H (bs.map Prod.fst) (bs.map Prod.snd) ∧ PySem.W.AllAlike (bs.map Prod.snd) ∧ PySem.W.Sortable (bs.map Prod.snd) ∧ (∀ b ∈ bs, b.2.depth ≤ 60) ∧ ∀ (p : Addr), H p = none → Q (.ref p) (upd H p (.lst ((bs.mergeSort (PySem.W.dataLe false Prod.snd)).map Prod.fst)))
theorem cr_sortedD {X : Cx} (hu : X.A.units + 64 < cLine) : CallR X (.builtin "sorted") (rSortedD X.K) := by
  intro pins s σ H vs us Q I r h
  obtain ⟨a, bs, rfl, hs, hd, hal, hk, hdep, q⟩ := h
  obtain rfl := Vals.ref1 r
  have fin : ∀ {its : List Value}, Vals (bs.map Prod.fst) its → (bs.map Prod.fst).length ≤ sizeLine → ∀ (a : Addr) (h' : Heap) (out : List Value) (c : Nat), (∀ b o, s.heap.get? b = some o → h'.get? b = some o) → s.heap.get? a = none → h'.get? a = some (seqObj "list" out.toArray c) → PySem.W.EachIs (fun (v : Value) (b : V × PyData) => RelV b.1 v) out (bs.mergeSort (PySem.W.dataLe false Prod.snd)) → ∃ x H', Inv X pins σ H' { s with heap := h' } ∧ RelV x (.ref a) ∧ Q x H' := fun {its} rv hz p h' out c kp ge hp eo => by
    have nH : H p = none := by
      cases z : H p with
      | none => rfl
      | some o =>
        obtain ⟨u, e⟩ := obj_there (I.hok p o z)
        rw [ge] at e
        cases e
    refine ⟨.ref p, _, Inv.laidN (t' := s.toks) (o := .lst ((bs.mergeSort (PySem.W.dataLe false Prod.snd)).map Prod.fst)) I kp ge nH ⟨?_, out, c, vals_rel eo, hp⟩, rfl, q p nH⟩
    rw [List.length_map, (List.mergeSort_perm _ _).length_eq]
    rw [List.length_map] at hz
    exact hz
  rcases hs with hs | hs
  · obtain ⟨its, rv, pl, hz⟩ := I.list hs
    obtain ⟨as, ra⟩ := Dp.readsAll I _ _ its hd rv
    obtain ⟨o, ho, hc, n, hd'⟩ := pl.isList
    exact sorted_seqD (A := X.A) (.inl rfl) ho hc hd' (by rw [← rv.length]; exact hz) hu (each_rel rv) (each_reads ra) hal hk hdep (fin rv hz)
  · obtain ⟨its, rv, pl, hz⟩ := I.tuple hs
    obtain ⟨as, ra⟩ := Dp.readsAll I _ _ its hd rv
    obtain ⟨o, ho, hc, n, hd'⟩ := pl
    exact sorted_seqD (A := X.A) (.inr rfl) ho hc hd' (by rw [← rv.length]; exact hz) hu (each_rel rv) (each_reads ra) hal hk hdep (fin rv hz)
/-! sorted data is one -/
open PySem.W in
theorem lt_eqv {x y : PyData} (h : alike x y = true) (h1 : dataLt x y = false) (h2 : dataLt y x = false) : PyData.eqv x y = true := by
  have e : keyToks x = keyToks y := lex_total (O := itemOrd) _ _ h1 h2
  cases z : PyData.eqv x y with
  | true => rfl
  | false =>
    have := (toks_eqv x y h).2 z [.inl 0] [.inl 1]
    rw [e, lex_pre, lex_irrefl (O := itemOrd)] at this
    exact absurd this (by decide)
open PySem.W in
theorem dataLe_snd {α : Type} (k : α → PyData) (a b : α) : dataLe false k a b = !dataLt (k b) (k a) := rfl
open PySem.W in
theorem sort_snd (bs : List (V × PyData)) : ((bs.mergeSort (dataLe false Prod.snd)).map Prod.snd) = (bs.map Prod.snd).mergeSort (dataLe false id) :=
  List.map_mergeSort fun a _ b _ => rfl
open PySem.W in
theorem sort_one {ds es : List PyData} (hp : ds.Perm es) (hal : AllAlike ds) (hpl : plnAll ds = true) : ds.mergeSort (dataLe false id) = es.mergeSort (dataLe false id) := by
  have tot := sortLe_total (listOrd itemOrd) false fun b : PyData => keyToks b
  have sd : ∀ l : List PyData, (l.mergeSort (dataLe false id)).Pairwise fun a b => dataLe false id a b = true := fun l =>
    List.pairwise_mergeSort (le := dataLe false id) (fun a b c h1 h2 => tot.trans a b c h1 h2) (fun a b => by
      rcases tot.total a b with h | h
      · rw [show dataLe false id a b = true from h]; rfl
      · rw [show dataLe false id b a = true from h, Bool.or_true]) l
  have pl : ∀ d ∈ ds, pln d = true := by
    intro d hd
    clear hp hal sd
    induction ds with
    | nil => simp at hd
    | cons x xs ih =>
      have hpl : (pln x && plnAll xs) = true := hpl
      rw [Bool.and_eq_true] at hpl
      rcases List.mem_cons.mp hd with rfl | h
      · exact hpl.1
      · exact ih hpl.2 h
  refine List.Perm.eq_of_pairwise (le := fun a b => dataLe false id a b = true) (fun a b ha hb h1 h2 => ?_) (sd ds) (sd es) ((List.mergeSort_perm _ _).trans (hp.trans (List.mergeSort_perm _ _).symm))
  have ha := (List.mergeSort_perm _ _).mem_iff.mp ha
  have hb := hp.mem_iff.mpr ((List.mergeSort_perm _ _).mem_iff.mp hb)
  have h1 : (!dataLt b a) = true := h1
  have h2 : (!dataLt a b) = true := h2
  rw [Bool.not_eq_true'] at h1 h2
  exact (eqv_pln a b (pl a ha) (pl b hb)).mp (lt_eqv (hal a ha b hb) h2 h1)
end WS
set_option Elab.async false
set_option linter.all false
set_option maxRecDepth 100000
set_option maxHeartbeats 4000000
namespace WS
open PySem PySem.Spec PyProof.Rows L2
/-! ### len(set(x)), x a list of unlike texts -/
section
variable {prog : Program} {w : World} {A : Around} {E : Value → Shared → Prop} {s : Shared}
/-- set(t), t a list of unlike texts -/
theorem call_set_listN {l : Addr} {items : Array Value} {xs : List Str} {Q : Value → Shared → Prop} (hh : A.handled = none) (hl : s.heap.IsList l items) (hi : PyProof.Rows.StrsAre items.toList xs) (hb : xs.length + 1 < scanBound) (hnd : xs.Nodup)
    (h : ∀ (h' : Heap) (tk : Nat), h'.SetOf (PySem.strKind prog w) s.heap.objs.size (fun k' => (xs.take items.size).any (· == k')) items.size → (∀ b o, b < s.heap.objs.size → s.heap.get? b = some o → h'.get? b = some o) → Q (.ref s.heap.objs.size) { s with heap := h', toks := tk }) :
    wpAny (model prog w) A (call (.type "set") [.ref l]) Q E s := by
  refine call_set_fill (Q₁ := fun obj s₁ => ∃ led : Bool, obj = .ref s.heap.objs.size ∧ s₁ = { s with heap := s.heap.push { cls := .type "set", dict := none, data := .set #[] 0 (.fresh 0 0 led) } }) (code_set_new_1 (.ref l) fun led => ⟨led, rfl, rfl⟩) fun obj s₁ h₁ => ?_
  obtain ⟨led, rfl, rfl⟩ := h₁
  generalize ho : ({ cls := .type "set", dict := none, data := .set #[] 0 (.fresh 0 0 led) } : Obj) = oS
  have hS : (s.heap.push oS).get? s.heap.objs.size = some oS := Heap.get?_push_size _ (by rw [← ho]; rfl)
  have hlS : l < s.heap.objs.size := by
    obtain ⟨o, e, _⟩ := hl
    exact Heap.lt_size e
  refine ⟨⟨oS, hS, by rw [← ho]⟩, ?_⟩
  obtain ⟨⟨oc, od, odat, osl⟩, e0, ec, nl, ed⟩ := id hl
  simp only at ec ed
  subst ec ed
  have e1 : (s.heap.push oS).get? l = some { cls := .type "list", dict := od, data := .seq items nl, slots := osl } := Heap.get?_push_of_some _ e0
  have hl1 : (s.heap.push oS).IsList l items := ⟨_, e1, rfl, nl, rfl⟩
  have f1 := PySem.F.sub_list_set
  have f2 := PySem.F.sub_list_frozenset
  have f3 : (Value.type "list" == Value.type "dict") = false := by decide
  have hT : Shared.TypeIs { s with heap := s.heap.push oS } (.ref s.heap.objs.size) "set" := ⟨oS, hS, by rw [← ho]⟩
  subst ho
  unfold Builtin.«set.__init__» noKeywords Builtin.Frozenset.updateFrom
  generalize hP : pyIter = PI
  wp_walk
  subst hP
  refine wpAny_pyIter_list hl1 (wpAny_bind (wpAny_runValue ?_))
  generalize ho : ({ cls := .type "set", dict := none, data := .set #[] 0 (.fresh 0 0 led) } : Obj) = oS at hS hl1 hT
  have sz : (s.heap.push oS).objs.size = s.heap.objs.size + 1 := Heap.size_push ..
  have el : xs.length = items.size := by rw [← PyProof.Rows.StrsAre.len_eq hi, Array.length_toList]
  have n1 : l ≠ (s.heap.push oS).objs.size := by rw [sz]; exact Nat.ne_of_lt (Nat.lt_succ_of_lt hlS)
  have h3 : A.in1.in1.in1.handled = none := hh
  refine loopStrN ((Walks.list h3 _ l n1 items).toS) s.heap.objs.size (by simp [sz]; exact Nat.ne_of_gt hlS) xs el (by omega) hnd (fun i v hv => SS.strs_at hi i v (by rw [Array.getElem?_toList]; exact hv)) items.size 0 _ (by omega) (Nat.zero_le _) ⟨⟨_, Heap.get?_push_size _ rfl, rfl, rfl⟩, hl1.push _⟩ ?_ fun s' hm hS' => ?_
  · exact PyProof.Rows.SetOf_congr ((PyProof.Rows.setObjOf_fresh (knd := PySem.strKind prog w) led).setOf (by rw [ho]; exact Heap.get?_push_of_some _ hS) (by unfold scanBound; omega)) (fun _ => rfl) rfl
  · obtain ⟨h', g', d', tk', os'⟩ := s'
    obtain rfl : g' = s.gens := hm.gens
    obtain rfl : d' = s.drawn := hm.drawn
    obtain rfl : os' = s.os := hm.os
    refine wpAny_pure (wpAny_pure ⟨rfl, h h' tk' hS' fun b o hb e => ?_⟩)
    exact hm.heap b o (by simp [sz]; exact ⟨Nat.ne_of_lt hb, Nat.ne_of_lt (Nat.lt_succ_of_lt hb)⟩) (Heap.get?_push_of_some _ (Heap.get?_push_of_some _ e))
end
def tLenSetL (K : PySem.W.Frag) (ta : TE) : TE := fun σ H Q => ta σ H fun x H1 => ∃ (l : Addr) (xs : List Str), x = .ref l ∧ SqL K H1 l (xs.map V.str) ∧ xs.Nodup ∧ xs.length ≤ 1000 ∧ Q (.int (xs.length : Nat)) H1
theorem pe_lenSetL {X : Cx} {a : Expr} {ta : TE} {p p2 q pos : Pos} (hc : X.calm = true) (hg : Gl X "len") (hm : X.mg "len" = none) (hg2 : Gl X "set") (hm2 : X.mg "set" = none) (ha : PE X a ta)
    (na : starEach [a] X.env = (false, eval a X.env) :: starEach [] X.env := by rfl) : PE X (.Call (.Name "len" p) [.Call (.Name "set" p2) [a] [] q] [] pos) (tLenSetL X.K ta) := by
  refine ⟨fun pins s σ H Q I h => ?_⟩
  refine Call_ (ld_blt I hg hm boot_len ?_)
  refine PyProof.Rows.callWith_builtin1 (PyProof.Rows.args_cons ?_ rfl) rfl rfl
  refine Call_ (ld_blt I hg2 hm2 boot_set ?_)
  refine PyProof.Rows.callWith_type1 (PyProof.Rows.args_cons (thn (ha.run pins s σ H _ I h) fun v s1 ⟨x, H1, I1, r1, q1⟩ => PyProof.Rows.args_nil ?_) na) na rfl
  obtain ⟨l, xs, rfl, hq, hnd, h1, q1⟩ := q1
  cases r1
  obtain ⟨its, r, pl, hz⟩ := I1.list hq
  have hl : its.toArray.size = xs.length := by rw [List.size_toArray, ← r.length, List.length_map]
  refine call_set_listN (I1.ok.hd hc) pl.isList (by simpa using strsAre_of r) (by unfold scanBound; omega) hnd fun h' tk hS hk => ?_
  refine PyProof.Rows.args_nil ?_
  rw [hl] at hS
  obtain ⟨o, es, ep, t, ho, hex, hd, _, _, _, hf, hn⟩ := hS
  have I2 : Inv X pins σ H1 { s1 with heap := h', toks := tk } := I1.kept fun b o e => hk b o (Heap.lt_size e) e
  exact call_len_set ho hex hd hf (by rw [hn]; omega) ⟨.int xs.length, H1, I2.tok _, ⟨_, by rw [hn]⟩, q1⟩
/-! repr in a comprehension -/
def rReprK (K : PySem.W.Frag) : List V → Hp → VK → Prop := fun xs H Q => ∃ v d, xs = [v] ∧ Dp K H v d ∧ d.showable = true ∧ d.hasDict = false ∧ d.depth ≤ 60 ∧ d.shown.length ≤ sizeLine ∧ Q (.str d.shown) H
theorem call_reprK {X : Cx} (g : X.A.guards = some []) (hu : X.A.units + 64 < cLine) : CallR X (.builtin "repr") (rReprK X.K) := call_reprD g hu
end WS
set_option Elab.async false
set_option linter.all false
set_option maxRecDepth 100000
set_option maxHeartbeats 4000000
namespace WS
open PySem PySem.Spec PyProof.Rows L2
/-! ### moments made of two -/
theorem filterMap_len {α β : Type} (a : α → Option β) : ∀ l : List α, (l.filterMap a).length ≤ l.length := fun l => List.length_filterMap_le _ _
theorem split_in (S : List Nat) (n : Nat) (hS : S.Nodup) (hn : ∀ i ∈ S, i < n) : (S ++ (List.range n).filter fun i => !decide (i ∈ S)).Perm (List.range n) := by
  have h := split_perm (List.range n) S
  refine List.Perm.trans (List.Perm.append_right _ ?_) h
  exact (sub_perm List.nodup_range hS fun i hi => List.mem_range.mpr (hn i hi)).symm
theorem cov_len {S : List Nat} {n m : Nat} {a : Nat → Option Nat} (hp : ((List.range n).filterMap a).Perm (List.range m)) (hS : S.Nodup) (hn : ∀ i ∈ S, i < n) : (S.filterMap a).Nodup ∧ (∀ j ∈ S.filterMap a, j < m) ∧ (S.filterMap a).length ≤ S.length ∧ m + S.length ≤ n + (S.filterMap a).length ∧ (S.filterMap a).length ≤ m := by
  have h1 := (split_in S n hS hn).filterMap a
  rw [List.filterMap_append] at h1
  have h2 := h1.trans hp
  have l1 := h2.length_eq
  have l2 := (split_in S n hS hn).length_eq
  rw [List.length_append, List.length_range] at l1 l2
  have nd := h2.nodup_iff.mpr List.nodup_range
  have l3 := filterMap_len a ((List.range n).filter fun i => !decide (i ∈ S))
  refine ⟨(List.nodup_append.mp nd).1, fun j hj => List.mem_range.mp (h2.mem_iff.mp (List.mem_append_left _ hj)), filterMap_len _ _, by omega, by omega⟩
theorem sum_fm (a : Nat → Option Nat) (g : Nat → Rat) : ∀ S : List Nat, sumF g (S.filterMap a) = (S.map fun i => (a i).elim 0 g).sum
  | [] => rfl
  | i :: S => by
    have ih := sum_fm a g S
    unfold sumF at *
    rw [List.filterMap_cons, List.map_cons, List.sum_cons]
    cases h : a i with
    | none =>
      simp only [Option.elim_none]
      rw [ih, Rat.zero_add]
    | some j =>
      simp only [Option.elim_some, List.map_cons, List.sum_cons]
      rw [ih]
theorem sum_two {f g h : Nat → Rat} {a b : Nat → Option Nat} (S : List Nat) (e : ∀ i ∈ S, f i = (a i).elim 0 g + (b i).elim 0 h) : sumF f S = sumF g (S.filterMap a) + sumF h (S.filterMap b) := by
  rw [sum_fm, sum_fm, ← sum_addR]
  unfold sumF
  congr 1
  exact List.map_congr_left fun i hi => e i hi
theorem mostR_cov {W : Rat} {n m k l : Nat} (hW : 0 ≤ W) (h1 : l ≤ k) (h2 : m + k ≤ n + l) (h3 : l ≤ m) : mostR W m l ≤ mostR W n k := by
  unfold mostR
  have b1 : (((l : Nat) : Int) : Rat) ≤ (((k : Nat) : Int) : Rat) := cast_le.mpr (by omega)
  have b0 : (0 : Rat) ≤ (((l : Nat) : Int) : Rat) := cast_nn (by omega)
  have b2 : (0 : Rat) ≤ (((m : Nat) : Int) : Rat) - (((l : Nat) : Int) : Rat) := by
    have : (((l : Nat) : Int) : Rat) ≤ (((m : Nat) : Int) : Rat) := cast_le.mpr (by omega)
    grind
  have b3 : (((m : Nat) : Int) : Rat) - (((l : Nat) : Int) : Rat) ≤ (((n : Nat) : Int) : Rat) - (((k : Nat) : Int) : Rat) := by
    have : (((m : Nat) : Int) : Rat) + (((k : Nat) : Int) : Rat) ≤ (((n : Nat) : Int) : Rat) + (((l : Nat) : Int) : Rat) := by
      rw [← cast_add, ← cast_add]
      exact cast_le.mpr (by omega)
    grind
  generalize (((l : Nat) : Int) : Rat) = x at *
  generalize (((k : Nat) : Int) : Rat) = y at *
  generalize (((m : Nat) : Int) : Rat) = u at *
  generalize (((n : Nat) : Int) : Rat) = v at *
  have c1 := Rat.mul_le_mul_of_nonneg_right b1 b2
  have c2 := Rat.mul_le_mul_of_nonneg_left b3 (Rat.le_trans b0 b1)
  have c3 := Rat.mul_le_mul_of_nonneg_left (Rat.le_trans c1 c2) hW
  have e1 : W * x * (u - x) = W * (x * (u - x)) := by grind
  have e2 : W * y * (v - y) = W * (y * (v - y)) := by grind
  rw [e1, e2]
  grind
theorem mostR_add (W V : Rat) (n k : Nat) : mostR W n k + mostR V n k = mostR (W + V) n k := by
  unfold mostR
  grind
/-- poured together -/
theorem good_pour {W1 W2 : Int} {ss tt uu : List Seat} {a b : Nat → Option Nat} (h1 : 0 ≤ W1) (h2 : 0 ≤ W2) (g1 : Good W1 ss) (g2 : Good W2 tt) (ha : ((List.range uu.length).filterMap a).Perm (List.range ss.length)) (hb : ((List.range uu.length).filterMap b).Perm (List.range tt.length)) (e : ∀ i, i < uu.length → owF uu i = (a i).elim 0 (owF ss) + (b i).elim 0 (owF tt)) : Good (W1 + W2) uu := by
  refine ⟨fun S hS hn => ?_, ?_⟩
  · rw [sum_two S fun i hi => e i (hn i hi)]
    obtain ⟨n1, m1, l1, q1, r1⟩ := cov_len ha hS hn
    obtain ⟨n2, m2, l2, q2, r2⟩ := cov_len hb hS hn
    have w1 := Rat.le_trans (g1.w _ n1 m1) (mostR_cov (cast_nn h1) l1 q1 r1)
    have w2 := Rat.le_trans (g2.w _ n2 m2) (mostR_cov (cast_nn h2) l2 q2 r2)
    rw [cast_add, ← mostR_add]
    grind
  · rw [sum_two _ fun i hi => e i (List.mem_range.mp hi), sumF_perm ha, sumF_perm hb, g1.z, g2.z]
    grind
/-- side by side -/
theorem range_app (n m : Nat) : List.range (n + m) = List.range n ++ (List.range m).map fun j => n + j := List.range_add
theorem app_l (n m : Nat) : (List.range (n + m)).filterMap (fun i => if i < n then some i else none) = List.range n := by
  rw [range_app, List.filterMap_append]
  have e1 : (List.range n).filterMap (fun i => if i < n then some i else none) = List.range n := by
    refine (fm_congr fun i hi => ?_).trans List.filterMap_some
    rw [if_pos (List.mem_range.mp hi)]
  have e2 : ((List.range m).map fun j => n + j).filterMap (fun i => if i < n then some i else none) = [] := by
    rw [List.filterMap_eq_nil_iff]
    intro i hi
    obtain ⟨j, _, rfl⟩ := List.mem_map.mp hi
    rw [if_neg (by omega)]
  rw [e1, e2, List.append_nil]
theorem app_r (n m : Nat) : (List.range (n + m)).filterMap (fun i => if i < n then none else some (i - n)) = List.range m := by
  rw [range_app, List.filterMap_append]
  have e1 : (List.range n).filterMap (fun i => if i < n then none else some (i - n)) = [] := by
    rw [List.filterMap_eq_nil_iff]
    intro i hi
    rw [if_pos (List.mem_range.mp hi)]
  have e2 : ((List.range m).map fun j => n + j).filterMap (fun i => if i < n then none else some (i - n)) = List.range m := by
    rw [List.filterMap_map]
    refine (fm_congr fun i hi => ?_).trans List.filterMap_some
    show (if n + i < n then none else some (n + i - n)) = some i
    rw [if_neg (by omega), Nat.add_sub_cancel_left]
  rw [e1, e2, List.nil_append]
theorem gs_app_l {ss tt : List Seat} {i : Nat} (h : i < ss.length) : gs (ss ++ tt) i = gs ss i := by
  unfold gs
  rw [List.getD_eq_getElem?_getD, List.getD_eq_getElem?_getD, List.getElem?_append_left h]
theorem gs_app_r {ss tt : List Seat} {i : Nat} (h : ss.length ≤ i) : gs (ss ++ tt) i = gs tt (i - ss.length) := by
  unfold gs
  rw [List.getD_eq_getElem?_getD, List.getD_eq_getElem?_getD, List.getElem?_append_right h]
theorem both_len (n : Nat) : ∀ S : List Nat, (S.filterMap fun i => if i < n then some i else none).length + (S.filterMap fun i => if i < n then none else some (i - n)).length = S.length
  | [] => rfl
  | i :: S => by
    have ih := both_len n S
    rw [List.filterMap_cons, List.filterMap_cons]
    by_cases h : i < n
    · simp only [if_pos h, List.length_cons]
      omega
    · simp only [if_neg h, List.length_cons]
      omega
theorem mostR_app {W : Rat} {n m k l : Nat} (hW : 0 ≤ W) (h1 : k ≤ n) (h2 : l ≤ m) : mostR W n k + mostR W m l ≤ mostR W (n + m) (k + l) := by
  unfold mostR
  have e1 : (((n + m : Nat) : Int) : Rat) = (((n : Nat) : Int) : Rat) + (((m : Nat) : Int) : Rat) := by rw [← cast_add]; rfl
  have e2 : (((k + l : Nat) : Int) : Rat) = (((k : Nat) : Int) : Rat) + (((l : Nat) : Int) : Rat) := by rw [← cast_add]; rfl
  rw [e1, e2]
  have b1 : (((k : Nat) : Int) : Rat) ≤ (((n : Nat) : Int) : Rat) := cast_le.mpr (by omega)
  have b2 : (((l : Nat) : Int) : Rat) ≤ (((m : Nat) : Int) : Rat) := cast_le.mpr (by omega)
  have b3 : (0 : Rat) ≤ (((k : Nat) : Int) : Rat) := cast_nn (by omega)
  have b4 : (0 : Rat) ≤ (((l : Nat) : Int) : Rat) := cast_nn (by omega)
  generalize (((l : Nat) : Int) : Rat) = y at *
  generalize (((k : Nat) : Int) : Rat) = x at *
  generalize (((m : Nat) : Int) : Rat) = v at *
  generalize (((n : Nat) : Int) : Rat) = u at *
  have c1 := Rat.mul_nonneg b3 (show (0 : Rat) ≤ v - y by grind)
  have c2 := Rat.mul_nonneg b4 (show (0 : Rat) ≤ u - x by grind)
  have c3 := Rat.mul_nonneg hW c1
  have c4 := Rat.mul_nonneg hW c2
  have e : W * (x + y) * (u + v - (x + y)) = W * x * (u - x) + W * y * (v - y) + W * (x * (v - y)) + W * (y * (u - x)) := by grind
  rw [e]
  grind
theorem owF_app (ss tt : List Seat) (i : Nat) : owF (ss ++ tt) i = (if i < ss.length then some i else none).elim 0 (owF ss) + (if i < ss.length then none else some (i - ss.length)).elim 0 (owF tt) := by
  unfold owF
  by_cases h : i < ss.length
  · rw [if_pos h, if_pos h, gs_app_l h]
    simp [Rat.add_zero]
  · rw [if_neg h, if_neg h, gs_app_r (by omega)]
    simp [Rat.zero_add]
theorem good_app {W : Int} {ss tt : List Seat} (hW : 0 ≤ W) (g1 : Good W ss) (g2 : Good W tt) : Good W (ss ++ tt) := by
  refine ⟨fun S hS hn => ?_, ?_⟩
  · rw [List.length_append] at hn ⊢
    rw [sum_two S fun i _ => owF_app ss tt i]
    have ha : ((List.range (ss.length + tt.length)).filterMap (fun i => if i < ss.length then some i else none)).Perm (List.range ss.length) := by rw [app_l]
    have hb : ((List.range (ss.length + tt.length)).filterMap (fun i => if i < ss.length then none else some (i - ss.length))).Perm (List.range tt.length) := by rw [app_r]
    obtain ⟨n1, m1, l1, q1, r1⟩ := cov_len ha hS hn
    obtain ⟨n2, m2, l2, q2, r2⟩ := cov_len hb hS hn
    have w1 := g1.w _ n1 m1
    have w2 := g2.w _ n2 m2
    have := mostR_app (W := (W : Rat)) (cast_nn hW) r1 r2
    rw [both_len] at this
    grind
  · rw [List.length_append, sum_two _ fun i _ => owF_app ss tt i, app_l, app_r, g1.z, g2.z]
    grind
theorem kittyL_app (ss tt : List Seat) : kittyL (ss ++ tt) = kittyL ss ++ kittyL tt := by
  unfold kittyL
  rw [List.filter_append, List.map_append]
end WS
set_option Elab.async false
set_option linter.all false
set_option maxRecDepth 100000
set_option maxHeartbeats 4000000
namespace WS
open PySem PySem.Spec PyProof.Rows L2
/-! ### moments joined and parted -/
structure MOk (n : Nat) (W : Int) (ss : List Seat) : Prop where
  l : ss.length ≤ 14
  w : 1 ≤ W
  b : Bt 1500 W
  nd : (names ss).Nodup
  nm : ∀ s ∈ ss, Nm0 s.1
  ok : ∀ s ∈ ss, Okp n s.2 ∧ Lowest s.2.1 s.2.2
  g : Good W ss
def spTotalB (K : PySem.W.Frag) (n : Nat) : Sp := fun vs H Q _ => ∃ (l : Addr) (u : V) (a b : Int) (rs : List V) (ps : List (Int × Int)), vs = [.ref l, u] ∧ (SqL K H l rs ∨ SqT K H l rs) ∧ TupI K H u a b ∧ Okp n (a, b) ∧ Parts K H rs ps ∧ (∀ q ∈ ps, Okp n q) ∧ (ps.length + 1) * (n + 1) ≤ 4400 ∧ ∀ v H', Same H H' → TupI K H' v (ps.foldl pl (a, b)).1 (ps.foldl pl (a, b)).2 → Q v H'
def spWithinN (K : PySem.W.Frag) (TT : List (Addr × Str)) (n : Nat) : Sp := fun vs H Q _ => ∃ (w : Int) (l : Addr) (ps : List (Int × Int)), vs = [.int w, .ref l] ∧ Bt 2000 w ∧ RowAt K H l ps ∧ (∀ q ∈ ps, Okp n q) ∧ (ps.length + 1) * (n + 1) ≤ 4400 ∧ LamX.Tabs TT H ∧
  ∀ H' b, LamX.ExtN H H' → LamX.Tabs TT H' → (b = true ↔ (ps.map rv).sum = 0 ∧ WthF w ps.length (fun j => rv (gp ps j))) → Q (.bl b) H'
def spPair2 (K : PySem.W.Frag) : Sp := fun vs H Q _ => ∃ (a : Addr) (x y : V), vs = [.ref a] ∧ SqT K H a [x, y] ∧ ∀ H', Same H H' → Q (.bl true) H'
def spSeatOk (K : PySem.W.Frag) : Sp := fun vs H Q _ => ∃ (v : V) (s : Seat), vs = [v] ∧ Dp K H v (seatD s) ∧ Nm0 s.1 ∧ Lowest s.2.1 s.2.2 ∧ ∀ H', Same H H' → Q (.bl true) H'
def spIsMomN (K : PySem.W.Frag) (TT : List (Addr × Str)) (n : Nat) : Sp := fun vs H Q _ => ∃ (v : V) (W : Int) (ss : List Seat), vs = [v] ∧ Dp K H v (momD W ss) ∧ MOk n W ss ∧ (ss.length + 2) * (n + 1) ≤ 4400 ∧ LamX.Tabs TT H ∧ ∀ H', LamX.ExtN H H' → LamX.Tabs TT H' → Q (.bl true) H'
def spPlacesN (K : PySem.W.Frag) (TT : List (Addr × Str)) : Sp := fun vs H Q _ => ∃ (w : Int) (l : Addr) (ps : List (Int × Int)), vs = [.int w, .ref l] ∧ Bt 2000 w ∧ RowAt K H l ps ∧ (∀ q ∈ ps, 0 < q.2) ∧ WthF w ps.length (fun j => rv (gp ps j)) ∧ LamX.Tabs TT H ∧
  ∀ H' D, LamX.ExtN H H' → LamX.Tabs TT H' → H' D = some (.lst []) → Q (.ref D) H'
def spCheckW (K : PySem.W.Frag) (TT : List (Addr × Str)) (n : Nat) : Sp := fun vs H Q _ => ∃ (v x : V) (W : Int) (ss : List Seat), vs = [v, x] ∧ Dp K H v (momD W ss) ∧ Bt 2000 W ∧ (∀ s ∈ ss, Okp n s.2) ∧ (ss.length + 2) * (n + 1) ≤ 4400 ∧ ss.length ≤ 100 ∧ WthF W ss.length (owF ss) ∧ LamX.Tabs TT H ∧
  ∀ H', LamX.ExtN H H' → LamX.Tabs TT H' → Q .non H'
def spWeightCk : Sp := fun vs H Q _ => ∃ W : Int, vs = [.int W] ∧ 1 ≤ W ∧ ∀ H', Same H H' → Q .non H'
def spMomOf (K : PySem.W.Frag) : Sp := fun vs H Q _ => ∃ W : Int, vs = [.int W] ∧ 1 ≤ W ∧ ∀ v H', Same H H' → Dp K H' v (momD W []) → Q v H'
def spJoined (K : PySem.W.Frag) : Sp := fun vs H Q _ => ∃ (u v : V) (W : Int) (ss tt : List Seat), vs = [u, v] ∧ Dp K H u (momD W ss) ∧ Dp K H v (momD W tt) ∧ ss.length ≤ 100 ∧ tt.length ≤ 100 ∧ (∀ z ∈ names ss, z ∉ names tt) ∧ ∀ v' H', Same H H' → Dp K H' v' (momD W (ss ++ tt)) → Q v' H'
def spSeatsAl (K : PySem.W.Frag) (TT : List (Addr × Str)) (n : Nat) : Sp := fun vs H Q _ => ∃ (v : V) (L : Addr) (W : Int) (ss : List Seat) (is : List Nat), vs = [v, .ref L] ∧ Dp K H v (momD W ss) ∧ H L = some (.lst (is.map fun j : Nat => V.int j)) ∧ (∀ i ∈ is, i < ss.length) ∧ (is.length + 2) * (n + 1) ≤ 4400 ∧ is.length ≤ 100 ∧ (∀ s ∈ ss, Okp n s.2) ∧ Bt 2000 W ∧ WthF W (is.map (gs ss)).length (owF (is.map (gs ss))) ∧ LamX.Tabs TT H ∧
  ∀ v' H', LamX.ExtN H H' → LamX.Tabs TT H' → Dp K H' v' (momD W (is.map (gs ss))) → Q v' H'
def spParted (K : PySem.W.Frag) (TT : List (Addr × Str)) (n : Nat) : Sp := fun vs H Q _ => ∃ (v : V) (d : Addr) (W : Int) (ss : List Seat) (is S O : List Nat), vs = [v, .ref d] ∧ Dp K H v (momD W ss) ∧ SqT K H d (is.map fun j : Nat => V.int j) ∧ is.Perm S ∧ S.Pairwise (· < ·) ∧ (∀ i ∈ is, i < ss.length) ∧ O = (List.range ss.length).filter (fun i => !decide (i ∈ is)) ∧ (ss.length + 2) * (n + 1) ≤ 4400 ∧ ss.length ≤ 100 ∧ (∀ s ∈ ss, Okp n s.2) ∧ Bt 2000 W ∧ sumF (owF ss) is = 0 ∧ WthF W (S.map (gs ss)).length (owF (S.map (gs ss))) ∧ WthF W (O.map (gs ss)).length (owF (O.map (gs ss))) ∧ LamX.Tabs TT H ∧
  ∀ v' H', LamX.ExtN H H' → LamX.Tabs TT H' → Dp K H' v' (.tuple [momD W (S.map (gs ss)), momD W (O.map (gs ss))]) → Q v' H'
theorem own_within {W : Int} {ss : List Seat} (w : WthF W ss.length (owF ss)) : WthF W (ss.map Prod.snd).length (fun j => rv (gp (ss.map Prod.snd) j)) := by
  rw [List.length_map]
  exact w.congr fun i hi => (ow_gp rfl i hi).symm
theorem decInt_f (ns : List Int) : (ns.map PyData.int).map (fun d : PyData => match d with | .int i => V.int i | _ => V.non) = ns.map V.int := by
  rw [List.map_map]
  exact List.map_congr_left fun _ _ => rfl
open PySem.W in
theorem sorted_intsD {is S : List Int} (hp : is.Perm S) (hs : S.Pairwise (· ≤ ·)) : ((is.map fun i => (V.int i, PyData.int i)).mergeSort (dataLe false Prod.snd)).map Prod.fst = S.map V.int := by
  have hal : AllAlike (is.map PyData.int) := fun d hd d' hd' => by
    obtain ⟨x, _, rfl⟩ := List.mem_map.mp hd
    obtain ⟨y, _, rfl⟩ := List.mem_map.mp hd'
    rfl
  have h1 : ((is.map fun i => (V.int i, PyData.int i)).mergeSort (dataLe false Prod.snd)).map Prod.snd = S.map PyData.int := by
    rw [sort_snd, List.map_map]
    have e : (is.map (Prod.snd ∘ fun i => (V.int i, PyData.int i))) = is.map PyData.int := rfl
    rw [e, sort_one (hp.map PyData.int) hal (plnAll_map (fun _ => rfl) is)]
    refine List.mergeSort_of_pairwise ?_
    rw [List.pairwise_map]
    refine hs.imp fun {a b} h => ?_
    show (!dataLt (.int b) (.int a)) = true
    rw [dataLt_int, decide_eq_false (by omega)]
    rfl
  have h2 : ∀ b ∈ (is.map fun i => (V.int i, PyData.int i)).mergeSort (dataLe false Prod.snd), b.1 = (fun d : PyData => match d with | .int i => V.int i | _ => V.non) b.2 := fun b hb => by
    have hb := (List.mergeSort_perm _ _).mem_iff.mp hb
    obtain ⟨i, _, rfl⟩ := List.mem_map.mp hb
    rfl
  rw [List.map_congr_left h2]
  have h3 := congrArg (List.map (fun d : PyData => match d with | .int i => V.int i | _ => V.non)) h1
  rw [decInt_f, List.map_map] at h3
  exact h3
theorem ints_alike (is : List Int) : PySem.W.AllAlike ((is.map fun i => (V.int i, PyData.int i)).map Prod.snd) ∧ PySem.W.Sortable ((is.map fun i => (V.int i, PyData.int i)).map Prod.snd) ∧ ∀ b ∈ (is.map fun i => (V.int i, PyData.int i)), b.2.depth ≤ 60 := by
  refine ⟨fun d hd d' hd' => ?_, .inr fun d hd => ?_, fun b hb => ?_⟩
  · rw [List.map_map] at hd hd'
    obtain ⟨x, _, rfl⟩ := List.mem_map.mp hd
    obtain ⟨y, _, rfl⟩ := List.mem_map.mp hd'
    rfl
  · rw [List.map_map] at hd
    obtain ⟨x, _, rfl⟩ := List.mem_map.mp hd
    exact ⟨(fun z => by cases z), (fun xs z => by cases z)⟩
  · obtain ⟨i, _, rfl⟩ := List.mem_map.mp hb
    simp [PyData.depth]
/-- one of three moments as they are joined -/
structure M3 (W : Int) (ss : List Seat) : Prop where
  l : ss.length ≤ 6
  w : 1 ≤ W
  b : Bt 110 W
  nd : (names ss).Nodup
  nm : ∀ s ∈ ss, Nm0 s.1
  ok : ∀ s ∈ ss, Okq 190 90 s.2 ∧ Lowest s.2.1 s.2.2
  g : Good W ss
def spThree (K : PySem.W.Frag) : Sp := fun vs H Q _ => ∃ p : Addr, vs = [.ref p] ∧ PotAt H p ∧ ∀ D v1 v2 v3 W s1 s2 s3 H', H' D = some (.lst [v1, v2, v3]) → Dp K H' v1 (momD W s1) → Dp K H' v2 (momD W s2) → Dp K H' v3 (momD W s3) → M3 W s1 → M3 W s2 → M3 W s3 → s3.length ≤ 2 → names s3 = [] → (∀ z ∈ names s1, z ∉ names s2) → SameX p H H' → PotAt H' p → Q (.ref D) H'
def spEmptyOwed (K : PySem.W.Frag) (n : Nat) : Sp := fun vs H Q _ => ∃ v W ss, vs = [v] ∧ Dp K H v (momD W ss) ∧ Okm n ss ∧ (ss.length + 1) * (n + 1) ≤ 4200 ∧ NewT K H ((kittyL ss).foldl pl (0, 1)).1 ((kittyL ss).foldl pl (0, 1)).2 Q
def spWholeR (K : PySem.W.Frag) (TT : List (Addr × Str)) : Sp := fun vs H Q _ => ∃ (u v1 v2 : V) (W : Int) (ss tt : List Seat), vs = [u, v1, v2] ∧ Dp K H u (momD W (ss ++ tt)) ∧ Dp K H v1 (momD W ss) ∧ Dp K H v2 (momD W tt) ∧ MOk 190 W (ss ++ tt) ∧ (∀ s ∈ ss ++ tt, Okq 190 90 s.2) ∧ LamX.Tabs TT H ∧ ∀ H', LamX.ExtN H H' → LamX.Tabs TT H' → Q (.bl true) H'
theorem fold_app {xs ys : List (Int × Int)} (hx : ∀ q ∈ xs, 0 < q.2) (hy : ∀ q ∈ ys, 0 < q.2) : (xs ++ ys).foldl pl (0, 1) = pl (xs.foldl pl (0, 1)) (ys.foldl pl (0, 1)) := by
  have lx := fold_low xs hx
  have ly := fold_low ys hy
  refine rv_inj (fold_low _ fun q hq => ?_) (lo_lowest (Int.mul_pos lx.1 ly.1)) ?_
  · rcases List.mem_append.mp hq with h | h
    · exact hx q h
    · exact hy q h
  · rw [rv_pl lx.1 ly.1, rv_fold _ _ (by decide) hx, rv_fold _ _ (by decide) hy, rv_fold _ _ (by decide) (fun q hq => ?_), rv_nought, List.map_append, List.sum_append]
    · grind
    · rcases List.mem_append.mp hq with h | h
      · exact hx q h
      · exact hy q h
theorem kitty_ok2 {ss : List Seat} (h : ∀ s ∈ ss, Okq 190 90 s.2) (hl : ss.length ≤ 14) : Ok2 1700 1700 ((kittyL ss).foldl pl (0, 1)) := by
  have z0 : Ok2 (190 + 0 * (90 + 1) + 1) (0 * 90 + 1) ((0, 1) : Int × Int) := ⟨by decide, by unfold Bt; decide +kernel, by unfold Bt; decide +kernel⟩
  have := Ok2.fold (N := 190) (D := 90) (kittyL ss) (0, 1) 0 z0 fun q hq => by
    obtain ⟨s, hs, rfl⟩ := List.mem_map.mp hq
    exact h s (List.mem_filter.mp hs).1
  have kl : (kittyL ss).length ≤ ss.length := by
    unfold kittyL
    rw [List.length_map]
    exact List.length_filter_le _ _
  exact this.mono (by omega) (by omega)
theorem pd_sh {p : Int × Int} (h : Ok2 1900 1900 p) : Sh 1000000 60 (pdP p) := (Sh.pd (m := 1900) (by decide) (by decide) h.2.1 h.2.2).mono (by omega) (by omega)
theorem mom_shJ {W : Int} {ss : List Seat} (hW : Bt 1500 W) (hl : ss.length ≤ 15) (ok : ∀ s ∈ ss, Ok2 1900 200 s.2 ∧ Nm0 s.1) : Sh 240000 6 (momD W ss) := by
  refine (Sh.tup (n := 116000) (k := 5) (m := 2) (ds := [.int W, .tuple (ss.map seatD)]) (fun d hd => ?_) (Nat.le_refl 2)).mono (by omega) (by omega)
  simp only [List.mem_cons, List.not_mem_nil, or_false] at hd
  rcases hd with rfl | rfl
  · exact (Sh.int (by decide) (by decide) hW).mono (by omega) (by omega)
  · refine (Sh.tup (n := 7700) (k := 3) (m := 15) (fun d hd => ?_) (by rw [List.length_map]; exact hl)).mono (by omega) (by omega)
    obtain ⟨s, hs, rfl⟩ := List.mem_map.mp hd
    obtain ⟨h1, h2⟩ := ok s hs
    refine (Sh.tup (n := 3810) (k := 2) (m := 2) (ds := [.str s.1, pdP s.2]) (fun d hd => ?_) (Nat.le_refl 2)).mono (by omega) (by omega)
    simp only [List.mem_cons, List.not_mem_nil, or_false] at hd
    rcases hd with rfl | rfl
    · exact (nm_sh h2).mono (by omega) (by omega)
    · refine (Sh.tup (n := 1901) (k := 1) (m := 2) (ds := [.int s.2.1, .int s.2.2]) (fun d hd => ?_) (Nat.le_refl 2) |>.mono (by omega) (by omega))
      simp only [List.mem_cons, List.not_mem_nil, or_false] at hd
      rcases hd with rfl | rfl
      · exact (Sh.int (by decide) (by decide) h1.2.1).mono (by omega) (by omega)
      · exact (Sh.int (m := 200) (by decide) (by decide) h1.2.2).mono (by omega) (by omega)
theorem two_shJ {W V : Int} {ss tt : List Seat} (h : Sh 240000 6 (momD W ss)) (k : Sh 240000 6 (momD V tt)) : Sh 1000000 60 (.tuple [momD W ss, momD V tt]) := by
  refine (Sh.tup (n := 240000) (k := 6) (m := 2) (ds := [momD W ss, momD V tt]) (fun d hd => ?_) (Nat.le_refl 2)).mono (by omega) (by omega)
  simp only [List.mem_cons, List.not_mem_nil, or_false] at hd
  rcases hd with rfl | rfl
  · exact h
  · exact k
theorem range_gs (ss : List Seat) : (List.range ss.length).map (gs ss) = ss := range_getD ss _
theorem map_gs_l (ss tt : List Seat) : (List.range ss.length).map (gs (ss ++ tt)) = ss := by
  conv => rhs; rw [← range_gs ss]
  exact List.map_congr_left fun i hi => gs_app_l (List.mem_range.mp hi)
theorem map_gs_r (ss tt : List Seat) : ((List.range tt.length).map fun j => ss.length + j).map (gs (ss ++ tt)) = tt := by
  rw [List.map_map]
  conv => rhs; rw [← range_gs tt]
  refine List.map_congr_left fun i hi => ?_
  show gs (ss ++ tt) (ss.length + i) = gs tt i
  rw [gs_app_r (by omega), Nat.add_sub_cancel_left]
theorem filt_l (a b : Nat) : (List.range (a + b)).filter (fun i => !decide (i ∈ List.range a)) = (List.range b).map fun j => a + j := by
  rw [range_app, List.filter_append]
  have e1 : (List.range a).filter (fun i => !decide (i ∈ List.range a)) = [] := by
    rw [List.filter_eq_nil_iff]
    intro i hi
    simp [hi]
  have e2 : ((List.range b).map fun j => a + j).filter (fun i => !decide (i ∈ List.range a)) = (List.range b).map fun j => a + j := by
    rw [List.filter_eq_self]
    intro i hi
    obtain ⟨j, _, rfl⟩ := List.mem_map.mp hi
    rw [Bool.not_eq_true', decide_eq_false_iff_not, List.mem_range]
    omega
  rw [e1, e2, List.nil_append]
theorem filt_r (a b : Nat) : (List.range (a + b)).filter (fun i => !decide (i ∈ ((List.range b).map fun j => a + j).reverse)) = List.range a := by
  rw [range_app, List.filter_append]
  have e1 : (List.range a).filter (fun i => !decide (i ∈ ((List.range b).map fun j => a + j).reverse)) = List.range a := by
    rw [List.filter_eq_self]
    intro i hi
    rw [Bool.not_eq_true', decide_eq_false_iff_not, List.mem_reverse]
    intro h
    obtain ⟨j, _, rfl⟩ := List.mem_map.mp h
    have := List.mem_range.mp hi
    omega
  have e2 : ((List.range b).map fun j => a + j).filter (fun i => !decide (i ∈ ((List.range b).map fun j => a + j).reverse)) = [] := by
    rw [List.filter_eq_nil_iff]
    intro i hi
    have : i ∈ ((List.range b).map fun j => a + j).reverse := List.mem_reverse.mpr hi
    simp only [this, decide_true]
    simp
  rw [e1, e2, List.append_nil]
theorem sum_l (ss tt : List Seat) : sumF (owF (ss ++ tt)) (List.range ss.length) = sumF (owF ss) (List.range ss.length) := by
  unfold sumF
  congr 1
  refine List.map_congr_left fun i hi => ?_
  unfold owF
  rw [gs_app_l (List.mem_range.mp hi)]
theorem sum_r (ss tt : List Seat) : sumF (owF (ss ++ tt)) ((List.range tt.length).map fun j => ss.length + j) = sumF (owF tt) (List.range tt.length) := by
  unfold sumF
  rw [List.map_map]
  congr 1
  refine List.map_congr_left fun i hi => ?_
  show owF (ss ++ tt) (ss.length + i) = _
  unfold owF
  rw [gs_app_r (by omega), Nat.add_sub_cancel_left]
theorem rgV_from (a b : Nat) : rgV ((a : Nat) : Int) (((a + b : Nat) : Nat) : Int) = ((List.range b).map fun j => a + j).map fun j : Nat => V.int j := by
  unfold rgV
  rw [List.map_map, show ((((a + b : Nat) : Int) - (a : Int)).toNat) = b by omega]
  refine List.map_congr_left fun i _ => ?_
  show V.int ((a : Int) + (i : Nat)) = V.int ((a + i : Nat) : Int)
  rw [show ((a : Int) + (i : Nat)) = ((a + i : Nat) : Int) by omega]
theorem M3.mok {W : Int} {ss tt : List Seat} (h : M3 W ss) (k : M3 W tt) (dis : ∀ z ∈ names ss, z ∉ names tt) : MOk 190 W (ss ++ tt) ∧ ∀ s ∈ ss ++ tt, Okq 190 90 s.2 := by
  have both : ∀ s ∈ ss ++ tt, Nm0 s.1 ∧ Okq 190 90 s.2 ∧ Lowest s.2.1 s.2.2 := fun s hs => by
    rcases List.mem_append.mp hs with hs | hs
    · exact ⟨h.nm s hs, h.ok s hs⟩
    · exact ⟨k.nm s hs, k.ok s hs⟩
  refine ⟨⟨?_, h.w, h.b.mono (by decide), ?_, fun s hs => (both s hs).1, fun s hs => ⟨(both s hs).2.1.okp (by decide) (by decide), (both s hs).2.2⟩, good_app (Int.le_trans (by decide) h.w) h.g k.g⟩, fun s hs => (both s hs).2.1⟩
  · have := h.l
    have := k.l
    rw [List.length_append]
    omega
  · rw [names_app, List.nodup_append]
    exact ⟨h.nd, k.nd, fun a ha b hb e => dis a ha (by rw [e]; exact hb)⟩
end WS
set_option Elab.async false
set_option linter.all false
set_option maxRecDepth 100000
set_option maxHeartbeats 4000000
namespace WS
open PySem PySem.Spec PyProof.Rows L2
def topS (i : Nat) : Stmt := PySem.Challenge.pw_whoserves_k55_whole_joined_and_parted_ag.main.body.getD i (.Pass ⟨0, 0, 0, 0⟩)
abbrev s_is_whole : Stmt := topS 12
theorem sc_is_whole : FnScope ["thing"] ["thing"] (defScope s_is_whole) := ⟨rfl, rfl, rfl, by decide +kernel, rfl, by decide +kernel, by decide +kernel⟩
abbrev s_greatest_common : Stmt := topS 13
theorem sc_greatest_common : FnScope ["one", "other"] ["one", "other"] (defScope s_greatest_common) := ⟨rfl, rfl, rfl, by decide +kernel, rfl, by decide +kernel, by decide +kernel⟩
abbrev s_is_part : Stmt := topS 14
theorem sc_is_part : FnScope ["thing", "above", "below"] ["thing"] (defScope s_is_part) := ⟨rfl, rfl, rfl, by decide +kernel, rfl, by decide +kernel, by decide +kernel⟩
abbrev s_part : Stmt := topS 15
theorem sc_part : FnScope ["above", "below", "common"] ["above", "below"] (defScope s_part) := ⟨rfl, rfl, rfl, by decide +kernel, rfl, by decide +kernel, by decide +kernel⟩
abbrev s_plus : Stmt := topS 16
theorem sc_plus : FnScope ["one", "other"] ["one", "other"] (defScope s_plus) := ⟨rfl, rfl, rfl, by decide +kernel, rfl, by decide +kernel, by decide +kernel⟩
abbrev s_is_less : Stmt := topS 17
theorem sc_is_less : FnScope ["one", "other"] ["one", "other"] (defScope s_is_less) := ⟨rfl, rfl, rfl, by decide +kernel, rfl, by decide +kernel, by decide +kernel⟩
abbrev s_total : Stmt := topS 18
theorem sc_total : FnScope ["row", "start", "found", "one"] ["row", "start"] (defScope s_total) := ⟨rfl, rfl, rfl, by decide +kernel, rfl, by decide +kernel, by decide +kernel⟩
abbrev s_common_below : Stmt := topS 20
theorem sc_common_below : FnScope ["row", "found", "one"] ["row"] (defScope s_common_below) := ⟨rfl, rfl, rfl, by decide +kernel, rfl, by decide +kernel, by decide +kernel⟩
abbrev s_greatest_first : Stmt := topS 21
theorem sc_greatest_first : FnScope ["row", "common", "aboves", "above", "below"] ["row"] (defScope s_greatest_first) := ⟨rfl, rfl, rfl, by decide +kernel, rfl, by decide +kernel, by decide +kernel⟩
abbrev s_sums_ahead : Stmt := topS 22
theorem sc_sums_ahead : FnScope ["row", "sums", "place"] ["row"] (defScope s_sums_ahead) := ⟨rfl, rfl, rfl, by decide +kernel, rfl, by decide +kernel, by decide +kernel⟩
abbrev s_most : Stmt := topS 23
theorem sc_most : FnScope ["weight", "seats", "many"] ["weight", "seats", "many"] (defScope s_most) := ⟨rfl, rfl, rfl, by decide +kernel, rfl, by decide +kernel, by decide +kernel⟩
abbrev s_fall : Stmt := topS 24
theorem sc_fall : FnScope ["weight", "row", "many", "ahead"] ["weight", "row"] (defScope s_fall) := ⟨rfl, rfl, rfl, by decide +kernel, rfl, by decide +kernel, by decide +kernel⟩
abbrev s_is_within : Stmt := topS 25
theorem sc_is_within : FnScope ["weight", "row"] ["weight", "row"] (defScope s_is_within) := ⟨rfl, rfl, rfl, by decide +kernel, rfl, by decide +kernel, by decide +kernel⟩
abbrev s_places_beyond : Stmt := topS 26
theorem sc_places_beyond : FnScope ["weight", "row", "many"] ["weight", "row"] (defScope s_places_beyond) := ⟨rfl, rfl, rfl, by decide +kernel, rfl, by decide +kernel, by decide +kernel⟩
abbrev s_is_name : Stmt := topS 29
theorem sc_is_name : FnScope ["thing", "sign"] ["thing"] (defScope s_is_name) := ⟨rfl, rfl, rfl, by decide +kernel, rfl, by decide +kernel, by decide +kernel⟩
abbrev s_is_weight : Stmt := topS 30
theorem sc_is_weight : FnScope ["thing"] ["thing"] (defScope s_is_weight) := ⟨rfl, rfl, rfl, by decide +kernel, rfl, by decide +kernel, by decide +kernel⟩
abbrev s_is_pair : Stmt := topS 31
theorem sc_is_pair : FnScope ["thing"] ["thing"] (defScope s_is_pair) := ⟨rfl, rfl, rfl, by decide +kernel, rfl, by decide +kernel, by decide +kernel⟩
abbrev s_is_seat : Stmt := topS 32
theorem sc_is_seat : FnScope ["thing", "person", "owed", "is_empty"] ["thing"] (defScope s_is_seat) := ⟨rfl, rfl, rfl, by decide +kernel, rfl, by decide +kernel, by decide +kernel⟩
abbrev s_is_moment : Stmt := topS 33
theorem sc_is_moment : FnScope ["thing", "weight", "seats", "sitting", "seat"] ["thing"] (defScope s_is_moment) := ⟨rfl, rfl, rfl, by decide +kernel, rfl, by decide +kernel, by decide +kernel⟩
abbrev s_check_weight : Stmt := topS 34
theorem sc_check_weight : FnScope ["weight"] ["weight"] (defScope s_check_weight) := ⟨rfl, rfl, rfl, by decide +kernel, rfl, by decide +kernel, by decide +kernel⟩
abbrev s_moment_of : Stmt := topS 35
theorem sc_moment_of : FnScope ["weight"] ["weight"] (defScope s_moment_of) := ⟨rfl, rfl, rfl, by decide +kernel, rfl, by decide +kernel, by decide +kernel⟩
abbrev s_owing : Stmt := topS 36
theorem sc_owing : FnScope ["moment", "person", "owed"] ["moment"] (defScope s_owing) := ⟨rfl, rfl, rfl, by decide +kernel, rfl, by decide +kernel, by decide +kernel⟩
abbrev s_persons : Stmt := topS 37
theorem sc_persons : FnScope ["moment", "person", "owed"] ["moment"] (defScope s_persons) := ⟨rfl, rfl, rfl, by decide +kernel, rfl, by decide +kernel, by decide +kernel⟩
abbrev s_kitty : Stmt := topS 38
theorem sc_kitty : FnScope ["moment", "person", "owed"] ["moment"] (defScope s_kitty) := ⟨rfl, rfl, rfl, by decide +kernel, rfl, by decide +kernel, by decide +kernel⟩
abbrev s_sits : Stmt := topS 39
theorem sc_sits : FnScope ["moment", "person"] ["moment", "person"] (defScope s_sits) := ⟨rfl, rfl, rfl, by decide +kernel, rfl, by decide +kernel, by decide +kernel⟩
abbrev s_seat_of : Stmt := topS 40
theorem sc_seat_of : FnScope ["moment", "person", "sitting", "owed"] ["moment", "person"] (defScope s_seat_of) := ⟨rfl, rfl, rfl, by decide +kernel, rfl, by decide +kernel, by decide +kernel⟩
abbrev s_owes : Stmt := topS 41
theorem sc_owes : FnScope ["moment", "person"] ["moment", "person"] (defScope s_owes) := ⟨rfl, rfl, rfl, by decide +kernel, rfl, by decide +kernel, by decide +kernel⟩
abbrev s_check_seats : Stmt := topS 42
theorem sc_check_seats : FnScope ["moment", "seats", "many", "seat"] ["moment", "seats"] (defScope s_check_seats) := ⟨rfl, rfl, rfl, by decide +kernel, rfl, by decide +kernel, by decide +kernel⟩
abbrev s_check_within : Stmt := topS 43
theorem sc_check_within : FnScope ["moment", "numbers", "weight", "places", "place"] ["moment", "numbers"] (defScope s_check_within) := ⟨rfl, rfl, rfl, by decide +kernel, rfl, by decide +kernel, by decide +kernel⟩
abbrev s_joined : Stmt := topS 45
theorem sc_joined : FnScope ["one", "other", "person"] ["one", "other"] (defScope s_joined) := ⟨rfl, rfl, rfl, by decide +kernel, rfl, by decide +kernel, by decide +kernel⟩
abbrev s_seats_alone : Stmt := topS 46
theorem sc_seats_alone : FnScope ["moment", "numbers", "weight", "seats", "found", "number"] ["moment", "numbers"] (defScope s_seats_alone) := ⟨rfl, rfl, rfl, by decide +kernel, rfl, by decide +kernel, by decide +kernel⟩
abbrev s_parted : Stmt := topS 47
theorem sc_parted : FnScope ["moment", "seats", "row", "owed", "others", "number"] ["moment", "seats"] (defScope s_parted) := ⟨rfl, rfl, rfl, by decide +kernel, rfl, by decide +kernel, by decide +kernel⟩
abbrev s_lpot : Stmt := topS 49
theorem sc_lpot : FnScope ["_law_script", "_law_k", "_law_cell"] ["_law_script", "_law_k"] (defScope s_lpot) := ⟨rfl, rfl, rfl, by decide +kernel, rfl, by decide +kernel, by decide +kernel⟩
abbrev s_ldigit : Stmt := topS 50
theorem sc_ldigit : FnScope ["_law_pot_here", "_law_many", "_law_digit_here"] ["_law_pot_here", "_law_many"] (defScope s_ldigit) := ⟨rfl, rfl, rfl, by decide +kernel, rfl, by decide +kernel, by decide +kernel⟩
abbrev s_lname : Stmt := topS 52
theorem sc_lname : FnScope ["_law_pot_here", "_law_used", "_law_letters", "_law_name_here", "_law_some", "_law_k", "_law_one_here"] ["_law_pot_here", "_law_used"] (defScope s_lname) := ⟨rfl, rfl, rfl, by decide +kernel, rfl, by decide +kernel, by decide +kernel⟩
abbrev s_lnames : Stmt := topS 53
theorem sc_lnames : FnScope ["_law_pot_here", "_law_many", "_law_found", "_law_k"] ["_law_pot_here", "_law_many"] (defScope s_lnames) := ⟨rfl, rfl, rfl, by decide +kernel, rfl, by decide +kernel, by decide +kernel⟩
abbrev s_llow : Stmt := topS 54
theorem sc_llow : FnScope ["_law_above", "_law_below", "_law_one_here", "_law_other"] ["_law_above", "_law_below"] (defScope s_llow) := ⟨rfl, rfl, rfl, by decide +kernel, rfl, by decide +kernel, by decide +kernel⟩
abbrev s_lplus : Stmt := topS 55
theorem sc_lplus : FnScope ["_law_one_here", "_law_other"] ["_law_one_here", "_law_other"] (defScope s_lplus) := ⟨rfl, rfl, rfl, by decide +kernel, rfl, by decide +kernel, by decide +kernel⟩
abbrev s_lless : Stmt := topS 56
theorem sc_lless : FnScope ["_law_one_here", "_law_other"] ["_law_one_here", "_law_other"] (defScope s_lless) := ⟨rfl, rfl, rfl, by decide +kernel, rfl, by decide +kernel, by decide +kernel⟩
abbrev s_lsum : Stmt := topS 57
theorem sc_lsum : FnScope ["_law_parts", "_law_found", "_law_one_here"] ["_law_parts"] (defScope s_lsum) := ⟨rfl, rfl, rfl, by decide +kernel, rfl, by decide +kernel, by decide +kernel⟩
abbrev s_lfirst : Stmt := topS 58
theorem sc_lfirst : FnScope ["_law_row_here", "_law_left", "_law_found", "_law_at", "_law_k"] ["_law_row_here"] (defScope s_lfirst) := ⟨rfl, rfl, rfl, by decide +kernel, rfl, by decide +kernel, by decide +kernel⟩
abbrev s_lmost : Stmt := topS 59
theorem sc_lmost : FnScope ["_law_weight_here", "_law_many", "_law_k"] ["_law_weight_here", "_law_many", "_law_k"] (defScope s_lmost) := ⟨rfl, rfl, rfl, by decide +kernel, rfl, by decide +kernel, by decide +kernel⟩
abbrev s_lfalls : Stmt := topS 60
theorem sc_lfalls : FnScope ["_law_weight_here", "_law_row_here", "_law_found", "_law_order", "_law_k", "_law_at"] ["_law_weight_here", "_law_row_here"] (defScope s_lfalls) := ⟨rfl, rfl, rfl, by decide +kernel, rfl, by decide +kernel, by decide +kernel⟩
abbrev s_lnumber : Stmt := topS 61
theorem sc_lnumber : FnScope ["_law_pot_here", "_law_far"] ["_law_pot_here"] (defScope s_lnumber) := ⟨rfl, rfl, rfl, by decide +kernel, rfl, by decide +kernel, by decide +kernel⟩
abbrev s_lrow : Stmt := topS 62
theorem sc_lrow : FnScope ["_law_pot_here", "_law_many", "_law_row_here", "_law_whole", "_law_k", "_law_one_here"] ["_law_pot_here", "_law_many"] (defScope s_lrow) := ⟨rfl, rfl, rfl, by decide +kernel, rfl, by decide +kernel, by decide +kernel⟩
abbrev s_lweight : Stmt := topS 63
theorem sc_lweight : FnScope ["_law_row_here", "_law_weight_here", "_law_order", "_law_k", "_law_above", "_law_below", "_law_by", "_law_at"] ["_law_row_here"] (defScope s_lweight) := ⟨rfl, rfl, rfl, by decide +kernel, rfl, by decide +kernel, by decide +kernel⟩
abbrev s_lthree : Stmt := topS 64
theorem sc_lthree : FnScope ["_law_pot_here", "_law_rows", "_law_row_here", "_law_weight_here", "_law_names_here", "_law_found", "_law_k", "_law_seats", "_law_at", "_law_owed", "_law_is_there"] ["_law_pot_here"] (defScope s_lthree) := ⟨rfl, rfl, rfl, by decide +kernel, rfl, by decide +kernel, by decide +kernel⟩
abbrev s_lempty_owed : Stmt := topS 65
theorem sc_lempty_owed : FnScope ["_law_moment", "_law_person", "_law_owed"] ["_law_moment"] (defScope s_lempty_owed) := ⟨rfl, rfl, rfl, by decide +kernel, rfl, by decide +kernel, by decide +kernel⟩
abbrev s_lwhole_right : Stmt := topS 66
theorem sc_lwhole_right : FnScope ["_law_both", "_law_one_here", "_law_other", "_law_row_here", "_law_person", "_law_owed"] ["_law_both", "_law_one_here", "_law_other"] (defScope s_lwhole_right) := ⟨rfl, rfl, rfl, by decide +kernel, rfl, by decide +kernel, by decide +kernel⟩
abbrev s_lone : Stmt := topS 67
theorem sc_lone : FnScope ["_law_pot_here", "_law_one_here", "_law_other", "_law_third", "_law_both", "_law_ahead", "_law_after", "_law_none"] ["_law_pot_here"] (defScope s_lone) := ⟨rfl, rfl, rfl, by decide +kernel, rfl, by decide +kernel, by decide +kernel⟩
abbrev s_law : Stmt := topS 68
theorem sc_law : FnScope ["_law_script", "_law_k"] ["_law_script"] (defScope s_law) := ⟨rfl, rfl, rfl, by decide +kernel, rfl, by decide +kernel, by decide +kernel⟩
structure Tx (K : PySem.W.Frag) (mg : Str → Option Value) (base : Heap) where
  f_is_whole : Addr
  d_is_whole : FuncData
  g_is_whole : mg "is_whole" = some (.ref f_is_whole)
  F_is_whole : Fun K "is_whole" "is_whole" s_is_whole f_is_whole d_is_whole
  b_is_whole : Binds K d_is_whole ["thing"] []
  f_greatest_common : Addr
  d_greatest_common : FuncData
  g_greatest_common : mg "greatest_common" = some (.ref f_greatest_common)
  F_greatest_common : Fun K "greatest_common" "greatest_common" s_greatest_common f_greatest_common d_greatest_common
  b_greatest_common : Binds K d_greatest_common ["one", "other"] []
  f_is_part : Addr
  d_is_part : FuncData
  g_is_part : mg "is_part" = some (.ref f_is_part)
  F_is_part : Fun K "is_part" "is_part" s_is_part f_is_part d_is_part
  b_is_part : Binds K d_is_part ["thing"] []
  f_part : Addr
  d_part : FuncData
  g_part : mg "part" = some (.ref f_part)
  F_part : FunD K "part" "part" (defArgs s_part) (defBody s_part) (defScope s_part) [.int 1] [] f_part d_part
  b_part : Binds K d_part ["above", "below"] []
  v_part : List Value
  vb_part : Vals [.int 1] v_part
  b1_part : Binds K d_part ["above", "below"] v_part
  f_plus : Addr
  d_plus : FuncData
  g_plus : mg "plus" = some (.ref f_plus)
  F_plus : Fun K "plus" "plus" s_plus f_plus d_plus
  b_plus : Binds K d_plus ["one", "other"] []
  f_is_less : Addr
  d_is_less : FuncData
  g_is_less : mg "is_less" = some (.ref f_is_less)
  F_is_less : Fun K "is_less" "is_less" s_is_less f_is_less d_is_less
  b_is_less : Binds K d_is_less ["one", "other"] []
  f_total : Addr
  d_total : FuncData
  g_total : mg "total" = some (.ref f_total)
  a0 : Addr
  F_total : FunD K "total" "total" (defArgs s_total) (defBody s_total) (defScope s_total) [] [("start", .ref a0)] f_total d_total
  t0 : ∀ H : Hp, SqT K H a0 [.int 0, .int 1]
  v_total : List Value
  vb_total : Vals [.ref a0] v_total
  b_total : Binds K d_total ["row", "start"] v_total
  kb_total : KBn K d_total ["row", "start"] 1 ["start"] (fun us ws => us ++ ws) (fun us ws => us ++ ws)
  f_common_below : Addr
  d_common_below : FuncData
  g_common_below : mg "common_below" = some (.ref f_common_below)
  F_common_below : Fun K "common_below" "common_below" s_common_below f_common_below d_common_below
  b_common_below : Binds K d_common_below ["row"] []
  f_greatest_first : Addr
  d_greatest_first : FuncData
  g_greatest_first : mg "greatest_first" = some (.ref f_greatest_first)
  F_greatest_first : Fun K "greatest_first" "greatest_first" s_greatest_first f_greatest_first d_greatest_first
  b_greatest_first : Binds K d_greatest_first ["row"] []
  f_sums_ahead : Addr
  d_sums_ahead : FuncData
  g_sums_ahead : mg "sums_ahead" = some (.ref f_sums_ahead)
  F_sums_ahead : Fun K "sums_ahead" "sums_ahead" s_sums_ahead f_sums_ahead d_sums_ahead
  b_sums_ahead : Binds K d_sums_ahead ["row"] []
  f_most : Addr
  d_most : FuncData
  g_most : mg "most" = some (.ref f_most)
  F_most : Fun K "most" "most" s_most f_most d_most
  b_most : Binds K d_most ["weight", "seats", "many"] []
  f_fall : Addr
  d_fall : FuncData
  g_fall : mg "fall" = some (.ref f_fall)
  F_fall : Fun K "fall" "fall" s_fall f_fall d_fall
  b_fall : Binds K d_fall ["weight", "row"] []
  f_is_within : Addr
  d_is_within : FuncData
  g_is_within : mg "is_within" = some (.ref f_is_within)
  F_is_within : Fun K "is_within" "is_within" s_is_within f_is_within d_is_within
  b_is_within : Binds K d_is_within ["weight", "row"] []
  f_places_beyond : Addr
  d_places_beyond : FuncData
  g_places_beyond : mg "places_beyond" = some (.ref f_places_beyond)
  F_places_beyond : Fun K "places_beyond" "places_beyond" s_places_beyond f_places_beyond d_places_beyond
  b_places_beyond : Binds K d_places_beyond ["weight", "row"] []
  f_is_name : Addr
  d_is_name : FuncData
  g_is_name : mg "is_name" = some (.ref f_is_name)
  F_is_name : Fun K "is_name" "is_name" s_is_name f_is_name d_is_name
  b_is_name : Binds K d_is_name ["thing"] []
  f_is_weight : Addr
  d_is_weight : FuncData
  g_is_weight : mg "is_weight" = some (.ref f_is_weight)
  F_is_weight : Fun K "is_weight" "is_weight" s_is_weight f_is_weight d_is_weight
  b_is_weight : Binds K d_is_weight ["thing"] []
  f_is_pair : Addr
  d_is_pair : FuncData
  g_is_pair : mg "is_pair" = some (.ref f_is_pair)
  F_is_pair : Fun K "is_pair" "is_pair" s_is_pair f_is_pair d_is_pair
  b_is_pair : Binds K d_is_pair ["thing"] []
  f_is_seat : Addr
  d_is_seat : FuncData
  g_is_seat : mg "is_seat" = some (.ref f_is_seat)
  F_is_seat : Fun K "is_seat" "is_seat" s_is_seat f_is_seat d_is_seat
  b_is_seat : Binds K d_is_seat ["thing"] []
  f_is_moment : Addr
  d_is_moment : FuncData
  g_is_moment : mg "is_moment" = some (.ref f_is_moment)
  F_is_moment : Fun K "is_moment" "is_moment" s_is_moment f_is_moment d_is_moment
  b_is_moment : Binds K d_is_moment ["thing"] []
  f_check_weight : Addr
  d_check_weight : FuncData
  g_check_weight : mg "check_weight" = some (.ref f_check_weight)
  F_check_weight : Fun K "check_weight" "check_weight" s_check_weight f_check_weight d_check_weight
  b_check_weight : Binds K d_check_weight ["weight"] []
  f_moment_of : Addr
  d_moment_of : FuncData
  g_moment_of : mg "moment_of" = some (.ref f_moment_of)
  F_moment_of : Fun K "moment_of" "moment_of" s_moment_of f_moment_of d_moment_of
  b_moment_of : Binds K d_moment_of ["weight"] []
  f_owing : Addr
  d_owing : FuncData
  g_owing : mg "owing" = some (.ref f_owing)
  F_owing : Fun K "owing" "owing" s_owing f_owing d_owing
  b_owing : Binds K d_owing ["moment"] []
  f_persons : Addr
  d_persons : FuncData
  g_persons : mg "persons" = some (.ref f_persons)
  F_persons : Fun K "persons" "persons" s_persons f_persons d_persons
  b_persons : Binds K d_persons ["moment"] []
  f_kitty : Addr
  d_kitty : FuncData
  g_kitty : mg "kitty" = some (.ref f_kitty)
  F_kitty : Fun K "kitty" "kitty" s_kitty f_kitty d_kitty
  b_kitty : Binds K d_kitty ["moment"] []
  f_sits : Addr
  d_sits : FuncData
  g_sits : mg "sits" = some (.ref f_sits)
  F_sits : Fun K "sits" "sits" s_sits f_sits d_sits
  b_sits : Binds K d_sits ["moment", "person"] []
  f_seat_of : Addr
  d_seat_of : FuncData
  g_seat_of : mg "seat_of" = some (.ref f_seat_of)
  F_seat_of : Fun K "seat_of" "seat_of" s_seat_of f_seat_of d_seat_of
  b_seat_of : Binds K d_seat_of ["moment", "person"] []
  f_owes : Addr
  d_owes : FuncData
  g_owes : mg "owes" = some (.ref f_owes)
  F_owes : Fun K "owes" "owes" s_owes f_owes d_owes
  b_owes : Binds K d_owes ["moment", "person"] []
  f_check_seats : Addr
  d_check_seats : FuncData
  g_check_seats : mg "check_seats" = some (.ref f_check_seats)
  F_check_seats : Fun K "check_seats" "check_seats" s_check_seats f_check_seats d_check_seats
  b_check_seats : Binds K d_check_seats ["moment", "seats"] []
  f_check_within : Addr
  d_check_within : FuncData
  g_check_within : mg "check_within" = some (.ref f_check_within)
  F_check_within : Fun K "check_within" "check_within" s_check_within f_check_within d_check_within
  b_check_within : Binds K d_check_within ["moment", "numbers"] []
  f_joined : Addr
  d_joined : FuncData
  g_joined : mg "joined" = some (.ref f_joined)
  F_joined : Fun K "joined" "joined" s_joined f_joined d_joined
  b_joined : Binds K d_joined ["one", "other"] []
  f_seats_alone : Addr
  d_seats_alone : FuncData
  g_seats_alone : mg "seats_alone" = some (.ref f_seats_alone)
  F_seats_alone : Fun K "seats_alone" "seats_alone" s_seats_alone f_seats_alone d_seats_alone
  b_seats_alone : Binds K d_seats_alone ["moment", "numbers"] []
  f_parted : Addr
  d_parted : FuncData
  g_parted : mg "parted" = some (.ref f_parted)
  F_parted : Fun K "parted" "parted" s_parted f_parted d_parted
  b_parted : Binds K d_parted ["moment", "seats"] []
  f_lpot : Addr
  d_lpot : FuncData
  g_lpot : mg "_law_pot" = some (.ref f_lpot)
  F_lpot : Fun K "_law_pot" "_law_pot" s_lpot f_lpot d_lpot
  b_lpot : Binds K d_lpot ["_law_script", "_law_k"] []
  f_ldigit : Addr
  d_ldigit : FuncData
  g_ldigit : mg "_law_digit" = some (.ref f_ldigit)
  F_ldigit : Fun K "_law_digit" "_law_digit" s_ldigit f_ldigit d_ldigit
  b_ldigit : Binds K d_ldigit ["_law_pot_here", "_law_many"] []
  f_lname : Addr
  d_lname : FuncData
  g_lname : mg "_law_name" = some (.ref f_lname)
  F_lname : Fun K "_law_name" "_law_name" s_lname f_lname d_lname
  b_lname : Binds K d_lname ["_law_pot_here", "_law_used"] []
  f_lnames : Addr
  d_lnames : FuncData
  g_lnames : mg "_law_names" = some (.ref f_lnames)
  F_lnames : Fun K "_law_names" "_law_names" s_lnames f_lnames d_lnames
  b_lnames : Binds K d_lnames ["_law_pot_here", "_law_many"] []
  f_llow : Addr
  d_llow : FuncData
  g_llow : mg "_law_low" = some (.ref f_llow)
  F_llow : Fun K "_law_low" "_law_low" s_llow f_llow d_llow
  b_llow : Binds K d_llow ["_law_above", "_law_below"] []
  f_lplus : Addr
  d_lplus : FuncData
  g_lplus : mg "_law_plus" = some (.ref f_lplus)
  F_lplus : Fun K "_law_plus" "_law_plus" s_lplus f_lplus d_lplus
  b_lplus : Binds K d_lplus ["_law_one_here", "_law_other"] []
  f_lless : Addr
  d_lless : FuncData
  g_lless : mg "_law_less" = some (.ref f_lless)
  F_lless : Fun K "_law_less" "_law_less" s_lless f_lless d_lless
  b_lless : Binds K d_lless ["_law_one_here", "_law_other"] []
  f_lsum : Addr
  d_lsum : FuncData
  g_lsum : mg "_law_sum" = some (.ref f_lsum)
  F_lsum : Fun K "_law_sum" "_law_sum" s_lsum f_lsum d_lsum
  b_lsum : Binds K d_lsum ["_law_parts"] []
  f_lfirst : Addr
  d_lfirst : FuncData
  g_lfirst : mg "_law_first" = some (.ref f_lfirst)
  F_lfirst : Fun K "_law_first" "_law_first" s_lfirst f_lfirst d_lfirst
  b_lfirst : Binds K d_lfirst ["_law_row_here"] []
  f_lmost : Addr
  d_lmost : FuncData
  g_lmost : mg "_law_most" = some (.ref f_lmost)
  F_lmost : Fun K "_law_most" "_law_most" s_lmost f_lmost d_lmost
  b_lmost : Binds K d_lmost ["_law_weight_here", "_law_many", "_law_k"] []
  f_lfalls : Addr
  d_lfalls : FuncData
  g_lfalls : mg "_law_falls" = some (.ref f_lfalls)
  F_lfalls : Fun K "_law_falls" "_law_falls" s_lfalls f_lfalls d_lfalls
  b_lfalls : Binds K d_lfalls ["_law_weight_here", "_law_row_here"] []
  f_lnumber : Addr
  d_lnumber : FuncData
  g_lnumber : mg "_law_number" = some (.ref f_lnumber)
  F_lnumber : Fun K "_law_number" "_law_number" s_lnumber f_lnumber d_lnumber
  b_lnumber : Binds K d_lnumber ["_law_pot_here"] []
  f_lrow : Addr
  d_lrow : FuncData
  g_lrow : mg "_law_row" = some (.ref f_lrow)
  F_lrow : Fun K "_law_row" "_law_row" s_lrow f_lrow d_lrow
  b_lrow : Binds K d_lrow ["_law_pot_here", "_law_many"] []
  f_lweight : Addr
  d_lweight : FuncData
  g_lweight : mg "_law_weight" = some (.ref f_lweight)
  F_lweight : Fun K "_law_weight" "_law_weight" s_lweight f_lweight d_lweight
  b_lweight : Binds K d_lweight ["_law_row_here"] []
  f_lthree : Addr
  d_lthree : FuncData
  g_lthree : mg "_law_three" = some (.ref f_lthree)
  F_lthree : Fun K "_law_three" "_law_three" s_lthree f_lthree d_lthree
  b_lthree : Binds K d_lthree ["_law_pot_here"] []
  f_lempty_owed : Addr
  d_lempty_owed : FuncData
  g_lempty_owed : mg "_law_empty_owed" = some (.ref f_lempty_owed)
  F_lempty_owed : Fun K "_law_empty_owed" "_law_empty_owed" s_lempty_owed f_lempty_owed d_lempty_owed
  b_lempty_owed : Binds K d_lempty_owed ["_law_moment"] []
  f_lwhole_right : Addr
  d_lwhole_right : FuncData
  g_lwhole_right : mg "_law_whole_right" = some (.ref f_lwhole_right)
  F_lwhole_right : Fun K "_law_whole_right" "_law_whole_right" s_lwhole_right f_lwhole_right d_lwhole_right
  b_lwhole_right : Binds K d_lwhole_right ["_law_both", "_law_one_here", "_law_other"] []
  f_lone : Addr
  d_lone : FuncData
  g_lone : mg "_law_one" = some (.ref f_lone)
  F_lone : Fun K "_law_one" "_law_one" s_lone f_lone d_lone
  b_lone : Binds K d_lone ["_law_pot_here"] []
  f_law : Addr
  d_law : FuncData
  g_law : mg "law" = some (.ref f_law)
  F_law : Fun K "law" "law" s_law f_law d_law
  b_law : Binds K d_law ["_law_script"] []
  a_NOUGHT : Addr
  g_NOUGHT : mg "NOUGHT" = some (.ref a_NOUGHT)
  t_NOUGHT : ∀ H : Hp, SqT K H a_NOUGHT [.int 0, .int 1]
  v_EMPTY : Value
  g_EMPTY : mg "EMPTY" = some v_EMPTY
  r_EMPTY : RelV (.str "") v_EMPTY
  c_tab : Addr
  P_tab : Addr
  hc_tab : d_greatest_first.code = .ref c_tab
  tb : LamX.TabB base mg c_tab P_tab
  n_abs : mg "abs" = none
  n_all : mg "all" = none
  n_bool : mg "bool" = none
  n_divmod : mg "divmod" = none
  n_enumerate : mg "enumerate" = none
  n_int : mg "int" = none
  n_isinstance : mg "isinstance" = none
  n_len : mg "len" = none
  n_list : mg "list" = none
  n_max : mg "max" = none
  n_min : mg "min" = none
  n_range : mg "range" = none
  n_repr : mg "repr" = none
  n_set : mg "set" = none
  n_sorted : mg "sorted" = none
  n_str : mg "str" = none
  n_tuple : mg "tuple" = none
abbrev Tx.TT {K : PySem.W.Frag} {mg : Str → Option Value} {base : Heap} (T : Tx K mg base) : List (Addr × Str) := [(T.P_tab, qLam)]
section
variable {P : Program} {w : World} {K : PySem.W.Frag} {mg : Str → Option Value} {base : Heap}
theorem ok_is_whole (T : Tx K mg base) : FnOk P w K mg base CX0 1 T.f_is_whole T.d_is_whole ["thing"] (spWhole K) := by
  refine T.F_is_whole.ok sc_is_whole (fun vs H Q E h => ?_) (fun cdv A outer s H vs Q E hr h => ?_)
  · obtain ⟨v, b, rfl, _⟩ := h
    rfl
  · obtain ⟨v, b, rfl, ⟨t, b1, b2, ht, k1, k2, rfl⟩, q⟩ := h
    refine ⟨_, (pss_one (ps_ret (pe_and (pe_callB call_isi (by rfl) T.n_isinstance (by decide +kernel) (pa_cons (pv 0) (pa_cons (pe_bltn (v := .ty "int") (by rfl) T.n_int (by decide +kernel) rfl) pa_nil))) (pe_one (pe_not (pe_callB call_isi (by rfl) T.n_isinstance (by decide +kernel) (pa_cons (pv 0) (pa_cons (pe_bltn (v := .ty "bool") (by rfl) T.n_bool (by decide +kernel) rfl) pa_nil)))))))), ?_⟩
    refine ⟨v, rfl, v, _, t, _, b1, rfl, .ty "int", ht, k1, b1, rfl, ?_⟩
    cases b1 with
    | false => exact iteF q
    | true => exact iteT ⟨v, rfl, v, _, t, _, b2, rfl, .ty "bool", ht, k2, b2, rfl, q⟩
theorem ok_greatest_common (T : Tx K mg base) : FnOk P w K mg base CX0 1 T.f_greatest_common T.d_greatest_common ["one", "other"] spGcd := by
  refine T.F_greatest_common.ok sc_greatest_common (fun vs H Q E h => ?_) (fun cdv A outer s H vs Q E hr h => ?_)
  · obtain ⟨x, y, rfl, _⟩ := h
    rfl
  · obtain ⟨x, y, rfl, hx, hy, q⟩ := h
    refine ⟨_, (pss_cons (ps_while PassesOwn.never (pt_cmpR op_ne (pv 1) pe_int (nomark _)) (pss_one (ps_par (i := 0) (j := 1) (by rfl) sc_greatest_common.nd rfl rfl (by decide) rfl rfl (pa_cons (pv 1) (pa_cons (pe_op op_mod (pv 0) (pv 1)) pa_nil)) (by rfl))))
        (pss_one (ps_ret (pv 0)))), ?_⟩
    refine while_by (fun σ H' => ∃ a b : Int, σ = [some (.int a), some (.int b)] ∧ 0 ≤ a ∧ 0 ≤ b ∧ Int.gcd a b = Int.gcd x y ∧ H' = H)
      (fun σ _ => match σ with | [_, some (.int b)] => b.toNat | _ => 0) ⟨x, y, rfl, hx, hy, rfl, rfl⟩ ?_ ?_
    · rintro σ H' ⟨a, b, rfl, ha, hb, eg, rfl⟩
      refine ⟨_, rfl, rfl, _, rfl, ?_⟩
      by_cases c : b = 0
      · subst c
        refine iteNS rfl ?_
        refine ⟨_, rfl, ?_⟩
        have e := gcd_zero ha
        rw [eg] at e
        rw [← e]
        exact q
      · have hb' : 0 < b := by omega
        have d : decide (V.int b = V.int 0) = false := decide_eq_false (fun z => c (V.int.inj z))
        rw [d]
        refine iteT ?_
        refine ⟨_, rfl, _, rfl, _, rfl, _, _, rfl, rfl, hb', _, _, rfl, ?_, ?_⟩
        · exact ⟨b, a % b, rfl, hb, Int.emod_nonneg a c, (gcd_step ha hb').trans eg, rfl⟩
        · show (a % b).toNat < b.toNat
          have := Int.emod_lt_of_pos a hb'
          omega
    · rintro σ H Q Q' k ⟨v, h1, h2, c, h3, q⟩
      exact ⟨v, h1, h2, c, h3, k _ _ q⟩
theorem ok_part (T : Tx K mg base) : FnOk P w K mg base CX0 3 T.f_part T.d_part ["above", "below"] (spLow K) := by
  refine T.F_part.ok sc_part (fun vs H Q E h => ?_) (fun cdv A outer s H vs Q E hr h => ?_)
  · obtain ⟨a, b, rfl, _⟩ := h
    rfl
  · obtain ⟨a, b, rfl, hb, h9, q⟩ := h
    refine ⟨_, PSs.nox (pss_cons (ps_if (PW.pt (pw_or (pt_not (pt_val (pe_call (ok_is_whole T) (hr.mono (by decide)) (by rfl) T.g_is_whole T.F_is_whole.kp T.b_is_whole .nil pass0 (pa_cons (pv 0) pa_nil)))) (pw_or1 (pt_not (pt_val (pe_call (ok_is_whole T) (hr.mono (by decide)) (by rfl) T.g_is_whole T.F_is_whole.kp T.b_is_whole .nil pass0 (pa_cons (pv 1) pa_nil))))))) (pss_one ps_never) pss_nil)
        (pss_cons (ps_if (pt_cmpR op_eq (pv 1) pe_int (nomark _)) (pss_one ps_never) pss_nil)
        (pss_cons (ps_if (pt_cmpR op_lt (pv 1) pe_int (nomark _)) (pss_one (ps_par (i := 0) (j := 1) (by rfl) sc_part.nd rfl rfl (by decide) rfl rfl (pa_cons (pe_un un_neg (pv 0)) (pa_cons (pe_un un_neg (pv 1)) pa_nil)) (by rfl))) pss_nil)
        (pss_cons (ps_set (i := 2) sc_part.nd rfl (.inl rfl) (pe_call (ok_greatest_common T) (hr.mono (by decide)) (by rfl) T.g_greatest_common T.F_greatest_common.kp T.b_greatest_common .nil pass0 (pa_cons (pe_callB call_abs (by rfl) T.n_abs (by decide +kernel) (pa_cons (pv 0) pa_nil)) (pa_cons (pv 1) pa_nil))))
        (pss_one (ps_ret (pe_tup (pa_cons (pe_op op_fdivW (pv 0) (pv 2)) (pa_cons (pe_op op_fdivW (pv 1) (pv 2)) pa_nil))))))))), ?_⟩
    refine ⟨_, rfl, _, _, rfl, whole_int, true, rfl, iteF ⟨_, rfl, _, _, rfl, whole_int, true, rfl, iteF ?_⟩⟩
    refine ⟨_, rfl, rfl, _, rfl, ?_⟩
    rw [show decide (V.int b = V.int 0) = false from decide_eq_false (fun z => by have := V.int.inj z; omega)]
    refine iteF ?_
    refine ⟨_, rfl, _, _, rfl, rfl, _, rfl, ?_⟩
    rw [show decide (b < 0) = false from decide_eq_false (by omega)]
    refine iteF ?_
    refine ⟨_, rfl, _, rfl, _, rfl, _, _, rfl, by split <;> omega, by omega, ?_⟩
    rw [gcd_abs]
    have g0 : 0 < (Int.gcd a b : Int) := by have := gcd_pos (a := a) (b := b) (by omega); omega
    have g9 : Bt 8999 (Int.gcd a b : Int) := gcd_bt hb h9
    refine ⟨_, rfl, _, rfl, _, _, rfl, rfl, g9.cdiv g0 (by decide), _, rfl, _, rfl, _, _, rfl, rfl, g9.cdiv g0 (by decide), by show 2 ≤ sizeLine; decide, fun p np => q _ _ (same_new np) TupI.new⟩
theorem ok_plus (T : Tx K mg base) : FnOk P w K mg base CX0 4 T.f_plus T.d_plus ["one", "other"] (spTwo K fun a b c d => lo (a * d + c * b) (b * d)) := by
  refine T.F_plus.ok sc_plus (fun vs H Q E h => ?_) (fun cdv A outer s H vs Q E hr h => ?_)
  · obtain ⟨u, v, a, b, c, d, rfl, _⟩ := h
    rfl
  · obtain ⟨u, v, a, b, c, d, rfl, ⟨t, rfl, ht⟩, ⟨r, rfl, hv⟩, hb, hd, ba, bb, bc, bd, q⟩ := h
    refine ⟨_, (pss_one (ps_ret (pe_call (ok_part T) (hr.mono (by decide)) (by rfl) T.g_part T.F_part.kp T.b_part .nil pass0 (pa_cons (pe_op op_add (pe_op op_mulW (pe_ix ix_tup (pv 0) pe_int (fun _ _ => rfl)) (pe_ix ix_tup (pv 1) pe_int (fun _ _ => rfl))) (pe_op op_mulW (pe_ix ix_tup (pv 1) pe_int (fun _ _ => rfl)) (pe_ix ix_tup (pv 0) pe_int (fun _ _ => rfl)))) (pa_cons (pe_op op_mulW (pe_ix ix_tup (pv 0) pe_int (fun _ _ => rfl)) (pe_ix ix_tup (pv 1) pe_int (fun _ _ => rfl))) pa_nil))))), ?_⟩
    refine ⟨_, rfl, t, _, 0, _, rfl, rfl, ht, atI_nat (j := 0) rfl, _, rfl, r, _, 1, _, rfl, rfl, hv, atI_nat (j := 1) rfl, _, _, rfl, rfl, ba.cmul bd (by decide), ?_⟩
    refine ⟨_, rfl, r, _, 0, _, rfl, rfl, hv, atI_nat (j := 0) rfl, _, rfl, t, _, 1, _, rfl, rfl, ht, atI_nat (j := 1) rfl, _, _, rfl, rfl, bc.cmul bb (by decide), ?_⟩
    refine ⟨_, _, rfl, rfl, ?_⟩
    refine ⟨_, rfl, t, _, 1, _, rfl, rfl, ht, atI_nat (j := 1) rfl, _, rfl, r, _, 1, _, rfl, rfl, hv, atI_nat (j := 1) rfl, _, _, rfl, rfl, bb.cmul bd (by decide), ?_⟩
    exact ⟨_, _, rfl, Int.mul_pos hb hd, (bb.mul bd).mono (by decide), q⟩
theorem ok_is_less (T : Tx K mg base) : FnOk P w K mg base CX0 1 T.f_is_less T.d_is_less ["one", "other"] (spLess K) := by
  refine T.F_is_less.ok sc_is_less (fun vs H Q E h => ?_) (fun cdv A outer s H vs Q E hr h => ?_)
  · obtain ⟨u, v, a, b, c, d, rfl, _⟩ := h
    rfl
  · obtain ⟨u, v, a, b, c, d, rfl, ⟨t, rfl, ht⟩, ⟨r, rfl, hv⟩, ba, bb, bc, bd, q⟩ := h
    refine ⟨_, (pss_one (ps_ret (pe_cmpR op_lt (pe_op op_mulW (pe_ix ix_tup (pv 0) pe_int (fun _ _ => rfl)) (pe_ix ix_tup (pv 1) pe_int (fun _ _ => rfl))) (pe_op op_mulW (pe_ix ix_tup (pv 1) pe_int (fun _ _ => rfl)) (pe_ix ix_tup (pv 0) pe_int (fun _ _ => rfl))) (nomark _)))), ?_⟩
    refine ⟨_, rfl, t, _, 0, _, rfl, rfl, ht, atI_nat (j := 0) rfl, _, rfl, r, _, 1, _, rfl, rfl, hv, atI_nat (j := 1) rfl, _, _, rfl, rfl, ba.cmul bd (by decide), ?_⟩
    refine ⟨_, rfl, r, _, 0, _, rfl, rfl, hv, atI_nat (j := 0) rfl, _, rfl, t, _, 1, _, rfl, rfl, ht, atI_nat (j := 1) rfl, _, _, rfl, rfl, bc.cmul bb (by decide), ?_⟩
    exact ⟨_, _, rfl, rfl, q⟩
theorem ok_most (T : Tx K mg base) : FnOk P w K mg base CX0 4 T.f_most T.d_most ["weight", "seats", "many"] (spMostW K) := by
  refine T.F_most.ok sc_most (fun vs H Q E h => ?_) (fun cdv A outer s H vs Q E hr h => ?_)
  · obtain ⟨a, n, k, rfl, _⟩ := h
    rfl
  · obtain ⟨a, n, k, rfl, ba, bn, bk, q⟩ := h
    refine ⟨_, (pss_one (ps_ret (pe_call (ok_part T) (hr.mono (by decide)) (by rfl) T.g_part T.F_part.kp T.b_part .nil pass0 (pa_cons (pe_op op_mulW (pe_op op_mulW (pv 0) (pv 2)) (pe_op op_sub (pv 1) (pv 2))) (pa_cons pe_int pa_nil))))), ?_⟩
    refine ⟨_, rfl, _, rfl, _, _, rfl, rfl, ba.cmul bk (by decide), _, rfl, _, rfl, _, _, rfl, rfl, _, _, rfl, rfl, (ba.mul bk).cmul (bn.sub bk) (by decide), ?_⟩
    exact ⟨_, _, rfl, by decide, by unfold Bt; decide +kernel, q⟩
theorem ok_total (T : Tx K mg base) : FnOk P w K mg base CX0 5 T.f_total T.d_total ["row", "start"] (spTotalB K 250) := by
  refine T.F_total.ok sc_total (fun vs H Q E h => ?_) (fun cdv A outer s H vs Q E hr h => ?_)
  · obtain ⟨l, u, a, b, rs, ps, rfl, _⟩ := h
    rfl
  · obtain ⟨l, u, a, b, rs, ps, rfl, hR, hu, ha, hP, hk, hn, q⟩ := h
    refine ⟨_, PSs.nox (pss_cons (ps_set (i := 2) sc_total.nd rfl (.inl rfl) (pv 1))
        (pss_cons (ps_for PassesOwn.never rfl (pi_or (pi_list (pv 0)) (pi_tup (pv 0))) (pg_name (i := 3) sc_total.nd rfl (.inl rfl)) (pss_one (ps_set (i := 2) sc_total.nd rfl (.inl rfl) (pe_call (ok_plus T) (hr.mono (by decide)) (by rfl) T.g_plus T.F_plus.kp T.b_plus .nil pass0 (pa_cons (pv 2) (pa_cons (pv 3) pa_nil))))))
        (pss_one (ps_ret (pv 2))))), ?_⟩
    refine ⟨_, rfl, ?_⟩
    rcases hR with hR | hR
    · skip
      refine .inl ⟨_, rfl, l, rfl, ⟨_, hR⟩, for_list (K := K) (a := l) (xs := rs) (fun i σ H' => ∃ v y, σ = [some (.ref l), some u, some v, y] ∧ Same H H' ∧ TupI K H' v ((ps.take i).foldl pl (a, b)).1 ((ps.take i).foldl pl (a, b)).2)
        ⟨u, none, rfl, Same.refl H, hu⟩ (fun i σ H' _ ⟨_, _, _, s, _⟩ => s.seq hR) ?_ ?_⟩
      · rintro i x σ H' hx ⟨v, y, rfl, s, hv⟩
        obtain ⟨p, hp, ht⟩ := hP.2 i x hx
        have hi : i < ps.length := by
          rcases Nat.lt_or_ge i ps.length with h | h
          · exact h
          · rw [List.getElem?_eq_none h] at hp; cases hp
        have o1 := fold_okp (ps.take i) (a, b) ha (fun z hz => hk z (List.mem_of_mem_take hz))
        have o2 := hk p (List.mem_of_getElem? hp)
        have o1' : Okp 4400 ((ps.take i).foldl pl (a, b)) := o1.mono (by rw [List.length_take]; have : min i ps.length ≤ ps.length := Nat.min_le_right _ _; have := Nat.mul_le_mul_right 251 this; omega)
        have o2' : Okp 4400 p := o2.mono (by decide)
        refine ⟨_, rfl, _, rfl, _, _, _, _, _, _, rfl, hv, ht.same s, o1'.1, o2'.1, o1'.2.1.mono (by decide), o1'.2.2, o2'.2.1.mono (by decide), o2'.2.2, fun t H2 st ht2 => ?_⟩
        refine ⟨t, some x, rfl, s.trans st, ?_⟩
        rw [take_fold hp]
        exact ht2
      · rintro σ H' ⟨v, y, rfl, s, hv⟩
        rw [hP.1, List.take_length] at hv
        exact ⟨_, rfl, q v H' s hv⟩
    · skip
      refine .inr ⟨_, rfl, l, rfl, ⟨_, hR⟩, for_tup (K := K) (a := l) (xs := rs) (fun i σ H' => ∃ v y, σ = [some (.ref l), some u, some v, y] ∧ Same H H' ∧ TupI K H' v ((ps.take i).foldl pl (a, b)).1 ((ps.take i).foldl pl (a, b)).2)
        ⟨u, none, rfl, Same.refl H, hu⟩ (fun i σ H' _ ⟨_, _, _, s, _⟩ => Same.tup s hR) ?_ ?_⟩
      · rintro i x σ H' hx ⟨v, y, rfl, s, hv⟩
        obtain ⟨p, hp, ht⟩ := hP.2 i x hx
        have hi : i < ps.length := by
          rcases Nat.lt_or_ge i ps.length with h | h
          · exact h
          · rw [List.getElem?_eq_none h] at hp; cases hp
        have o1 := fold_okp (ps.take i) (a, b) ha (fun z hz => hk z (List.mem_of_mem_take hz))
        have o2 := hk p (List.mem_of_getElem? hp)
        have o1' : Okp 4400 ((ps.take i).foldl pl (a, b)) := o1.mono (by rw [List.length_take]; have : min i ps.length ≤ ps.length := Nat.min_le_right _ _; have := Nat.mul_le_mul_right 251 this; omega)
        have o2' : Okp 4400 p := o2.mono (by decide)
        refine ⟨_, rfl, _, rfl, _, _, _, _, _, _, rfl, hv, ht.same s, o1'.1, o2'.1, o1'.2.1.mono (by decide), o1'.2.2, o2'.2.1.mono (by decide), o2'.2.2, fun t H2 st ht2 => ?_⟩
        refine ⟨t, some x, rfl, s.trans st, ?_⟩
        rw [take_fold hp]
        exact ht2
      · rintro σ H' ⟨v, y, rfl, s, hv⟩
        rw [hP.1, List.take_length] at hv
        exact ⟨_, rfl, q v H' s hv⟩
theorem ok_is_pair (T : Tx K mg base) : FnOk P w K mg base CX0 1 T.f_is_pair T.d_is_pair ["thing"] (spPair2 K) := by
  refine T.F_is_pair.ok sc_is_pair (fun vs H Q E h => ?_) (fun cdv A outer s H vs Q E hr h => ?_)
  · obtain ⟨a, x, y, rfl, _⟩ := h
    rfl
  · obtain ⟨a, x, y, rfl, ht, q⟩ := h
    refine ⟨_, (pss_one (ps_ret (pe_and (pe_callB call_isi (by rfl) T.n_isinstance (by decide +kernel) (pa_cons (pv 0) (pa_cons (pe_bltn (v := .ty "tuple") (by rfl) T.n_tuple (by decide +kernel) rfl) pa_nil))) (pe_one (pe_cmpR op_eq (pe_callB call_len_seq (by rfl) T.n_len (by decide +kernel) (pa_cons (pv 0) pa_nil)) pe_int (nomark _)))))), ?_⟩
    refine ⟨_, rfl, _, _, _, _, true, rfl, .ty "tuple", sqt_ty ht, kit_ty (by decide +kernel), true, rfl, iteT ?_⟩
    refine ⟨_, rfl, a, _, rfl, .inr ht, rfl, ?_⟩
    have e : decide (V.int ((([x, y] : List V).length : Nat) : Int) = V.int 2) = true := decide_eq_true rfl
    rw [e]
    exact q H (Same.refl H)
theorem ok_is_weight (T : Tx K mg base) : FnOk P w K mg base CX0 2 T.f_is_weight T.d_is_weight ["thing"] spWeightB := by
  refine T.F_is_weight.ok sc_is_weight (fun vs H Q E h => ?_) (fun cdv A outer s H vs Q E hr h => ?_)
  · obtain ⟨i, rfl, _⟩ := h
    rfl
  · obtain ⟨i, rfl, q⟩ := h
    refine ⟨_, (pss_one (ps_ret (pe_and (pe_call (ok_is_whole T) (hr.mono (by decide)) (by rfl) T.g_is_whole T.F_is_whole.kp T.b_is_whole .nil pass0 (pa_cons (pv 0) pa_nil)) (pe_one (pe_cmpR op_ge (pv 0) pe_int (nomark _)))))), ?_⟩
    exact ⟨_, rfl, _, _, rfl, whole_int, true, rfl, iteT ⟨_, rfl, _, _, rfl, rfl, q⟩⟩
theorem ok_check_weight (T : Tx K mg base) : FnOk P w K mg base CX0 3 T.f_check_weight T.d_check_weight ["weight"] spWeightCk := by
  refine T.F_check_weight.ok sc_check_weight (fun vs H Q E h => ?_) (fun cdv A outer s H vs Q E hr h => ?_)
  · obtain ⟨W, rfl, _⟩ := h
    rfl
  · obtain ⟨W, rfl, w1, q⟩ := h
    refine ⟨_, (pss_one (ps_if (pt_not (pt_val (pe_call (ok_is_weight T) (hr.mono (by decide)) (by rfl) T.g_is_weight T.F_is_weight.kp T.b_is_weight .nil pass0 (pa_cons (pv 0) pa_nil)))) (pss_one ps_never) pss_nil)), ?_⟩
    refine ⟨_, rfl, _, rfl, ?_⟩
    rw [decide_eq_true (show W ≥ 1 from w1)]
    exact ⟨true, rfl, iteF (q H (Same.refl H))⟩
theorem ok_moment_of (T : Tx K mg base) : FnOk P w K mg base CX0 4 T.f_moment_of T.d_moment_of ["weight"] (spMomOf K) := by
  refine T.F_moment_of.ok sc_moment_of (fun vs H Q E h => ?_) (fun cdv A outer s H vs Q E hr h => ?_)
  · obtain ⟨W, rfl, _⟩ := h
    rfl
  · obtain ⟨W, rfl, w1, q⟩ := h
    refine ⟨_, (pss_cons (ps_expr (pe_call (ok_check_weight T) (hr.mono (by decide)) (by rfl) T.g_check_weight T.F_check_weight.kp T.b_check_weight .nil pass0 (pa_cons (pv 0) pa_nil)))
        (pss_one (ps_ret (pe_tup (pa_cons (pv 0) (pa_cons (pe_tup pa_nil) pa_nil)))))), ?_⟩
    refine ⟨_, rfl, W, rfl, w1, fun H1 s1 => ?_⟩
    refine ⟨_, rfl, by show 0 ≤ sizeLine; decide, fun z nz => ?_⟩
    have ez := same_new (o := .tup []) nz
    refine ⟨by show 2 ≤ sizeLine; decide, fun t nt => ?_⟩
    have et := same_new (o := .tup [.int W, .ref z]) nt
    exact q _ _ (s1.trans (ez.trans et)) (mom_mk (ss := []) (.inl (.inl upd_same)) (Same.tup et (.inl (.inl upd_same))) .nil)
theorem ok_lpot (T : Tx K mg base) : FnOk P w K mg base CX0 1 T.f_lpot T.d_lpot ["_law_script", "_law_k"] (spPot K) := by
  refine T.F_lpot.ok sc_lpot (fun vs H Q E h => ?_) (fun cdv A outer s H vs Q E hr h => ?_)
  · obtain ⟨a, ns, k, rfl, _⟩ := h
    rfl
  · obtain ⟨a, ns, k, rfl, hS, k0, k1, q⟩ := h
    refine ⟨_, (pss_cons (ps_set (i := 2) sc_lpot.nd rfl (.inl rfl) pe_int)
        (pss_cons (ps_if (pt_cmpR op_lt (pv 1) (pe_callB call_len_seq (by rfl) T.n_len (by decide +kernel) (pa_cons (pv 0) pa_nil)) (nomark _)) (pss_one (ps_set (i := 2) sc_lpot.nd rfl (.inl rfl) (pe_callB call_abs (by rfl) T.n_abs (by decide +kernel) (pa_cons (pe_ix ix_list (pv 0) (pv 1) (fun _ _ => rfl)) pa_nil)))) pss_nil)
        (pss_one (ps_ret (pe_lst (pa_cons (pe_callB (call_max2 (by rfl)) (by rfl) T.n_max (by decide +kernel) (pa_cons pe_int (pa_cons (pe_op op_sub (pv 2) (pe_op op_pow pe_int pe_int)) pa_nil))) (pa_cons (pe_op op_add (pe_op op_mod (pe_op op_pow (pe_op op_add (pe_op op_add (pe_op op_mod (pv 2) pe_int) (pe_op op_mulW pe_int (pv 1))) pe_int) pe_int) pe_int) pe_int) pa_nil))))))), ?_⟩
    have fin : ∀ c : Int, 0 ≤ c → (tRet (tLst (tCons (tCB (fun xs H Q => ∃ i j, xs = [.int i, .int j] ∧ Q (.int (if j > i then j else i)) H) (tCons (tC (.int 0)) (tCons (tOp (rI0 fun i j => .int (i - j)) (tVar 2) (tOp (rI CPow fun i j => .int (i ^ j.toNat)) (tC (.int 10)) (tC (.int 18)))) tNil))) (tCons (tOp (rI0 fun i j => .int (i + j)) (tOp (rI (fun _ j => 0 < j) fun i j => .int (i % j)) (tOp (rI CPow fun i j => .int (i ^ j.toNat)) (tOp (rI0 fun i j => .int (i + j)) (tOp (rI0 fun i j => .int (i + j)) (tOp (rI (fun _ j => 0 < j) fun i j => .int (i % j)) (tVar 2) (tC (.int 2147483423))) (tOp (rI CMulW fun i j => .int (i * j)) (tC (.int 89)) (tVar 1))) (tC (.int 7))) (tC (.int 2))) (tC (.int 2147483399))) (tC (.int 1))) tNil)))) { nx := fun _ H' => Q .non H', rt := Q } [some (.ref a), some (.int k), some (.int c)] H := by
      intro c hc
      refine ⟨_, rfl, _, _, rfl, rfl, ⟨by decide, by decide, by decide⟩, _, _, rfl, rfl, _, _, rfl, ?_⟩
      have m0 : 0 ≤ c % 2147483423 := Int.emod_nonneg _ (by decide)
      have m1 : c % 2147483423 < 2147483423 := Int.emod_lt_of_pos _ (by decide)
      refine ⟨_, rfl, _, _, rfl, rfl, by show (0 : Int) < 2147483423; decide, _, rfl, _, _, rfl, rfl, ?_, _, _, rfl, rfl, _, _, rfl, rfl, _, _, rfl, rfl, ⟨by decide, by decide, ?_⟩, _, _, rfl, rfl, by show (0 : Int) < 2147483399; decide, _, _, rfl, rfl, by show 2 ≤ sizeLine; decide, fun p np => ?_⟩
      · exact Bt.cmul (n := 10) (m := 10) (Bt.of_lt (by decide) (by decide)) (Bt.of_lt (by omega) (by omega)) (by decide)
      · show (c % 2147483423 + 89 * k + 7).natAbs < 2 ^ 64
        omega
      · refine q p _ (same_new np) np ⟨_, _, upd_same, by split <;> omega, ?_, ?_⟩
        · have := Int.emod_nonneg ((c % 2147483423 + 89 * k + 7) ^ (2 : Int).toNat) (b := 2147483399) (by decide)
          omega
        · have := Int.emod_lt_of_pos ((c % 2147483423 + 89 * k + 7) ^ (2 : Int).toNat) (b := 2147483399) (by decide)
          omega
    refine ⟨_, rfl, _, rfl, a, _, rfl, .inl hS, _, _, rfl, rfl, _, rfl, ?_⟩
    refine ite2 (fun c => ?_) (fun c => ?_)
    · have c := of_decide_eq_true c
      rw [List.length_map] at c
      have hk : k.toNat < ns.length := by omega
      have g : (ns.map V.int)[k.toNat]? = some (.int ns[k.toNat]) := by
        rw [List.getElem?_map, List.getElem?_eq_getElem hk]
        rfl
      refine ⟨_, rfl, _, rfl, a, _, k, _, rfl, rfl, hS, at_of (j := k.toNat) (by omega) g, _, rfl, ?_⟩
      exact fin _ (by split <;> omega)
    · exact fin 0 (by decide)
theorem ok_ldigit (T : Tx K mg base) : FnOk P w K mg base CX0 1 T.f_ldigit T.d_ldigit ["_law_pot_here", "_law_many"] spDigit := by
  refine T.F_ldigit.ok sc_ldigit (fun vs H Q E h => ?_) (fun cdv A outer s H vs Q E hr h => ?_)
  · obtain ⟨p, m, rfl, _⟩ := h
    rfl
  · obtain ⟨p, m, rfl, ⟨x, y, hp, hx, hy, hy2⟩, hm, bm, q⟩ := h
    refine ⟨_, (pss_cons (ps_if (pt_cmpR op_gt (pe_ix ix_list (pv 0) pe_int (fun _ _ => rfl)) pe_int (nomark _)) (pss_cons (ps_asg (pe_callB call_divmodW (by rfl) T.n_divmod (by decide +kernel) (pa_cons (pe_ix ix_list (pv 0) pe_int (fun _ _ => rfl)) (pa_cons (pv 1) pa_nil))) (pg_tup (by rfl) (pgs_cons (pg_sub (pv 0) pe_int set_list) (pgs_cons (pg_name (i := 2) sc_ldigit.nd rfl (.inl rfl)) pgs_nil))))
        (pss_one (ps_ret (pv 2)))) pss_nil)
        (pss_cons (ps_asg (pe_op op_mod (pe_op op_add (pe_op op_mulW (pe_ix ix_list (pv 0) pe_int (fun _ _ => rfl)) pe_int) pe_int) pe_int) (pg_sub (pv 0) pe_int set_list))
        (pss_one (ps_ret (pe_op op_mod (pe_op op_fdivW (pe_op op_mod (pe_op op_mulW (pe_ix ix_list (pv 0) pe_int (fun _ _ => rfl)) (pe_ix ix_list (pv 0) pe_int (fun _ _ => rfl))) pe_int) pe_int) (pv 1)))))), ?_⟩
    have hL : SqL K H p [.int x, .int y] := .inl (.inl hp)
    refine ⟨_, rfl, p, _, 0, _, rfl, rfl, hL, atI_nat (j := 0) rfl, _, _, rfl, rfl, _, rfl, ?_⟩
    refine ite2 (fun c => ?_) (fun c => ?_)
    · have c := of_decide_eq_true c
      refine ⟨_, rfl, p, _, 0, _, rfl, rfl, hL, atI_nat (j := 0) rfl, _, rfl, _, _, rfl, ⟨hm, PyProof.noPylong_of_log2 (Nat.lt_of_lt_of_le (PySem.Flt.log2_lt_of (by decide) bm) (by decide))⟩, fun t nt => ?_⟩
      have npt : p ≠ t := ne_of_none hp nt
      have hp' : (upd H t (.tup [.int (x / m), .int (x % m)])) p = some (.lst [.int x, .int y]) := by rw [upd_ne npt]; exact hp
      refine ⟨t, _, rfl, .inl (.inl upd_same), rfl, _, _, rfl, _, rfl, p, _, _, 0, rfl, rfl, hp', rfl, _, _, rfl, rfl, ?_⟩
      refine ⟨_, rfl, ?_⟩
      refine q _ _ (Int.emod_nonneg x (by omega)) (Int.emod_lt_of_pos x hm) ((Same.x (same_new nt)).trans samex_set) ⟨x / m, y, upd_same, Int.ediv_nonneg (by omega) (by omega), hy, hy2⟩
    · refine ⟨_, rfl, p, _, 1, _, rfl, rfl, hL, atI_nat (j := 1) rfl, _, _, rfl, rfl, ?_, _, _, rfl, rfl, _, _, rfl, rfl, by show (0 : Int) < 2147483563; decide, ?_⟩
      · exact Bt.cmul (n := 32) (m := 32) (Bt.of_lt (by omega) (by omega)) (Bt.of_lt (by decide) (by decide)) (by decide)
      · refine ⟨_, rfl, p, _, _, 1, rfl, rfl, hp, rfl, ?_⟩
        have z0 : 0 ≤ (y * 45763 + 10061) % 2147483563 := Int.emod_nonneg _ (by decide)
        have z1 : (y * 45763 + 10061) % 2147483563 < 2147483563 := Int.emod_lt_of_pos _ (by decide)
        have hL2 : SqL K (upd H p (.lst [.int x, .int ((y * 45763 + 10061) % 2147483563)])) p [.int x, .int ((y * 45763 + 10061) % 2147483563)] := .inl (.inl upd_same)
        refine ⟨_, rfl, p, _, 1, _, rfl, rfl, hL2, atI_nat (j := 1) rfl, _, rfl, p, _, 1, _, rfl, rfl, hL2, atI_nat (j := 1) rfl, _, _, rfl, rfl, ?_, _, _, rfl, rfl, by show (0 : Int) < 2147483477; decide, _, _, rfl, rfl, ?_, _, rfl, _, _, rfl, rfl, hm, ?_⟩
        · exact Bt.cmul (n := 32) (m := 32) (Bt.of_lt (by omega) (by omega)) (Bt.of_lt (by omega) (by omega)) (by decide)
        · exact Bt.cdiv (n := 10) (by decide) (Bt.of_lt (by decide) (by decide)) (by decide)
        · exact q _ _ (Int.emod_nonneg _ (by omega)) (Int.emod_lt_of_pos _ hm) samex_set ⟨x, _, upd_same, hx, z0, by omega⟩
theorem ok_llow (T : Tx K mg base) : FnOk P w K mg base CX0 1 T.f_llow T.d_llow ["_law_above", "_law_below"] (spLow K) := by
  refine T.F_llow.ok sc_llow (fun vs H Q E h => ?_) (fun cdv A outer s H vs Q E hr h => ?_)
  · obtain ⟨a, b, rfl, _⟩ := h
    rfl
  · obtain ⟨x, y, rfl, hy, h9, q⟩ := h
    refine ⟨_, (pss_cons (ps_par (i := 2) (j := 3) (by rfl) sc_llow.nd rfl rfl (by decide) rfl rfl (pa_cons (pe_callB call_abs (by rfl) T.n_abs (by decide +kernel) (pa_cons (pv 0) pa_nil)) (pa_cons (pv 1) pa_nil)) (by rfl))
        (pss_cons (ps_while PassesOwn.never (pt_cmpR op_gt (pv 3) pe_int (nomark _)) (pss_one (ps_par (i := 2) (j := 3) (by rfl) sc_llow.nd rfl rfl (by decide) rfl rfl (pa_cons (pv 3) (pa_cons (pe_op op_mod (pv 2) (pv 3)) pa_nil)) (by rfl))))
        (pss_one (ps_ret (pe_tup (pa_cons (pe_op op_fdivW (pv 0) (pv 2)) (pa_cons (pe_op op_fdivW (pv 1) (pv 2)) pa_nil))))))), ?_⟩
    refine ⟨_, rfl, _, rfl, _, rfl, _, _, rfl, ?_⟩
    refine while_by (fun σ H' => ∃ a b : Int, σ = [some (.int x), some (.int y), some (.int a), some (.int b)] ∧ 0 ≤ a ∧ 0 ≤ b ∧ Int.gcd a b = Int.gcd x y ∧ H' = H)
      (fun σ _ => match σ with | [_, _, _, some (.int b)] => b.toNat | _ => 0) ⟨_, _, rfl, by split <;> omega, by omega, gcd_abs x y, rfl⟩ ?_ ?_
    · rintro σ H' ⟨a, b, rfl, ha, hb, eg, rfl⟩
      refine ⟨_, rfl, _, _, rfl, rfl, _, rfl, ?_⟩
      by_cases c : b = 0
      · subst c
        rw [show decide ((0 : Int) < 0) = false from rfl]
        refine iteF ?_
        have e := gcd_zero ha
        rw [eg] at e
        have g0 : 0 < (Int.gcd x y : Int) := by have := gcd_pos (a := x) (b := y) (by omega); omega
        have g9 : Bt 8999 (Int.gcd x y : Int) := gcd_bt hy h9
        rw [← e]
        refine ⟨_, rfl, _, rfl, _, _, rfl, rfl, g9.cdiv g0 (by decide), _, rfl, _, rfl, _, _, rfl, rfl, g9.cdiv g0 (by decide), by show 2 ≤ sizeLine; decide, fun p np => q _ _ (same_new np) TupI.new⟩
      · have hb' : 0 < b := by omega
        rw [show decide (0 < b) = true from decide_eq_true hb']
        refine iteT ?_
        refine ⟨_, rfl, _, rfl, _, rfl, _, _, rfl, rfl, hb', _, _, rfl, ?_, ?_⟩
        · exact ⟨b, a % b, rfl, hb, Int.emod_nonneg a c, (gcd_step ha hb').trans eg, rfl⟩
        · show (a % b).toNat < b.toNat
          have := Int.emod_lt_of_pos a hb'
          omega
    · rintro σ H Q Q' k ⟨v, h1, i, j, h2, h3, c, h4, q⟩
      exact ⟨v, h1, i, j, h2, h3, c, h4, k _ _ q⟩
theorem ok_lplus (T : Tx K mg base) : FnOk P w K mg base CX0 2 T.f_lplus T.d_lplus ["_law_one_here", "_law_other"] (spTwo K fun a b c d => lo (a * d + c * b) (b * d)) := by
  refine T.F_lplus.ok sc_lplus (fun vs H Q E h => ?_) (fun cdv A outer s H vs Q E hr h => ?_)
  · obtain ⟨u, v, a, b, c, d, rfl, _⟩ := h
    rfl
  · obtain ⟨u, v, a, b, c, d, rfl, ⟨t, rfl, ht⟩, ⟨r, rfl, hv⟩, hb, hd, ba, bb, bc, bd, q⟩ := h
    refine ⟨_, (pss_one (ps_ret (pe_call (ok_llow T) (hr.mono (by decide)) (by rfl) T.g_llow T.F_llow.kp T.b_llow .nil pass0 (pa_cons (pe_op op_add (pe_op op_mulW (pe_ix ix_tup (pv 0) pe_int (fun _ _ => rfl)) (pe_ix ix_tup (pv 1) pe_int (fun _ _ => rfl))) (pe_op op_mulW (pe_ix ix_tup (pv 1) pe_int (fun _ _ => rfl)) (pe_ix ix_tup (pv 0) pe_int (fun _ _ => rfl)))) (pa_cons (pe_op op_mulW (pe_ix ix_tup (pv 0) pe_int (fun _ _ => rfl)) (pe_ix ix_tup (pv 1) pe_int (fun _ _ => rfl))) pa_nil))))), ?_⟩
    refine ⟨_, rfl, t, _, 0, _, rfl, rfl, ht, atI_nat (j := 0) rfl, _, rfl, r, _, 1, _, rfl, rfl, hv, atI_nat (j := 1) rfl, _, _, rfl, rfl, ba.cmul bd (by decide), ?_⟩
    refine ⟨_, rfl, r, _, 0, _, rfl, rfl, hv, atI_nat (j := 0) rfl, _, rfl, t, _, 1, _, rfl, rfl, ht, atI_nat (j := 1) rfl, _, _, rfl, rfl, bc.cmul bb (by decide), ?_⟩
    refine ⟨_, _, rfl, rfl, ?_⟩
    refine ⟨_, rfl, t, _, 1, _, rfl, rfl, ht, atI_nat (j := 1) rfl, _, rfl, r, _, 1, _, rfl, rfl, hv, atI_nat (j := 1) rfl, _, _, rfl, rfl, bb.cmul bd (by decide), ?_⟩
    exact ⟨_, _, rfl, Int.mul_pos hb hd, (bb.mul bd).mono (by decide), q⟩
theorem ok_lless (T : Tx K mg base) : FnOk P w K mg base CX0 1 T.f_lless T.d_lless ["_law_one_here", "_law_other"] (spLess K) := by
  refine T.F_lless.ok sc_lless (fun vs H Q E h => ?_) (fun cdv A outer s H vs Q E hr h => ?_)
  · obtain ⟨u, v, a, b, c, d, rfl, _⟩ := h
    rfl
  · obtain ⟨u, v, a, b, c, d, rfl, ⟨t, rfl, ht⟩, ⟨r, rfl, hv⟩, ba, bb, bc, bd, q⟩ := h
    refine ⟨_, (pss_one (ps_ret (pe_cmpR op_lt (pe_op op_mulW (pe_ix ix_tup (pv 0) pe_int (fun _ _ => rfl)) (pe_ix ix_tup (pv 1) pe_int (fun _ _ => rfl))) (pe_op op_mulW (pe_ix ix_tup (pv 1) pe_int (fun _ _ => rfl)) (pe_ix ix_tup (pv 0) pe_int (fun _ _ => rfl))) (nomark _)))), ?_⟩
    refine ⟨_, rfl, t, _, 0, _, rfl, rfl, ht, atI_nat (j := 0) rfl, _, rfl, r, _, 1, _, rfl, rfl, hv, atI_nat (j := 1) rfl, _, _, rfl, rfl, ba.cmul bd (by decide), ?_⟩
    refine ⟨_, rfl, r, _, 0, _, rfl, rfl, hv, atI_nat (j := 0) rfl, _, rfl, t, _, 1, _, rfl, rfl, ht, atI_nat (j := 1) rfl, _, _, rfl, rfl, bc.cmul bb (by decide), ?_⟩
    exact ⟨_, _, rfl, rfl, q⟩
theorem ok_lmost (T : Tx K mg base) : FnOk P w K mg base CX0 2 T.f_lmost T.d_lmost ["_law_weight_here", "_law_many", "_law_k"] (spMostW K) := by
  refine T.F_lmost.ok sc_lmost (fun vs H Q E h => ?_) (fun cdv A outer s H vs Q E hr h => ?_)
  · obtain ⟨a, n, k, rfl, _⟩ := h
    rfl
  · obtain ⟨a, n, k, rfl, ba, bn, bk, q⟩ := h
    refine ⟨_, (pss_one (ps_ret (pe_call (ok_llow T) (hr.mono (by decide)) (by rfl) T.g_llow T.F_llow.kp T.b_llow .nil pass0 (pa_cons (pe_op op_mulW (pe_op op_mulW (pv 0) (pv 2)) (pe_op op_sub (pv 1) (pv 2))) (pa_cons pe_int pa_nil))))), ?_⟩
    refine ⟨_, rfl, _, rfl, _, _, rfl, rfl, ba.cmul bk (by decide), _, rfl, _, rfl, _, _, rfl, rfl, _, _, rfl, rfl, (ba.mul bk).cmul (bn.sub bk) (by decide), ?_⟩
    exact ⟨_, _, rfl, by decide, by unfold Bt; decide +kernel, q⟩

end
end WS

set_option Elab.async false
set_option linter.all false
set_option maxRecDepth 100000
set_option maxHeartbeats 4000000
namespace WS
open PySem PySem.Spec PyProof.Rows L2
section
variable {P : Program} {w : World} {K : PySem.W.Frag} {mg : Str → Option Value} {base : Heap}
open TL
theorem ok_common_below (T : Tx K mg base) : FnOk P w K mg base CX0 2 T.f_common_below T.d_common_below ["row"] (spCommon K) := by
  refine T.F_common_below.ok sc_common_below (fun vs H Q E h => ?_) (fun cdv A outer s H vs Q E hr h => ?_)
  · obtain ⟨n, l, rs, ps, rfl, _⟩ := h
    rfl
  · obtain ⟨n, l, rs, ps, rfl, n9, hR, hP, hk, hn, q⟩ := h
    refine ⟨_, (pss_cons (ps_set (i := 1) sc_common_below.nd rfl (.inl rfl) pe_int)
        (pss_cons (ps_for PassesOwn.never rfl (pi_tup (pv 0)) (pg_name (i := 2) sc_common_below.nd rfl (.inl rfl)) (pss_one (ps_set (i := 1) sc_common_below.nd rfl (.inl rfl) (pe_op op_mulW (pe_op op_fdivW (pv 1) (pe_call (ok_greatest_common T) (hr.mono (by decide)) (by rfl) T.g_greatest_common T.F_greatest_common.kp T.b_greatest_common .nil pass0 (pa_cons (pv 1) (pa_cons (pe_ix ix_tup (pv 2) pe_int (fun _ _ => rfl)) pa_nil)))) (pe_ix ix_tup (pv 2) pe_int (fun _ _ => rfl))))))
        (pss_one (ps_ret (pv 1))))), ?_⟩
    refine ⟨_, rfl, l, rfl, ⟨_, hR⟩, for_tup (K := K) (a := l) (xs := rs) (fun i σ H' => ∃ f y, σ = [some (.ref l), some (.int f), y] ∧ H' = H ∧ 0 < f ∧ (∀ p ∈ ps.take i, p.2 ∣ f) ∧ Bt (1 + i * n) f)
      ⟨1, none, rfl, rfl, by decide, fun p hp => by simp at hp, by unfold Bt; simp⟩ (fun i σ H' _ ⟨_, _, _, e, _⟩ => by rw [e]; exact hR) ?_ ?_⟩
    · rintro i x σ H' hx ⟨f, y, rfl, rfl, f0, fd, fb⟩
      obtain ⟨p, hp, t, rfl, ht⟩ := hP.2 i x hx
      have hi : i < ps.length := by
        rcases Nat.lt_or_ge i ps.length with h | h
        · exact h
        · rw [List.getElem?_eq_none h] at hp; cases hp
      obtain ⟨b0, ba, bb⟩ := hk p (List.mem_of_getElem? hp)
      have g0 : (0 : Int) < (Int.gcd f p.2 : Int) := by have := gcd_pos (a := f) (b := p.2) (by omega); omega
      obtain ⟨s0, s1, s2⟩ := lcm_step f0 b0
      have bq : Bt (1 + i * n) (f / (Int.gcd f p.2 : Int)) := fb.of_le (ediv_natAbs_le f _)
      have sz : 1 + i * n + n ≤ 900000 := by
        have h1 : i * n ≤ ps.length * n := Nat.mul_le_mul_right n (by omega)
        have h2 : (ps.length + 2) * (n + 1) = ps.length * n + ps.length + 2 * n + 2 := by grind
        omega
      refine ⟨_, rfl, _, rfl, _, rfl, t, _, 1, _, rfl, rfl, ht, atI_nat (j := 1) rfl, _, _, rfl, Int.le_of_lt f0, Int.le_of_lt b0, _, _, rfl, rfl, Bt.cdiv g0 (gcd_bt b0 bb) n9, _, rfl, t, _, 1, _, rfl, rfl, ht, atI_nat (j := 1) rfl, _, _, rfl, rfl, bq.cmul bb sz, ?_⟩
      refine ⟨_, some (.ref t), rfl, rfl, s0, fun z hz => ?_, (bq.mul bb).mono (by rw [Nat.succ_mul]; omega)⟩
      rw [List.take_add_one, hp] at hz
      rcases List.mem_append.mp hz with hz | hz
      · exact Int.dvd_trans (fd z hz) s1
      · obtain rfl : z = p := by simpa using hz
        exact s2
    · rintro σ H' ⟨f, y, rfl, rfl, f0, fd, fb⟩
      rw [hP.1, List.take_length] at fd
      rw [hP.1] at fb
      exact ⟨_, rfl, q f f0 fd fb⟩
theorem ok_greatest_first (T : Tx K mg base) : FnOk P w K mg base CX0 3 T.f_greatest_first T.d_greatest_first ["row"] (spFirstT K T.TT) := by
  refine fun_cd T.F_greatest_first sc_greatest_first (fun vs H Q E h => ?_) (fun cdv A outer s H vs Q E hcd hr h => ?_)
  · obtain ⟨n, l, rs, ps, rfl, _⟩ := h
    rfl
  · obtain ⟨n, l, rs, ps, rfl, n9, hR, hP, hk, hn, hT, q⟩ := h
    refine ⟨_, (pss_cons (ps_set (i := 1) sc_greatest_first.nd rfl (.inr rfl) (pe_call (ok_common_below T) (hr.mono (by decide)) (by rfl) T.g_common_below T.F_common_below.kp T.b_common_below .nil pass0 (pa_cons (pv 0) pa_nil)))
        (pss_cons (ps_set (i := 2) sc_greatest_first.nd rfl (.inr rfl) (pe_lc (own := [("above", 3), ("below", 4)]) (g := gTup K 2 (gCons (gName 3) (gCons (gName 4) gNil))) (tt := tYes) (by rfl) sc_greatest_first.nd (pi_tup (pv 0)) (blkOk_by (own := [("above", 3), ("below", 4)]) (N := ["row", "common", "aboves", "above", "below"]) (sc := defScope s_greatest_first) (by decide +kernel)) (fun _ _ _ _ _ => (pg_tup (by rfl) (pgs_cons (pg_name (i := 3) sc_greatest_first.nd rfl (.inl rfl)) (pgs_cons (pg_name (i := 4) sc_greatest_first.nd rfl (.inl rfl)) pgs_nil)))) (fun _ _ _ _ _ => pts_nil) (fun _ _ _ _ _ => (pe_op op_mulW (pv 3) (pe_op op_fdivW (pv 1) (pv 4))))))
        (pss_one (ps_ret (pe_sortedLam (T := [(T.P_tab, qLam)]) (i := 2) (by rfl) (by rfl) T.n_sorted (pe_callTy cr_range1 (by rfl) T.n_range (by decide +kernel) (pa_cons (pe_callB call_len_seq (by rfl) T.n_len (by decide +kernel) (pa_cons (pv 2) pa_nil)) pa_nil)) hr T.tb (by exact hcd.symm.trans T.hc_tab) (List.mem_singleton.mpr rfl) (fun p hp _ => by rw [List.mem_singleton.mp hp]; rfl) rfl rfl (by rfl) (fun _ _ _ _ _ _ => rfl) rfl rfl rfl rfl (by decide) (by decide) (by decide) (by decide)))))), ?_⟩
    refine ⟨_, rfl, n, l, rs, ps, rfl, n9, hR, hP, hk, hn, fun c c0 cd cb => ?_⟩
    have hlen : rs.length = ps.length := hP.1
    have sz : 1 + ps.length * n + n ≤ 800000 := by
      have h2 : (ps.length + 2) * (n + 1) = ps.length * n + ps.length + 2 * n + 2 := by grind
      omega
    have hl8 : ps.length + 2 ≤ 800000 := Nat.le_trans (Nat.le_mul_of_pos_right _ (Nat.succ_pos n)) hn
    refine ⟨_, rfl, l, rfl, ⟨_, hR⟩, fun D nD => ?_⟩
    refine lc_tup (K := K) (a := l) (xs := rs) (fun i H' => H' = upd H D (.lst ((ps.take i).map fun p => V.int (overC c p)))) (by simp) (fun i H' _ e => by rw [e]; exact Same.tup (same_new nD) hR) ?_ ?_
    · rintro i x H' hx rfl
      obtain ⟨p, hp, t, rfl, ht⟩ := hP.2 i x hx
      have hi : i < ps.length := by
        rcases Nat.lt_or_ge i ps.length with h | h
        · exact h
        · rw [List.getElem?_eq_none h] at hp; cases hp
      obtain ⟨b0, ba, bb⟩ := hk p (List.mem_of_getElem? hp)
      refine ⟨t, _, rfl, Same.tup (same_new nD) ht, rfl, _, _, rfl, _, _, rfl, rfl, ?_⟩
      refine ⟨rfl, tyes (iteT ?_)⟩
      refine ⟨_, rfl, _, rfl, _, rfl, _, _, rfl, rfl, Bt.cdiv b0 bb n9, _, _, rfl, rfl, ba.cmul (cb.of_le ?_) (by omega), ?_⟩
      · have e : c / p.2 = c / (p.2.natAbs : Int) := by rw [Int.natAbs_of_nonneg (Int.le_of_lt b0)]
        rw [e]
        exact ediv_natAbs_le c _
      · refine ⟨_, upd_same, ?_, ?_⟩
        · rw [List.length_map, List.length_take, sizeLine_eq]
          omega
        · rw [upd_upd, List.take_add_one, hp]
          simp [overC]
    · rintro H' rfl
      rw [hlen, List.take_length]
      have hD : upd H D (.lst (ps.map fun p => V.int (overC c p))) D = some (.lst ((ps.map (overC c)).map V.int)) := by rw [upd_same, List.map_map]; rfl
      generalize hB : upd H D (.lst (ps.map fun p => V.int (overC c p))) = B at *
      have sB : Same H B := by rw [← hB]; exact same_new nD
      have lenE : ((ps.map (overC c)).map V.int).length = (ps.map (overC c)).length := List.length_map _
      refine ⟨_, rfl, D, _, rfl, .inl (.inl (.inl hD)), _, rfl, fun r nr => ?_⟩
      have sR : Same B (upd B r (.rng 0 (((ps.map (overC c)).map V.int).length : Nat))) := same_new nr
      refine ⟨r, D, ps.map (overC c), rfl, by rw [upd_same, lenE], rfl, sR _ _ hD, by rw [List.length_map]; omega, (hT.ext (sB.trans sR)), fun H2 p ord e2 t2 np rk => ?_⟩
      have nH : New H p := fun o z => by
        by_cases ht : ∃ ps, o = .tbl ps
        · exact ht
        · exact absurd (e2 _ _ ((sB.trans sR) _ _ z) (fun tp e => ht ⟨tp, e⟩)) (by rw [np]; simp)
      refine q _ p ord ?_ (t2.ext (same_new np)) nH upd_same ((ranked_c c0 fun p hp => ⟨(hk p hp).1, cd p hp⟩).mp rk)
      exact (ExtN.same (sB.trans sR)).trans (e2.trans (ExtN.same (same_new np)))

end
end WS

set_option Elab.async false
set_option linter.all false
set_option maxRecDepth 100000
set_option maxHeartbeats 4000000
namespace WS
open PySem PySem.Spec PyProof.Rows L2
section
variable {P : Program} {w : World} {K : PySem.W.Frag} {mg : Str → Option Value} {base : Heap}
open TL
theorem ok_sums_ahead (T : Tx K mg base) : FnOk P w K mg base CX0 5 T.f_sums_ahead T.d_sums_ahead ["row"] (spAheadT K T.TT) := by
  refine T.F_sums_ahead.ok sc_sums_ahead (fun vs H Q E h => ?_) (fun cdv A outer s H vs Q E hr h => ?_)
  · obtain ⟨l, ps, rfl, _⟩ := h
    rfl
  · obtain ⟨l, ps, rfl, ⟨n, rs, hR, hP, hk, hn⟩, hT, q⟩ := h
    refine ⟨_, (pss_cons (ps_set (i := 1) sc_sums_ahead.nd rfl (.inl rfl) (pe_lst (pa_cons (pe_glob (v := .ref T.a_NOUGHT) (by rfl) T.g_NOUGHT rfl) pa_nil)))
        (pss_cons (ps_for PassesOwn.never rfl (pi_list (pe_call (ok_greatest_first T) (hr.mono (by decide)) (by rfl) T.g_greatest_first T.F_greatest_first.kp T.b_greatest_first .nil pass0 (pa_cons (pv 0) pa_nil))) (pg_name (i := 2) sc_sums_ahead.nd rfl (.inl rfl)) (pss_one (ps_expr (pe_bm PySem.F.plainAttrs_list PySem.F.slot_list_append PySem.F.type_list_append mt_append (pv 1) (pa_cons (pe_call (ok_plus T) (hr.mono (by decide)) (by rfl) T.g_plus T.F_plus.kp T.b_plus .nil pass0 (pa_cons (pe_ix ix_list (pv 1) (pe_un un_neg pe_int) (fun _ _ => rfl)) (pa_cons (pe_ix ix_tup (pv 0) (pv 2) (fun _ _ => rfl)) pa_nil))) pa_nil)))))
        (pss_one (ps_ret (pv 1))))), ?_⟩
    refine ⟨by show 1 ≤ sizeLine; decide, fun D nD => ?_⟩
    obtain ⟨B, eB, sB, hD⟩ : ∃ B, B = upd H D (.lst [.ref T.a_NOUGHT]) ∧ Same H B ∧ B D = some (.lst [.ref T.a_NOUGHT]) := ⟨_, rfl, same_new nD, upd_same⟩
    rw [← eB]
    have l44 : ps.length + 2 ≤ 4400 := Nat.le_trans (Nat.le_mul_of_pos_right _ (Nat.succ_pos n)) hn
    have n9 : n ≤ 8999 := by
      rw [Nat.add_mul] at hn
      omega
    refine ⟨_, rfl, n, l, rs, ps, rfl, n9, Same.tup sB hR, hP.k (kt_same sB), hk, by omega, hT.ext sB, fun H1 p ord e1 t1 np hp rk => ?_⟩
    have hD1 := e1 _ _ hD (fun ps z => by cases z)
    have nDp : D ≠ p := np.ne hD (fun ps z => by cases z)
    have hR1 := (ExtN.kt e1).sqt (Same.tup sB hR)
    have hP1 := (hP.k (kt_same sB)).k (ExtN.kt e1)
    obtain ⟨ol, olt⟩ := rk.lt
    refine ⟨p, rfl, ⟨_, .inl (.inl hp)⟩, for_list (K := K) (a := p) (xs := ord.map fun j : Nat => V.int j) (fun i σ H' => ∃ tz u y, σ = [some (.ref l), some (.ref D), y] ∧ H' D = some (.lst (tz ++ [u])) ∧ Parts K H' (tz ++ [u]) ((List.range (i + 1)).map (sumK ps ord)) ∧ TupI K H' u (sumK ps ord i).1 (sumK ps ord i).2 ∧ SameX D H1 H' ∧ KT H1 H')
      ⟨[], _, none, rfl, hD1, Parts.cons (p := (0, 1)) ⟨_, rfl, T.t_NOUGHT _⟩ Parts.nil, ⟨_, rfl, T.t_NOUGHT _⟩, SameX.refl _ _, KT.refl _⟩ (fun i σ H' _ ⟨_, _, _, _, _, _, _, s, _⟩ => .inl (.inl (s _ _ nDp.symm hp))) ?_ ?_⟩
    · rintro i x σ H' hx ⟨tz, u, y, rfl, hD', hts, hu, sx, kt⟩
      rw [List.getElem?_map] at hx
      obtain ⟨j, hj, rfl⟩ : ∃ j, ord[i]? = some j ∧ V.int (j : Nat) = x := by
        cases z : ord[i]? with
        | none => rw [z] at hx; cases hx
        | some j => rw [z] at hx; exact ⟨j, rfl, Option.some.inj hx⟩
      have hjl : j < ps.length := olt j (List.mem_of_getElem? hj)
      have hil : i < ord.length := (List.getElem?_eq_some_iff.mp hj).1
      obtain ⟨v, hv⟩ : ∃ v, rs[j]? = some v := ⟨_, List.getElem?_eq_getElem (by rw [hP.1]; exact hjl)⟩
      obtain ⟨pj, hpj, tv⟩ := hP1.2 j v hv
      have egp : gp ps j = pj := by unfold gp; rw [List.getD_eq_getElem?_getD, hpj]; rfl
      have o1 := sumK_okp rk hk hn i
      have o2 : Okp 4400 pj := (hk pj (List.mem_of_getElem? hpj)).mono (by rw [Nat.add_mul] at hn; omega)
      refine ⟨_, rfl, .inl ⟨rfl, _, .inl (.inl hD')⟩, _, rfl, _, rfl, D, _, -1, _, rfl, rfl, .inl (.inl hD'), atI_last tz u, _, rfl, _, rfl, l, _, j, _, rfl, rfl, kt.sqt hR1, atI_nat hv, ?_⟩
      refine ⟨_, _, _, _, _, _, rfl, hu, tv.k kt, o1.1, o2.1, o1.2.1.mono (by decide), o1.2.2, o2.2.1.mono (by decide), o2.2.2, fun t H2 st ht2 => ?_⟩
      have hD2 := st _ _ hD'
      have el : (tz ++ [u]).length = i + 1 := by rw [hts.1, List.length_map, List.length_range]
      refine ⟨D, tz ++ [u], t, rfl, rfl, hD2, by rw [el, sizeLine_eq]; omega, ?_⟩
      have k2 : KT H2 (upd H2 D (.lst (tz ++ [u] ++ [t]))) := kt_set hD2
      have e5 : sumK ps ord (i + 1) = lo ((sumK ps ord i).1 * pj.2 + pj.1 * (sumK ps ord i).2) ((sumK ps ord i).2 * pj.2) := by rw [sumK_succ hj, egp]; rfl
      have ht3 : TupI K (upd H2 D (.lst (tz ++ [u] ++ [t]))) t (sumK ps ord (i + 1)).1 (sumK ps ord (i + 1)).2 := by rw [e5]; exact ht2.k k2
      refine ⟨tz ++ [u], t, _, rfl, upd_same, ?_, ht3, sx.trans ((Same.x st).trans samex_set), kt.trans ((kt_same st).trans k2)⟩
      rw [List.range_succ, List.map_append]
      exact ((hts.k (kt_same st)).k k2).add ht3
    · rintro σ H' ⟨tz, u, y, rfl, hD', hts, hu, sx, kt⟩
      rw [List.length_map, ol] at hts
      refine ⟨_, rfl, q H' D _ ord (fun b o hb nt => ?_) ?_ (New.of nD) hD' hts rk⟩
      · have hb1 := e1 _ _ (sB _ _ hb) nt
        exact sx _ _ (fun z => by rw [z, nD] at hb; cases hb) hb1
      · exact Tabs.lx t1 sx hD1
theorem ok_fall (T : Tx K mg base) : FnOk P w K mg base CX0 6 T.f_fall T.d_fall ["weight", "row"] (spFallT K T.TT) := by
  refine T.F_fall.ok sc_fall (fun vs H Q E h => ?_) (fun cdv A outer s H vs Q E hr h => ?_)
  · obtain ⟨wt, l, ps, rfl, _⟩ := h
    rfl
  · obtain ⟨wt, l, ps, rfl, bw, hrow, hT, q⟩ := h
    refine ⟨_, (pss_cons (ps_for PassesOwn.never rfl (pi_enB (by rfl) T.n_enumerate (pa_cons (pe_call (ok_sums_ahead T) (hr.mono (by decide)) (by rfl) T.g_sums_ahead T.F_sums_ahead.kp T.b_sums_ahead .nil pass0 (pa_cons (pv 1) pa_nil)) pa_nil)) (pg_tup (by rfl) (pgs_cons (pg_name (i := 2) sc_fall.nd rfl (.inl rfl)) (pgs_cons (pg_name (i := 3) sc_fall.nd rfl (.inl rfl)) pgs_nil))) (pss_one (ps_if (pt_val (pe_call (ok_is_less T) (hr.mono (by decide)) (by rfl) T.g_is_less T.F_is_less.kp T.b_is_less .nil pass0 (pa_cons (pe_call (ok_most T) (hr.mono (by decide)) (by rfl) T.g_most T.F_most.kp T.b_most .nil pass0 (pa_cons (pv 0) (pa_cons (pe_callB call_len_seq (by rfl) T.n_len (by decide +kernel) (pa_cons (pv 1) pa_nil)) (pa_cons (pv 2) pa_nil)))) (pa_cons (pv 3) pa_nil)))) (pss_one (ps_ret (pv 2))) pss_nil)))
        (pss_one (ps_ret pe_non))), ?_⟩
    refine ⟨_, rfl, l, ps, rfl, hrow, hT, fun H1 p ts ord e1 t1 np hp hts rk => ?_⟩
    obtain ⟨n, rs, hR1, hP1, hk, hn⟩ := hrow.k (ExtN.kt e1)
    have l44 : ps.length + 2 ≤ 4400 := Nat.le_trans (Nat.le_mul_of_pos_right _ (Nat.succ_pos n)) hn
    have tl : ts.length = ps.length + 1 := by rw [hts.1]; unfold sumsP; rw [List.length_map, List.length_range]
    refine ⟨true, p, ts, rfl, .inl (.inl hp), for_it (walk_enB (K := K) (b := true) (a := p) (xs := ts) (k := 0)) (fun i σ H' => ∃ y z, σ = [some (.int wt), some (.ref l), y, z] ∧ Same H1 H' ∧ ∀ k, k < i → fallsAt wt ps ord k = false)
      ⟨none, none, rfl, Same.refl _, fun k hk => absurd hk (Nat.not_lt_zero k)⟩ (fun i σ H' _ ⟨_, _, _, s, _⟩ => .inl (.inl (s _ _ hp))) ?_ ?_⟩
    · rintro i x σ H' H'' hi ⟨y, z, rfl, s1, hf⟩ ⟨t, v1, v2, rfl, nt, rfl, ev1, ev2⟩
      have ev1 : some (V.int (0 + (i : Nat))) = some v1 := ev1
      rw [Int.zero_add] at ev1
      obtain rfl : V.int (i : Nat) = v1 := Option.some.inj ev1
      have hi : i < ts.length := hi
      have ev2 : ts[i]? = some v2 := ev2
      obtain ⟨pk, hpk, tk⟩ := hts.2 i v2 ev2
      have epk : pk = sumK ps ord i := by
        unfold sumsP at hpk
        rw [List.getElem?_map, List.getElem?_range (by omega)] at hpk
        exact (Option.some.inj hpk).symm
      subst epk
      have s2 : Same H1 (upd H' t (.tup [.int (i : Nat), v2])) := s1.trans (same_new nt)
      refine ⟨t, _, rfl, .inl (.inl upd_same), rfl, _, _, rfl, _, _, rfl, rfl, ?_⟩
      have bl : Bt 200 ((rs.length : Nat) : Int) := Bt.of_lt (by omega) (by rw [hP1.1]; omega)
      have bi : Bt 200 ((i : Nat) : Int) := Bt.of_lt (by omega) (by omega)
      refine ⟨_, rfl, _, rfl, l, rs, rfl, .inr (Same.tup s2 hR1), _, rfl, ?_⟩
      refine ⟨_, _, _, rfl, bw, bl, bi, fun mv H2 s3 hm => ?_⟩
      have o1 := sumK_okp rk hk hn i
      have bm : Bt 4400 (wt * (i : Nat) * ((rs.length : Nat) - (i : Nat) : Int)) := ((bw.mul bi).mul (bl.sub bi)).mono (by decide)
      have b2 : Bt 4400 (2 : Int) := by unfold Bt; exact Nat.lt_of_lt_of_le (by decide : (2 : Int).natAbs < 2 ^ 2) (Nat.pow_le_pow_right (by decide) (by decide))
      refine ⟨_, rfl, _, _, _, _, _, _, rfl, hm, tk.same (s2.trans s3), bm.lo1.mono (by decide), b2.lo2, o1.2.1.mono (by decide), o1.2.2, ?_⟩
      have ef : fallsAt wt ps ord i = decide ((lo (wt * (i : Nat) * ((rs.length : Nat) - (i : Nat) : Int)) 2).1 * (sumK ps ord i).2 < (sumK ps ord i).1 * (lo (wt * (i : Nat) * ((rs.length : Nat) - (i : Nat) : Int)) 2).2) := by rw [hP1.1]; rfl
      rw [← ef]
      cases hfa : fallsAt wt ps ord i with
      | true =>
        refine ⟨true, rfl, iteT ?_⟩
        refine ⟨_, rfl, ?_⟩
        have hv : fallV wt ps ord = .int (i : Nat) := by
          unfold fallV
          rw [find_at (k := i) (by omega) hfa hf]
        have e3 : LamX.ExtN H H2 := e1.trans (ExtN.same (s2.trans s3))
        have := q H2 ord e3 (t1.ext (s2.trans s3)) rk
        rw [hv] at this
        exact this
      | false =>
        refine ⟨false, rfl, iteF ?_⟩
        refine ⟨_, _, rfl, s2.trans s3, fun k hk => ?_⟩
        rcases Nat.lt_succ_iff_lt_or_eq.mp hk with h | rfl
        · exact hf k h
        · exact hfa
    · rintro σ H' ⟨y, z, rfl, s1, hf⟩
      have hv : fallV wt ps ord = .non := by
        unfold fallV
        rw [find_no fun k hk => hf k (by omega)]
      have := q H' ord (e1.trans (ExtN.same s1)) (t1.ext s1) rk
      rw [hv] at this
      exact this
theorem ok_is_within (T : Tx K mg base) : FnOk P w K mg base CX0 7 T.f_is_within T.d_is_within ["weight", "row"] (spWithinN K T.TT 250) := by
  refine T.F_is_within.ok sc_is_within (fun vs H Q E h => ?_) (fun cdv A outer s H vs Q E hr h => ?_)
  · obtain ⟨wt, l, ps, rfl, _⟩ := h
    rfl
  · obtain ⟨wt, l, ps, rfl, bw, hrow, hk2, hl, hT, q⟩ := h
    refine ⟨_, (pss_one (ps_ret (pe_and (pe_cmpR (op_eqD hr.units) (pe_call (ok_total T) (hr.mono (by decide)) (by rfl) T.g_total T.F_total.kp T.b_total T.vb_total pass0 (pa_cons (pv 1) pa_nil)) (pe_glob (v := .ref T.a_NOUGHT) (by rfl) T.g_NOUGHT rfl) (nomark _)) (pe_one (pe_cmpR op_isN (pe_call (ok_fall T) (hr.mono (by decide)) (by rfl) T.g_fall T.F_fall.kp T.b_fall .nil pass0 (pa_cons (pv 0) (pa_cons (pv 1) pa_nil))) pe_non (nomark _)))))), ?_⟩
    obtain ⟨n, rs, hR, hP, hk, hn⟩ := hrow
    have p0 : ∀ q ∈ ps, 0 < q.2 := fun q hq => (hk q hq).1
    refine ⟨_, rfl, l, _, 0, 1, rs, ps, rfl, .inr hR, ⟨_, rfl, T.t0 _⟩, ⟨by decide, by unfold Bt; decide +kernel, by unfold Bt; decide +kernel⟩, hP, hk2, hl, fun v H1 s1 hv => ?_⟩
    refine ⟨_, _, pd_dp hv, pd_dp (a := 0) (b := 1) ⟨_, rfl, T.t_NOUGHT _⟩, rfl, rfl, ?_⟩
    rw [eqv_pairs]
    by_cases hz : (ps.foldl pl (0, 1)).1 = 0 ∧ (ps.foldl pl (0, 1)).2 = 1
    · rw [decide_eq_true hz]
      refine ⟨true, rfl, iteT ?_⟩
      have hz : ps.foldl pl (0, 1) = (0, 1) := Prod.ext hz.1 hz.2
      refine ⟨_, rfl, _, rfl, wt, l, ps, rfl, bw, ⟨n, rs, Same.tup s1 hR, hP.k (kt_same s1), hk, hn⟩, hT.ext s1, fun H2 ord e2 t2 rk => ⟨rfl, ?_⟩⟩
      refine q H2 _ ((ExtN.same s1).trans e2) t2 ?_
      rw [decide_eq_true_eq, fallV_wth rk p0]
      exact ⟨fun f => ⟨(nought_iff p0).mp hz, f⟩, fun f => f.2⟩
    · rw [decide_eq_false hz]
      refine ⟨false, rfl, iteF ?_⟩
      refine q H1 false (ExtN.same s1) (hT.ext s1) ⟨fun z => (by cases z), fun f => ?_⟩
      have := (nought_iff p0).mpr f.1
      exact absurd ⟨congrArg Prod.fst this, congrArg Prod.snd this⟩ hz
theorem ok_places_beyond (T : Tx K mg base) : FnOk P w K mg base CX0 7 T.f_places_beyond T.d_places_beyond ["weight", "row"] (spPlacesN K T.TT) := by
  refine T.F_places_beyond.ok sc_places_beyond (fun vs H Q E h => ?_) (fun cdv A outer s H vs Q E hr h => ?_)
  · obtain ⟨wt, l, ps, rfl, _⟩ := h
    rfl
  · obtain ⟨wt, l, ps, rfl, bw, hrow, p0, wth, hT, q⟩ := h
    refine ⟨_, (pss_cons (ps_set (i := 2) sc_places_beyond.nd rfl (.inl rfl) (pe_call (ok_fall T) (hr.mono (by decide)) (by rfl) T.g_fall T.F_fall.kp T.b_fall .nil pass0 (pa_cons (pv 0) (pa_cons (pv 1) pa_nil))))
        (pss_cons (ps_if (pt_cmpR op_isN (pv 2) pe_non (nomark _)) (pss_one (ps_ret (pe_lst pa_nil))) pss_nil)
        (pss_one (ps_ret (pe_slice sl_list (pe_call (ok_greatest_first T) (hr.mono (by decide)) (by rfl) T.g_greatest_first T.F_greatest_first.kp T.b_greatest_first .nil pass0 (pa_cons (pv 1) pa_nil)) po_none (po_some (pv 2))))))), ?_⟩
    refine ⟨_, rfl, _, rfl, wt, l, ps, rfl, bw, hrow, hT, fun H1 ord x1 t1 rk => ?_⟩
    rw [(fallV_wth rk p0).mpr wth]
    refine ⟨_, rfl, rfl, true, by rw [decide_eq_true rfl], iteT ?_⟩
    refine ⟨by show 0 ≤ sizeLine; decide, fun D nD => ?_⟩
    exact q _ D (x1.trans (ExtN.same (same_new nD))) (t1.ext (same_new nD)) upd_same

end
end WS

set_option Elab.async false
set_option linter.all false
set_option maxRecDepth 100000
set_option maxHeartbeats 4000000
namespace WS
open PySem PySem.Spec PyProof.Rows L2
section
variable {P : Program} {w : World} {K : PySem.W.Frag} {mg : Str → Option Value} {base : Heap}
open TL
theorem ok_owing (T : Tx K mg base) : FnOk P w K mg base CX0 1 T.f_owing T.d_owing ["moment"] (spOwing K) := by
  refine T.F_owing.ok sc_owing (fun vs H Q E h => ?_) (fun cdv A outer s H vs Q E hr h => ?_)
  · obtain ⟨v, W, ss, rfl, _⟩ := h
    rfl
  · obtain ⟨v, W, ss, rfl, hm, hl, q⟩ := h
    obtain ⟨t, S, vs, rfl, ht, hS, hD⟩ := mom_get hm
    refine ⟨_, (pss_one (ps_ret (pe_callTy call_tuple_of (by rfl) T.n_tuple (by decide +kernel) (pa_cons (pe_lc (own := [("person", 1), ("owed", 2)]) (g := gTup K 2 (gCons (gName 1) (gCons (gName 2) gNil))) (tt := tYes) (by rfl) sc_owing.nd (pi_tup (pe_ix ix_tup (pv 0) pe_int (fun _ _ => rfl))) (blkOk_by (own := [("person", 1), ("owed", 2)]) (N := ["moment", "person", "owed"]) (sc := defScope s_owing) (by decide +kernel)) (fun _ _ _ _ _ => (pg_tup (by rfl) (pgs_cons (pg_name (i := 1) sc_owing.nd rfl (.inl rfl)) (pgs_cons (pg_name (i := 2) sc_owing.nd rfl (.inl rfl)) pgs_nil)))) (fun _ _ _ _ _ => pts_nil) (fun _ _ _ _ _ => (pv 2))) pa_nil)))), ?_⟩
    have el : vs.length = ss.length := by rw [dpall_len hD, List.length_map]
    refine ⟨_, rfl, t, _, 1, _, rfl, rfl, ht, atI_nat (j := 1) rfl, S, rfl, ⟨_, hS⟩, fun D nD => ?_⟩
    refine lc_tup (K := K) (a := S) (xs := vs) (fun j H' => ∃ us, H' D = some (.lst us) ∧ us.length = j ∧ DpAll K H' us (((ss.take j).map Prod.snd).map pdP) ∧ Same H H') ⟨[], upd_same, rfl, .nil, same_new nD⟩ (fun j H' _ ⟨_, _, _, _, s⟩ => Same.tup s hS) ?_ ?_
    · rintro j x H' hx ⟨us, hDs, hul, hP, s1⟩
      obtain ⟨st, u, y, es, rfl, hu, hy⟩ := seat_at hD hx
      have hj : j < ss.length := (List.getElem?_eq_some_iff.mp es).1
      refine ⟨u, _, rfl, Same.tup s1 hu, rfl, _, _, rfl, _, _, rfl, rfl, rfl, tyes (iteT ?_)⟩
      refine ⟨_, rfl, us, hDs, small1000 (by omega), us ++ [y], upd_same, by simp [hul], ?_, same_upd s1 nD⟩
      rw [List.take_add_one, es, List.map_append, List.map_append]
      exact (dpall_add hP (hy.sm s1)).kt (kt_set hDs) (by rw [immAll_app, parts_imm]; rfl)
    · rintro H1 ⟨us, hDs, hul, hP, s1⟩
      rw [el, List.take_length] at hP
      refine ⟨D, us, rfl, .inl ⟨.inl (.inl hDs), fun R nR => ?_⟩⟩
      exact q _ _ (s1.trans (same_new nR)) (.tup (.inl (.inl upd_same)) (hP.sm (same_new nR)))
theorem ok_persons (T : Tx K mg base) : FnOk P w K mg base CX0 1 T.f_persons T.d_persons ["moment"] (spPersons K) := by
  refine T.F_persons.ok sc_persons (fun vs H Q E h => ?_) (fun cdv A outer s H vs Q E hr h => ?_)
  · obtain ⟨v, W, ss, rfl, _⟩ := h
    rfl
  · obtain ⟨v, W, ss, rfl, hm, hl, q⟩ := h
    obtain ⟨t, S, vs, rfl, ht, hS, hD⟩ := mom_get hm
    refine ⟨_, (pss_one (ps_ret (pe_lc (own := [("person", 1), ("owed", 2)]) (g := gTup K 2 (gCons (gName 1) (gCons (gName 2) gNil))) (by rfl) sc_persons.nd (pi_tup (pe_ix ix_tup (pv 0) pe_int (fun _ _ => rfl))) (blkOk_by (own := [("person", 1), ("owed", 2)]) (N := ["moment", "person", "owed"]) (sc := defScope s_persons) (by decide +kernel)) (fun _ _ _ _ _ => (pg_tup (by rfl) (pgs_cons (pg_name (i := 1) sc_persons.nd rfl (.inl rfl)) (pgs_cons (pg_name (i := 2) sc_persons.nd rfl (.inl rfl)) pgs_nil)))) (fun _ _ _ _ _ => (pts_one (pt_cmpR op_ne (pv 1) (pe_glob (v := .str "") (by rfl) T.g_EMPTY T.r_EMPTY) (nomark _)))) (fun _ _ _ _ _ => (pv 1))))), ?_⟩
    have el : vs.length = ss.length := by rw [dpall_len hD, List.length_map]
    refine ⟨_, rfl, t, _, 1, _, rfl, rfl, ht, atI_nat (j := 1) rfl, S, rfl, ⟨_, hS⟩, fun D nD => ?_⟩
    refine lc_tup (K := K) (a := S) (xs := vs) (fun j H' => H' D = some (.lst ((names (ss.take j)).map V.str)) ∧ Same H H') ⟨upd_same, same_new nD⟩ (fun j H' _ ⟨_, s⟩ => Same.tup s hS) ?_ ?_
    · rintro j x H' hx ⟨hDs, s1⟩
      obtain ⟨st, u, y, es, rfl, hu, hy⟩ := seat_at hD hx
      have hj : j < ss.length := (List.getElem?_eq_some_iff.mp es).1
      refine ⟨u, _, rfl, Same.tup s1 hu, rfl, _, _, rfl, _, _, rfl, rfl, rfl, _, rfl, rfl, _, rfl, ?_⟩
      show if (!decide (V.str st.1 = V.str "")) = true then _ else _
      rw [eqv_strs]
      have e : names (ss.take (j + 1)) = names (ss.take j) ++ ([st.1].filter fun z : Str => !decide (z = "")) := by
        unfold names
        rw [List.take_add_one, es, List.map_append, List.filter_append]
        rfl
      rw [e]
      by_cases c : st.1 = ""
      · rw [decide_eq_true c]
        refine iteF ⟨?_, s1⟩
        rw [hDs]
        simp [c]
      · rw [decide_eq_false c]
        refine iteT ⟨_, rfl, _, hDs, ?_, ?_, same_upd s1 nD⟩
        · rw [List.length_map]
          have := List.length_filter_le (fun z : Str => !decide (z = "")) ((ss.take j).map Prod.fst)
          rw [List.length_map, List.length_take] at this
          exact small1000 (by unfold names; omega)
        · rw [upd_same]
          simp [c]
    · rintro H1 ⟨hDs, s1⟩
      rw [el, List.take_length] at hDs
      exact q D H1 nD s1 hDs
theorem ok_sits (T : Tx K mg base) : FnOk P w K mg base CX0 2 T.f_sits T.d_sits ["moment", "person"] (spSits K) := by
  refine T.F_sits.ok sc_sits (fun vs H Q E h => ?_) (fun cdv A outer s H vs Q E hr h => ?_)
  · obtain ⟨v, W, ss, z, rfl, _⟩ := h
    rfl
  · obtain ⟨v, W, ss, z, rfl, hm, hl, q⟩ := h
    refine ⟨_, (pss_one (ps_ret (pe_and (pe_callB call_isi (by rfl) T.n_isinstance (by decide +kernel) (pa_cons (pv 1) (pa_cons (pe_bltn (v := .ty "str") (by rfl) T.n_str (by decide +kernel) rfl) pa_nil))) (pe_one (pe_cmpR op_in_seq (pv 1) (pe_call (ok_persons T) (hr.mono (by decide)) (by rfl) T.g_persons T.F_persons.kp T.b_persons .nil pass0 (pa_cons (pv 0) pa_nil)) (by rfl)))))), ?_⟩
    refine ⟨_, rfl, _, _, _, _, true, rfl, .ty "str", .base (.str z), kit_ty (by decide +kernel), true, rfl, iteT ?_⟩
    refine ⟨_, rfl, _, rfl, _, W, ss, rfl, hm, hl, fun D H1 nD s1 hD => ?_⟩
    refine ⟨D, _, rfl, .inl (.inl (.inl hD)), rfl, flat_strs _, ?_⟩
    show Q (.bl (inV (.str z) ((names ss).map V.str))) H1
    rw [inV_str]
    exact q H1 s1
theorem ok_seat_of (T : Tx K mg base) : FnOk P w K mg base CX0 3 T.f_seat_of T.d_seat_of ["moment", "person"] (spSeatOf K) := by
  refine T.F_seat_of.ok sc_seat_of (fun vs H Q E h => ?_) (fun cdv A outer s H vs Q E hr h => ?_)
  · obtain ⟨v, W, ss, z, rfl, _⟩ := h
    rfl
  · obtain ⟨v, W, ss, z, rfl, hm, hl, hz, q⟩ := h
    refine ⟨_, PSs.nox (pss_cons (ps_if (pt_not (pt_val (pe_call (ok_sits T) (hr.mono (by decide)) (by rfl) T.g_sits T.F_sits.kp T.b_sits .nil pass0 (pa_cons (pv 0) (pa_cons (pv 1) pa_nil))))) (pss_one ps_never) pss_nil)
        (pss_one (ps_ret (pe_bm PySem.F.plainAttrs_list PySem.F.slot_list_index PySem.F.type_list_index mt_index (pe_lc (own := [("sitting", 2), ("owed", 3)]) (g := gTup K 2 (gCons (gName 2) (gCons (gName 3) gNil))) (tt := tYes) (by rfl) sc_seat_of.nd (pi_tup (pe_ix ix_tup (pv 0) pe_int (fun _ _ => rfl))) (blkOk_by (own := [("sitting", 2), ("owed", 3)]) (N := ["moment", "person", "sitting", "owed"]) (sc := defScope s_seat_of) (by decide +kernel)) (fun _ _ _ _ _ => (pg_tup (by rfl) (pgs_cons (pg_name (i := 2) sc_seat_of.nd rfl (.inl rfl)) (pgs_cons (pg_name (i := 3) sc_seat_of.nd rfl (.inl rfl)) pgs_nil)))) (fun _ _ _ _ _ => pts_nil) (fun _ _ _ _ _ => (pv 2))) (pa_cons (pv 1) pa_nil))))), ?_⟩
    refine ⟨_, rfl, _, rfl, _, W, ss, z, rfl, hm, hl, fun H1 s1 => ⟨_, rfl, ?_⟩⟩
    rw [decide_eq_true hz]
    refine iteF ?_
    obtain ⟨t, S, vs, rfl, ht, hS, hD⟩ := mom_get (hm.sm s1)
    have el : vs.length = ss.length := by rw [dpall_len hD, List.length_map]
    refine ⟨_, rfl, t, _, 1, _, rfl, rfl, ht, atI_nat (j := 1) rfl, S, rfl, ⟨_, hS⟩, fun D nD => ?_⟩
    refine lc_tup (K := K) (a := S) (xs := vs) (fun j H' => H' D = some (.lst (((ss.take j).map Prod.fst).map V.str)) ∧ Same H1 H') ⟨upd_same, same_new nD⟩ (fun j H' _ ⟨_, s⟩ => Same.tup s hS) ?_ ?_
    · rintro j x H' hx ⟨hDs, s2⟩
      obtain ⟨st, u, y, es, rfl, hu, hy⟩ := seat_at hD hx
      have hj : j < ss.length := (List.getElem?_eq_some_iff.mp es).1
      refine ⟨u, _, rfl, Same.tup s2 hu, rfl, _, _, rfl, _, _, rfl, rfl, rfl, tyes (iteT ?_)⟩
      refine ⟨_, rfl, _, hDs, ?_, ?_, same_upd s2 nD⟩
      · rw [List.length_map, List.length_map, List.length_take]
        exact small1000 (by omega)
      · rw [upd_same, List.take_add_one, es]
        simp
    · rintro H2 ⟨hDs, s2⟩
      rw [el, List.take_length] at hDs
      have hi := idx_lt hz
      have hil : idx ss z < (ss.map Prod.fst).length := by rw [List.length_map]; exact hi
      refine ⟨.inl ⟨rfl, _, .inl (.inl hDs)⟩, _, rfl, D, _, _, idx ss z, .str z, rfl, rfl, .inl (.inl hDs), rfl, flat_strs _, ?_, ?_, ?_, q _ (s1.trans s2)⟩
      · rw [List.getElem?_map, List.getElem?_eq_getElem hil]
        exact congrArg (fun x => some (V.str x)) (List.getElem_idxOf hil)
      · show (z == z) = true
        simp
      · intro m z' hm' hz'
        rw [List.getElem?_map] at hz'
        cases e : (ss.map Prod.fst)[m]? with
        | none => rw [e] at hz'; cases hz'
        | some y =>
          rw [e] at hz'
          obtain rfl := Option.some.inj hz'
          show (y == z) = false
          have hml : m < (ss.map Prod.fst).length := (List.getElem?_eq_some_iff.mp e).1
          have := List.not_of_lt_findIdx (p := (· == z)) (xs := ss.map Prod.fst) (i := m) hm'
          rw [(List.getElem?_eq_some_iff.mp e).2] at this
          simpa using this
theorem ok_owes (T : Tx K mg base) : FnOk P w K mg base CX0 4 T.f_owes T.d_owes ["moment", "person"] (spOwes K) := by
  refine T.F_owes.ok sc_owes (fun vs H Q E h => ?_) (fun cdv A outer s H vs Q E hr h => ?_)
  · obtain ⟨v, W, ss, z, rfl, _⟩ := h
    rfl
  · obtain ⟨v, W, ss, z, rfl, hm, hl, hz, q⟩ := h
    refine ⟨_, (pss_one (ps_ret (pe_ix ix_tup (pe_call (ok_owing T) (hr.mono (by decide)) (by rfl) T.g_owing T.F_owing.kp T.b_owing .nil pass0 (pa_cons (pv 0) pa_nil)) (pe_call (ok_seat_of T) (hr.mono (by decide)) (by rfl) T.g_seat_of T.F_seat_of.kp T.b_seat_of .nil pass0 (pa_cons (pv 0) (pa_cons (pv 1) pa_nil))) (fun _ _ => rfl)))), ?_⟩
    refine ⟨_, rfl, _, W, ss, rfl, hm, hl, fun r H1 s1 hr' => ?_⟩
    refine ⟨_, rfl, _, rfl, _, W, ss, z, rfl, hm.sm s1, hl, hz, fun H2 s2 => ?_⟩
    obtain ⟨R, rs, rfl, hR, hP⟩ := dp_tup (hr'.sm s2)
    have hi := idx_lt hz
    obtain ⟨y, hy, dy⟩ := dpall_get hP (i := idx ss z) (d := pdP (gs ss (idx ss z)).2) (by rw [List.getElem?_map, List.getElem?_map, at_gs hi]; rfl)
    exact ⟨R, rs, _, y, rfl, rfl, hR, atI_nat hy, q y H2 (s1.trans s2) dy⟩

end
end WS

set_option Elab.async false
set_option linter.all false
set_option maxRecDepth 100000
set_option maxHeartbeats 4000000
namespace WS
open PySem PySem.Spec PyProof.Rows L2
section
variable {P : Program} {w : World} {K : PySem.W.Frag} {mg : Str → Option Value} {base : Heap}
open TL
theorem ok_check_within (T : Tx K mg base) : FnOk P w K mg base CX0 8 T.f_check_within T.d_check_within ["moment", "numbers"] (spCheckW K T.TT 250) := by
  refine T.F_check_within.ok sc_check_within (fun vs H Q E h => ?_) (fun cdv A outer s H vs Q E hr h => ?_)
  · obtain ⟨v, x, W, ss, rfl, _⟩ := h
    rfl
  · obtain ⟨v, x, W, ss, rfl, hm, bw, ok, hb, l100, wth, hT, q⟩ := h
    refine ⟨_, (pss_cons (ps_set (i := 2) sc_check_within.nd rfl (.inl rfl) (pe_ix ix_tup (pv 0) pe_int (fun _ _ => rfl)))
        (pss_cons (ps_set (i := 3) sc_check_within.nd rfl (.inl rfl) (pe_call (ok_places_beyond T) (hr.mono (by decide)) (by rfl) T.g_places_beyond T.F_places_beyond.kp T.b_places_beyond .nil pass0 (pa_cons (pv 2) (pa_cons (pe_call (ok_owing T) (hr.mono (by decide)) (by rfl) T.g_owing T.F_owing.kp T.b_owing .nil pass0 (pa_cons (pv 0) pa_nil)) pa_nil))))
        (pss_one (ps_if (pt_truth (pv 3) (fun _ => rfl)) (pss_one ps_never) pss_nil)))), ?_⟩
    obtain ⟨t, S, vs, rfl, ht, hS, hV⟩ := mom_get hm
    refine ⟨_, rfl, t, _, 0, _, rfl, rfl, ht, atI_nat (j := 0) rfl, ?_⟩
    refine ⟨_, rfl, _, rfl, _, W, ss, rfl, hm, l100, fun r H1 s1 hr1 => ?_⟩
    obtain ⟨l, rs, rfl, hl, hrs⟩ := dp_tup hr1
    have lm : (ss.map Prod.snd).length = ss.length := List.length_map _
    have okp : ∀ q ∈ ss.map Prod.snd, Okp 250 q := fun q hq => by
      obtain ⟨s, hs, rfl⟩ := List.mem_map.mp hq
      exact ok s hs
    refine ⟨W, l, ss.map Prod.snd, rfl, bw, ⟨250, rs, hl, parts_dp hrs, okp, by rw [lm]; exact hb⟩, fun q hq => (okp q hq).1, own_within wth, hT.ext s1, fun H2 D x2 t2 hD => ?_⟩
    refine ⟨_, rfl, false, .inl ⟨[], .inl (.inl hD), rfl⟩, iteF ?_⟩
    exact q H2 ((ExtN.same s1).trans x2) t2

end
end WS

set_option Elab.async false
set_option linter.all false
set_option maxRecDepth 100000
set_option maxHeartbeats 4000000
namespace WS
open PySem PySem.Spec PyProof.Rows L2
section
variable {P : Program} {w : World} {K : PySem.W.Frag} {mg : Str → Option Value} {base : Heap}
open TL
theorem ok_is_part (T : Tx K mg base) : FnOk P w K mg base CX0 2 T.f_is_part T.d_is_part ["thing"] (spPair K) := by
  refine T.F_is_part.ok sc_is_part (fun vs H Q E h => ?_) (fun cdv A outer s H vs Q E hr h => ?_)
  · obtain ⟨v, b, rfl, _⟩ := h
    rfl
  · obtain ⟨v, b, rfl, hv, q⟩ := h
    refine ⟨_, (pss_cons (ps_if (PW.pt (pw_or (pt_not (pt_val (pe_callB call_isi (by rfl) T.n_isinstance (by decide +kernel) (pa_cons (pv 0) (pa_cons (pe_bltn (v := .ty "tuple") (by rfl) T.n_tuple (by decide +kernel) rfl) pa_nil))))) (pw_or1 (pt_cmpR op_ne (pe_callB call_len_seq (by rfl) T.n_len (by decide +kernel) (pa_cons (pv 0) pa_nil)) pe_int (nomark _))))) (pss_one (ps_ret pe_bl)) pss_nil)
        (pss_cons (ps_asg (pv 0) (pg_tup (by rfl) (pgs_cons (pg_name (i := 1) sc_is_part.nd rfl (.inl rfl)) (pgs_cons (pg_name (i := 2) sc_is_part.nd rfl (.inl rfl)) pgs_nil))))
        (pss_cons (ps_if (PW.pt (pw_or (pt_not (pt_val (pe_call (ok_is_whole T) (hr.mono (by decide)) (by rfl) T.g_is_whole T.F_is_whole.kp T.b_is_whole .nil pass0 (pa_cons (pv 1) pa_nil)))) (pw_or (pt_not (pt_val (pe_call (ok_is_whole T) (hr.mono (by decide)) (by rfl) T.g_is_whole T.F_is_whole.kp T.b_is_whole .nil pass0 (pa_cons (pv 2) pa_nil)))) (pw_or1 (pt_cmpR op_le (pv 2) pe_int (nomark _)))))) (pss_one (ps_ret pe_bl)) pss_nil)
        (pss_one (ps_ret (pe_cmpR op_eq (pe_call (ok_greatest_common T) (hr.mono (by decide)) (by rfl) T.g_greatest_common T.F_greatest_common.kp T.b_greatest_common .nil pass0 (pa_cons (pe_callB call_abs (by rfl) T.n_abs (by decide +kernel) (pa_cons (pv 1) pa_nil)) (pa_cons (pv 2) pa_nil))) pe_int (nomark _))))))), ?_⟩
    rcases hv with ⟨rfl, t, ht, kt⟩ | ⟨a, xs, rfl, ht, hv⟩
    · exact ⟨_, rfl, _, _, t, _, false, rfl, .ty "tuple", ht, kt, false, rfl, iteT (iteT q)⟩
    · refine ⟨_, rfl, _, _, _, _, true, rfl, .ty "tuple", sqt_ty ht, kit_ty (by decide +kernel), true, rfl, iteF ?_⟩
      refine ⟨_, rfl, a, xs, rfl, .inr ht, rfl, _, rfl, ?_⟩
      rcases hv with ⟨rfl, hl⟩ | ⟨x, y, rfl, hv⟩
      · rw [decide_eq_false (show ¬ V.int (xs.length : Int) = V.int 2 from fun z => hl (by have := V.int.inj z; omega))]
        exact iteT q
      · refine iteF ?_
        refine ⟨_, rfl, a, _, rfl, ht, rfl, x, [y], rfl, y, [], rfl, rfl, ?_⟩
        rcases hv with ⟨rfl, hx⟩ | ⟨i, rfl, rfl, hy⟩ | ⟨i, j, rfl, rfl, rfl⟩
        · exact ⟨_, rfl, _, _, rfl, hx, false, rfl, iteT (iteT q)⟩
        · refine ⟨_, rfl, _, _, rfl, whole_int, true, rfl, iteF ?_⟩
          exact ⟨_, rfl, _, _, rfl, hy, false, rfl, iteT (iteT q)⟩
        · refine ⟨_, rfl, _, _, rfl, whole_int, true, rfl, iteF ⟨_, rfl, _, _, rfl, whole_int, true, rfl, iteF ?_⟩⟩
          refine ⟨_, rfl, _, _, rfl, rfl, _, rfl, ?_⟩
          by_cases c : 0 < j
          · rw [decide_eq_false (show ¬ j ≤ 0 by omega)]
            refine iteF ?_
            refine ⟨_, rfl, _, rfl, _, rfl, _, _, rfl, by split <;> omega, by omega, rfl, ?_⟩
            rw [gcd_abs]
            rw [decide_eq_true c, Bool.true_and] at q
            rw [decide_eq_decide.mpr (show V.int (Int.gcd i j : Int) = V.int 1 ↔ (Int.gcd i j : Int) = 1 from ⟨V.int.inj, congrArg V.int⟩)]
            exact q
          · rw [decide_eq_true (show j ≤ 0 by omega)]
            rw [decide_eq_false c, Bool.false_and] at q
            exact iteT q
theorem ok_is_name (T : Tx K mg base) : FnOk P w K mg base CX0 1 T.f_is_name T.d_is_name ["thing"] spIsName := by
  refine T.F_is_name.ok sc_is_name (fun vs H Q E h => ?_) (fun cdv A outer s H vs Q E hr h => ?_)
  · obtain ⟨z, rfl, _⟩ := h
    rfl
  · obtain ⟨z, rfl, nz, q⟩ := h
    refine ⟨_, (pss_cons (ps_if (PW.pt (pw_or (pt_not (pt_val (pe_callB call_isi (by rfl) T.n_isinstance (by decide +kernel) (pa_cons (pv 0) (pa_cons (pe_bltn (v := .ty "str") (by rfl) T.n_str (by decide +kernel) rfl) pa_nil))))) (pw_or1 (pt_not (pt_chain op_le op_le pe_int (pe_callB call_len_str (by rfl) T.n_len (by decide +kernel) (pa_cons (pv 0) pa_nil)) pe_int))))) (pss_one (ps_ret pe_bl)) pss_nil)
        (pss_one (ps_ret (pe_callB (cr_all (by rfl)) (by rfl) T.n_all (by decide +kernel) (pa_cons (pe_lc (own := [("sign", 1)]) (g := gName 1) (tt := tYes) (by rfl) sc_is_name.nd (pi_str (pv 0)) (blkOk_by (own := [("sign", 1)]) (N := ["thing", "sign"]) (sc := defScope s_is_name) (by decide +kernel)) (fun _ _ _ _ _ => (pg_name (i := 1) sc_is_name.nd rfl (.inl rfl))) (fun _ _ _ _ _ => pts_nil) (fun _ _ _ _ _ => (pe_chain op_le_str op_le_str pe_str (pv 1) pe_str))) pa_nil))))), ?_⟩
    refine ⟨_, rfl, _, _, _, _, true, rfl, .ty "str", .base (.str z), kit_ty (by decide +kernel), true, rfl, iteF ?_⟩
    have zl := len_tl z
    refine ⟨_, rfl, _, rfl, by rw [sizeLine_eq]; have := nz.2.1; omega, _, _, rfl, rfl, _, rfl, ?_⟩
    rw [decide_eq_true (show (1 : Int) ≤ (z.length : Nat) by have := nz.1; omega)]
    refine iteT ⟨_, _, rfl, rfl, _, rfl, ?_⟩
    rw [decide_eq_true (show ((z.length : Nat) : Int) ≤ 8 by have := nz.2.1; omega)]
    refine iteF ?_
    refine ⟨_, rfl, _, rfl, fun D nD => ?_⟩
    refine lc_it walk_str (fun j H' => H' D = some (.lst ((List.replicate j true).map V.bl)) ∧ Same H H') ⟨upd_same, same_new nD⟩ (fun _ _ _ _ => trivial) ?_ ?_
    · rintro j x H' H'' hj ⟨hD, s1⟩ ⟨rfl, c, hc, rfl⟩
      have hm : c ∈ tl z := List.mem_of_getElem? (show (tl z)[j]? = some c by simpa using hc)
      have hcb := nz.2.2 c hm
      have hj8 : j < 8 := by
        have : z.cps.size = (tl z).length := by simp
        have := nz.2.1
        omega
      refine ⟨rfl, tyes (iteT ?_)⟩
      have l1 : decide ((Str.mk #[c]).cps.toList < (Str.ofString "a").cps.toList) = false := decide_eq_false (by
        show ¬ [c] < [97]
        intro h
        cases h with
        | rel h => omega
        | cons h => cases h)
      have l2 : decide ((Str.ofString "z").cps.toList < (Str.mk #[c]).cps.toList) = false := decide_eq_false (by
        show ¬ [122] < [c]
        intro h
        cases h with
        | rel h => omega
        | cons h => cases h)
      refine ⟨_, rfl, _, _, rfl, rfl, _, rfl, ?_⟩
      rw [l1]
      refine iteT ⟨_, _, rfl, rfl, ?_⟩
      rw [l2]
      refine ⟨_, hD, reps_len (by omega), ?_, same_upd s1 nD⟩
      rw [upd_same]
      exact congrArg _ (congrArg _ (reps_next j))
    · rintro H1 ⟨hD, s1⟩
      refine ⟨D, _, rfl, .inl (.inl hD), ?_⟩
      rw [all_true]
      exact q _ s1
theorem ok_is_seat (T : Tx K mg base) : FnOk P w K mg base CX0 3 T.f_is_seat T.d_is_seat ["thing"] (spSeatOk K) := by
  refine T.F_is_seat.ok sc_is_seat (fun vs H Q E h => ?_) (fun cdv A outer s H vs Q E hr h => ?_)
  · obtain ⟨v, st, rfl, _⟩ := h
    rfl
  · obtain ⟨v, st, rfl, hd, nm, lw, q⟩ := h
    refine ⟨_, (pss_cons (ps_if (pt_not (pt_val (pe_call (ok_is_pair T) (hr.mono (by decide)) (by rfl) T.g_is_pair T.F_is_pair.kp T.b_is_pair .nil pass0 (pa_cons (pv 0) pa_nil)))) (pss_one (ps_ret pe_bl)) pss_nil)
        (pss_cons (ps_asg (pv 0) (pg_tup (by rfl) (pgs_cons (pg_name (i := 1) sc_is_seat.nd rfl (.inl rfl)) (pgs_cons (pg_name (i := 2) sc_is_seat.nd rfl (.inl rfl)) pgs_nil))))
        (pss_cons (ps_set (i := 3) sc_is_seat.nd rfl (.inl rfl) (pe_and (pe_callB call_isi (by rfl) T.n_isinstance (by decide +kernel) (pa_cons (pv 1) (pa_cons (pe_bltn (v := .ty "str") (by rfl) T.n_str (by decide +kernel) rfl) pa_nil))) (pe_one (pe_cmpR op_eq (pv 1) (pe_glob (v := .str "") (by rfl) T.g_EMPTY T.r_EMPTY) (nomark _)))))
        (pss_one (ps_ret (pe_and (pe_or (pv 3) (pe_one (pe_call (ok_is_name T) (hr.mono (by decide)) (by rfl) T.g_is_name T.F_is_name.kp T.b_is_name .nil pass0 (pa_cons (pv 1) pa_nil)))) (pe_one (pe_call (ok_is_part T) (hr.mono (by decide)) (by rfl) T.g_is_part T.F_is_part.kp T.b_is_part .nil pass0 (pa_cons (pv 2) pa_nil))))))))), ?_⟩
    obtain ⟨a, x, y, rfl, ha, hx, hy⟩ := dp2 hd
    obtain rfl := dp_str hx
    refine ⟨_, rfl, a, _, _, rfl, ha, fun H1 s1 => ⟨true, rfl, iteF ?_⟩⟩
    have ha1 := Same.tup s1 ha
    refine ⟨_, rfl, a, _, rfl, ha1, rfl, _, _, rfl, _, _, rfl, rfl, ?_⟩
    refine ⟨_, rfl, _, _, _, _, true, rfl, .ty "str", .base (.str _), kit_ty (by decide +kernel), true, rfl, iteT ?_⟩
    refine ⟨_, rfl, rfl, ?_⟩
    rw [eqv_strs]
    have fin : ∀ H2, Same H1 H2 → spPair K [y] H2 (fun v H' => Q v H') E0 := fun H2 s2 => by
      refine ⟨y, _, rfl, pair_of ((dp_pd hy).same (s1.trans s2)), ?_⟩
      rw [decide_eq_true lw.1, decide_eq_true (show ((Int.gcd st.2.1 st.2.2 : Nat) : Int) = 1 by rw [lw.2]; rfl)]
      exact q H2 (s1.trans s2)
    rcases nm with nm | nm
    · rw [decide_eq_true nm]
      exact ⟨_, rfl, true, rfl, iteT ⟨true, rfl, iteT ⟨_, rfl, fin H1 (Same.refl _)⟩⟩⟩
    · rw [decide_eq_false (nm_ne nm)]
      refine ⟨_, rfl, false, rfl, iteF ⟨_, rfl, st.1, rfl, nm, fun H2 s2 => ?_⟩⟩
      exact ⟨true, rfl, iteT ⟨_, rfl, fin H2 s2⟩⟩

end
end WS

set_option Elab.async false
set_option linter.all false
set_option maxRecDepth 100000
set_option maxHeartbeats 4000000
namespace WS
open PySem PySem.Spec PyProof.Rows L2
section
variable {P : Program} {w : World} {K : PySem.W.Frag} {mg : Str → Option Value} {base : Heap}
open TL
theorem ok_is_moment (T : Tx K mg base) : FnOk P w K mg base CX0 8 T.f_is_moment T.d_is_moment ["thing"] (spIsMomN K T.TT 250) := by
  refine T.F_is_moment.ok sc_is_moment (fun vs H Q E h => ?_) (fun cdv A outer s H vs Q E hr h => ?_)
  · obtain ⟨v, W, ss, rfl, _⟩ := h
    rfl
  · obtain ⟨v, W, ss, rfl, hm, mo, hb, hT, q⟩ := h
    refine ⟨_, (pss_cons (ps_if (pt_not (pt_val (pe_call (ok_is_pair T) (hr.mono (by decide)) (by rfl) T.g_is_pair T.F_is_pair.kp T.b_is_pair .nil pass0 (pa_cons (pv 0) pa_nil)))) (pss_one (ps_ret pe_bl)) pss_nil)
        (pss_cons (ps_asg (pv 0) (pg_tup (by rfl) (pgs_cons (pg_name (i := 1) sc_is_moment.nd rfl (.inl rfl)) (pgs_cons (pg_name (i := 2) sc_is_moment.nd rfl (.inl rfl)) pgs_nil))))
        (pss_cons (ps_if (PW.pt (pw_or (pt_not (pt_val (pe_call (ok_is_weight T) (hr.mono (by decide)) (by rfl) T.g_is_weight T.F_is_weight.kp T.b_is_weight .nil pass0 (pa_cons (pv 1) pa_nil)))) (pw_or1 (pt_not (pt_val (pe_callB call_isi (by rfl) T.n_isinstance (by decide +kernel) (pa_cons (pv 2) (pa_cons (pe_bltn (v := .ty "tuple") (by rfl) T.n_tuple (by decide +kernel) rfl) pa_nil)))))))) (pss_one (ps_ret pe_bl)) pss_nil)
        (pss_cons (ps_if (pt_not (pt_val (pe_callB (cr_all (by rfl)) (by rfl) T.n_all (by decide +kernel) (pa_cons (pe_lc (own := [("seat", 4)]) (g := gName 4) (tt := tYes) (by rfl) sc_is_moment.nd (pi_tup (pv 2)) (blkOk_by (own := [("seat", 4)]) (N := ["thing", "weight", "seats", "sitting", "seat"]) (sc := defScope s_is_moment) (by decide +kernel)) (fun _ _ _ _ _ => (pg_name (i := 4) sc_is_moment.nd rfl (.inl rfl))) (fun _ _ _ _ _ => pts_nil) (fun _ _ _ _ _ => (pe_call (ok_is_seat T) (hr.mono (by decide)) (by rfl) T.g_is_seat T.F_is_seat.kp T.b_is_seat .nil pass0 (pa_cons (pv 4) pa_nil)))) pa_nil)))) (pss_one (ps_ret pe_bl)) pss_nil)
        (pss_cons (ps_set (i := 3) sc_is_moment.nd rfl (.inl rfl) (pe_call (ok_persons T) (hr.mono (by decide)) (by rfl) T.g_persons T.F_persons.kp T.b_persons .nil pass0 (pa_cons (pv 0) pa_nil)))
        (pss_one (ps_ret (pe_and (pe_cmpR op_eq (pe_lenSetL (by rfl) (by rfl) T.n_len (by rfl) T.n_set (pv 3)) (pe_callB call_len_seq (by rfl) T.n_len (by decide +kernel) (pa_cons (pv 3) pa_nil)) (nomark _)) (pe_one (pe_call (ok_is_within T) (hr.mono (by decide)) (by rfl) T.g_is_within T.F_is_within.kp T.b_is_within .nil pass0 (pa_cons (pv 1) (pa_cons (pe_call (ok_owing T) (hr.mono (by decide)) (by rfl) T.g_owing T.F_owing.kp T.b_owing .nil pass0 (pa_cons (pv 0) pa_nil)) pa_nil)))))))))))), ?_⟩
    obtain ⟨t, S, vs, rfl, ht, hS, hV⟩ := mom_get hm
    have el : vs.length = ss.length := by rw [dpall_len hV, List.length_map]
    have l14 := mo.l
    refine ⟨_, rfl, t, _, _, rfl, ht, fun H1 s1 => ⟨true, rfl, iteF ?_⟩⟩
    have ht1 := Same.tup s1 ht
    have hS1 := Same.tup s1 hS
    refine ⟨_, rfl, t, _, rfl, ht1, rfl, _, _, rfl, _, _, rfl, rfl, ?_⟩
    refine ⟨_, rfl, _, rfl, ?_⟩
    rw [decide_eq_true (show W ≥ 1 from mo.w)]
    refine ⟨true, rfl, iteF ?_⟩
    refine ⟨_, rfl, _, _, _, _, true, rfl, .ty "tuple", sqt_ty hS1, kit_ty (by decide +kernel), true, rfl, iteF ?_⟩
    refine ⟨_, rfl, S, rfl, ⟨_, hS1⟩, fun D nD => ?_⟩
    refine lc_tup (K := K) (a := S) (xs := vs) (fun j H' => H' D = some (.lst ((List.replicate j true).map V.bl)) ∧ Same H1 H') ⟨upd_same, same_new nD⟩ (fun j H' _ ⟨_, s⟩ => Same.tup s hS1) ?_ ?_
    · rintro j x H' hx ⟨hD, s2⟩
      obtain ⟨d, ed, hd⟩ := dpall_at hV hx
      rw [List.getElem?_map] at ed
      obtain ⟨st, es, rfl⟩ : ∃ st, ss[j]? = some st ∧ seatD st = d := by
        cases z : ss[j]? with
        | none => rw [z] at ed; cases ed
        | some st => rw [z] at ed; exact ⟨st, rfl, Option.some.inj ed⟩
      have hj := (List.getElem?_eq_some_iff.mp hx).1
      have hms := List.mem_of_getElem? es
      refine ⟨rfl, tyes (iteT ?_)⟩
      refine ⟨_, rfl, x, st, rfl, hd.sm (s1.trans s2), mo.nm st hms, (mo.ok st hms).2, fun H3 s3 => ?_⟩
      refine ⟨_, s3 _ _ hD, by rw [List.length_map, List.length_replicate]; exact small1000 (by omega), ?_, same_upd (s2.trans s3) nD⟩
      rw [upd_same, List.replicate_succ', List.map_append]
      rfl
    rintro H2 ⟨hD, s2⟩
    refine ⟨D, _, rfl, .inl (.inl hD), ?_⟩
    rw [all_true]
    refine ⟨true, rfl, iteF ?_⟩
    have s12 := s1.trans s2
    refine ⟨_, rfl, _, W, ss, rfl, hm.sm s12, by omega, fun F H3 nF s3 hF => ?_⟩
    have fl := names_len ss
    refine ⟨_, rfl, F, names ss, rfl, .inl (.inl hF), mo.nd, by omega, _, rfl, F, _, rfl, .inl (.inl (.inl hF)), ?_⟩
    rw [List.length_map]
    refine ⟨rfl, true, by rw [decide_eq_true rfl], iteT ?_⟩
    have s13 := s12.trans s3
    refine ⟨_, rfl, _, rfl, _, W, ss, rfl, hm.sm s13, by omega, fun r H4 s4 hr4 => ?_⟩
    obtain ⟨l, rs, rfl, hl, hrs⟩ := dp_tup hr4
    have lm : (ss.map Prod.snd).length = ss.length := List.length_map _
    have okp : ∀ q ∈ ss.map Prod.snd, Okp 250 q := fun q hq => by
      obtain ⟨s, hs, rfl⟩ := List.mem_map.mp hq
      exact (mo.ok s hs).1
    have s14 := s13.trans s4
    refine ⟨W, l, ss.map Prod.snd, rfl, mo.b.mono (by decide), ⟨250, rs, hl, parts_dp hrs, okp, by rw [lm]; exact hb⟩, okp, by rw [lm]; omega, hT.ext s14, fun H5 b x5 t5 hb5 => ?_⟩
    obtain rfl : b = true := hb5.mpr ⟨good_sum mo.g, good_row mo.g⟩
    exact q H5 ((ExtN.same s14).trans x5) t5

end
end WS

set_option Elab.async false
set_option linter.all false
set_option maxRecDepth 100000
set_option maxHeartbeats 4000000
namespace WS
open PySem PySem.Spec PyProof.Rows L2
section
variable {P : Program} {w : World} {K : PySem.W.Frag} {mg : Str → Option Value} {base : Heap}
open TL
theorem ok_lname (T : Tx K mg base) : FnOk P w K mg base CX0 2 T.f_lname T.d_lname ["_law_pot_here", "_law_used"] spName := by
  refine T.F_lname.ok sc_lname (fun vs H Q E h => ?_) (fun cdv A outer s H vs Q E hr h => ?_)
  · obtain ⟨p, U, us, rfl, _⟩ := h
    rfl
  · obtain ⟨p, U, us, rfl, hp, nUp, hU, hl, q⟩ := h
    refine ⟨_, (pss_cons (ps_set (i := 2) sc_lname.nd rfl (.inr rfl) pe_str)
        (pss_cons (ps_set (i := 3) sc_lname.nd rfl (.inl rfl) (pe_join pe_str (pe_lc (own := [("_law_k", 5)]) (g := gName 5) (tt := tYes) (by rfl) sc_lname.nd (pi_range1 (by rfl) T.n_range (pa_cons (pe_ix ix_list (pe_lst (pa_cons pe_int (pa_cons pe_int (pa_cons pe_int (pa_cons pe_int pa_nil))))) (pe_call (ok_ldigit T) (hr.mono (by decide)) (by rfl) T.g_ldigit T.F_ldigit.kp T.b_ldigit .nil pass0 (pa_cons (pv 0) (pa_cons pe_int pa_nil))) (fun _ _ => rfl)) pa_nil)) (blkOk_by (own := [("_law_k", 5)]) (N := ["_law_pot_here", "_law_used", "_law_letters", "_law_name_here", "_law_some", "_law_k", "_law_one_here"]) (sc := defScope s_lname) (by decide +kernel)) (fun _ _ _ _ _ => (pg_name (i := 5) sc_lname.nd rfl (.inl rfl))) (fun _ _ _ _ _ => pts_nil) (fun _ _ _ _ _ => (pe_ix ix_str (pv 2) (pe_call (ok_ldigit T) (hr.mono (by decide)) (by rfl) T.g_ldigit T.F_ldigit.kp T.b_ldigit .nil pass0 (pa_cons (pv 0) (pa_cons pe_int pa_nil))) (fun _ _ => rfl))))))
        (pss_cons (ps_if (pt_cmpR op_in_seq (pv 3) (pv 1) (by rfl)) (pss_cons (ps_set (i := 4) sc_lname.nd rfl (.inl rfl) (pe_op op_cat (pe_lc (own := [("_law_one_here", 6)]) (g := gName 6) (by rfl) sc_lname.nd (pi_str (pv 2)) (blkOk_by (own := [("_law_one_here", 6)]) (N := ["_law_pot_here", "_law_used", "_law_letters", "_law_name_here", "_law_some", "_law_k", "_law_one_here"]) (sc := defScope s_lname) (by decide +kernel)) (fun _ _ _ _ _ => (pg_name (i := 6) sc_lname.nd rfl (.inl rfl))) (fun _ _ _ _ _ => (pts_one (pt_cmpR (show OpR _ _ (rIn K true) from op_notIn_seq) (pv 6) (pv 1) (by rfl)))) (fun _ _ _ _ _ => (pv 6))) (pe_lc (own := [("_law_one_here", 6)]) (g := gName 6) (by rfl) sc_lname.nd (pi_str (pv 2)) (blkOk_by (own := [("_law_one_here", 6)]) (N := ["_law_pot_here", "_law_used", "_law_letters", "_law_name_here", "_law_some", "_law_k", "_law_one_here"]) (sc := defScope s_lname) (by decide +kernel)) (fun _ _ _ _ _ => (pg_name (i := 6) sc_lname.nd rfl (.inl rfl))) (fun _ _ _ _ _ => (pts_one (pt_cmpR (show OpR _ _ (rIn K true) from op_notIn_seq) (pe_op op_add_str (pv 6) pe_str) (pv 1) (by rfl)))) (fun _ _ _ _ _ => (pe_op op_add_str (pv 6) pe_str)))))
        (pss_one (ps_ret (pe_ix ix_list (pv 4) pe_int (fun _ _ => rfl))))) pss_nil)
        (pss_one (ps_ret (pv 3)))))), ?_⟩
    refine ⟨⟨_, rfl⟩, by show 4 ≤ sizeLine; decide, fun l nl => ?_⟩
    obtain ⟨B, fB, eB, hL⟩ : ∃ B, B = upd H l (.lst [.int 1, .int 2, .int 3, .int 8]) ∧ Same H B ∧ B l = some (.lst [.int 1, .int 2, .int 3, .int 8]) := ⟨_, rfl, same_new nl, upd_same⟩
    rw [← fB]
    have pB := hp.same eB
    refine ⟨_, rfl, p, _, rfl, pB, by decide, by unfold Bt; decide +kernel, fun d H1 d0 d1 s1 p1 => ?_⟩
    obtain ⟨v2, hv, hm⟩ := pick (xs := [V.int 1, V.int 2, V.int 3, V.int 8]) (d := d) d0 d1
    obtain ⟨m, rfl, m1, m8⟩ : ∃ m : Nat, v2 = .int (m : Int) ∧ 1 ≤ m ∧ m ≤ 8 := by
      simp only [List.mem_cons, List.not_mem_nil, or_false] at hm
      rcases hm with rfl | rfl | rfl | rfl
      · exact ⟨1, rfl, by decide, by decide⟩
      · exact ⟨2, rfl, by decide, by decide⟩
      · exact ⟨3, rfl, by decide, by decide⟩
      · exact ⟨8, rfl, by decide, by decide⟩
    have nlp : l ≠ p := pB.nel hL (by decide)
    refine ⟨l, _, _, _, rfl, rfl, .inl (.inl (s1 _ _ nlp hL)), hv, _, rfl, by omega, by omega, fun D nD => ?_⟩
    have sH1 : SameX p H H1 := (Same.x eB).trans s1
    have nDp : D ≠ p := p1.ne nD
    have hU1 := sH1 _ _ nUp hU
    have nUD : U ≠ D := ne_of_none hU1 nD
    refine lc_range (lo := 0) (n := ((m : Nat) : Int).toNat) (fun i H' => ∃ cs : List Nat, H' D = some (.lst ((cs.map sg1).map V.str)) ∧ cs.length = i ∧ (∀ c ∈ cs, 97 ≤ c ∧ c ≤ 122) ∧ SameX p H1 H' ∧ PotAt H' p)
      ⟨[], upd_same, rfl, fun _ h => (List.not_mem_nil h).elim, Same.x (same_new nD), p1.same (same_new nD)⟩ ?_ ?_
    · rintro i H' hi ⟨cs, hD, hcl, hcs, sx, px⟩
      refine ⟨rfl, tyes (iteT ?_)⟩
      refine ⟨_, rfl, _, rfl, p, _, rfl, px, by decide, by unfold Bt; decide +kernel, fun d2 H2 e0 e1 s2 p2 => ?_⟩
      obtain ⟨c, hc, c1, c2⟩ := abc_at e0 e1
      refine ⟨_, _, c, rfl, rfl, by decide, hc, ?_⟩
      have hD2 := s2 _ _ nDp hD
      refine ⟨_, hD2, by rw [List.length_map, List.length_map]; exact small1000 (by omega), cs ++ [c], ?_, by simp [hcl], ?_, samex_upd (sx.trans s2) nD, p2.upd nDp⟩
      · rw [upd_same]
        simp [sg1]
      · intro x hx
        rcases List.mem_append.mp hx with h | h
        · exact hcs x h
        · rw [List.mem_singleton.mp h]; exact ⟨c1, c2⟩
    rintro H2 ⟨cs, hD, hcl, hcs, sx, px⟩
    have hcl : cs.length = m := by omega
    refine ⟨_, D, cs.map sg1, rfl, rfl, .inl (.inl (.inl hD)), ?_, ?_⟩
    · have : ((cs.map sg1).map (·.length)).sum ≤ cs.length := by
        exact sg_len cs
      rw [List.length_map]
      have : (Str.ofString "").length = 0 := rfl
      rw [this]
      omega
    have nz : Nm (Txt.join "" (cs.map sg1)) := by rw [join_eq]; exact join_nm (by omega) (by omega) hcs
    have sH2 := sH1.trans sx
    have hU2 := sH2 _ _ nUp hU
    refine ⟨_, rfl, _, rfl, U, _, rfl, .inl (.inl (.inl hU2)), rfl, flat_strs us, _, rfl, ?_⟩
    show if inV (.str (Txt.join "" (cs.map sg1))) (us.map V.str) = true then _ else _
    rw [inV_str]
    by_cases hin : Txt.join "" (cs.map sg1) ∈ us
    · rw [decide_eq_true hin]
      refine iteT ?_
      refine ⟨_, rfl, _, rfl, fun D1 n1 => ?_⟩
      have n1U : U ≠ D1 := ne_of_none hU2 n1
      refine lc_it walk_str (fun i H' => H' D1 = some (.lst ((((lets.take i).filter fun c => !decide (sg1 c ∈ us)).map sg1).map V.str)) ∧ Same H2 H') ⟨upd_same, same_new n1⟩ (fun _ _ _ _ => trivial) ?_ ?_
      · rintro i x H' H'' hi ⟨hD1, s3⟩ ⟨rfl, c, hc, rfl⟩
        have hc' : lets[i]? = some c := by
          have : abc.cps.toList[i]? = some c := by simpa using hc
          exact this
        refine ⟨rfl, _, rfl, _, rfl, U, _, rfl, .inl (.inl (.inl (s3 _ _ hU2))), rfl, flat_strs us, _, rfl, ?_⟩
        show if (!inV (.str (sg1 c)) (us.map V.str)) = true then _ else _
        rw [inV_str, List.take_add_one, hc', List.filter_append, List.map_append, List.map_append]
        by_cases hn : sg1 c ∈ us
        · rw [decide_eq_true hn]
          refine iteF ⟨?_, s3⟩
          rw [hD1]
          simp [hn]
        · rw [decide_eq_false hn]
          refine iteT ⟨_, rfl, _, hD1, ?_, ?_, same_upd s3 n1⟩
          · rw [List.length_map, List.length_map]
            have := List.length_filter_le (fun c => !decide (sg1 c ∈ us)) (lets.take i)
            rw [List.length_take, lets_ok.2.1] at this
            exact small1000 (by omega)
          · rw [upd_same]
            simp [hn]
            rfl
      rintro H3 ⟨hD1, s3⟩
      rw [show lets.take abc.cps.size = lets by rw [lets_ok.2.2.2, ← lets_ok.2.1, List.take_length]] at hD1
      refine ⟨_, rfl, _, rfl, fun D2 n2 => ?_⟩
      have n21 : D1 ≠ D2 := ne_of_none hD1 n2
      refine lc_it walk_str (fun i H' => (∃ ys : List V, H' D2 = some (.lst ys) ∧ ys.length ≤ i) ∧ Same H3 H') ⟨⟨[], upd_same, Nat.le_refl _⟩, same_new n2⟩ (fun _ _ _ _ => trivial) ?_ ?_
      · rintro i x H' H'' hi ⟨⟨ys, hD2, hyl⟩, s4⟩ ⟨rfl, c, hc, rfl⟩
        have hi : i < 26 := by rw [lets_ok.2.2.2] at hi; exact hi
        refine ⟨rfl, _, rfl, _, _, rfl, rfl, (by show 2 ≤ sizeLine; decide), _, rfl, U, _, rfl, .inl (.inl (.inl (s4 _ _ (s3 _ _ hU2)))), rfl, flat_strs us, _, rfl, ite2 (fun _ => ?_) (fun _ => ?_)⟩
        · exact ⟨_, rfl, _, _, rfl, rfl, (by show 2 ≤ sizeLine; decide), ys, hD2, small1000 (by omega), ⟨_, upd_same, by simp; omega⟩, same_upd s4 n2⟩
        · exact ⟨⟨ys, hD2, by omega⟩, s4⟩
      rintro H4 ⟨⟨ys, hD2, hyl⟩, s4⟩
      rw [lets_ok.2.2.2] at hyl
      have hD14 := s4 _ _ hD1
      refine ⟨D1, D2, _, _, rfl, rfl, hD14, hD2, ?_, fun C nC => ?_⟩
      · rw [List.length_map, List.length_map, sizeLine_eq]
        have := List.length_filter_le (fun c => !decide (sg1 c ∈ us)) lets
        rw [lets_ok.2.1] at this
        omega
      have ne := some_free hl
      cases hf : (lets.filter fun c => !decide (sg1 c ∈ us)) with
      | nil => exact absurd hf ne
      | cons c r =>
        rw [hf] at hD14
        have hc : c ∈ lets.filter fun c => !decide (sg1 c ∈ us) := by rw [hf]; exact List.mem_cons_self
        obtain ⟨hc1, hc2⟩ := List.mem_filter.mp hc
        have hc2 : sg1 c ∉ us := by simpa using hc2
        have eC := same_new (o := .lst (((c :: r).map sg1).map V.str ++ ys)) nC
        refine ⟨_, rfl, C, _, 0, _, rfl, rfl, .inl (.inl upd_same), atI_nat (j := 0) rfl, ?_⟩
        have s24 := s3.trans (s4.trans eC)
        have hcl := lets_ok.2.2.1 c hc1
        exact q (sg1 c) _ ⟨Nat.le_refl 1, by show 1 ≤ 8; decide, fun x hx => by rw [List.mem_singleton.mp hx]; exact hcl⟩ hc2 (sH2.trans (Same.x s24)) (px.same s24)
    · rw [decide_eq_false hin]
      refine iteF ?_
      exact ⟨_, rfl, q _ H2 nz hin sH2 px⟩
theorem ok_lnames (T : Tx K mg base) : FnOk P w K mg base CX0 3 T.f_lnames T.d_lnames ["_law_pot_here", "_law_many"] spNames := by
  refine T.F_lnames.ok sc_lnames (fun vs H Q E h => ?_) (fun cdv A outer s H vs Q E hr h => ?_)
  · obtain ⟨p, m, rfl, _⟩ := h
    rfl
  · obtain ⟨p, m, rfl, hp, hm, q⟩ := h
    refine ⟨_, (pss_cons (ps_set (i := 2) sc_lnames.nd rfl (.inl rfl) (pe_lst pa_nil))
        (pss_cons (ps_for PassesOwn.never rfl (pi_range1 (by rfl) T.n_range (pa_cons (pv 1) pa_nil)) (pg_name (i := 3) sc_lnames.nd rfl (.inl rfl)) (pss_one (ps_expr (pe_bm PySem.F.plainAttrs_list PySem.F.slot_list_append PySem.F.type_list_append mt_append (pv 2) (pa_cons (pe_call (ok_lname T) (hr.mono (by decide)) (by rfl) T.g_lname T.F_lname.kp T.b_lname .nil pass0 (pa_cons (pv 0) (pa_cons (pv 2) pa_nil))) pa_nil)))))
        (pss_one (ps_ret (pv 2))))), ?_⟩
    refine ⟨by show 0 ≤ sizeLine; decide, fun D nD => ?_⟩
    have nDp : D ≠ p := hp.ne nD
    refine ⟨_, rfl, _, rfl, by omega, by omega, for_range (lo := 0) (n := ((m : Nat) : Int).toNat) (fun i σ H' => ∃ (y : Option V) (us : List Str), σ = [some (.ref p), some (.int m), some (.ref D), y] ∧ H' D = some (.lst (us.map V.str)) ∧ us.length = i ∧ us.Nodup ∧ (∀ z ∈ us, Nm z) ∧ SameX p H H' ∧ PotAt H' p)
      ⟨none, [], rfl, upd_same, rfl, List.nodup_nil, fun _ h => (List.not_mem_nil h).elim, Same.x (same_new nD), hp.same (same_new nD)⟩ ?_ ?_⟩
    · rintro i σ H' hi ⟨y, us, rfl, hD, hul, hn, hnm, sx, px⟩
      refine ⟨_, rfl, .inl ⟨rfl, _, .inl (.inl hD)⟩, _, rfl, _, rfl, ?_⟩
      refine ⟨p, D, us, rfl, px, nDp, hD, by omega, fun z H2 nz hz s2 p2 => ?_⟩
      have hD2 := s2 _ _ nDp hD
      refine ⟨D, _, _, rfl, rfl, hD2, by rw [List.length_map]; exact small1000 (by omega), ?_⟩
      refine ⟨_, us ++ [z], rfl, by rw [upd_same, List.map_append]; rfl, by simp [hul], ?_, ?_, samex_upd (sx.trans s2) nD, p2.upd nDp⟩
      · rw [List.nodup_append]
        refine ⟨hn, List.nodup_cons.mpr ⟨List.not_mem_nil, List.nodup_nil⟩, fun a ha b hb e => ?_⟩
        rw [List.mem_singleton.mp hb] at e
        exact hz (e ▸ ha)
      · intro x hx
        rcases List.mem_append.mp hx with h | h
        · exact hnm x h
        · rw [List.mem_singleton.mp h]; exact nz
    · rintro σ H' ⟨y, us, rfl, hD, hul, hn, hnm, sx, px⟩
      exact ⟨_, rfl, q D us H' nD hD (by omega) hn hnm sx px⟩
theorem ok_lsum (T : Tx K mg base) : FnOk P w K mg base CX0 3 T.f_lsum T.d_lsum ["_law_parts"] (spSumX K) := by
  refine T.F_lsum.ok sc_lsum (fun vs H Q E h => ?_) (fun cdv A outer s H vs Q E hr h => ?_)
  · obtain ⟨l, rs, ps, rfl, _⟩ := h
    rfl
  · obtain ⟨l, rs, ps, rfl, hR, hP, N, D, hk, hn, hN, q⟩ := h
    refine ⟨_, (pss_cons (ps_set (i := 1) sc_lsum.nd rfl (.inl rfl) (pe_tup (pa_cons pe_int (pa_cons pe_int pa_nil))))
        (pss_cons (ps_for PassesOwn.never rfl (pi_list (pv 0)) (pg_name (i := 2) sc_lsum.nd rfl (.inl rfl)) (pss_one (ps_set (i := 1) sc_lsum.nd rfl (.inl rfl) (pe_call (ok_lplus T) (hr.mono (by decide)) (by rfl) T.g_lplus T.F_lplus.kp T.b_lplus .nil pass0 (pa_cons (pv 1) (pa_cons (pv 2) pa_nil))))))
        (pss_one (ps_ret (pv 1))))), ?_⟩
    refine ⟨by show 2 ≤ sizeLine; decide, fun t0 n0 => ?_⟩
    refine ⟨_, rfl, l, rfl, ⟨_, Same.seq (same_new n0) hR⟩, for_list (K := K) (a := l) (xs := rs) (fun i σ H' => ∃ v y, σ = [some (.ref l), some v, y] ∧ Same H H' ∧ TupI K H' v ((ps.take i).foldl pl (0, 1)).1 ((ps.take i).foldl pl (0, 1)).2)
      ⟨_, none, rfl, same_new n0, TupI.new⟩ (fun i σ H' _ ⟨_, _, _, s, _⟩ => s.seq hR) ?_ ?_⟩
    · rintro i x σ H' hx ⟨v, y, rfl, s, hv⟩
      obtain ⟨p, hp, ht⟩ := hP.2 i x hx
      have o1 := Ok2.fold (N := N) (D := D) (ps.take i) (0, 1) 0 ⟨by decide, (by unfold Bt; decide : Bt 0 (0 : Int)).mono (by omega), (by unfold Bt; decide : Bt 1 (1 : Int)).mono (by omega)⟩ (fun z hz => hk z (List.mem_of_mem_take hz))
      have o2 := hk p (List.mem_of_getElem? hp)
      have li : (ps.take i).length ≤ ps.length := by rw [List.length_take]; omega
      have l1 := Nat.mul_le_mul_right (D + 1) li
      have l2 := Nat.mul_le_mul_right D li
      have l3 : ps.length * D + ps.length + D + 1 ≤ 4300 := by rw [Nat.add_mul, Nat.mul_add] at hn; omega
      have l4 : (ps.length + 1) * (D + 1) = ps.length * (D + 1) + (D + 1) := by rw [Nat.add_mul, Nat.one_mul]
      have o1' : Ok2 400000 4400 ((ps.take i).foldl pl (0, 1)) := o1.mono (by rw [Nat.zero_add]; omega) (by rw [Nat.zero_add]; omega)
      have o2' : Ok2 400000 4400 p := o2.mono (by omega) (by omega)
      refine ⟨_, rfl, _, rfl, _, _, _, _, _, _, rfl, hv, ht.same s, o1'.1, o2'.1, o1'.2.1, o1'.2.2, o2'.2.1, o2'.2.2, fun t H2 st ht2 => ?_⟩
      refine ⟨t, some x, rfl, s.trans st, ?_⟩
      rw [take_fold hp]
      exact ht2
    · rintro σ H' ⟨v, y, rfl, s, hv⟩
      rw [hP.1, List.take_length] at hv
      exact ⟨_, rfl, q v H' s hv⟩

end
end WS

set_option Elab.async false
set_option linter.all false
set_option maxRecDepth 100000
set_option maxHeartbeats 4000000
namespace WS
open PySem PySem.Spec PyProof.Rows L2
section
variable {P : Program} {w : World} {K : PySem.W.Frag} {mg : Str → Option Value} {base : Heap}
open TL
theorem ok_lfirst (T : Tx K mg base) : FnOk P w K mg base CX0 2 T.f_lfirst T.d_lfirst ["_law_row_here"] (spFirstR K) := by
  refine T.F_lfirst.ok sc_lfirst (fun vs H Q E h => ?_) (fun cdv A outer s H vs Q E hr h => ?_)
  · obtain ⟨l, rs, ps, rfl, _⟩ := h
    rfl
  · obtain ⟨l, rs, ps, rfl, hR, hP, hk, hn, q⟩ := h
    refine ⟨_, (pss_cons (ps_set (i := 1) sc_lfirst.nd rfl (.inl rfl) (pe_listRg (by rfl) (by rfl) T.n_list (prg_1 (by rfl) T.n_range (pe_callB call_len_seq (by rfl) T.n_len (by decide +kernel) (pa_cons (pv 0) pa_nil)))))
        (pss_cons (ps_set (i := 2) sc_lfirst.nd rfl (.inl rfl) (pe_lst pa_nil))
        (pss_cons (ps_while PassesOwn.never (pt_cmpR (op_neD hr.units) (pv 1) (pe_lst pa_nil) (nomark _)) (pss_cons (ps_set (i := 3) sc_lfirst.nd rfl (.inr rfl) (pe_ix ix_list (pv 1) pe_int (fun _ _ => rfl)))
        (pss_cons (ps_for PassesOwn.never rfl (pi_list (pv 1)) (pg_name (i := 4) sc_lfirst.nd rfl (.inl rfl)) (pss_one (ps_if (pt_val (pe_call (ok_lless T) (hr.mono (by decide)) (by rfl) T.g_lless T.F_lless.kp T.b_lless .nil pass0 (pa_cons (pe_ix ix_list (pv 0) (pv 3) (fun _ _ => rfl)) (pa_cons (pe_ix ix_list (pv 0) (pv 4) (fun _ _ => rfl)) pa_nil)))) (pss_one (ps_set (i := 3) sc_lfirst.nd rfl (.inr rfl) (pv 4))) pss_nil)))
        (pss_cons (ps_expr (pe_bm PySem.F.plainAttrs_list PySem.F.slot_list_append PySem.F.type_list_append mt_append (pv 2) (pa_cons (pv 3) pa_nil)))
        (pss_one (ps_setLc (i := 1) (own := [("_law_k", 4)]) (g := gName 4) (by rfl) sc_lfirst.nd rfl rfl (sw_true rfl rfl rfl (by decide +kernel)) (pi_list (pv 1)) (blkOk_by (own := [("_law_k", 4)]) (N := ["_law_row_here", "_law_left", "_law_found", "_law_at", "_law_k"]) (sc := defScope s_lfirst) (by decide +kernel)) (fun _ _ _ _ _ => (pg_name (i := 4) sc_lfirst.nd rfl (.inl rfl))) (fun _ _ _ _ _ => (pts_one (pt_cmpR op_ne (pv 4) (pv 3) (nomark _)))) (fun _ _ _ _ _ => (pv 4))))))))
        (pss_one (ps_ret (pv 2)))))), ?_⟩
    refine ⟨_, rfl, l, rs, rfl, .inl hR, _, rfl, RgOk.of_le (by omega) (by rw [hP.1]; omega) (by omega) (by omega), fun L nL => ?_⟩
    rw [rgV_nat, hP.1]
    obtain ⟨B, eB, sB, hL⟩ : ∃ B, B = upd H L (.lst ((List.range ps.length).map fun j : Nat => V.int j)) ∧ Same H B ∧ B L = some (.lst ((List.range ps.length).map fun j : Nat => V.int j)) := ⟨_, rfl, same_new nL, upd_same⟩
    rw [← eB]
    refine ⟨by show 0 ≤ sizeLine; decide, fun F nF => ?_⟩
    have nLF : L ≠ F := ne_of_none hL nF
    have nFH : H F = none := by
      cases z : H F with
      | none => rfl
      | some o => exact absurd (sB _ _ z) (by rw [nF]; simp)
    refine while_by (fun σ H' => ∃ L' ls fs y z, σ = [some (.ref l), some (.ref L'), some (.ref F), y, z] ∧ H' L' = some (.lst (ls.map fun j : Nat => V.int j)) ∧ H' F = some (.lst (fs.map fun j : Nat => V.int j)) ∧ L' ≠ F ∧ Same H H' ∧ (fs ++ ls).Perm (List.range ps.length) ∧ ls.Pairwise (· < ·) ∧ fs.Pairwise (rkR ps) ∧ (∀ i ∈ fs, ∀ j ∈ ls, rkR ps i j))
      (fun σ H' => match σ with | [_, some (.ref L'), _, _, _] => (match H' L' with | some (.lst xs) => xs.length | _ => 0) | _ => 0)
      ⟨L, List.range ps.length, [], none, none, rfl, by rw [upd_ne nLF]; exact hL, upd_same, nLF, same_upd sB nFH, .refl _, List.pairwise_lt_range, .nil, fun i hi => by simp at hi⟩ ?_ ?_
    · rintro σ H' ⟨L', ls, fs, y, z, rfl, hL', hF', nLF', sH, hperm, hup, hfs, hfl⟩
      have hls : ∀ j ∈ ls, j < ps.length := fun j hj => List.mem_range.mp (hperm.mem_iff.mp (List.mem_append_right _ hj))
      have hlen : ls.length + fs.length ≤ ps.length := by
        have := hperm.length_eq
        rw [List.length_append, List.length_range] at this
        omega
      refine ⟨_, rfl, by show 0 ≤ sizeLine; decide, fun E0' nE => ?_⟩
      obtain ⟨H1, eH1, s1, hE⟩ : ∃ B, B = upd H' E0' (.lst []) ∧ Same H' B ∧ B E0' = some (.lst []) := ⟨_, rfl, same_new nE, upd_same⟩
      show rNeD K _ _ (upd H' E0' (.lst [])) _
      rw [← eH1]
      have hL1 := s1 _ _ hL'
      have hF1 := s1 _ _ hF'
      rw [nats_int] at hL1
      refine ⟨_, _, ints_dp (.inl (.inl hL1)), dp_nil (.inl (.inl hE)), shaped_ints _, shaped_nil, _, rfl, ?_⟩
      rw [eqv_nil]
      cases ls with
      | nil =>
        refine iteF ?_
        rw [List.append_nil] at hperm
        exact ⟨_, rfl, q H1 F fs (sH.trans s1) nFH hF1 ⟨hperm, hfs⟩⟩
      | cons a0 ls =>
        refine iteT ?_
        have hL1' : SqL K H1 L' ((a0 :: ls).map fun j : Nat => V.int j) := by rw [nats_int]; exact .inl (.inl hL1)
        refine ⟨_, rfl, L', _, 0, _, rfl, rfl, hL1', atI_nat (j := 0) rfl, ?_⟩
        refine ⟨_, rfl, L', rfl, ⟨_, hL1'⟩, for_list (K := K) (a := L') (xs := (a0 :: ls).map fun j : Nat => V.int j) (fun i σ H2 => ∃ (t : Nat) (z : Option V), σ = [some (.ref l), some (.ref L'), some (.ref F), some (.int t), z] ∧ t ∈ a0 :: ls ∧ (t ∈ (a0 :: ls).take i ∨ (i = 0 ∧ t = a0)) ∧ (∀ c ∈ (a0 :: ls).take i, c = t ∨ rkR ps t c) ∧ H2 = H1)
          ⟨a0, _, rfl, List.mem_cons_self, .inr ⟨rfl, rfl⟩, fun c hc => by simp at hc, rfl⟩ (fun i σ H2 _ ⟨_, _, _, _, _, _, e⟩ => by rw [e]; exact hL1') ?_ ?_⟩
        · rintro i x σ H2 hx ⟨t, z, rfl, ht, hti, hbest, rfl⟩
          obtain ⟨k, ek, hk', rfl⟩ : ∃ k, (a0 :: ls)[i]? = some k ∧ k ∈ a0 :: ls ∧ V.int (k : Nat) = x := by
            rw [List.getElem?_map] at hx
            cases e : (a0 :: ls)[i]? with
            | none => rw [e] at hx; cases hx
            | some k => rw [e] at hx; exact ⟨k, rfl, List.mem_of_getElem? e, Option.some.inj hx⟩
          have tk : (a0 :: ls).take (i + 1) = (a0 :: ls).take i ++ [k] := by rw [List.take_add_one, ek]; rfl
          have hpos : ∀ q ∈ ps, 0 < q.2 := fun q hq => (hk q hq).1
          have sH1 := sH.trans s1
          obtain ⟨u1, e1, m1, t1⟩ := (hP.k (kt_same sH1)).at (hls t ht)
          obtain ⟨u2, e2, m2, t2⟩ := (hP.k (kt_same sH1)).at (hls k hk')
          have hR1 := sH1.seq hR
          refine ⟨_, rfl, _, rfl, l, _, t, _, rfl, rfl, hR1, atI_nat e1, _, rfl, _, rfl, l, _, k, _, rfl, rfl, hR1, atI_nat e2, ?_⟩
          refine ⟨_, _, _, _, _, _, rfl, t1, t2, (hk _ m1).2.1.mono (by decide), (hk _ m1).2.2, (hk _ m2).2.1.mono (by decide), (hk _ m2).2.2, _, rfl, ?_⟩
          refine ite2 (fun hc => ?_) (fun hc => ?_)
          · have hc : (gp ps t).1 * (gp ps k).2 < (gp ps k).1 * (gp ps t).2 := of_decide_eq_true hc
            refine ⟨_, rfl, k, _, rfl, hk', .inl (by rw [tk]; exact List.mem_append_right _ List.mem_cons_self), fun c hcm => ?_, rfl⟩
            rw [tk] at hcm
            rcases List.mem_append.mp hcm with h | h
            · exact .inr (rk_step hpos hc (hbest c h))
            · exact .inl (List.mem_singleton.mp h)
          · have hc : ¬ (gp ps t).1 * (gp ps k).2 < (gp ps k).1 * (gp ps t).2 := fun z => hc (decide_eq_true z)
            refine ⟨t, _, rfl, ht, .inl ?_, fun c hcm => ?_, rfl⟩
            · rw [tk]
              rcases hti with h | ⟨rfl, rfl⟩
              · exact List.mem_append_left _ h
              · simp at ek
                rw [ek]
                exact List.mem_append_right _ List.mem_cons_self
            · rw [tk] at hcm
              rcases List.mem_append.mp hcm with h | h
              · exact hbest c h
              · rw [List.mem_singleton.mp h]
                by_cases e : k = t
                · exact .inl e
                · refine .inr ?_
                  by_cases l : (gp ps k).1 * (gp ps t).2 < (gp ps t).1 * (gp ps k).2
                  · exact .inl l
                  · refine .inr ⟨by omega, ?_⟩
                    rcases hti with h | ⟨rfl, rfl⟩
                    · obtain ⟨j, hj, ej⟩ := List.mem_iff_getElem.mp h
                      rw [List.length_take] at hj
                      rw [List.getElem_take] at ej
                      obtain ⟨hi2, ei2⟩ := List.getElem?_eq_some_iff.mp ek
                      rw [← ej, ← ei2]
                      exact List.pairwise_iff_getElem.mp hup j i (by omega) hi2 (by omega)
                    · simp at ek
                      exact absurd ek.symm e
        · rintro σ H2 ⟨t, z, rfl, ht, _, hbest, rfl⟩
          rw [List.length_map, List.take_length] at hbest
          refine ⟨_, rfl, .inl ⟨rfl, _, .inl (.inl hF1)⟩, _, rfl, F, _, _, rfl, rfl, hF1, ?_, ?_⟩
          · rw [List.length_map, sizeLine_eq]
            omega
          have hL2 : SqL K (upd H2 F (.lst (fs.map (fun j : Nat => V.int j) ++ [V.int t]))) L' ((a0 :: ls).map fun j : Nat => V.int j) := by
            refine .inl (.inl ?_)
            rw [upd_ne nLF']
            rw [nats_int]
            exact hL1
          obtain ⟨H3, eH3, hF3, hL3, s3⟩ : ∃ B, B = upd H2 F (.lst (fs.map (fun j : Nat => V.int j) ++ [V.int t])) ∧ B F = some (.lst ((fs ++ [t]).map fun j : Nat => V.int j)) ∧ SqL K B L' ((a0 :: ls).map fun j : Nat => V.int j) ∧ Same H B :=
            ⟨_, rfl, by rw [upd_same, List.map_append]; rfl, hL2, same_upd (sH.trans s1) nFH⟩
          rw [← eH3]
          refine ⟨_, rfl, L', rfl, ⟨_, hL3⟩, fun D nD => ?_⟩
          have nDF : F ≠ D := ne_of_none hF3 nD
          have nDH : H D = none := by
            cases z : H D with
            | none => rfl
            | some o => exact absurd (s3 _ _ z) (by rw [nD]; simp)
          refine lc_list (K := K) (a := L') (xs := (a0 :: ls).map fun j : Nat => V.int j) (fun i H' => H' = upd H3 D (.lst ((((a0 :: ls).take i).filter fun k => !decide (k = t)).map fun j : Nat => V.int j))) (by simp) (fun i H' _ e => by rw [e]; exact (same_new nD).seq hL3) ?_ ?_
          · rintro i x H' hx rfl
            obtain ⟨k, ek, rfl⟩ : ∃ k, (a0 :: ls)[i]? = some k ∧ V.int (k : Nat) = x := by
              rw [List.getElem?_map] at hx
              cases e : (a0 :: ls)[i]? with
              | none => rw [e] at hx; cases hx
              | some k => rw [e] at hx; exact ⟨k, rfl, Option.some.inj hx⟩
            refine ⟨rfl, _, rfl, _, rfl, rfl, _, rfl, ?_⟩
            have ed : decide (V.int (k : Int) = V.int (t : Int)) = decide (k = t) := by
              apply decide_eq_decide.mpr
              constructor
              · intro h
                have := V.int.inj h
                omega
              · rintro rfl
                rfl
            rw [ed, List.take_add_one, ek]
            cases hd : decide (k = t) with
            | true =>
              refine iteF ?_
              simp [List.filter_append, hd]
            | false =>
              refine iteT ?_
              refine ⟨_, rfl, _, upd_same, ?_, ?_⟩
              · rw [List.length_map, sizeLine_eq]
                have := List.length_filter_le (fun k => !decide (k = t)) ((a0 :: ls).take i)
                rw [List.length_take] at this
                omega
              · rw [upd_upd]
                simp [List.filter_append, hd]
          · rintro H' rfl
            rw [List.length_map, List.take_length]
            have ndl : (a0 :: ls).Nodup := hup.imp fun {a b} (h : a < b) => Nat.ne_of_lt h
            refine ⟨⟨D, (a0 :: ls).filter fun k => !decide (k = t), fs ++ [t], _, _, rfl, upd_same, ?_, nDF.symm, same_upd s3 nDH, ?_, hup.filter _, ?_, ?_⟩, ?_⟩
            · rw [upd_ne nDF]
              exact hF3
            · rw [List.append_assoc, List.singleton_append]
              exact ((filter_perm ndl ht).append_left fs).trans hperm
            · rw [List.pairwise_append]
              refine ⟨hfs, List.pairwise_singleton _ _, fun a ha b hb => ?_⟩
              rw [List.mem_singleton.mp hb]
              exact hfl a ha t ht
            · intro a ha b hb
              obtain ⟨hb1, hb2⟩ := List.mem_filter.mp hb
              rcases List.mem_append.mp ha with h | h
              · exact hfl a h b hb1
              · rw [List.mem_singleton.mp h]
                rcases hbest b hb1 with e | e
                · simp [e] at hb2
                · exact e
            · have h1 : ((a0 :: ls).filter fun k => !decide (k = t)).length < (a0 :: ls).length := List.length_filter_lt_length_iff_exists.mpr ⟨t, ht, by simp⟩
              show (match upd H3 D _ D with | some (.lst xs) => xs.length | _ => 0) < (match H' L' with | some (.lst xs) => xs.length | _ => 0)
              rw [upd_same, hL']
              simpa using h1
    · rintro σ H' Q1 Q2 k ⟨v, h1, h2, h3⟩
      refine ⟨v, h1, h2, fun E1 n1 => ?_⟩
      obtain ⟨d, e, a1, a2, a3, a4, c, a5, a6⟩ := h3 E1 n1
      exact ⟨d, e, a1, a2, a3, a4, c, a5, k _ _ a6⟩

end
end WS

set_option Elab.async false
set_option linter.all false
set_option maxRecDepth 100000
set_option maxHeartbeats 4000000
namespace WS
open PySem PySem.Spec PyProof.Rows L2
section
variable {P : Program} {w : World} {K : PySem.W.Frag} {mg : Str → Option Value} {base : Heap}
open TL
theorem ok_lfalls (T : Tx K mg base) : FnOk P w K mg base CX0 4 T.f_lfalls T.d_lfalls ["_law_weight_here", "_law_row_here"] (spFalls K) := by
  refine T.F_lfalls.ok sc_lfalls (fun vs H Q E h => ?_) (fun cdv A outer s H vs Q E hr h => ?_)
  · obtain ⟨W, l, rs, ps, rfl, _⟩ := h
    rfl
  · obtain ⟨W, l, rs, ps, rfl, hR, hP, hk, hn, bW, wth, q⟩ := h
    refine ⟨_, (pss_cons (ps_set (i := 2) sc_lfalls.nd rfl (.inl rfl) (pe_lst pa_nil))
        (pss_cons (ps_set (i := 3) sc_lfalls.nd rfl (.inl rfl) (pe_call (ok_lfirst T) (hr.mono (by decide)) (by rfl) T.g_lfirst T.F_lfirst.kp T.b_lfirst .nil pass0 (pa_cons (pv 1) pa_nil)))
        (pss_cons (ps_for PassesOwn.never rfl (pi_range1 (by rfl) T.n_range (pa_cons (pe_op op_add (pe_callB call_len_seq (by rfl) T.n_len (by decide +kernel) (pa_cons (pv 1) pa_nil)) pe_int) pa_nil)) (pg_name (i := 4) sc_lfalls.nd rfl (.inl rfl)) (pss_one (ps_if (pt_val (pe_call (ok_lless T) (hr.mono (by decide)) (by rfl) T.g_lless T.F_lless.kp T.b_lless .nil pass0 (pa_cons (pe_call (ok_lmost T) (hr.mono (by decide)) (by rfl) T.g_lmost T.F_lmost.kp T.b_lmost .nil pass0 (pa_cons (pv 0) (pa_cons (pe_callB call_len_seq (by rfl) T.n_len (by decide +kernel) (pa_cons (pv 1) pa_nil)) (pa_cons (pv 4) pa_nil)))) (pa_cons (pe_call (ok_lsum T) (hr.mono (by decide)) (by rfl) T.g_lsum T.F_lsum.kp T.b_lsum .nil pass0 (pa_cons (pe_lc (own := [("_law_at", 5)]) (g := gName 5) (tt := tYes) (by rfl) sc_lfalls.nd (pi_list (pe_slice sl_list (pv 3) po_none (po_some (pv 4)))) (blkOk_by (own := [("_law_at", 5)]) (N := ["_law_weight_here", "_law_row_here", "_law_found", "_law_order", "_law_k", "_law_at"]) (sc := defScope s_lfalls) (by decide +kernel)) (fun _ _ _ _ _ => (pg_name (i := 5) sc_lfalls.nd rfl (.inl rfl))) (fun _ _ _ _ _ => pts_nil) (fun _ _ _ _ _ => (pe_ix (show IxR _ (rIxL K) from ix_list) (pv 1) (pv 5) (fun _ _ => rfl)))) pa_nil)) pa_nil)))) (pss_one (ps_expr (pe_bm PySem.F.plainAttrs_list PySem.F.slot_list_append PySem.F.type_list_append mt_append (pv 2) (pa_cons (pv 4) pa_nil)))) pss_nil)))
        (pss_one (ps_ret (pv 2)))))), ?_⟩
    rw [show L2.start [Str.ofString "_law_weight_here", Str.ofString "_law_row_here", Str.ofString "_law_found", Str.ofString "_law_order", Str.ofString "_law_k", Str.ofString "_law_at"] [V.int W, V.ref l] = [some (V.int W), some (V.ref l), none, none, none, none] from rfl]
    refine ⟨by show 0 ≤ sizeLine; decide, fun F nF => ?_⟩
    obtain ⟨H1, f1, e1, hF1⟩ : ∃ B, B = upd H F (.lst []) ∧ Same H B ∧ B F = some (.lst []) := ⟨_, rfl, same_new nF, upd_same⟩
    show gName 2 (V.ref F) _ (upd H F (.lst [])) _
    rw [← f1]
    refine ⟨_, rfl, l, rs, ps, rfl, e1.seq hR, hP.k (kt_same e1), fun z hz => ⟨(hk z hz).1, (hk z hz).2.1.mono (by decide), (hk z hz).2.2.mono (by decide)⟩, by omega, fun H2 O os s2 nO hO hrk => ?_⟩
    dsimp only [List.set_cons_succ, List.set_cons_zero]
    have s02 := e1.trans s2
    have hR2 := s02.seq hR
    have hP2 := hP.k (kt_same s02)
    have hos : ∀ j ∈ os, j < ps.length := fun j hj => List.mem_range.mp (hrk.1.mem_iff.mp hj)
    have osl : os.length = ps.length := by rw [hrk.1.length_eq, List.length_range]
    have ond : os.Nodup := hrk.1.nodup_iff.mpr List.nodup_range
    have rl : rs.length = ps.length := hP.1
    refine ⟨_, rfl, l, rs, rfl, .inl hR2, _, _, rfl, rfl, _, rfl, by omega, by omega, for_range (lo := 0) (n := ((rs.length : Int) + 1).toNat) (fun i σ H' => ∃ y4, σ = [some (.int W), some (.ref l), some (.ref F), some (.ref O), y4, none] ∧ H' F = some (.lst []) ∧ Same H2 H')
      ⟨none, rfl, s2 _ _ hF1, Same.refl _⟩ ?_ ?_⟩
    · rintro i σ H' hi ⟨y4, rfl, hF, sH⟩
      have ei : (0 : Int) + (i : Nat) = ((i : Nat) : Int) := by omega
      rw [ei]
      have hil : i ≤ ps.length := by omega
      have bi : Bt 200 ((i : Nat) : Int) := (Bt.of_lt (n := 10) (by omega) (by omega) : Bt 10 _).mono (by decide)
      have bl : Bt 200 ((rs.length : Nat) : Int) := (Bt.of_lt (n := 10) (by omega) (by omega) : Bt 10 _).mono (by decide)
      refine ⟨_, rfl, _, rfl, l, rs, rfl, .inl (sH.seq hR2), _, rfl, W, _, _, rfl, bW, bl, bi, fun u H3 s3 tu => ?_⟩
      have s23 := sH.trans s3
      have hO3 := s23 _ _ hO
      refine ⟨_, rfl, _, rfl, _, rfl, O, _, rfl, .inl (.inl hO3), fun C nC => ?_⟩
      rw [cutV_take, ← List.map_take]
      obtain ⟨H4, f4, e4, hC⟩ : ∃ B, B = upd H3 C (.lst ((os.take i).map fun j : Nat => V.int j)) ∧ Same H3 B ∧ SqL K B C ((os.take i).map fun j : Nat => V.int j) := ⟨_, rfl, same_new nC, .inl (.inl upd_same)⟩
      rw [← f4]
      have s24 := s23.trans e4
      refine ⟨C, rfl, ⟨_, hC⟩, fun D nD => ?_⟩
      refine lc_list (K := K) (a := C) (xs := (os.take i).map fun j : Nat => V.int j) (fun j H'' => ∃ rs2, H'' D = some (.lst rs2) ∧ rs2.length = j ∧ Parts K H'' rs2 (((os.take i).take j).map (gp ps)) ∧ Same H4 H'')
        ⟨[], upd_same, rfl, Parts.nil, same_new nD⟩ (fun j H'' _ ⟨_, _, _, _, s⟩ => s.seq hC) ?_ ?_
      · rintro j x H'' hx ⟨rs2, hD2, hl2, hP2', sH2⟩
        have hj := (List.getElem?_eq_some_iff.mp hx).1
        rw [List.length_map, List.length_take] at hj
        rw [List.getElem?_map] at hx
        obtain ⟨k', ek', rfl⟩ : ∃ k' : Nat, (os.take i)[j]? = some k' ∧ V.int k' = x := by
          cases e : (os.take i)[j]? with
          | none => rw [e] at hx; cases hx
          | some z => rw [e] at hx; exact ⟨z, rfl, Option.some.inj hx⟩
        have hk' := hos k' (List.mem_of_mem_take (List.mem_of_getElem? ek'))
        obtain ⟨v, hv, mv, tv⟩ := (hP2.k (kt_same (s24.trans sH2))).at hk'
        refine ⟨rfl, tyes (iteT ?_)⟩
        refine ⟨_, rfl, _, rfl, l, _, k', _, rfl, rfl, (s24.trans sH2).seq hR2, atI_nat hv, ?_⟩
        refine ⟨rs2, hD2, small1000 (by omega), rs2 ++ [v], upd_same, by simp [hl2], ?_, same_upd sH2 nD⟩
        rw [List.take_add_one (l := os.take i), ek', List.map_append]
        exact (hP2'.add tv).k (kt_set hD2)
      rintro H5 ⟨rs2, hD2, hl2, hP2', sH5⟩
      rw [List.length_map, List.take_length] at hP2'
      have tl : ((os.take i).map (gp ps)).length ≤ 15 := by rw [List.length_map, List.length_take]; omega
      have okt : ∀ q ∈ (os.take i).map (gp ps), Ok2 1900 200 q := fun q hq => by
        obtain ⟨k, hk2, rfl⟩ := List.mem_map.mp hq
        exact hk _ (gp_mem (hos k (List.mem_of_mem_take hk2)))
      refine ⟨D, rs2, _, rfl, .inl (.inl hD2), hP2', 1900, 200, okt, by omega, by omega, fun v H6 s6 tv => ?_⟩
      have o := Ok2.fold (N := 1900) (D := 200) ((os.take i).map (gp ps)) (0, 1) 0 ⟨by decide, (by unfold Bt; decide : Bt 0 (0 : Int)).mono (by omega), (by unfold Bt; decide : Bt 1 (1 : Int)).mono (by omega)⟩ okt
      have o := o.mono (N' := 10000) (D' := 4400) (by omega) (by omega)
      have bm : Bt 2401 (W * ((i : Nat) : Int) * ((rs.length : Nat) - ((i : Nat) : Int))) := (bW.mul bi).mul (bl.sub bi)
      have s36 := e4.trans (sH5.trans s6)
      refine nil2 ⟨_, _, _, _, _, _, rfl, tu.same s36, tv, bm.lo1.mono (by decide), (by unfold Bt; decide : Bt 2 (2 : Int)).lo2.mono (by decide), o.2.1.mono (by decide), o.2.2, ?_⟩
      have hno : ltp (mo W (rs.length : Nat) ((i : Nat) : Int)) (((os.take i).map (gp ps)).foldl pl (0, 1)) = false := by
        rw [ltp_no (mo_low W _ _).1 o.1, rv_mo, ← sumF_gp (fun q hq => (hk q hq).1)]
        have := wth (os.take i) (ond.sublist (List.take_sublist _ _)) (fun j hj => hos j (List.mem_of_mem_take hj))
        rw [List.length_take, Nat.min_eq_left (by omega)] at this
        unfold mostR at this
        rw [rl]
        exact this
      refine ⟨_, rfl, ?_⟩
      have hno2 : decide ((lo (W * ((i : Nat) : Int) * (((rs.length : Nat) : Int) - ((i : Nat) : Int))) 2).1 * (((os.take i).map (gp ps)).foldl pl (0, 1)).2 < (((os.take i).map (gp ps)).foldl pl (0, 1)).1 * (lo (W * ((i : Nat) : Int) * (((rs.length : Nat) : Int) - ((i : Nat) : Int))) 2).2) = false := hno
      rw [hno2]
      refine iteF ⟨_, rfl, (s36 _ _ (s3 _ _ hF)), s23.trans s36⟩
    · rintro σ H' ⟨y4, rfl, hF, sH⟩
      exact ⟨_, rfl, q F H' (s02.trans sH) hF⟩

end
end WS

set_option Elab.async false
set_option linter.all false
set_option maxRecDepth 100000
set_option maxHeartbeats 4000000
namespace WS
open PySem PySem.Spec PyProof.Rows L2
section
variable {P : Program} {w : World} {K : PySem.W.Frag} {mg : Str → Option Value} {base : Heap}
open TL
theorem ok_lempty_owed (T : Tx K mg base) : FnOk P w K mg base CX0 4 T.f_lempty_owed T.d_lempty_owed ["_law_moment"] (spEmptyOwed K 190) := by
  refine T.F_lempty_owed.ok sc_lempty_owed (fun vs H Q E h => ?_) (fun cdv A outer s H vs Q E hr h => ?_)
  · obtain ⟨v, W, ss, rfl, _⟩ := h
    rfl
  · obtain ⟨v, W, ss, rfl, hm, ⟨hl, ok⟩, hb, q⟩ := h
    obtain ⟨t, S, vs, rfl, ht, hS, hD⟩ := mom_get hm
    refine ⟨_, (pss_one (ps_ret (pe_call (ok_lsum T) (hr.mono (by decide)) (by rfl) T.g_lsum T.F_lsum.kp T.b_lsum .nil pass0 (pa_cons (pe_lc (own := [("_law_person", 1), ("_law_owed", 2)]) (g := gTup K 2 (gCons (gName 1) (gCons (gName 2) gNil))) (by rfl) sc_lempty_owed.nd (pi_tup (pe_ix ix_tup (pv 0) pe_int (fun _ _ => rfl))) (blkOk_by (own := [("_law_person", 1), ("_law_owed", 2)]) (N := ["_law_moment", "_law_person", "_law_owed"]) (sc := defScope s_lempty_owed) (by decide +kernel)) (fun _ _ _ _ _ => (pg_tup (by rfl) (pgs_cons (pg_name (i := 1) sc_lempty_owed.nd rfl (.inl rfl)) (pgs_cons (pg_name (i := 2) sc_lempty_owed.nd rfl (.inl rfl)) pgs_nil)))) (fun _ _ _ _ _ => (pts_one (pt_cmpR op_eq (pv 1) pe_str (nomark _)))) (fun _ _ _ _ _ => (pv 2))) pa_nil)))), ?_⟩
    have el : vs.length = ss.length := by rw [dpall_len hD, List.length_map]
    refine ⟨_, rfl, t, _, 1, _, rfl, rfl, ht, atI_nat (j := 1) rfl, S, rfl, ⟨_, hS⟩, fun D nD => ?_⟩
    refine lc_tup (K := K) (a := S) (xs := vs) (fun j H' => ∃ us, H' D = some (.lst us) ∧ Parts K H' us (kittyL (ss.take j)) ∧ Same H H') ⟨[], upd_same, Parts.nil, same_new nD⟩ (fun j H' _ ⟨_, _, _, s⟩ => Same.tup s hS) ?_ ?_
    · rintro j x H' hx ⟨us, hDs, hP, s1⟩
      obtain ⟨st, u, y, es, rfl, hu, hy⟩ := seat_at hD hx
      have hj : j < ss.length := (List.getElem?_eq_some_iff.mp es).1
      refine ⟨u, _, rfl, Same.tup s1 hu, rfl, _, _, rfl, _, _, rfl, rfl, rfl, _, rfl, rfl, _, rfl, ?_⟩
      rw [eqv_strs]
      have e : kittyL (ss.take (j + 1)) = kittyL (ss.take j) ++ (([st].filter fun s : Seat => decide (s.1 = ("" : Str))).map Prod.snd) := by
        unfold kittyL
        rw [List.take_add_one, es, List.filter_append, List.map_append]
        rfl
      rw [e]
      have hul : us.length ≤ j := by
        rw [hP.1]
        unfold kittyL
        rw [List.length_map]
        have := List.length_filter_le (fun s : Seat => decide (s.1 = ("" : Str))) (ss.take j)
        rw [List.length_take] at this
        omega
      by_cases c : st.1 = ""
      · rw [decide_eq_true c]
        refine iteT ⟨_, rfl, us, hDs, small1000 (by omega), us ++ [y], upd_same, ?_, same_upd s1 nD⟩
        have : (([st].filter fun s : Seat => decide (s.1 = ("" : Str))).map Prod.snd) = [st.2] := by simp [c]
        rw [this]
        exact (hP.add (dp_pd (hy.sm s1))).k (kt_set hDs)
      · rw [decide_eq_false c]
        refine iteF ⟨us, hDs, ?_, s1⟩
        have : (([st].filter fun s : Seat => decide (s.1 = ("" : Str))).map Prod.snd) = [] := by simp [c]
        rw [this, List.append_nil]
        exact hP
    · rintro H1 ⟨us, hDs, hP, s1⟩
      rw [el, List.take_length] at hP
      have okk : ∀ q ∈ kittyL ss, Ok2 190 190 q := fun q hq => by
        obtain ⟨s, hs, rfl⟩ := List.mem_map.mp hq
        exact ok s (List.mem_filter.mp hs).1
      have kl : (kittyL ss).length ≤ ss.length := by
        unfold kittyL
        rw [List.length_map]
        exact List.length_filter_le _ _
      have kb : ((kittyL ss).length + 1) * (190 + 1) ≤ 4200 := Nat.le_trans (Nat.mul_le_mul_right _ (by omega)) hb
      exact ⟨D, us, kittyL ss, rfl, .inl (.inl hDs), hP, 190, 190, okk, by omega, by omega, fun v H2 s2 hv => q v H2 (s1.trans s2) hv⟩

end
end WS

set_option Elab.async false
set_option linter.all false
set_option maxRecDepth 100000
set_option maxHeartbeats 4000000
namespace WS
open PySem PySem.Spec PyProof.Rows L2
section
variable {P : Program} {w : World} {K : PySem.W.Frag} {mg : Str → Option Value} {base : Heap}
open TL
theorem ok_kitty (T : Tx K mg base) : FnOk P w K mg base CX0 6 T.f_kitty T.d_kitty ["moment"] (spKitty K 250) := by
  refine T.F_kitty.ok sc_kitty (fun vs H Q E h => ?_) (fun cdv A outer s H vs Q E hr h => ?_)
  · obtain ⟨v, W, ss, rfl, _⟩ := h
    rfl
  · obtain ⟨v, W, ss, rfl, hm, ⟨hl, ok⟩, hb, q⟩ := h
    obtain ⟨t, S, vs, rfl, ht, hS, hD⟩ := mom_get hm
    refine ⟨_, (pss_one (ps_ret (pe_call (ok_total T) (hr.mono (by decide)) (by rfl) T.g_total T.F_total.kp T.b_total T.vb_total pass0 (pa_cons (pe_lc (own := [("person", 1), ("owed", 2)]) (g := gTup K 2 (gCons (gName 1) (gCons (gName 2) gNil))) (by rfl) sc_kitty.nd (pi_tup (pe_ix ix_tup (pv 0) pe_int (fun _ _ => rfl))) (blkOk_by (own := [("person", 1), ("owed", 2)]) (N := ["moment", "person", "owed"]) (sc := defScope s_kitty) (by decide +kernel)) (fun _ _ _ _ _ => (pg_tup (by rfl) (pgs_cons (pg_name (i := 1) sc_kitty.nd rfl (.inl rfl)) (pgs_cons (pg_name (i := 2) sc_kitty.nd rfl (.inl rfl)) pgs_nil)))) (fun _ _ _ _ _ => (pts_one (pt_cmpR op_eq (pv 1) (pe_glob (v := .str "") (by rfl) T.g_EMPTY T.r_EMPTY) (nomark _)))) (fun _ _ _ _ _ => (pv 2))) pa_nil)))), ?_⟩
    have el : vs.length = ss.length := by rw [dpall_len hD, List.length_map]
    refine ⟨_, rfl, t, _, 1, _, rfl, rfl, ht, atI_nat (j := 1) rfl, S, rfl, ⟨_, hS⟩, fun D nD => ?_⟩
    refine lc_tup (K := K) (a := S) (xs := vs) (fun j H' => ∃ us, H' D = some (.lst us) ∧ Parts K H' us (kittyL (ss.take j)) ∧ Same H H') ⟨[], upd_same, Parts.nil, same_new nD⟩ (fun j H' _ ⟨_, _, _, s⟩ => Same.tup s hS) ?_ ?_
    · rintro j x H' hx ⟨us, hDs, hP, s1⟩
      obtain ⟨st, u, y, es, rfl, hu, hy⟩ := seat_at hD hx
      have hj : j < ss.length := (List.getElem?_eq_some_iff.mp es).1
      refine ⟨u, _, rfl, Same.tup s1 hu, rfl, _, _, rfl, _, _, rfl, rfl, rfl, _, rfl, rfl, _, rfl, ?_⟩
      rw [eqv_strs]
      have e : kittyL (ss.take (j + 1)) = kittyL (ss.take j) ++ (([st].filter fun s : Seat => decide (s.1 = ("" : Str))).map Prod.snd) := by
        unfold kittyL
        rw [List.take_add_one, es, List.filter_append, List.map_append]
        rfl
      rw [e]
      have hul : us.length ≤ j := by
        rw [hP.1]
        unfold kittyL
        rw [List.length_map]
        have := List.length_filter_le (fun s : Seat => decide (s.1 = ("" : Str))) (ss.take j)
        rw [List.length_take] at this
        omega
      by_cases c : st.1 = ""
      · rw [decide_eq_true c]
        refine iteT ⟨_, rfl, us, hDs, small1000 (by omega), us ++ [y], upd_same, ?_, same_upd s1 nD⟩
        have : (([st].filter fun s : Seat => decide (s.1 = ("" : Str))).map Prod.snd) = [st.2] := by simp [c]
        rw [this]
        exact (hP.add (dp_pd (hy.sm s1))).k (kt_set hDs)
      · rw [decide_eq_false c]
        refine iteF ⟨us, hDs, ?_, s1⟩
        have : (([st].filter fun s : Seat => decide (s.1 = ("" : Str))).map Prod.snd) = [] := by simp [c]
        rw [this, List.append_nil]
        exact hP
    · rintro H1 ⟨us, hDs, hP, s1⟩
      rw [el, List.take_length] at hP
      have kl : (kittyL ss).length ≤ ss.length := by
        unfold kittyL
        rw [List.length_map]
        exact List.length_filter_le _ _
      have hk : ∀ p ∈ kittyL ss, Okp 250 p := fun p hp => by
        obtain ⟨s, hs, rfl⟩ := List.mem_map.mp hp
        exact ok s (List.mem_filter.mp hs).1
      refine ⟨D, _, 0, 1, us, kittyL ss, rfl, .inl (.inl (.inl hDs)), ⟨_, rfl, T.t0 _⟩, ⟨by decide, by unfold Bt; decide +kernel, by unfold Bt; decide +kernel⟩, hP, hk, Nat.le_trans (Nat.mul_le_mul_right _ (by omega)) hb, fun v' H' s' t' => q v' H' (s1.trans s') t'⟩
theorem ok_lwhole_right (T : Tx K mg base) {A : Around} (hg : Calm A) : FnAt A P w K mg base CX0 9 T.f_lwhole_right T.d_lwhole_right ["_law_both", "_law_one_here", "_law_other"] (spWholeR K T.TT) := by
  refine fun_at T.F_lwhole_right sc_lwhole_right (fun vs H Q E h => ?_) (fun cdv outer s H vs Q E hr h => ?_)
  · obtain ⟨u, v1, v2, W, ss, tt, rfl, _⟩ := h
    rfl
  · obtain ⟨u, v1, v2, W, ss, tt, rfl, hm, hm1, hm2, mo, okq, hT, q⟩ := h
    refine ⟨_, PSs.nox (pss_cons (ps_if (PW.pt (pw_or (pt_cmpR op_ne (pe_callB (call_reprD (Calm.down hg _) hr.units) (by rfl) T.n_repr (by decide +kernel) (pa_cons (pv 0) pa_nil)) (pe_callB (call_reprD (Calm.down hg _) hr.units) (by rfl) T.n_repr (by decide +kernel) (pa_cons (pe_tup (pa_cons (pe_ix ix_tup (pv 1) pe_int (fun _ _ => rfl)) (pa_cons (pe_op op_catW (pe_ix ix_tup (pv 1) pe_int (fun _ _ => rfl)) (pe_ix ix_tup (pv 2) pe_int (fun _ _ => rfl))) pa_nil))) pa_nil)) (nomark _)) (pw_or1 (pt_cmpR op_notBl (pe_call (ok_is_moment T) (hr.mono (by decide)) (by rfl) T.g_is_moment T.F_is_moment.kp T.b_is_moment .nil pass0 (pa_cons (pv 0) pa_nil)) pe_bl (nomark _))))) (pss_one (ps_ret pe_bl)) pss_nil)
        (pss_cons (ps_setLc (i := 3) (own := [("_law_person", 4), ("_law_owed", 5)]) (g := gTup K 2 (gCons (gName 4) (gCons (gName 5) gNil))) (tt := tYes) (by rfl) sc_lwhole_right.nd rfl rfl (sw_true rfl rfl rfl (by decide +kernel)) (pi_tup (pe_ix ix_tup (pv 0) pe_int (fun _ _ => rfl))) (blkOk_by (own := [("_law_person", 4), ("_law_owed", 5)]) (N := ["_law_both", "_law_one_here", "_law_other", "_law_row_here", "_law_person", "_law_owed"]) (sc := defScope s_lwhole_right) (by decide +kernel)) (fun _ _ _ _ _ => (pg_tup (by rfl) (pgs_cons (pg_name (i := 4) sc_lwhole_right.nd rfl (.inl rfl)) (pgs_cons (pg_name (i := 5) sc_lwhole_right.nd rfl (.inl rfl)) pgs_nil)))) (fun _ _ _ _ _ => pts_nil) (fun _ _ _ _ _ => (pv 5)))
        (pss_cons (ps_if (PW.pt (pw_or (pt_cmpR (op_neD hr.units) (pe_call (ok_lsum T) (hr.mono (by decide)) (by rfl) T.g_lsum T.F_lsum.kp T.b_lsum .nil pass0 (pa_cons (pv 3) pa_nil)) (pe_tup (pa_cons pe_int (pa_cons pe_int pa_nil))) (nomark _)) (pw_or1 (pt_cmpR (op_neD hr.units) (pe_call (ok_lfalls T) (hr.mono (by decide)) (by rfl) T.g_lfalls T.F_lfalls.kp T.b_lfalls .nil pass0 (pa_cons (pe_ix ix_tup (pv 0) pe_int (fun _ _ => rfl)) (pa_cons (pv 3) pa_nil))) (pe_lst pa_nil) (nomark _))))) (pss_one (ps_ret pe_bl)) pss_nil)
        (pss_cons (ps_if (pt_cmpR op_ne (pe_callB (call_reprD (Calm.down hg _) hr.units) (by rfl) T.n_repr (by decide +kernel) (pa_cons (pe_call (ok_kitty T) (hr.mono (by decide)) (by rfl) T.g_kitty T.F_kitty.kp T.b_kitty .nil pass0 (pa_cons (pv 0) pa_nil)) pa_nil)) (pe_callB (call_reprD (Calm.down hg _) hr.units) (by rfl) T.n_repr (by decide +kernel) (pa_cons (pe_call (ok_lplus T) (hr.mono (by decide)) (by rfl) T.g_lplus T.F_lplus.kp T.b_lplus .nil pass0 (pa_cons (pe_call (ok_lempty_owed T) (hr.mono (by decide)) (by rfl) T.g_lempty_owed T.F_lempty_owed.kp T.b_lempty_owed .nil pass0 (pa_cons (pv 1) pa_nil)) (pa_cons (pe_call (ok_lempty_owed T) (hr.mono (by decide)) (by rfl) T.g_lempty_owed T.F_lempty_owed.kp T.b_lempty_owed .nil pass0 (pa_cons (pv 2) pa_nil)) pa_nil))) pa_nil)) (nomark _)) (pss_one (ps_ret pe_bl)) pss_nil)
        (pss_one (ps_ret (pe_callB (cr_all (by rfl)) (by rfl) T.n_all (by decide +kernel) (pa_cons (pe_lc (own := [("_law_person", 4), ("_law_owed", 5)]) (g := gTup K 2 (gCons (gName 4) (gCons (gName 5) gNil))) (by rfl) sc_lwhole_right.nd (pi_tup (pe_ix ix_tup (pv 0) pe_int (fun _ _ => rfl))) (blkOk_by (own := [("_law_person", 4), ("_law_owed", 5)]) (N := ["_law_both", "_law_one_here", "_law_other", "_law_row_here", "_law_person", "_law_owed"]) (sc := defScope s_lwhole_right) (by decide +kernel)) (fun _ _ _ _ _ => (pg_tup (by rfl) (pgs_cons (pg_name (i := 4) sc_lwhole_right.nd rfl (.inl rfl)) (pgs_cons (pg_name (i := 5) sc_lwhole_right.nd rfl (.inl rfl)) pgs_nil)))) (fun _ _ _ _ _ => (pts_one (pt_cmpR op_ne (pv 4) pe_str (nomark _)))) (fun _ _ _ _ _ => (pe_cmpR op_eq (pe_callB (id := "repr") (show CallR _ (.builtin "repr") (rReprK K) from call_reprK (by exact hg) (by exact hr.units)) (by rfl) T.n_repr (by decide +kernel) (pa_cons (pe_call (ok_owes T) (hr.mono (by decide)) (by rfl) T.g_owes T.F_owes.kp T.b_owes .nil pass0 (pa_cons (pv 0) (pa_cons (pv 4) pa_nil))) pa_nil)) (pe_callB (id := "repr") (show CallR _ (.builtin "repr") (rReprK K) from call_reprK (by exact hg) (by exact hr.units)) (by rfl) T.n_repr (by decide +kernel) (pa_cons (pv 5) pa_nil)) (nomark _)))) pa_nil)))))))), ?_⟩
    obtain ⟨t, S, vs, rfl, ht, hS, hV⟩ := mom_get hm
    obtain ⟨a, Sa, as, rfl, ha, hSa, hVa⟩ := mom_get hm1
    obtain ⟨b, Sb, bs, rfl, hb, hSb, hVb⟩ := mom_get hm2
    rw [show L2.start [Str.ofString "_law_both", Str.ofString "_law_one_here", Str.ofString "_law_other", Str.ofString "_law_row_here", Str.ofString "_law_person", Str.ofString "_law_owed"] [V.ref t, V.ref a, V.ref b] = [some (V.ref t), some (V.ref a), some (V.ref b), none, none, none] from rfl]
    have l14 := mo.l
    have lapp : (ss ++ tt).length = ss.length + tt.length := List.length_append
    have el : vs.length = (ss ++ tt).length := by rw [dpall_len hV, List.length_map]
    have ela : as.length = ss.length := by rw [dpall_len hVa, List.length_map]
    have elb : bs.length = tt.length := by rw [dpall_len hVb, List.length_map]
    have bW := mo.b
    obtain ⟨c1, c2, c3, c4⟩ := (mom_sh2 (W := W) (ss := ss ++ tt) bW (by omega) fun s hs => ⟨⟨(okq s hs).1, (okq s hs).2.1.mono (by decide), (okq s hs).2.2.mono (by decide)⟩, mo.nm s hs⟩).ok (Nat.le_refl _) (Nat.le_refl _)
    obtain ⟨MM, eM⟩ : ∃ MM, MM = momD W (ss ++ tt) := ⟨_, rfl⟩
    rw [← eM] at c1 c2 c3 c4
    refine ⟨_, rfl, _, MM, rfl, by rw [eM]; exact hm, c1, c2, c3, c4, ?_⟩
    refine ⟨_, rfl, a, _, 0, _, rfl, rfl, ha, atI_nat (j := 0) rfl, _, rfl, a, _, 1, _, rfl, rfl, ha, atI_nat (j := 1) rfl, _, rfl, b, _, 1, _, rfl, rfl, hb, atI_nat (j := 1) rfl, ?_⟩
    refine ⟨Sa, Sb, as, bs, rfl, rfl, hSa, hSb, by rw [sizeLine_eq]; omega, fun r H1 s1 hr1 => ?_⟩
    refine ⟨by show 2 ≤ sizeLine; decide, fun m nm => ?_⟩
    obtain ⟨H2, f2, e2, hm2'⟩ : ∃ B, B = upd H1 m (.tup [.int W, .ref r]) ∧ Same H1 B ∧ SqT K B m [.int W, .ref r] := ⟨_, rfl, same_new nm, .inl (.inl upd_same)⟩
    have s12 := s1.trans e2
    have dm2 : Dp K H2 (.ref m) (momD W (ss ++ tt)) := mom_mk hm2' (Same.tup e2 hr1) (by rw [List.map_append]; exact dpall_app (hVa.sm s12) (hVb.sm s12))
    refine ⟨_, MM, rfl, by rw [← f2, eM]; exact dm2, c1, c2, c3, c4, rfl, _, rfl, ?_⟩
    rw [decide_eq_true rfl, ← f2]
    refine iteF ?_
    -- a moment
    refine ⟨_, rfl, _, W, ss ++ tt, rfl, hm.sm s12, ⟨mo.l, mo.w, mo.b, mo.nd, mo.nm, fun s hs => ⟨(mo.ok s hs).1.mono (by decide), (mo.ok s hs).2⟩, mo.g⟩, by omega, hT.ext s12, fun H3 x3 t3 => ?_⟩
    refine ⟨true, true, rfl, rfl, false, rfl, iteF ?_⟩
    have x03 := (ExtN.same s12).trans x3
    have ht3 := ExtN.sqt x03 ht
    have hS3 := ExtN.sqt x03 hS
    have hV3 := hV.kt (ExtN.kt x03) (seats_imm _)
    dsimp only [List.set_cons_succ, List.set_cons_zero]
    -- the row
    obtain ⟨ps, eps⟩ : ∃ ps, ps = (ss ++ tt).map Prod.snd := ⟨_, rfl⟩
    have pl' : ps.length = (ss ++ tt).length := by rw [eps, List.length_map]
    refine ⟨_, rfl, t, _, 1, _, rfl, rfl, ht3, atI_nat (j := 1) rfl, S, rfl, ⟨_, hS3⟩, fun R nR => ?_⟩
    refine lc_tup (K := K) (a := S) (xs := vs) (fun j H' => ∃ ws, H' R = some (.lst ws) ∧ Parts K H' ws (ps.take j) ∧ Same H3 H') ⟨[], upd_same, Parts.nil, same_new nR⟩ (fun j H' _ ⟨_, _, _, s⟩ => Same.tup s hS3) ?_ ?_
    · rintro j x H' hx ⟨ws, hR, hws, s4⟩
      obtain ⟨s, u, y, es, rfl, hu, hy⟩ := seat_at hV3 hx
      refine ⟨u, _, rfl, Same.tup s4 hu, rfl, _, _, rfl, _, _, rfl, rfl, rfl, tyes (iteT ?_)⟩
      have k6 := kt_set (ys := ws ++ [y]) hR
      have wl := hws.1
      rw [List.length_take] at wl
      refine ⟨_, rfl, ws, hR, small1000 (by omega), ws ++ [y], upd_same, ?_, same_upd s4 nR⟩
      have ej : ps[j]? = some s.2 := by rw [eps, List.getElem?_map, es]; rfl
      rw [List.take_add_one, ej]
      exact (hws.k k6).add (((dp_pd hy).same s4).k k6)
    rintro H4 ⟨ws, hR, hws, s4⟩
    rw [el, show ps.take (ss ++ tt).length = ps from List.take_of_length_le (by omega)] at hws
    dsimp only [List.set_cons_succ, List.set_cons_zero]
    have okp : ∀ z ∈ ps, Okq 190 90 z := fun z hz => by
      rw [eps] at hz
      obtain ⟨s, hs, rfl⟩ := List.mem_map.mp hz
      exact okq s hs
    refine ⟨_, rfl, R, ws, ps, rfl, .inl (.inl hR), hws, 190, 90, okp, by omega, by omega, fun u5 H5 s5 hu5 => ?_⟩
    have hsum : ps.foldl pl (0, 1) = (0, 1) := by rw [eps]; exact good_nought mo.g fun s hs => (okq s hs).1
    rw [hsum] at hu5
    refine ⟨by show 2 ≤ sizeLine; decide, fun z6 nz6 => ?_⟩
    obtain ⟨H6, f6, e6, hz6⟩ : ∃ B, B = upd H5 z6 (.tup [.int 0, .int 1]) ∧ Same H5 B ∧ TupI K B (.ref z6) 0 1 := ⟨_, rfl, same_new nz6, TupI.new⟩
    rw [← f6]
    refine ⟨_, _, pd_dp (hu5.same e6), pd_dp hz6, rfl, rfl, _, rfl, ?_⟩
    rw [eqv_pairs]
    refine iteF ?_
    have s46 := s5.trans e6
    have s36 := s4.trans s46
    refine ⟨_, rfl, t, _, 0, _, rfl, rfl, Same.tup s36 ht3, atI_nat (j := 0) rfl, _, rfl, W, R, ws, ps, rfl, .inl (.inl (s46 _ _ hR)), hws.k (kt_same s46), fun z hz => ⟨(okp z hz).1, (okp z hz).2.1.mono (by decide), (okp z hz).2.2.mono (by decide)⟩, by omega, bW.mono (by decide), by rw [eps]; exact good_row mo.g, fun D H7 s7 hD => ?_⟩
    refine ⟨by show 0 ≤ sizeLine; decide, fun z8 nz8 => ?_⟩
    obtain ⟨H8, f8, e8, hz8⟩ : ∃ B, B = upd H7 z8 (.lst []) ∧ Same H7 B ∧ B z8 = some (.lst []) := ⟨_, rfl, same_new nz8, upd_same⟩
    show rNeD K _ _ (upd H7 z8 (.lst [])) _
    rw [← f8]
    refine ⟨_, _, dp_nil (.inl (.inl (e8 _ _ hD))), dp_nil (.inl (.inl hz8)), shaped_nil, shaped_nil, _, rfl, iteF ?_⟩
    have s38 := s36.trans (s7.trans e8)
    have x08 := x03.trans (ExtN.same s38)
    -- the kitty
    have kp : ∀ (l : List Seat), (∀ s ∈ l, Okq 190 90 s.2) → ∀ z ∈ kittyL l, 0 < z.2 := fun l h z hz => by
      obtain ⟨s, hs, rfl⟩ := List.mem_map.mp hz
      exact (h s (List.mem_filter.mp hs).1).1
    have okA : ∀ s ∈ ss, Okq 190 90 s.2 := fun s hs => okq s (List.mem_append_left _ hs)
    have okB : ∀ s ∈ tt, Okq 190 90 s.2 := fun s hs => okq s (List.mem_append_right _ hs)
    have ekit : (kittyL (ss ++ tt)).foldl pl (0, 1) = pl ((kittyL ss).foldl pl (0, 1)) ((kittyL tt).foldl pl (0, 1)) := by
      rw [kittyL_app]
      exact fold_app (kp ss okA) (kp tt okB)
    refine ⟨_, rfl, _, W, ss ++ tt, rfl, ExtN.dp x08 hm (mom_imm _ _), ⟨by omega, fun s hs => ⟨(okq s hs).1, (okq s hs).2.1.mono (by decide), (okq s hs).2.2.mono (by decide)⟩⟩, by omega, fun k9 H9 s9 hk9 => ?_⟩
    obtain ⟨g1, g2, g3, g4⟩ := (pd_sh ((kitty_ok2 okq (by omega)).mono (by decide) (by decide))).ok (Nat.le_refl _) (Nat.le_refl _)
    obtain ⟨KK, eK⟩ : ∃ KK, KK = pdP ((kittyL (ss ++ tt)).foldl pl (0, 1)) := ⟨_, rfl⟩
    rw [← eK] at g1 g2 g3 g4
    refine ⟨_, KK, rfl, by rw [eK]; exact pd_dp hk9, g1, g2, g3, g4, ?_⟩
    have x09 := x08.trans (ExtN.same s9)
    refine ⟨_, rfl, _, W, ss, rfl, ExtN.dp x09 hm1 (mom_imm _ _), ⟨by omega, fun s hs => (okA s hs).okp (by decide) (by decide)⟩, by omega, fun k10 H10 s10 hk10 => ?_⟩
    refine ⟨_, rfl, _, W, tt, rfl, ExtN.dp (x09.trans (ExtN.same s10)) hm2 (mom_imm _ _), ⟨by omega, fun s hs => (okB s hs).okp (by decide) (by decide)⟩, by omega, fun k11 H11 s11 hk11 => ?_⟩
    have o1 := kitty_ok2 okA (by omega)
    have o2 := kitty_ok2 okB (by omega)
    refine ⟨_, _, _, _, _, _, rfl, hk10.same s11, hk11, o1.1, o2.1, o1.2.1.mono (by decide), o1.2.2.mono (by decide), o2.2.1.mono (by decide), o2.2.2.mono (by decide), fun k12 H12 s12' hk12 => ?_⟩
    refine ⟨_, KK, rfl, by rw [eK, ekit]; exact pd_dp hk12, g1, g2, g3, g4, rfl, _, rfl, ?_⟩
    rw [decide_eq_true rfl]
    refine iteF ?_
    have x012 := x09.trans (ExtN.same (s10.trans (s11.trans s12')))
    have ht12 := ExtN.sqt x012 ht
    have hS12 := ExtN.sqt x012 hS
    have hV12 := hV.kt (ExtN.kt x012) (seats_imm _)
    have dm12 := ExtN.dp x012 hm (mom_imm _ _)
    dsimp only [List.set_cons_succ, List.set_cons_zero]
    -- what each owes
    refine ⟨_, rfl, t, _, 1, _, rfl, rfl, ht12, atI_nat (j := 1) rfl, S, rfl, ⟨_, hS12⟩, fun D13 n13 => ?_⟩
    refine lc_tup (K := K) (a := S) (xs := vs) (fun j H' => ∃ n, n ≤ j ∧ H' D13 = some (.lst ((List.replicate n true).map V.bl)) ∧ Same H12 H') ⟨0, Nat.le_refl _, upd_same, same_new n13⟩ (fun j H' _ ⟨_, _, _, s⟩ => Same.tup s hS12) ?_ ?_
    · rintro j x H' hx ⟨n, hn, hD, s13⟩
      obtain ⟨st, u, y, es, rfl, hu, hy⟩ := seat_at hV12 hx
      have hj := (List.getElem?_eq_some_iff.mp es).1
      refine ⟨u, _, rfl, Same.tup s13 hu, rfl, _, _, rfl, _, _, rfl, rfl, rfl, _, rfl, rfl, _, rfl, ?_⟩
      rw [eqv_strs]
      by_cases c : st.1 = ""
      · rw [decide_eq_true c]
        exact iteF ⟨n, by omega, hD, s13⟩
      rw [decide_eq_false c]
      refine iteT ?_
      have eg := gs_at es
      have hin : st.1 ∈ names (ss ++ tt) := names_mem.mpr ⟨c, st, List.mem_of_getElem? es, rfl⟩
      have ei : idx (ss ++ tt) st.1 = j := by
        have := idx_gs mo.nd hj (by rw [eg]; exact c)
        rw [eg] at this
        exact this
      refine ⟨_, rfl, _, rfl, _, W, ss ++ tt, st.1, rfl, dm12.sm s13, by omega, hin, fun v' H'' s14 hv' => ?_⟩
      rw [ei, eg] at hv'
      have osx := okq st (List.mem_of_getElem? es)
      obtain ⟨d1, d2, d3, d4⟩ := (pd_sh (⟨osx.1, osx.2.1.mono (by decide), osx.2.2.mono (by decide)⟩ : Ok2 1900 1900 st.2)).ok (Nat.le_refl _) (Nat.le_refl _)
      refine ⟨_, pdP st.2, rfl, hv', d1, d2, d3, d4, _, rfl, ?_⟩
      refine ⟨_, pdP st.2, rfl, hy.sm (s13.trans s14), d1, d2, d3, d4, rfl, ?_⟩
      rw [decide_eq_true rfl]
      refine ⟨_, s14 _ _ hD, by rw [List.length_map, List.length_replicate]; exact small1000 (by omega), n + 1, by omega, ?_, same_upd (s13.trans s14) n13⟩
      rw [upd_same, List.replicate_succ', List.map_append]
      rfl
    rintro H13 ⟨n, hn, hD, s13⟩
    refine ⟨D13, _, rfl, .inl (.inl hD), ?_⟩
    rw [all_true]
    have x013 := x012.trans (ExtN.same s13)
    exact q H13 x013 ((((t3.ext s38).ext s9).ext (s10.trans (s11.trans s12'))).ext s13)

end
end WS

set_option Elab.async false
set_option linter.all false
set_option maxRecDepth 100000
set_option maxHeartbeats 4000000
namespace WS
open PySem PySem.Spec PyProof.Rows L2
section
variable {P : Program} {w : World} {K : PySem.W.Frag} {mg : Str → Option Value} {base : Heap}
open TL
theorem ok_joined (T : Tx K mg base) : FnOk P w K mg base CX0 3 T.f_joined T.d_joined ["one", "other"] (spJoined K) := by
  refine T.F_joined.ok sc_joined (fun vs H Q E h => ?_) (fun cdv A outer s H vs Q E hr h => ?_)
  · obtain ⟨u, v, W, ss, tt, rfl, _⟩ := h
    rfl
  · obtain ⟨u, v, W, ss, tt, rfl, hm, hn, ls, lt, dis, q⟩ := h
    refine ⟨_, (pss_cons (ps_if (pt_cmpR op_ne (pe_ix ix_tup (pv 0) pe_int (fun _ _ => rfl)) (pe_ix ix_tup (pv 1) pe_int (fun _ _ => rfl)) (nomark _)) (pss_one ps_never) pss_nil)
        (pss_cons (ps_for PassesOwn.never rfl (pi_list (pe_call (ok_persons T) (hr.mono (by decide)) (by rfl) T.g_persons T.F_persons.kp T.b_persons .nil pass0 (pa_cons (pv 0) pa_nil))) (pg_name (i := 2) sc_joined.nd rfl (.inl rfl)) (pss_one (ps_if (pt_val (pe_call (ok_sits T) (hr.mono (by decide)) (by rfl) T.g_sits T.F_sits.kp T.b_sits .nil pass0 (pa_cons (pv 1) (pa_cons (pv 2) pa_nil)))) (pss_one ps_never) pss_nil)))
        (pss_one (ps_ret (pe_tup (pa_cons (pe_ix ix_tup (pv 0) pe_int (fun _ _ => rfl)) (pa_cons (pe_op op_catW (pe_ix ix_tup (pv 0) pe_int (fun _ _ => rfl)) (pe_ix ix_tup (pv 1) pe_int (fun _ _ => rfl))) pa_nil))))))), ?_⟩
    obtain ⟨a, S, vs, rfl, ha, hS, hV⟩ := mom_get hm
    obtain ⟨b, S', us, rfl, hb, hS', hU⟩ := mom_get hn
    refine ⟨_, rfl, a, _, 0, _, rfl, rfl, ha, atI_nat (j := 0) rfl, _, rfl, b, _, 0, _, rfl, rfl, hb, atI_nat (j := 0) rfl, rfl, _, rfl, ?_⟩
    have e : (!decide (V.int W = V.int W)) = false := by rw [decide_eq_true rfl]; rfl
    rw [e]
    refine iteF ?_
    refine ⟨_, rfl, _, W, ss, rfl, hm, ls, fun F H1 nF s1 hF => ?_⟩
    have fl := names_len ss
    refine ⟨F, rfl, ⟨_, .inl (.inl hF)⟩, for_list (K := K) (a := F) (xs := (names ss).map V.str) (fun i σ H' => ∃ y, σ = [some (.ref a), some (.ref b), y] ∧ Same H1 H') ⟨none, rfl, Same.refl _⟩ (fun i σ H' _ ⟨_, _, s⟩ => .inl (.inl (s _ _ hF))) ?_ ?_⟩
    · rintro i x σ H' hx ⟨y, rfl, s2⟩
      rw [List.getElem?_map] at hx
      obtain ⟨z, ez, rfl⟩ : ∃ z, (names ss)[i]? = some z ∧ V.str z = x := by
        cases e : (names ss)[i]? with
        | none => rw [e] at hx; cases hx
        | some z => rw [e] at hx; exact ⟨z, rfl, Option.some.inj hx⟩
      refine ⟨_, rfl, _, rfl, _, W, tt, z, rfl, hn.sm (s1.trans s2), lt, fun H3 s3 => ?_⟩
      rw [decide_eq_false (dis z (List.mem_of_getElem? ez))]
      exact ⟨false, rfl, iteF ⟨_, rfl, s2.trans s3⟩⟩
    rintro σ H2 ⟨y, rfl, s2⟩
    have s12 := s1.trans s2
    have el : vs.length = ss.length := by rw [dpall_len hV, List.length_map]
    have el' : us.length = tt.length := by rw [dpall_len hU, List.length_map]
    refine ⟨_, rfl, a, _, 0, _, rfl, rfl, Same.tup s12 ha, atI_nat (j := 0) rfl, _, rfl, a, _, 1, _, rfl, rfl, Same.tup s12 ha, atI_nat (j := 1) rfl, _, rfl, b, _, 1, _, rfl, rfl, Same.tup s12 hb, atI_nat (j := 1) rfl, ?_⟩
    refine ⟨S, S', vs, us, rfl, rfl, Same.tup s12 hS, Same.tup s12 hS', by rw [sizeLine_eq]; omega, fun r H3 s3 hr3 => ?_⟩
    refine ⟨by show 2 ≤ sizeLine; decide, fun t nt => ?_⟩
    have et := same_new (o := .tup [.int W, .ref r]) nt
    have s13 := s12.trans (s3.trans et)
    refine q _ _ s13 (mom_mk (.inl (.inl upd_same)) (Same.tup et hr3) ?_)
    rw [List.map_append]
    exact dpall_app (hV.sm s13) (hU.sm s13)

end
end WS

set_option Elab.async false
set_option linter.all false
set_option maxRecDepth 100000
set_option maxHeartbeats 4000000
namespace WS
open PySem PySem.Spec PyProof.Rows L2
section
variable {P : Program} {w : World} {K : PySem.W.Frag} {mg : Str → Option Value} {base : Heap}
open TL
theorem ok_seats_alone (T : Tx K mg base) : FnOk P w K mg base CX0 9 T.f_seats_alone T.d_seats_alone ["moment", "numbers"] (spSeatsAl K T.TT 250) := by
  refine T.F_seats_alone.ok sc_seats_alone (fun vs H Q E h => ?_) (fun cdv A outer s H vs Q E hr h => ?_)
  · obtain ⟨v, L, W, ss, is, rfl, _⟩ := h
    rfl
  · obtain ⟨v, L, W, ss, is, rfl, hm, hL, hin, hb, l100, ok, bw, wth, hT, q⟩ := h
    refine ⟨_, (pss_cons (ps_asg (pv 0) (pg_tup (by rfl) (pgs_cons (pg_name (i := 2) sc_seats_alone.nd rfl (.inl rfl)) (pgs_cons (pg_name (i := 3) sc_seats_alone.nd rfl (.inr rfl)) pgs_nil))))
        (pss_cons (ps_set (i := 4) sc_seats_alone.nd rfl (.inl rfl) (pe_tup (pa_cons (pv 2) (pa_cons (pe_callTy call_tuple_of (by rfl) T.n_tuple (by decide +kernel) (pa_cons (pe_lc (own := [("number", 5)]) (g := gName 5) (tt := tYes) (by rfl) sc_seats_alone.nd (pi_list (pv 1)) (blkOk_by (own := [("number", 5)]) (N := ["moment", "numbers", "weight", "seats", "found", "number"]) (sc := defScope s_seats_alone) (by decide +kernel)) (fun _ _ _ _ _ => (pg_name (i := 5) sc_seats_alone.nd rfl (.inl rfl))) (fun _ _ _ _ _ => pts_nil) (fun _ _ _ _ _ => (pe_ix (show IxR _ (rIxT K) from ix_tup) (pv 3) (pv 5) (fun _ _ => rfl)))) pa_nil)) pa_nil))))
        (pss_cons (ps_expr (pe_call (ok_check_within T) (hr.mono (by decide)) (by rfl) T.g_check_within T.F_check_within.kp T.b_check_within .nil pass0 (pa_cons (pv 4) (pa_cons (pv 1) pa_nil))))
        (pss_one (ps_ret (pv 4)))))), ?_⟩
    obtain ⟨t, S, vs, rfl, ht, hS, hV⟩ := mom_get hm
    rw [show L2.start [Str.ofString "moment", Str.ofString "numbers", Str.ofString "weight", Str.ofString "seats", Str.ofString "found", Str.ofString "number"] [V.ref t, V.ref L] = [some (V.ref t), some (V.ref L), none, none, none, none] from rfl]
    refine ⟨_, rfl, t, _, rfl, ht, rfl, _, _, rfl, _, _, rfl, rfl, ?_⟩
    dsimp only [List.set_cons_succ, List.set_cons_zero]
    refine ⟨_, rfl, _, rfl, L, rfl, ⟨_, .inl (.inl hL)⟩, fun D nD => ?_⟩
    refine lc_list (K := K) (a := L) (xs := is.map fun j : Nat => V.int j) (fun j H' => ∃ ws, H' D = some (.lst ws) ∧ ws.length = j ∧ DpAll K H' ws (((is.take j).map (gs ss)).map seatD) ∧ Same H H') ⟨[], upd_same, rfl, .nil, same_new nD⟩ (fun j H' _ ⟨_, _, _, _, s⟩ => .inl (.inl (s _ _ hL))) ?_ ?_
    · rintro j x H' hx ⟨ws, hD, hw, hW, s1⟩
      rw [List.getElem?_map] at hx
      obtain ⟨i, ei, rfl⟩ : ∃ i : Nat, is[j]? = some i ∧ V.int i = x := by
        cases e : is[j]? with
        | none => rw [e] at hx; cases hx
        | some z => rw [e] at hx; exact ⟨z, rfl, Option.some.inj hx⟩
      have hj := (List.getElem?_eq_some_iff.mp ei).1
      have il := hin i (List.mem_of_getElem? ei)
      obtain ⟨y, hy, dy⟩ := dpall_get hV (i := i) (d := seatD (gs ss i)) (by rw [List.getElem?_map, at_gs il]; rfl)
      refine ⟨rfl, tyes (iteT ?_)⟩
      refine ⟨_, rfl, _, rfl, S, _, i, _, rfl, rfl, Same.tup s1 hS, atI_nat hy, ?_⟩
      refine ⟨ws, hD, small1000 (by omega), ws ++ [y], upd_same, by simp [hw], ?_, same_upd s1 nD⟩
      rw [List.take_add_one, ei, List.map_append, List.map_append]
      refine (dpall_add (hW) (dy.sm s1)).kt (kt_set hD) ?_
      rw [immAll_app, seats_imm]
      rfl
    rintro H1 ⟨ws, hD, hw, hW, s1⟩
    rw [List.length_map, List.take_length] at hW
    refine ⟨D, ws, rfl, .inl ⟨.inl (.inl hD), fun r nr => ?_⟩⟩
    obtain ⟨H2, f2, e2, hr2⟩ : ∃ B, B = upd H1 r (.tup ws) ∧ Same H1 B ∧ SqT K B r ws := ⟨_, rfl, same_new nr, .inl (.inl upd_same)⟩
    rw [← f2]
    refine ⟨by show 2 ≤ sizeLine; decide, fun m nm => ?_⟩
    obtain ⟨H3, f3, e3, hm3⟩ : ∃ B, B = upd H2 m (.tup [.int W, .ref r]) ∧ Same H2 B ∧ SqT K B m [.int W, .ref r] := ⟨_, rfl, same_new nm, .inl (.inl upd_same)⟩
    show gName 4 _ _ (upd H2 m (.tup [.int W, .ref r])) _
    rw [← f3]
    dsimp only [List.set_cons_succ, List.set_cons_zero]
    have s23 := e2.trans e3
    have dm : Dp K H3 (.ref m) (momD W (is.map (gs ss))) := mom_mk hm3 (Same.tup e3 hr2) (hW.sm s23)
    have s13 := s1.trans s23
    have lm : (is.map (gs ss)).length = is.length := List.length_map _
    refine ⟨_, rfl, _, rfl, .ref m, .ref L, W, is.map (gs ss), rfl, dm, bw, fun s hs => ?_, by rw [lm]; exact hb, by rw [lm]; exact l100, wth, hT.ext s13, fun H4 x4 t4 => ?_⟩
    · obtain ⟨i, hi, rfl⟩ := List.mem_map.mp hs
      exact ok _ (gs_mem (hin i hi))
    exact ⟨_, rfl, q _ H4 ((ExtN.same s13).trans x4) t4 (ExtN.dp x4 dm (mom_imm _ _))⟩

end
end WS

set_option Elab.async false
set_option linter.all false
set_option maxRecDepth 100000
set_option maxHeartbeats 4000000
namespace WS
open PySem PySem.Spec PyProof.Rows L2
section
variable {P : Program} {w : World} {K : PySem.W.Frag} {mg : Str → Option Value} {base : Heap}
open TL
theorem ok_check_seats (T : Tx K mg base) : FnOk P w K mg base CX0 3 T.f_check_seats T.d_check_seats ["moment", "seats"] (spCheckSeats K) := by
  refine T.F_check_seats.ok sc_check_seats (fun vs H Q E h => ?_) (fun cdv A outer s H vs Q E hr h => ?_)
  · obtain ⟨v, W, ss, d, ns, rfl, _⟩ := h
    rfl
  · obtain ⟨v, W, ss, d, ns, rfl, hm, hd, nd, hn, l100, q⟩ := h
    refine ⟨_, (pss_cons (ps_if (pt_not (pt_val (pe_callB call_isi (by rfl) T.n_isinstance (by decide +kernel) (pa_cons (pv 1) (pa_cons (pe_bltn (v := .ty "tuple") (by rfl) T.n_tuple (by decide +kernel) rfl) pa_nil))))) (pss_one ps_never) pss_nil)
        (pss_cons (ps_set (i := 2) sc_check_seats.nd rfl (.inr rfl) (pe_callB call_len_seq (by rfl) T.n_len (by decide +kernel) (pa_cons (pe_ix ix_tup (pv 0) pe_int (fun _ _ => rfl)) pa_nil)))
        (pss_cons (ps_if (pt_not (pt_val (pe_callB (cr_all (by rfl)) (by rfl) T.n_all (by decide +kernel) (pa_cons (pe_lc (own := [("seat", 3)]) (g := gName 3) (tt := tYes) (by rfl) sc_check_seats.nd (pi_tup (pv 1)) (blkOk_by (own := [("seat", 3)]) (N := ["moment", "seats", "many", "seat"]) (sc := defScope s_check_seats) (by decide +kernel)) (fun _ _ _ _ _ => (pg_name (i := 3) sc_check_seats.nd rfl (.inl rfl))) (fun _ _ _ _ _ => pts_nil) (fun _ _ _ _ _ => (pe_and (pe_call (ok_is_whole T) (hr.mono (by decide)) (by rfl) T.g_is_whole T.F_is_whole.kp T.b_is_whole .nil pass0 (pa_cons (pv 3) pa_nil)) (pe_one (pe_chain op_le op_lt pe_int (pv 3) (pv 2)))))) pa_nil)))) (pss_one ps_never) pss_nil)
        (pss_one (ps_if (pt_cmpR op_ne (pe_lenSetT (by rfl) (by rfl) T.n_len (by rfl) T.n_set (pv 1)) (pe_callB call_len_seq (by rfl) T.n_len (by decide +kernel) (pa_cons (pv 1) pa_nil)) (nomark _)) (pss_one ps_never) pss_nil))))), ?_⟩
    obtain ⟨t, S, vs, rfl, ht, hS, hV⟩ := mom_get hm
    have el : vs.length = ss.length := by rw [dpall_len hV, List.length_map]
    refine ⟨_, rfl, _, _, _, _, true, rfl, .ty "tuple", sqt_ty hd, kit_ty (by decide +kernel), true, rfl, iteF ?_⟩
    refine ⟨_, rfl, t, _, 1, _, rfl, rfl, ht, atI_nat (j := 1) rfl, S, _, rfl, .inr hS, ?_⟩
    refine ⟨_, rfl, d, rfl, ⟨_, hd⟩, fun D nD => ?_⟩
    refine lc_tup (K := K) (a := d) (xs := ns.map V.int) (fun j H' => H' D = some (.lst ((List.replicate j true).map V.bl)) ∧ Same H H') ⟨upd_same, same_new nD⟩ (fun j H' _ ⟨_, s⟩ => Same.tup s hd) ?_ ?_
    · rintro j x H' hx ⟨hD, s1⟩
      rw [List.getElem?_map] at hx
      obtain ⟨n, en, rfl⟩ : ∃ n, ns[j]? = some n ∧ V.int n = x := by
        cases e : ns[j]? with
        | none => rw [e] at hx; cases hx
        | some z => rw [e] at hx; exact ⟨z, rfl, Option.some.inj hx⟩
      have hj : j < ns.length := (List.getElem?_eq_some_iff.mp en).1
      have hn' := hn n (List.mem_of_getElem? en)
      refine ⟨rfl, tyes (iteT ?_)⟩
      refine ⟨_, rfl, _, _, rfl, whole_int, true, rfl, iteT ?_⟩
      refine ⟨_, rfl, _, _, rfl, rfl, _, rfl, ?_⟩
      rw [decide_eq_true hn'.1]
      refine iteT ⟨_, rfl, _, _, rfl, rfl, ?_⟩
      have e2 : decide (n < ((vs.length : Nat) : Int)) = true := decide_eq_true (by rw [el]; exact hn'.2)
      simp only [e2]
      exact ⟨_, hD, by rw [List.length_map, List.length_replicate]; exact small1000 (by omega), by rw [upd_same, List.replicate_succ', List.map_append]; rfl, same_upd s1 nD⟩
    rintro H1 ⟨hD, s1⟩
    refine ⟨D, _, rfl, .inl (.inl hD), ?_⟩
    rw [all_true]
    refine ⟨_, rfl, iteF ?_⟩
    have hd1 := Same.tup s1 hd
    refine ⟨_, rfl, d, ns, rfl, hd1, nd, by omega, _, rfl, d, _, rfl, .inr hd1, rfl, _, rfl, ?_⟩
    rw [List.length_map, decide_eq_true rfl]
    exact iteF (q _ s1)

end
end WS

set_option Elab.async false
set_option linter.all false
set_option maxRecDepth 100000
set_option maxHeartbeats 4000000
namespace WS
open PySem PySem.Spec PyProof.Rows L2
section
variable {P : Program} {w : World} {K : PySem.W.Frag} {mg : Str → Option Value} {base : Heap}
open TL
theorem ok_parted (T : Tx K mg base) : FnOk P w K mg base CX0 10 T.f_parted T.d_parted ["moment", "seats"] (spParted K T.TT 250) := by
  refine T.F_parted.ok sc_parted (fun vs H Q E h => ?_) (fun cdv A outer s H vs Q E hr h => ?_)
  · obtain ⟨v, d, W, ss, is, S, O, rfl, _⟩ := h
    rfl
  · obtain ⟨v, d, W, ss, is, S, O, rfl, hm, hd, hp, hs, hin, hO, hb, l100, ok, bw, hz, w1, w2, hT, q⟩ := h
    refine ⟨_, (pss_cons (ps_expr (pe_call (ok_check_seats T) (hr.mono (by decide)) (by rfl) T.g_check_seats T.F_check_seats.kp T.b_check_seats .nil pass0 (pa_cons (pv 0) (pa_cons (pv 1) pa_nil))))
        (pss_cons (ps_set (i := 2) sc_parted.nd rfl (.inr rfl) (pe_call (ok_owing T) (hr.mono (by decide)) (by rfl) T.g_owing T.F_owing.kp T.b_owing .nil pass0 (pa_cons (pv 0) pa_nil)))
        (pss_cons (ps_set (i := 3) sc_parted.nd rfl (.inl rfl) (pe_call (ok_total T) (hr.mono (by decide)) (by rfl) T.g_total T.F_total.kp T.b_total T.vb_total pass0 (pa_cons (pe_lc (own := [("number", 5)]) (g := gName 5) (tt := tYes) (by rfl) sc_parted.nd (pi_tup (pv 1)) (blkOk_by (own := [("number", 5)]) (N := ["moment", "seats", "row", "owed", "others", "number"]) (sc := defScope s_parted) (by decide +kernel)) (fun _ _ _ _ _ => (pg_name (i := 5) sc_parted.nd rfl (.inl rfl))) (fun _ _ _ _ _ => pts_nil) (fun _ _ _ _ _ => (pe_ix (show IxR _ (rIxT K) from ix_tup) (pv 2) (pv 5) (fun _ _ => rfl)))) pa_nil)))
        (pss_cons (ps_if (pt_cmpR (op_neD hr.units) (pv 3) (pe_glob (v := .ref T.a_NOUGHT) (by rfl) T.g_NOUGHT rfl) (nomark _)) (pss_one ps_never) pss_nil)
        (pss_cons (ps_setLc (i := 4) (own := [("number", 5)]) (g := gName 5) (by rfl) sc_parted.nd rfl rfl (sw_true rfl rfl rfl (by decide +kernel)) (pi_range1 (by rfl) T.n_range (pa_cons (pe_callB call_len_seq (by rfl) T.n_len (by decide +kernel) (pa_cons (pv 2) pa_nil)) pa_nil)) (blkOk_by (own := [("number", 5)]) (N := ["moment", "seats", "row", "owed", "others", "number"]) (sc := defScope s_parted) (by decide +kernel)) (fun _ _ _ _ _ => (pg_name (i := 5) sc_parted.nd rfl (.inl rfl))) (fun _ _ _ _ _ => (pts_one (pt_cmpR (show OpR _ _ (rIn K true) from op_notIn_seq) (pv 5) (pv 1) (by rfl)))) (fun _ _ _ _ _ => (pv 5)))
        (pss_one (ps_ret (pe_tup (pa_cons (pe_call (ok_seats_alone T) (hr.mono (by decide)) (by rfl) T.g_seats_alone T.F_seats_alone.kp T.b_seats_alone .nil pass0 (pa_cons (pv 0) (pa_cons (pe_callB (cr_sortedD hr.units) (by rfl) T.n_sorted (by decide +kernel) (pa_cons (pv 1) pa_nil)) pa_nil))) (pa_cons (pe_call (ok_seats_alone T) (hr.mono (by decide)) (by rfl) T.g_seats_alone T.F_seats_alone.kp T.b_seats_alone .nil pass0 (pa_cons (pv 0) (pa_cons (pv 4) pa_nil))) pa_nil)))))))))), ?_⟩
    rw [show L2.start [Str.ofString "moment", Str.ofString "seats", Str.ofString "row", Str.ofString "owed", Str.ofString "others", Str.ofString "number"] [v, V.ref d] = [some (v), some (V.ref d), none, none, none, none] from rfl]
    have Snd : S.Nodup := hs.imp fun h => Nat.ne_of_lt h
    have ind : is.Nodup := hp.nodup_iff.mpr Snd
    have il : is.length ≤ ss.length := by
      have := ind.length_le_of_subset (l₂ := List.range ss.length) fun i hi => List.mem_range.mpr (hin i hi)
      rw [List.length_range] at this
      exact this
    rw [nats_int] at hd
    refine ⟨_, rfl, _, rfl, v, W, ss, d, _, rfl, hm, hd, ?_, fun n hn => ?_, by rw [List.length_map]; omega, fun H1 s1 => ?_⟩
    · exact map_nodup ind fun a _ b _ e => by omega
    · obtain ⟨i, hi, rfl⟩ := List.mem_map.mp hn
      have := hin i hi
      omega
    refine ⟨_, rfl, v, W, ss, rfl, hm.sm s1, l100, fun r H2 s2 hr2 => ?_⟩
    obtain ⟨R, rs, rfl, hR, hrs⟩ := dp_tup hr2
    have hP := parts_dp hrs
    have s12 := s1.trans s2
    have lm : (ss.map Prod.snd).length = ss.length := List.length_map _
    have rl : rs.length = ss.length := by rw [hP.1, lm]
    dsimp only [List.set_cons_succ, List.set_cons_zero]
    -- what they owe
    refine ⟨_, rfl, d, rfl, ⟨_, Same.tup s12 hd⟩, fun D nD => ?_⟩
    refine lc_tup (K := K) (a := d) (xs := (is.map fun j : Nat => (j : Int)).map V.int) (fun j H' => ∃ ws, H' D = some (.lst ws) ∧ Parts K H' ws ((is.take j).map fun i => (gs ss i).2) ∧ Same H2 H') ⟨[], upd_same, Parts.nil, same_new nD⟩ (fun j H' _ ⟨_, _, _, s⟩ => Same.tup (s12.trans s) hd) ?_ ?_
    · rintro j x H' hx ⟨ws, hD, hws, s3⟩
      rw [List.getElem?_map, List.getElem?_map] at hx
      obtain ⟨i, ei, rfl⟩ : ∃ i : Nat, is[j]? = some i ∧ V.int i = x := by
        cases e : is[j]? with
        | none => rw [e] at hx; cases hx
        | some z => rw [e] at hx; exact ⟨z, rfl, Option.some.inj hx⟩
      have hj := (List.getElem?_eq_some_iff.mp ei).1
      have ii := hin i (List.mem_of_getElem? ei)
      obtain ⟨y, hy, _, ty⟩ := hP.at (i := i) (by rw [lm]; exact ii)
      rw [gp_snd ss ii] at ty
      refine ⟨rfl, tyes (iteT ?_)⟩
      refine ⟨_, rfl, _, rfl, R, _, i, _, rfl, rfl, Same.tup s3 hR, atI_nat hy, ?_⟩
      have wl := hws.1
      rw [List.length_map, List.length_take] at wl
      refine ⟨ws, hD, small1000 (by omega), ws ++ [y], upd_same, ?_, same_upd s3 nD⟩
      rw [List.take_add_one, ei, List.map_append]
      exact (hws.k (kt_set hD)).add ((ty.same s3).k (kt_set hD))
    rintro H3 ⟨ws, hD, hws, s3⟩
    rw [List.length_map, List.length_map, List.take_length] at hws
    have okp : ∀ q ∈ is.map fun i => (gs ss i).2, Okp 250 q := fun q hq => by
      obtain ⟨i, hi, rfl⟩ := List.mem_map.mp hq
      exact ok _ (gs_mem (hin i hi))
    refine ⟨D, _, 0, 1, ws, _, rfl, .inl (.inl (.inl hD)), ⟨_, rfl, T.t0 _⟩, ⟨by decide, by unfold Bt; decide +kernel, by unfold Bt; decide +kernel⟩, hws, okp, by rw [List.length_map]; omega, fun u H4 s4 hu => ?_⟩
    have hzero : (is.map fun i => (gs ss i).2).foldl pl (0, 1) = (0, 1) := by
      refine (nought_iff fun q hq => (okp q hq).1).mpr ?_
      rw [List.map_map, ← hz]
      rfl
    rw [hzero] at hu
    dsimp only [List.set_cons_succ, List.set_cons_zero]
    refine ⟨_, rfl, _, _, pd_dp hu, pd_dp (a := 0) (b := 1) ⟨_, rfl, T.t_NOUGHT _⟩, rfl, rfl, _, rfl, ?_⟩
    rw [eqv_pairs]
    refine iteF ?_
    have s24 := s3.trans s4
    have s14 := s12.trans s24
    -- the others
    refine ⟨_, rfl, R, rs, rfl, .inr (Same.tup s24 hR), _, rfl, by omega, by omega, fun G nG => ?_⟩
    refine lc_range (lo := 0) (n := ((rs.length : Nat) : Int).toNat) (fun j H' => H' G = some (.lst (((List.range j).filter fun k => !decide (k ∈ is)).map fun j : Nat => V.int j)) ∧ Same H4 H') ⟨upd_same, same_new nG⟩ ?_ ?_
    · rintro j H' hj ⟨hG, s5⟩
      refine ⟨rfl, _, rfl, _, rfl, d, _, rfl, .inr (Same.tup (s14.trans s5) hd), rfl, flat_ints _, _, rfl, ?_⟩
      rw [inV_int, List.range_succ, List.filter_append, List.map_append]
      have ej : (0 : Int) + (j : Nat) = ((j : Nat) : Int) := by omega
      have em : (((j : Nat) : Int) ∈ is.map fun j : Nat => (j : Int)) ↔ j ∈ is := mem_cast is j
      by_cases c : j ∈ is
      · rw [ej, decide_eq_true (em.mpr c)]
        refine iteF ⟨?_, s5⟩
        rw [hG]
        simp [c, List.filter]
      · rw [ej, decide_eq_false (fun z => c (em.mp z))]
        refine iteT ⟨_, rfl, _, hG, ?_, ?_, same_upd s5 nG⟩
        · rw [List.length_map]
          have := List.length_filter_le (fun k => !decide (k ∈ is)) (List.range j)
          rw [List.length_range] at this
          exact small1000 (by omega)
        · rw [upd_same]
          simp [c, List.filter]
    rintro H5 ⟨hG, s5⟩
    rw [show (((rs.length : Nat) : Int).toNat) = ss.length by omega, ← hO] at hG
    dsimp only [List.set_cons_succ, List.set_cons_zero]
    have s15 := s14.trans s5
    have Ol : O.length ≤ ss.length := by
      rw [hO]
      have := List.length_filter_le (fun k => !decide (k ∈ is)) (List.range ss.length)
      rw [List.length_range] at this
      exact this
    have Oin : ∀ i ∈ O, i < ss.length := fun i hi => by
      rw [hO] at hi
      exact List.mem_range.mp (List.mem_filter.mp hi).1
    have Sl : S.length ≤ ss.length := by rw [← hp.length_eq]; exact il
    have mul : ∀ n : Nat, n ≤ ss.length → (n + 2) * (250 + 1) ≤ 4400 := fun n hn => by omega
    -- sorted
    obtain ⟨al, so, de⟩ := ints_alike (is.map fun j : Nat => (j : Int))
    have ef : ((is.map fun j : Nat => (j : Int)).map fun i => (V.int i, PyData.int i)).map Prod.fst = (is.map fun j : Nat => (j : Int)).map V.int := by
      rw [List.map_map]
      rfl
    have es : ((is.map fun j : Nat => (j : Int)).map fun i => (V.int i, PyData.int i)).map Prod.snd = (is.map fun j : Nat => (j : Int)).map PyData.int := by
      rw [List.map_map]
      rfl
    refine ⟨_, rfl, _, rfl, d, _, rfl, .inr (by rw [ef]; exact Same.tup s15 hd), by rw [ef, es]; exact dpall_ints _, al, so, de, fun p np => ?_⟩
    rw [sorted_intsD (hp.map fun j : Nat => (j : Int)) (by rw [List.pairwise_map]; exact hs.imp fun h => by omega), ← nats_int]
    obtain ⟨H6, f6, e6, hp6⟩ : ∃ B, B = upd H5 p (.lst (S.map fun j : Nat => V.int j)) ∧ Same H5 B ∧ B p = some (.lst (S.map fun j : Nat => V.int j)) := ⟨_, rfl, same_new np, upd_same⟩
    rw [← f6]
    have s16 := s15.trans e6
    refine ⟨v, p, W, ss, S, rfl, hm.sm s16, hp6, fun i hi => hin i (hp.mem_iff.mpr hi), mul _ Sl, by omega, ok, bw, w1, hT.ext s16, fun u1 H7 x7 t7 du1 => ?_⟩
    have x17 := (ExtN.same s16).trans x7
    refine ⟨_, rfl, _, rfl, v, G, W, ss, O, rfl, ExtN.dp x17 hm (mom_imm _ _), x7 _ _ (e6 _ _ hG) (fun _ z => by cases z), Oin, mul _ Ol, by omega, ok, bw, w2, t7, fun u2 H8 x8 t8 du2 => ?_⟩
    refine ⟨by show 2 ≤ sizeLine; decide, fun r nr => ?_⟩
    have er := same_new (o := .tup [u1, u2]) nr
    exact q _ _ ((x17.trans x8).trans (ExtN.same er)) (t8.ext er) (mk_dp2 (.inl (.inl upd_same)) ((ExtN.dp x8 du1 (mom_imm _ _)).sm er) (du2.sm er))

end
end WS

set_option Elab.async false
set_option linter.all false
set_option maxRecDepth 100000
set_option maxHeartbeats 4000000
namespace WS
open PySem PySem.Spec PyProof.Rows L2
section
variable {P : Program} {w : World} {K : PySem.W.Frag} {mg : Str → Option Value} {base : Heap}
open TL
theorem ok_lnumber (T : Tx K mg base) : FnOk P w K mg base CX0 2 T.f_lnumber T.d_lnumber ["_law_pot_here"] (spNum 97) := by
  refine T.F_lnumber.ok sc_lnumber (fun vs H Q E h => ?_) (fun cdv A outer s H vs Q E hr h => ?_)
  · obtain ⟨p, rfl, _⟩ := h
    rfl
  · obtain ⟨p, rfl, hp, q⟩ := h
    refine ⟨_, (pss_cons (ps_set (i := 1) sc_lnumber.nd rfl (.inl rfl) (pe_op op_add (pe_op op_sub (pe_call (ok_ldigit T) (hr.mono (by decide)) (by rfl) T.g_ldigit T.F_ldigit.kp T.b_ldigit .nil pass0 (pa_cons (pv 0) (pa_cons (pe_op op_sub (pe_op op_mulW pe_int (pe_op op_pow pe_int pe_int)) pe_int) pa_nil))) (pe_op op_pow pe_int pe_int)) pe_int))
        (pss_one (ps_ret (pe_ix ix_list (pe_lst (pa_cons (pe_op op_sub (pe_call (ok_ldigit T) (hr.mono (by decide)) (by rfl) T.g_ldigit T.F_ldigit.kp T.b_ldigit .nil pass0 (pa_cons (pv 0) (pa_cons pe_int pa_nil))) pe_int) (pa_cons (pe_op op_sub (pe_call (ok_ldigit T) (hr.mono (by decide)) (by rfl) T.g_ldigit T.F_ldigit.kp T.b_ldigit .nil pass0 (pa_cons (pv 0) (pa_cons pe_int pa_nil))) pe_int) (pa_cons (pe_op op_sub (pe_call (ok_ldigit T) (hr.mono (by decide)) (by rfl) T.g_ldigit T.F_ldigit.kp T.b_ldigit .nil pass0 (pa_cons (pv 0) (pa_cons pe_int pa_nil))) pe_int) (pa_cons (pv 1) pa_nil))))) (pe_call (ok_ldigit T) (hr.mono (by decide)) (by rfl) T.g_ldigit T.F_ldigit.kp T.b_ldigit .nil pass0 (pa_cons (pv 0) (pa_cons pe_int pa_nil))) (fun _ _ => rfl))))), ?_⟩
    have hP : (10 : Int) ^ (29 : Int).toNat < 2 ^ 97 := by decide +kernel
    have hP0 : 0 < (10 : Int) ^ (29 : Int).toNat := by decide +kernel
    refine ⟨_, rfl, _, _, rfl, rfl, ⟨by decide, by decide, by decide⟩, _, _, rfl, rfl, ?_, _, _, rfl, rfl, p, _, rfl, hp, by decide +kernel, by unfold Bt; decide +kernel, fun d H1 d0 d1 s1 p1 => ?_⟩
    · exact Bt.cmul (n := 10) (m := 169) (Bt.of_lt (by decide) (by decide)) (by unfold Bt; decide +kernel) (by decide)
    refine ⟨_, _, rfl, rfl, ⟨by decide, by decide, by decide⟩, _, _, rfl, rfl, _, _, rfl, rfl, ?_⟩
    refine ⟨_, rfl, p, _, rfl, p1, by decide, by unfold Bt; decide +kernel, fun e H2 e0 e1 s2 p2 => ?_⟩
    refine ⟨_, _, rfl, rfl, _, rfl, p, _, rfl, p2, by decide, by unfold Bt; decide +kernel, fun f H3 f0 f1 s3 p3 => ?_⟩
    refine ⟨_, _, rfl, rfl, _, rfl, p, _, rfl, p3, by decide, by unfold Bt; decide +kernel, fun g H4 g0 g1 s4 p4 => ?_⟩
    refine ⟨_, _, rfl, rfl, _, rfl, by show 4 ≤ sizeLine; decide, fun l nl => ?_⟩
    obtain ⟨B, eB, sB, hL⟩ : ∃ B, B = upd H4 l (.lst [.int (e - 3), .int (f - 3), .int (g - 100), .int (d - 10 ^ (29 : Int).toNat + 1)]) ∧ Same H4 B ∧ B l = some (.lst [.int (e - 3), .int (f - 3), .int (g - 100), .int (d - 10 ^ (29 : Int).toNat + 1)]) := ⟨_, rfl, same_new nl, upd_same⟩
    have p5 : PotAt B p := p4.same sB
    have nlp : l ≠ p := p4.ne nl
    rw [← eB]
    refine ⟨_, rfl, p, _, rfl, p5, by decide, by unfold Bt; decide +kernel, fun m H5 m0 m1 s5 p6 => ?_⟩
    have hL5 := s5.lst (K := K) nlp (.inl (.inl hL))
    obtain ⟨v, hv, hm⟩ := pick (xs := [V.int (e - 3), V.int (f - 3), V.int (g - 100), V.int (d - 10 ^ (29 : Int).toNat + 1)]) m0 (by simpa using m1)
    refine ⟨l, _, m, v, rfl, rfl, hL5, hv, ?_⟩
    have sx : SameX p H H5 := s1.trans (s2.trans (s3.trans (s4.trans ((Same.x sB).trans s5))))
    clear hv hL5 hL eB sB p5
    generalize (10 : Int) ^ (29 : Int).toNat = P at *
    simp only [List.mem_cons, List.not_mem_nil, or_false] at hm
    rcases hm with rfl | rfl | rfl | rfl
    · exact q _ _ (Bt.of_lt (by omega) (by omega)) sx p6
    · exact q _ _ (Bt.of_lt (by omega) (by omega)) sx p6
    · exact q _ _ (Bt.of_lt (by omega) (by omega)) sx p6
    · exact q _ _ (Bt.of_lt (by omega) (by omega)) sx p6
theorem ok_lrow (T : Tx K mg base) : FnOk P w K mg base CX0 4 T.f_lrow T.d_lrow ["_law_pot_here", "_law_many"] (spRowY K) := by
  refine T.F_lrow.ok sc_lrow (fun vs H Q E h => ?_) (fun cdv A outer s H vs Q E hr h => ?_)
  · obtain ⟨p, m, rfl, _⟩ := h
    rfl
  · obtain ⟨p, m, rfl, hp, hm, q⟩ := h
    refine ⟨_, (pss_cons (ps_setLc (i := 2) (own := [("_law_k", 4)]) (g := gName 4) (tt := tYes) (by rfl) sc_lrow.nd rfl rfl (sw_true rfl rfl rfl (by decide +kernel)) (pi_range1 (by rfl) T.n_range (pa_cons (pv 1) pa_nil)) (blkOk_by (own := [("_law_k", 4)]) (N := ["_law_pot_here", "_law_many", "_law_row_here", "_law_whole", "_law_k", "_law_one_here"]) (sc := defScope s_lrow) (by decide +kernel)) (fun _ _ _ _ _ => (pg_name (i := 4) sc_lrow.nd rfl (.inl rfl))) (fun _ _ _ _ _ => pts_nil) (fun _ _ _ _ _ => (pe_call (ok_llow T) (hr.mono (by decide)) (by rfl) T.g_llow T.F_llow.kp T.b_llow .nil pass0 (pa_cons (pe_call (ok_lnumber T) (hr.mono (by decide)) (by rfl) T.g_lnumber T.F_lnumber.kp T.b_lnumber .nil pass0 (pa_cons (pv 0) pa_nil)) (pa_cons (pe_ix (show IxR _ (rIxL K) from ix_list) (pe_lst (pa_cons pe_int (pa_cons pe_int (pa_cons pe_int (pa_cons pe_int (pa_cons pe_int (pa_cons pe_int (pa_cons pe_int pa_nil)))))))) (pe_call (ok_ldigit T) (hr.mono (by decide)) (by rfl) T.g_ldigit T.F_ldigit.kp T.b_ldigit .nil pass0 (pa_cons (pv 0) (pa_cons pe_int pa_nil))) (fun _ _ => rfl)) pa_nil)))))
        (pss_cons (ps_set (i := 3) sc_lrow.nd rfl (.inr rfl) (pe_call (ok_lsum T) (hr.mono (by decide)) (by rfl) T.g_lsum T.F_lsum.kp T.b_lsum .nil pass0 (pa_cons (pv 2) pa_nil)))
        (pss_one (ps_ret (pe_lc (own := [("_law_one_here", 5)]) (g := gName 5) (tt := tYes) (by rfl) sc_lrow.nd (pi_list (pv 2)) (blkOk_by (own := [("_law_one_here", 5)]) (N := ["_law_pot_here", "_law_many", "_law_row_here", "_law_whole", "_law_k", "_law_one_here"]) (sc := defScope s_lrow) (by decide +kernel)) (fun _ _ _ _ _ => (pg_name (i := 5) sc_lrow.nd rfl (.inl rfl))) (fun _ _ _ _ _ => pts_nil) (fun _ _ _ _ _ => (pe_call (ok_lplus T) (hr.mono (by decide)) (by rfl) T.g_lplus T.F_lplus.kp T.b_lplus .nil pass0 (pa_cons (pv 5) (pa_cons (pe_call (ok_llow T) (hr.mono (by decide)) (by rfl) T.g_llow T.F_llow.kp T.b_llow .nil pass0 (pa_cons (pe_op op_sub pe_int (pe_ix (show IxR _ (rIxT K) from ix_tup) (pv 3) pe_int (fun _ _ => rfl))) (pa_cons (pe_op op_mulW (pe_ix (show IxR _ (rIxT K) from ix_tup) (pv 3) pe_int (fun _ _ => rfl)) (pv 1)) pa_nil))) pa_nil))))))))), ?_⟩
    refine ⟨_, rfl, m, rfl, by omega, by omega, fun D nD => ?_⟩
    have nDp := hp.ne nD
    refine lc_range (lo := 0) (n := m) (fun i H' => ∃ rs ps, H' D = some (.lst rs) ∧ rs.length = i ∧ Parts K H' rs ps ∧ (∀ q ∈ ps, Okq 97 6 q) ∧ SameX p H H' ∧ PotAt H' p)
      ⟨[], [], upd_same, rfl, Parts.nil, fun q hq => by simp at hq, Same.x (same_new nD), hp.same (same_new nD)⟩ ?_ ?_
    · rintro i H' hi ⟨rs, ps, hD, hl, hP, hk, sx, pp⟩
      refine ⟨rfl, tyes (iteT ?_)⟩
      refine ⟨_, rfl, p, rfl, pp, fun a H2 ba s2 p2 => ?_⟩
      refine ⟨by show 7 ≤ sizeLine; decide, fun l nl => ?_⟩
      obtain ⟨B, eB, sB, hL⟩ : ∃ B, B = upd H2 l (.lst [.int 1, .int 1, .int 2, .int 3, .int 4, .int 12, .int 60]) ∧ Same H2 B ∧ B l = some (.lst [.int 1, .int 1, .int 2, .int 3, .int 4, .int 12, .int 60]) := ⟨_, rfl, same_new nl, upd_same⟩
      rw [← eB]
      have p3 := p2.same sB
      refine ⟨_, rfl, p, _, rfl, p3, by decide, by unfold Bt; decide +kernel, fun g H3 g0 g1 s3 p4 => ?_⟩
      have hL3 := s3.lst (K := K) (p2.ne nl) (.inl (.inl hL))
      obtain ⟨v, hv, hm'⟩ := pick (xs := [V.int 1, V.int 1, V.int 2, V.int 3, V.int 4, V.int 12, V.int 60]) g0 (by simpa using g1)
      refine ⟨l, _, g, v, rfl, rfl, hL3, hv, ?_⟩
      obtain ⟨b, rfl, b0, b1⟩ : ∃ b : Int, v = .int b ∧ 0 < b ∧ b ≤ 60 := by
        simp only [List.mem_cons, List.not_mem_nil, or_false] at hm'
        rcases hm' with rfl | rfl | rfl | rfl | rfl | rfl | rfl
        · exact ⟨_, rfl, by decide, by decide⟩
        · exact ⟨_, rfl, by decide, by decide⟩
        · exact ⟨_, rfl, by decide, by decide⟩
        · exact ⟨_, rfl, by decide, by decide⟩
        · exact ⟨_, rfl, by decide, by decide⟩
        · exact ⟨_, rfl, by decide, by decide⟩
        · exact ⟨_, rfl, by decide, by decide⟩
      have bb : Bt 6 b := Bt.of_lt (by omega) (by omega)
      have s23 : SameX p H' H3 := s2.trans ((Same.x sB).trans s3)
      refine ⟨a, b, rfl, b0, bb.mono (by decide), fun t H4 s4 tv => ?_⟩
      have hD4 : H4 D = some (.lst rs) := s4 _ _ (s23 D _ nDp hD)
      have k4 : KT H' H4 := (kt_x s23 pp).trans (kt_same s4)
      refine ⟨rs, hD4, small1000 (by omega), ?_⟩
      refine ⟨rs ++ [t], ps ++ [lo a b], upd_same, by simp [hl], ((hP.k k4).add tv).k (kt_set hD4), ?_, fun c o nc e => ?_, ?_⟩
      · intro q hq
        rcases List.mem_append.mp hq with hq | hq
        · exact hk q hq
        · rw [List.mem_singleton.mp hq]
          exact ⟨(lo_lowest b0).1, ba.lo1, bb.lo2⟩
      · rw [upd_ne (ne_of_none e nD)]
        exact s4 _ _ (s23 _ _ nc (sx _ _ nc e))
      · obtain ⟨x, y, e, r⟩ := p4.same s4
        exact ⟨x, y, by rw [upd_ne nDp.symm]; exact e, r⟩
    · rintro H' ⟨rs, ps, hD, hl, hP, hk, sx, pp⟩
      have hpl : ps.length = m := by rw [← hP.1]; exact hl
      refine ⟨_, rfl, D, rs, ps, rfl, .inl (.inl hD), hP, 250, 250, fun q hq => ((hk q hq).okp (m := 250) (by decide) (by decide) : Okp 250 q), by omega, by omega, fun wv H1 s1 tw => ?_⟩
      have oW := fold_okq ps 0 (0, 1) ⟨by decide, by unfold Bt; decide +kernel, by unfold Bt; decide +kernel⟩ hk
      rw [hpl] at oW
      have rW := rv_fold ps (0, 1) (by decide) (fun q hq => (hk q hq).1)
      rw [rv_nought, Rat.zero_add] at rW
      have bdW := sum_bd (n := 97) (ps.map rv) (fun x hx => by obtain ⟨q, hq, rfl⟩ := List.mem_map.mp hx; exact rv_bd (hk q hq).1 (hk q hq).2.1)
      rw [← rW, List.length_map, hpl] at bdW
      generalize ps.foldl pl (0, 1) = W at *
      have oW : Okq 182 73 W := oW.mono (by omega) (by omega)
      have hD1 := s1 _ _ hD
      obtain ⟨wt, rfl, hwt⟩ := tw
      refine ⟨_, rfl, D, rfl, ⟨_, .inl (.inl hD1)⟩, fun D2 nD2 => ?_⟩
      have nD2D : D ≠ D2 := ne_of_none hD1 nD2
      refine lc_list (K := K) (a := D) (xs := rs) (fun j H'' => ∃ rs2 ps2, H'' D2 = some (.lst rs2) ∧ rs2.length = j ∧ Parts K H'' rs2 ps2 ∧ (ps2.map rv).sum = ((ps.take j).map rv).sum + (((j : Nat) : Int) : Rat) * rv (lo (0 - W.1) (W.2 * (m : Nat))) ∧ (∀ q ∈ ps2, Lowest q.1 q.2 ∧ Okq 190 90 q ∧ Bd 98 (rv q)) ∧ Same H1 H'')
        ⟨[], [], upd_same, rfl, Parts.nil, by show (0 : Rat) = 0 + (0 : Rat) * _; rw [Rat.zero_mul, Rat.add_zero], fun q hq => by simp at hq, same_new nD2⟩ (fun j H'' _ ⟨_, _, _, _, _, _, _, s⟩ => .inl (.inl (s _ _ hD1))) ?_ ?_
      · rintro j x H'' hx ⟨rs2, ps2, hD2, hl2, hP2, hs2, hk2, sH⟩
        obtain ⟨pj, hpj, tj⟩ := (hP.k (kt_same s1)).2 j x hx
        have oj := hk pj (List.mem_of_getElem? hpj)
        have hj : j < rs.length := (List.getElem?_eq_some_iff.mp hx).1
        have hm1 : 1 ≤ m := by omega
        have bm : Bt 4 ((m : Nat) : Int) := Bt.of_lt (by omega) (by omega)
        have hwt'' := Same.tup sH hwt
        have hpos : 0 < W.2 * (m : Nat) := Int.mul_pos oW.1 (by omega)
        have bn : Bt 182 (0 - W.1) := by rw [Int.zero_sub]; exact oW.2.1.neg
        have bd : Bt 77 (W.2 * (m : Nat)) := oW.2.2.mul bm
        refine ⟨rfl, tyes (iteT ?_)⟩
        refine ⟨_, rfl, _, rfl, wt, _, 0, _, rfl, rfl, hwt'', atI_nat (j := 0) rfl, _, _, rfl, rfl, _, rfl, wt, _, 1, _, rfl, rfl, hwt'', atI_nat (j := 1) rfl, _, rfl, _, _, rfl, rfl, oW.2.2.cmul bm (by decide), ?_⟩
        refine ⟨_, _, rfl, hpos, bd.mono (by decide), fun t H3 s3 tt => ?_⟩
        have oL : Okq 182 77 (lo (0 - W.1) (W.2 * (m : Nat))) := ⟨(lo_lowest hpos).1, bn.lo1, bd.lo2⟩
        refine ⟨_, _, _, _, _, _, rfl, (tj.same sH).same s3, tt, oj.1, oL.1, oj.2.1.mono (by decide), oj.2.2.mono (by decide), oL.2.1.mono (by decide), oL.2.2.mono (by decide), fun t2 H4 s4 tt2 => ?_⟩
        have oR := oj.pl oL
        have hD4 := s4 _ _ (s3 _ _ hD2)
        have k4 : KT H'' H4 := (kt_same s3).trans (kt_same s4)
        refine ⟨rs2, hD4, small1000 (by omega), rs2 ++ [t2], ps2 ++ [pl pj (lo (0 - W.1) (W.2 * (m : Nat)))], upd_same, by simp [hl2], ((hP2.k k4).add tt2).k (kt_set hD4), ?_, ?_, same_upd (sH.trans (s3.trans s4)) nD2⟩
        · rw [List.map_append, List.sum_append, hs2, List.take_add_one, hpj, List.map_append, List.sum_append]
          have ej : ((j + 1 : Nat) : Int) = ((j : Nat) : Int) + 1 := by omega
          rw [ej, cast_add]
          have e1 : ((1 : Int) : Rat) = 1 := rfl
          rw [e1]
          simp only [List.map_cons, List.map_nil, List.sum_cons, List.sum_nil, Option.toList_some]
          rw [rv_pl oj.1 oL.1]
          grind
        intro q hq
        rcases List.mem_append.mp hq with hq | hq
        · exact hk2 q hq
        · rw [List.mem_singleton.mp hq]
          refine ⟨lo_lowest (Int.mul_pos oj.1 oL.1), oR.mono (by decide) (by decide), ?_⟩
          rw [rv_pl oj.1 oL.1]
          refine (rv_bd oj.1 oj.2.1).add ?_
          refine share_bd (m := m) (by omega) bdW ?_
          rw [rv_lo hpos, cast_sub, cast_mul]
          have h1 := cast_ne oW.1
          have h2 : (((m : Nat) : Int) : Rat) ≠ 0 := cast_ne (by omega)
          have e0 : ((0 : Int) : Rat) = 0 := rfl
          rw [e0]
          unfold rv
          grind
      · rintro H'' ⟨rs2, ps2, hD2, hl2, hP2, hs2, hk2, sH⟩
        have nH2 : H D2 = none := by
          cases z : H D2 with
          | none => rfl
          | some o =>
            by_cases hc : D2 = p
            · obtain ⟨x, y, e, _⟩ := pp
              rw [hc, s1 _ _ e] at nD2
              cases nD2
            · exact absurd (s1 _ _ (sx _ _ hc z)) (by rw [nD2]; simp)
        have rl2 : rs.length = m := hl
        refine q H'' D2 rs2 ps2 (sx.trans ((Same.x s1).trans (Same.x sH))) ((pp.same s1).same sH) nH2 hD2 hP2 ?_ ?_ (fun q hq => (hk2 q hq).2.2) (fun q hq => ⟨(hk2 q hq).1, (hk2 q hq).2.1⟩)
        · rw [← hP2.1, hl2]
          exact hl
        · rw [hs2, rl2, ← hpl, List.take_length, ← rW]
          rcases Nat.eq_zero_or_pos ps.length with z | z
          · have : ps = [] := List.eq_nil_of_length_eq_zero z
            subst this
            rw [rW]
            simp only [List.map_nil, List.sum_nil, List.length_nil]
            show (0 : Rat) + (0 : Rat) * _ = 0
            rw [Rat.zero_mul, Rat.add_zero]
          · have hz : (0 : Int) < ((ps.length : Nat) : Int) := by omega
            rw [rv_lo (Int.mul_pos oW.1 hz), cast_sub, cast_mul]
            have h1 := cast_ne oW.1
            have h2 := cast_ne hz
            have e0 : ((0 : Int) : Rat) = 0 := rfl
            rw [e0]
            unfold rv
            grind

end
end WS

set_option Elab.async false
set_option linter.all false
set_option maxRecDepth 100000
set_option maxHeartbeats 4000000
namespace WS
open PySem PySem.Spec PyProof.Rows L2
section
variable {P : Program} {w : World} {K : PySem.W.Frag} {mg : Str → Option Value} {base : Heap}
open TL
theorem ok_lweight (T : Tx K mg base) : FnOk P w K mg base CX0 4 T.f_lweight T.d_lweight ["_law_row_here"] (spWeightY K) := by
  refine T.F_lweight.ok sc_lweight (fun vs H Q E h => ?_) (fun cdv A outer s H vs Q E hr h => ?_)
  · obtain ⟨l, rs, ps, rfl, _⟩ := h
    rfl
  · obtain ⟨l, rs, ps, rfl, hR, hP, hk, hn, hz, hbd, q⟩ := h
    refine ⟨_, (pss_cons (ps_set (i := 1) sc_lweight.nd rfl (.inl rfl) pe_int)
        (pss_cons (ps_set (i := 2) sc_lweight.nd rfl (.inl rfl) (pe_call (ok_lfirst T) (hr.mono (by decide)) (by rfl) T.g_lfirst T.F_lfirst.kp T.b_lfirst .nil pass0 (pa_cons (pv 0) pa_nil)))
        (pss_cons (ps_for PassesOwn.never rfl (pi_range2 (by rfl) T.n_range (pa_cons pe_int (pa_cons (pe_callB call_len_seq (by rfl) T.n_len (by decide +kernel) (pa_cons (pv 0) pa_nil)) pa_nil))) (pg_name (i := 3) sc_lweight.nd rfl (.inl rfl)) (pss_cons (ps_asg (pe_call (ok_lsum T) (hr.mono (by decide)) (by rfl) T.g_lsum T.F_lsum.kp T.b_lsum .nil pass0 (pa_cons (pe_lc (own := [("_law_at", 7)]) (g := gName 7) (tt := tYes) (by rfl) sc_lweight.nd (pi_list (pe_slice sl_list (pv 2) po_none (po_some (pv 3)))) (blkOk_by (own := [("_law_at", 7)]) (N := ["_law_row_here", "_law_weight_here", "_law_order", "_law_k", "_law_above", "_law_below", "_law_by", "_law_at"]) (sc := defScope s_lweight) (by decide +kernel)) (fun _ _ _ _ _ => (pg_name (i := 7) sc_lweight.nd rfl (.inl rfl))) (fun _ _ _ _ _ => pts_nil) (fun _ _ _ _ _ => (pe_ix (show IxR _ (rIxL K) from ix_list) (pv 0) (pv 7) (fun _ _ => rfl)))) pa_nil)) (pg_tup (by rfl) (pgs_cons (pg_name (i := 4) sc_lweight.nd rfl (.inl rfl)) (pgs_cons (pg_name (i := 5) sc_lweight.nd rfl (.inl rfl)) pgs_nil))))
        (pss_cons (ps_set (i := 6) sc_lweight.nd rfl (.inl rfl) (pe_op op_mulW (pe_op op_mulW (pv 5) (pv 3)) (pe_op op_sub (pe_callB call_len_seq (by rfl) T.n_len (by decide +kernel) (pa_cons (pv 0) pa_nil)) (pv 3))))
        (pss_one (ps_set (i := 1) sc_lweight.nd rfl (.inl rfl) (pe_callB (call_max2 (by rfl)) (by rfl) T.n_max (by decide +kernel) (pa_cons (pv 1) (pa_cons (pe_op op_fdivW (pe_op op_sub (pe_op op_add (pe_op op_mulW pe_int (pv 4)) (pv 6)) pe_int) (pv 6)) pa_nil))))))))
        (pss_one (ps_ret (pv 1)))))), ?_⟩
    refine ⟨_, rfl, l, rs, ps, rfl, hR, hP, fun z hz => (hk z hz).okp (by decide) (by decide), by omega, fun H1 O os s1 nO hO hrk => ?_⟩
    have hos : ∀ j ∈ os, j < ps.length := fun j hj => List.mem_range.mp (hrk.1.mem_iff.mp hj)
    have hR1 := s1.seq hR
    have hP1 := hP.k (kt_same s1)
    refine ⟨_, rfl, l, rs, rfl, .inl hR1, 1, _, rfl, ⟨by decide, by decide, by omega, by rw [hP.1]; omega⟩, for_range (lo := 1) (n := ((rs.length : Int) - 1).toNat) (fun i σ H' => ∃ wt k a b y z, σ = [some (.ref l), some (.int wt), some (.ref O), k, a, b, y, z] ∧ Same H1 H' ∧ 1 ≤ wt ∧ wt ≤ 2 * ((2 ^ 102 : Nat) : Int) ∧ ∀ k, k ≤ i → sumF (fun j => rv (gp ps j)) (os.take k) ≤ mostR wt ps.length k)
      ⟨1, none, none, none, none, none, rfl, Same.refl _, by decide, by decide, fun k hk => ?_⟩ ?_ ?_⟩
    · have : k = 0 := by omega
      subst this
      exact most_zero _ _ _ _
    · rintro i σ H' hi ⟨wt, k, a, b, y, z, rfl, sH, w1, bw, hin⟩
      have hil : i + 1 < ps.length := by rw [← hP.1]; omega
      refine ⟨_, rfl, _, rfl, _, rfl, O, _, rfl, .inl (.inl (sH _ _ hO)), fun C nC => ?_⟩
      have ei : (1 : Int) + (i : Nat) = ((i + 1 : Nat) : Int) := by omega
      rw [ei]
      rw [cutV_take, ← List.map_take]
      obtain ⟨B, eB, sB, hC⟩ : ∃ B, B = upd H' C (.lst ((os.take (i + 1)).map fun j : Nat => V.int j)) ∧ Same H' B ∧ B C = some (.lst ((os.take (i + 1)).map fun j : Nat => V.int j)) := ⟨_, rfl, same_new nC, upd_same⟩
      rw [← eB]
      have osl : os.length = ps.length := by rw [hrk.1.length_eq, List.length_range]
      have cl : ((os.take (i + 1)).map fun j : Nat => V.int j).length ≤ i + 1 := by rw [List.length_map, List.length_take]; omega
      refine ⟨C, rfl, ⟨_, .inl (.inl hC)⟩, fun D nD => ?_⟩
      have sHB := sH.trans sB
      refine lc_list (K := K) (a := C) (xs := (os.take (i + 1)).map fun j : Nat => V.int j) (fun j H'' => ∃ rs2 ps2, H'' D = some (.lst rs2) ∧ rs2.length = j ∧ Parts K H'' rs2 ps2 ∧ ps2 = ((os.take (i + 1)).take j).map (gp ps) ∧ (∀ q ∈ ps2, Okq 190 90 q) ∧ Same B H'')
        ⟨[], [], upd_same, rfl, Parts.nil, rfl, fun q hq => by simp at hq, same_new nD⟩ (fun j H'' _ ⟨_, _, _, _, _, _, _, s⟩ => .inl (.inl (s _ _ hC))) ?_ ?_
      · rintro j x H'' hx ⟨rs2, ps2, hD2, hl2, hP2, he2, hk2, sH2⟩
        have hj := (List.getElem?_eq_some_iff.mp hx).1
        rw [List.getElem?_map] at hx
        obtain ⟨k', ek', rfl⟩ : ∃ k' : Nat, (os.take (i + 1))[j]? = some k' ∧ V.int k' = x := by
          cases e : (os.take (i + 1))[j]? with
          | none => rw [e] at hx; cases hx
          | some z => rw [e] at hx; exact ⟨z, rfl, Option.some.inj hx⟩
        have hk' := hos k' (List.mem_of_mem_take (List.mem_of_getElem? ek'))
        obtain ⟨v, hv, mv, tv⟩ := (hP1.k (kt_same (sHB.trans sH2))).at hk'
        refine ⟨rfl, tyes (iteT ?_)⟩
        refine ⟨_, rfl, _, rfl, l, _, k', _, rfl, rfl, (sHB.trans sH2).seq hR1, atI_nat hv, ?_⟩
        refine ⟨rs2, hD2, small1000 (by omega), rs2 ++ [v], ps2 ++ [gp ps k'], upd_same, by simp [hl2], (hP2.add tv).k (kt_set hD2), ?_, ?_, same_upd sH2 nD⟩
        · rw [he2, List.take_add_one (l := os.take (i + 1)), ek', List.map_append]
          rfl
        intro q hq
        rcases List.mem_append.mp hq with hq | hq
        · exact hk2 q hq
        · rw [List.mem_singleton.mp hq]
          exact hk _ mv
      · rintro H'' ⟨rs2, ps2, hD2, hl2, hP2, he2, hk2, sH2⟩
        have hl3 : ps2.length ≤ 11 := by rw [← hP2.1, hl2]; omega
        rw [List.length_map, List.take_length] at he2
        refine ⟨D, rs2, ps2, rfl, .inl (.inl hD2), hP2, 250, 250, fun z hz => ((hk2 z hz).okp (m := 250) (by decide) (by decide) : Okp 250 z), by omega, by omega, fun v H3 s3 tv => ?_⟩
        have oW := (fold_okr ps2 0 (0, 1) ⟨by decide, by unfold Bt; decide +kernel, by unfold Bt; decide +kernel⟩ hk2).mono (m := 1200) (e := 1000) (by omega) (by omega)
        have hrW : rv (ps2.foldl pl (0, 1)) = sumF (fun j => rv (gp ps j)) (os.take (i + 1)) := by
          rw [he2, sumF_gp (fun q hq => (hk q hq).1)]
        generalize ps2.foldl pl (0, 1) = W at *
        obtain ⟨t, rfl, ht⟩ := tv
        have sAll := sHB.trans (sH2.trans s3)
        refine ⟨t, _, rfl, ht, rfl, _, _, rfl, _, _, rfl, rfl, ?_⟩
        have bk : Bt 10 ((i + 1 : Nat) : Int) := Bt.of_lt (by omega) (by omega)
        have bl : Bt 10 ((rs.length : Nat) : Int) := Bt.of_lt (by omega) (by rw [hP.1]; omega)
        have b1 : Bt 1010 (W.2 * ((i + 1 : Nat) : Int)) := oW.2.2.mul bk
        have b2 := b1.mul (bl.sub bk)
        have pos : 0 < W.2 * ((i + 1 : Nat) : Int) * ((rs.length : Int) - ((i + 1 : Nat) : Int)) := Int.mul_pos (Int.mul_pos oW.1 (by omega)) (by rw [hP.1]; omega)
        refine ⟨_, rfl, _, rfl, _, _, rfl, rfl, oW.2.2.cmul bk (by decide), _, rfl, l, rs, rfl, .inl (sAll.seq hR1), _, rfl, _, _, rfl, rfl, _, _, rfl, rfl, b1.cmul (bl.sub bk) (by decide), ?_⟩
        obtain ⟨by_, hby⟩ : ∃ z : Int, W.2 * ((i + 1 : Nat) : Int) * ((rs.length : Int) - ((i + 1 : Nat) : Int)) = z := ⟨_, rfl⟩
        rw [hby] at pos b2
        have b2a : Bt 1300 (2 * W.1) := ((Bt.of_lt (n := 2) (by decide) (by decide) : Bt 2 2).mul oW.2.1).mono (by decide)
        have b3 : Bt 1301 (2 * W.1 + by_) := b2a.add (b2.mono (by decide))
        have b4 : Bt 1302 (2 * W.1 + by_ - 1) := b3.sub ((Bt.of_lt (n := 2) (by decide) (by decide) : Bt 2 1).mono (by decide))
        refine ⟨_, rfl, _, rfl, _, _, rfl, rfl, (Bt.of_lt (n := 2) (by decide) (by decide) : Bt 2 2).cmul oW.2.1 (by decide), _, rfl, _, _, rfl, rfl, _, _, rfl, rfl, _, rfl, _, _, rfl, rfl, (by rw [hby]; exact Bt.cdiv pos b2 (by decide)), _, _, rfl, ?_⟩
        have sb := sum_bd (n := 98) ((os.take (i + 1)).map fun j => rv (gp ps j)) (fun x hx => by
          obtain ⟨j, hj, rfl⟩ := List.mem_map.mp hx
          exact hbd _ (gp_mem (hos j (List.mem_of_mem_take hj))))
        have sl : ((((os.take (i + 1)).map fun j => rv (gp ps j)).length : Nat) : Int) ≤ 12 := by
          rw [List.length_map, List.length_take]
          omega
        have sl2 : (((((os.take (i + 1)).map fun j => rv (gp ps j)).length : Nat) : Int) : Rat) ≤ 12 := cast_le.mpr sl
        have wb : (W.1 : Rat) / W.2 ≤ (((2 ^ 102 : Nat) : Int) : Rat) := by
          have e1 : (W.1 : Rat) / W.2 = rv W := rfl
          have e2 : sumF (fun j => rv (gp ps j)) (os.take (i + 1)) = ((os.take (i + 1)).map fun j => rv (gp ps j)).sum := rfl
          rw [e1, hrW, e2]
          have h16 : (((2 ^ 102 : Nat) : Int) : Rat) = 16 * (((2 ^ 98 : Nat) : Int) : Rat) := by
            rw [show ((2 ^ 102 : Nat) : Int) = 16 * ((2 ^ 98 : Nat) : Int) by decide, cast_mul]
            rfl
          have h0 : (0 : Rat) ≤ (((2 ^ 98 : Nat) : Int) : Rat) := cast_nn (by decide)
          have := Rat.mul_le_mul_of_nonneg_right sl2 h0
          rw [h16]
          grind
        have kk : (1 : Int) ≤ ((i + 1 : Nat) : Int) * ((rs.length : Int) - ((i + 1 : Nat) : Int)) := Int.le_trans (by decide : (1 : Int) ≤ 1 * 1) (Int.mul_le_mul (by omega) (by rw [hP.1]; omega) (by decide) (by omega))
        have bge : W.2 ≤ by_ := by
          rw [← hby, Int.mul_assoc]
          have := Int.mul_le_mul_of_nonneg_left kk (Int.le_of_lt oW.1)
          rw [Int.mul_one] at this
          exact this
        have bq := weigh_bd (by_ := by_) oW.1 bge wb
        have wle : ∀ w' : Int, wt ≤ w' → (2 * W.1 + by_ - 1) / by_ ≤ w' → ∀ k, k ≤ i + 1 → sumF (fun j => rv (gp ps j)) (os.take k) ≤ mostR w' ps.length k := fun w' h1 h2 k hk2 => by
          by_cases hke : k = i + 1
          · subst hke
            rw [← hrW]
            refine most_of oW.1 ?_
            have := ceil_le (x := 2 * W.1) pos h2
            rw [← hby, hP.1] at this
            exact this
          · exact Rat.le_trans (hin k (by omega)) (mostR_mono (cast_le.mpr h1) (by omega))
        refine ⟨_, _, _, _, _, _, rfl, sAll, ?_, ?_, ?_⟩
        · rw [hby]
          split <;> omega
        · rw [hby]
          split
          · exact bq
          · exact bw
        · rw [hby]
          split
          · exact wle _ (by omega) (Int.le_refl _)
          · exact wle _ (Int.le_refl _) (by omega)
    · rintro σ H' ⟨wt, k, a, b, y, z, rfl, sH, w1, bw, hin⟩
      refine ⟨_, rfl, q H' wt (s1.trans sH) w1 (Bt.of_lt (by omega) (Int.lt_of_le_of_lt bw (by decide))) ?_⟩
      refine wth_of hrk.1 (ranked_desc hrk fun q hq => (hk q hq).1) fun k hk2 => ?_
      by_cases hkn : k = ps.length
      · subst hkn
        rw [List.take_of_length_le (by rw [hrk.1.length_eq, List.length_range]; exact Nat.le_refl _), sumF_perm hrk.1, sum_range_gp, hz]
        exact most_full _ _
      · exact hin k (by rw [hP.1]; omega)

end
end WS

set_option Elab.async false
set_option linter.all false
set_option maxRecDepth 100000
set_option maxHeartbeats 4000000
namespace WS
open PySem PySem.Spec PyProof.Rows L2
section
variable {P : Program} {w : World} {K : PySem.W.Frag} {mg : Str → Option Value} {base : Heap}
open TL
theorem ok_lthree (T : Tx K mg base) : FnOk P w K mg base CX0 5 T.f_lthree T.d_lthree ["_law_pot_here"] (spThree K) := by
  refine T.F_lthree.ok sc_lthree (fun vs H Q E h => ?_) (fun cdv A outer s H vs Q E hr h => ?_)
  · obtain ⟨p, rfl, _⟩ := h
    rfl
  · obtain ⟨p, rfl, hp, q⟩ := h
    refine ⟨_, (pss_cons (ps_set (i := 1) sc_lthree.nd rfl (.inl rfl) (pe_lst (pa_cons (pe_call (ok_lrow T) (hr.mono (by decide)) (by rfl) T.g_lrow T.F_lrow.kp T.b_lrow .nil pass0 (pa_cons (pv 0) (pa_cons (pe_call (ok_ldigit T) (hr.mono (by decide)) (by rfl) T.g_ldigit T.F_ldigit.kp T.b_ldigit .nil pass0 (pa_cons (pv 0) (pa_cons pe_int pa_nil))) pa_nil))) (pa_cons (pe_call (ok_lrow T) (hr.mono (by decide)) (by rfl) T.g_lrow T.F_lrow.kp T.b_lrow .nil pass0 (pa_cons (pv 0) (pa_cons (pe_call (ok_ldigit T) (hr.mono (by decide)) (by rfl) T.g_ldigit T.F_ldigit.kp T.b_ldigit .nil pass0 (pa_cons (pv 0) (pa_cons pe_int pa_nil))) pa_nil))) (pa_cons (pe_call (ok_lrow T) (hr.mono (by decide)) (by rfl) T.g_lrow T.F_lrow.kp T.b_lrow .nil pass0 (pa_cons (pv 0) (pa_cons (pe_call (ok_ldigit T) (hr.mono (by decide)) (by rfl) T.g_ldigit T.F_ldigit.kp T.b_ldigit .nil pass0 (pa_cons (pv 0) (pa_cons pe_int pa_nil))) pa_nil))) pa_nil)))))
        (pss_cons (ps_set (i := 3) sc_lthree.nd rfl (.inl rfl) (pe_op op_add (pe_callB (cr_max (by rfl)) (by rfl) T.n_max (by decide +kernel) (pa_cons (pe_lc (own := [("_law_row_here", 2)]) (g := gName 2) (tt := tYes) (by rfl) sc_lthree.nd (pi_list (pv 1)) (blkOk_by (own := [("_law_row_here", 2)]) (N := ["_law_pot_here", "_law_rows", "_law_row_here", "_law_weight_here", "_law_names_here", "_law_found", "_law_k", "_law_seats", "_law_at", "_law_owed", "_law_is_there"]) (sc := defScope s_lthree) (by decide +kernel)) (fun _ _ _ _ _ => (pg_name (i := 2) sc_lthree.nd rfl (.inl rfl))) (fun _ _ _ _ _ => pts_nil) (fun _ _ _ _ _ => (pe_call (ok_lweight T) (hr.mono (by decide)) (by rfl) T.g_lweight T.F_lweight.kp T.b_lweight .nil pass0 (pa_cons (pv 2) pa_nil)))) pa_nil)) (pe_ix ix_list (pe_lst (pa_cons pe_int (pa_cons pe_int (pa_cons pe_int (pa_cons (pe_call (ok_ldigit T) (hr.mono (by decide)) (by rfl) T.g_ldigit T.F_ldigit.kp T.b_ldigit .nil pass0 (pa_cons (pv 0) (pa_cons (pe_op op_pow pe_int pe_int) pa_nil))) pa_nil))))) (pe_call (ok_ldigit T) (hr.mono (by decide)) (by rfl) T.g_ldigit T.F_ldigit.kp T.b_ldigit .nil pass0 (pa_cons (pv 0) (pa_cons pe_int pa_nil))) (fun _ _ => rfl))))
        (pss_cons (ps_set (i := 4) sc_lthree.nd rfl (.inl rfl) (pe_call (ok_lnames T) (hr.mono (by decide)) (by rfl) T.g_lnames T.F_lnames.kp T.b_lnames .nil pass0 (pa_cons (pv 0) (pa_cons pe_int pa_nil))))
        (pss_cons (ps_set (i := 5) sc_lthree.nd rfl (.inl rfl) (pe_lst pa_nil))
        (pss_cons (ps_for PassesOwn.never rfl (pi_enB (by rfl) T.n_enumerate (pa_cons (pv 1) pa_nil)) (pg_tup (by rfl) (pgs_cons (pg_name (i := 6) sc_lthree.nd rfl (.inl rfl)) (pgs_cons (pg_name (i := 2) sc_lthree.nd rfl (.inl rfl)) pgs_nil))) (pss_cons (ps_set (i := 7) sc_lthree.nd rfl (.inl rfl) (pe_lst pa_nil))
        (pss_cons (ps_for PassesOwn.never rfl (pi_enB (by rfl) T.n_enumerate (pa_cons (pv 2) pa_nil)) (pg_tup (by rfl) (pgs_cons (pg_name (i := 8) sc_lthree.nd rfl (.inl rfl)) (pgs_cons (pg_name (i := 9) sc_lthree.nd rfl (.inl rfl)) pgs_nil))) (pss_cons (ps_set (i := 10) sc_lthree.nd rfl (.inl rfl) (pe_and (pe_cmpR op_lt (pv 6) pe_int (nomark _)) (pe_one (pe_cmpR op_gt (pe_call (ok_ldigit T) (hr.mono (by decide)) (by rfl) T.g_ldigit T.F_ldigit.kp T.b_ldigit .nil pass0 (pa_cons (pv 0) (pa_cons pe_int pa_nil))) pe_int (nomark _)))))
        (pss_one (ps_expr (pe_bm PySem.F.plainAttrs_list PySem.F.slot_list_append PySem.F.type_list_append mt_append (pv 7) (pa_cons (pe_tup (pa_cons (pe_ifExp (pt_val (pv 10)) (pe_ix ix_list (pv 4) (pe_op op_add (pe_op op_mulW pe_int (pv 6)) (pv 8)) (fun _ _ => rfl)) pe_str) (pa_cons (pv 9) pa_nil))) pa_nil))))))
        (pss_one (ps_expr (pe_bm PySem.F.plainAttrs_list PySem.F.slot_list_append PySem.F.type_list_append mt_append (pv 5) (pa_cons (pe_tup (pa_cons (pv 3) (pa_cons (pe_callTy call_tuple_of (by rfl) T.n_tuple (by decide +kernel) (pa_cons (pv 7) pa_nil)) pa_nil))) pa_nil)))))))
        (pss_one (ps_ret (pv 5)))))))), ?_⟩
    rw [show L2.start [Str.ofString "_law_pot_here", Str.ofString "_law_rows", Str.ofString "_law_row_here", Str.ofString "_law_weight_here", Str.ofString "_law_names_here", Str.ofString "_law_found", Str.ofString "_law_k", Str.ofString "_law_seats", Str.ofString "_law_at", Str.ofString "_law_owed", Str.ofString "_law_is_there"] [V.ref p] = [some (V.ref p), none, none, none, none, none, none, none, none, none, none] from rfl]
    have b4 : Bt 8999 4 := by unfold Bt; decide +kernel
    have b7 : Bt 8999 7 := by unfold Bt; decide +kernel
    have b3 : Bt 8999 3 := by unfold Bt; decide +kernel
    have hTen : (10 : Int) ^ (29 : Int).toNat < 2 ^ 97 := by decide +kernel
    refine ⟨_, rfl, _, rfl, p, 7, rfl, hp, by decide, b7, fun d1 H1 a1 c1 s1 p1 => ?_⟩
    refine ⟨p, d1.toNat, by rw [show ((d1.toNat : Nat) : Int) = d1 by omega]; rfl, p1, by omega, fun H2 R1 rs1 ps1 s2 p2 n1 hR1 hP1 pl1 pz1 bd1 ok1 => ?_⟩
    refine ⟨_, rfl, _, rfl, p, 7, rfl, p2, by decide, b7, fun d2 H3 a2 c2 s3 p3 => ?_⟩
    refine ⟨p, d2.toNat, by rw [show ((d2.toNat : Nat) : Int) = d2 by omega]; rfl, p3, by omega, fun H4 R2 rs2 ps2 s4 p4 n2 hR2 hP2 pl2 pz2 bd2 ok2 => ?_⟩
    refine ⟨_, rfl, _, rfl, p, 3, rfl, p4, by decide, b3, fun d3 H5 a3 c3 s5 p5 => ?_⟩
    refine ⟨p, d3.toNat, by rw [show ((d3.toNat : Nat) : Int) = d3 by omega]; rfl, p5, by omega, fun H6 R3 rs3 ps3 s6 p6 n3 hR3 hP3 pl3 pz3 bd3 ok3 => ?_⟩
    have nR1p : R1 ≠ p := p1.ne n1
    have nR2p : R2 ≠ p := p3.ne n2
    have nR3p : R3 ≠ p := p5.ne n3
    have s26 : SameX p H2 H6 := s3.trans (s4.trans (s5.trans s6))
    have s46 : SameX p H4 H6 := s5.trans s6
    refine ⟨by show 3 ≤ sizeLine; decide, fun L nL => ?_⟩
    obtain ⟨H7, f7, e7, hL⟩ : ∃ B, B = upd H6 L (.lst [.ref R1, .ref R2, .ref R3]) ∧ Same H6 B ∧ B L = some (.lst [.ref R1, .ref R2, .ref R3]) := ⟨_, rfl, same_new nL, upd_same⟩
    show gName 1 _ _ (upd H6 L (.lst [.ref R1, .ref R2, .ref R3])) _
    rw [← f7]
    have p7 := p6.same e7
    have nLp : L ≠ p := p6.ne nL
    obtain ⟨pw, epw⟩ : ∃ pw : Nat → List (Int × Int), pw = fun i => [ps1, ps2, ps3].getD i [] := ⟨_, rfl⟩
    have rows : ∀ (j : Nat) (x : V), ([.ref R1, .ref R2, .ref R3] : List V)[j]? = some x → ∃ R rs, x = .ref R ∧ R ≠ p ∧ H7 R = some (.lst rs) ∧ Parts K H7 rs (pw j) ∧ (∀ z ∈ pw j, Lowest z.1 z.2 ∧ Okq 190 90 z) ∧ (∀ z ∈ pw j, Bd 98 (rv z)) ∧ (pw j).length ≤ 6 ∧ ((pw j).map rv).sum = 0 ∧ (2 ≤ j → (pw j).length ≤ 2) := fun j x hx => by
      subst epw
      match j, hx with
      | 0, hx => obtain rfl := Option.some.inj hx; exact ⟨R1, rs1, rfl, nR1p, e7 _ _ (s26 _ _ nR1p hR1), (hP1.k (kt_x s26 p2)).k (kt_same e7), ok1, bd1, by show ps1.length ≤ 6; omega, pz1, fun h => absurd h (by omega)⟩
      | 1, hx => obtain rfl := Option.some.inj hx; exact ⟨R2, rs2, rfl, nR2p, e7 _ _ (s46 _ _ nR2p hR2), (hP2.k (kt_x s46 p4)).k (kt_same e7), ok2, bd2, by show ps2.length ≤ 6; omega, pz2, fun h => absurd h (by omega)⟩
      | 2, hx => obtain rfl := Option.some.inj hx; exact ⟨R3, rs3, rfl, nR3p, e7 _ _ hR3, hP3.k (kt_same e7), ok3, bd3, by show ps3.length ≤ 6; omega, pz3, fun _ => by show ps3.length ≤ 2; omega⟩
      | j + 3, hx => exact absurd hx (by simp)
    dsimp only [List.set_cons_succ, List.set_cons_zero]
    -- the weight
    refine ⟨_, rfl, L, rfl, ⟨_, .inl (.inl hL)⟩, fun D nD => ?_⟩
    refine lc_list (K := K) (a := L) (xs := [.ref R1, .ref R2, .ref R3]) (fun j H' => ∃ ns : List Int, H' D = some (.lst (ns.map V.int)) ∧ ns.length = j ∧ (∀ n ∈ ns, 1 ≤ n ∧ Bt 104 n) ∧ (∀ (i : Nat) (n : Int), ns[i]? = some n → WthF n (pw i).length (fun j => rv (gp (pw i) j))) ∧ Same H7 H') ⟨[], upd_same, rfl, fun n h => by simp at h, fun i n h => by simp at h, same_new nD⟩ (fun j H' _ ⟨_, _, _, _, _, s⟩ => .inl (.inl (s _ _ hL))) ?_ ?_
    · rintro j x H' hx ⟨ns, hD, hnl, hn, hw, s8⟩
      obtain ⟨R, rs, rfl, nRp, hR, hP, ok, bd, l6, pz, _⟩ := rows j x hx
      have hj := (List.getElem?_eq_some_iff.mp hx).1
      have hj : j < 3 := hj
      refine ⟨rfl, tyes (iteT ?_)⟩
      refine ⟨_, rfl, R, rs, pw j, rfl, .inl (.inl (s8 _ _ hR)), hP.k (kt_same s8), fun z hz => (ok z hz).2, by omega, pz, bd, fun H9 n s9 n1 bn wn => ?_⟩
      refine ⟨_, s9 _ _ hD, by rw [List.length_map]; exact small1000 (by omega), ns ++ [n], by rw [upd_same, List.map_append]; rfl, by simp [hnl], fun m hm => ?_, fun i m hi => ?_, same_upd (s8.trans s9) nD⟩
      · rcases List.mem_append.mp hm with h | h
        · exact hn m h
        · rw [List.mem_singleton.mp h]
          exact ⟨n1, bn⟩
      · rcases Nat.lt_or_ge i ns.length with h | h
        · rw [List.getElem?_append_left h] at hi
          exact hw i m hi
        · rw [List.getElem?_append_right h] at hi
          have hi2 : i - ns.length = 0 := by
            have := (List.getElem?_eq_some_iff.mp hi).1
            have : i - ns.length < 1 := this
            omega
          rw [hi2] at hi
          obtain rfl : n = m := Option.some.inj hi
          have : i = j := by omega
          rw [this]
          exact wn
    rintro H8 ⟨ns, hD, hnl, hn, hw, s8⟩
    have hnl : ns.length = 3 := hnl
    have p8 := p7.same s8
    refine ⟨D, ns, rfl, .inl (.inl hD), by omega, fun W0 hm hmx => ?_⟩
    have p9 := p8
    refine ⟨_, rfl, _, _, rfl, rfl, ⟨by decide, by decide, by decide⟩, p, _, rfl, p8, by decide +kernel, by unfold Bt; decide +kernel, fun f H9 f0 f1 s9 p9 => ?_⟩
    have f1 : f < 2 ^ 97 := Int.lt_trans f1 hTen
    clear hTen
    refine ⟨by show 4 ≤ sizeLine; decide, fun l nl => ?_⟩
    obtain ⟨B, fB, eB, hl⟩ : ∃ B, B = upd H9 l (.lst [.int 0, .int 0, .int 1, .int f]) ∧ Same H9 B ∧ B l = some (.lst [.int 0, .int 0, .int 1, .int f]) := ⟨_, rfl, same_new nl, upd_same⟩
    rw [← fB]
    have nlp : l ≠ p := p9.ne nl
    refine ⟨_, rfl, p, _, rfl, p9.same eB, by decide, b4, fun g H10 g0 g1 s10 p10 => ?_⟩
    obtain ⟨v2, hv, hm2⟩ := pick (xs := [V.int 0, V.int 0, V.int 1, V.int f]) g0 (by simpa using g1)
    obtain ⟨w2, rfl, w0, bw2⟩ : ∃ w2 : Int, v2 = .int w2 ∧ 0 ≤ w2 ∧ Bt 97 w2 := by
      simp only [List.mem_cons, List.not_mem_nil, or_false] at hm2
      rcases hm2 with rfl | rfl | rfl | rfl
      · exact ⟨_, rfl, by decide, by unfold Bt; decide +kernel⟩
      · exact ⟨_, rfl, by decide, by unfold Bt; decide +kernel⟩
      · exact ⟨_, rfl, by decide, by unfold Bt; decide +kernel⟩
      · exact ⟨_, rfl, f0, Bt.of_lt (by omega) f1⟩
    refine ⟨l, _, _, _, rfl, rfl, .inl (.inl (s10 _ _ nlp hl)), hv, _, _, rfl, rfl, ?_⟩
    have bW : Bt 110 (W0 + w2) := (((hn W0 hm).2).add (bw2.mono (by decide))).mono (by decide)
    have W1 : 1 ≤ W0 + w2 := by have := (hn W0 hm).1; omega
    have wth : ∀ i, i < 3 → WthF ((W0 + w2 : Int) : Rat) (pw i).length fun j => rv (gp (pw i) j) := fun i hi => by
      obtain ⟨n, en⟩ : ∃ n, ns[i]? = some n := ⟨_, List.getElem?_eq_getElem (by omega)⟩
      exact (hw i n en).up (cast_le.mpr (by have := hmx n (List.mem_of_getElem? en); omega))
    show gName 3 (V.int (W0 + w2)) _ _ _
    generalize W0 + w2 = W at bW W1 wth
    have s7A : SameX p H7 H10 := (Same.x s8).trans (s9.trans ((Same.x eB).trans s10))
    dsimp only [List.set_cons_succ, List.set_cons_zero]
    -- names
    refine ⟨_, rfl, p, 12, rfl, p10, by decide, fun N us H11 nN hN ul und unm s11 p11 => ?_⟩
    have nNp : N ≠ p := p10.ne nN
    have m11 : SameX p H7 H11 := s7A.trans s11
    dsimp only [List.set_cons_succ, List.set_cons_zero]
    refine ⟨by show 0 ≤ sizeLine; decide, fun F nF => ?_⟩
    obtain ⟨H12, f12, e12, hF⟩ : ∃ B, B = upd H11 F (.lst []) ∧ Same H11 B ∧ B F = some (.lst []) := ⟨_, rfl, same_new nF, upd_same⟩
    show gName 5 (V.ref F) _ (upd H11 F (.lst [])) _
    rw [← f12]
    have nFp : F ≠ p := p11.ne nF
    have nFL : F ≠ L := (ne_of_none (m11 _ _ nLp hL) nF).symm
    have nFN : F ≠ N := (ne_of_none hN nF).symm
    have m12 : SameX p H7 H12 := m11.trans (Same.x e12)
    have hL12 := m12 _ _ nLp hL
    have hN12 := e12 _ _ hN
    have p12 := p11.same e12
    dsimp only [List.set_cons_succ, List.set_cons_zero]
    refine ⟨_, rfl, true, L, _, rfl, .inl (.inl hL12), for_it (walk_enB (K := K) (b := true) (a := L) (xs := [.ref R1, .ref R2, .ref R3]) (k := 0)) (fun j σ H' => ∃ (y2 y6 y7 y8 y9 y10 : Option V) (ms : List V) (sl : List (List Seat)), σ = [some (.ref p), some (.ref L), y2, some (.int W), some (.ref N), some (.ref F), y6, y7, y8, y9, y10] ∧ H' F = some (.lst ms) ∧ ms.length = j ∧ sl.length = j ∧ (∀ (i : Nat) (m : V) (ss : List Seat), ms[i]? = some m → sl[i]? = some ss → Dp K H' m (momD W ss) ∧ ss.map Prod.snd = pw i ∧ (∀ s ∈ ss, Nm0 s.1) ∧ (names ss).Sublist (if i < 2 then (us.drop (6 * i)).take (pw i).length else [])) ∧ (∀ b o, b ≠ p → b ≠ F → H12 b = some o → H' b = some o) ∧ KT H12 H' ∧ PotAt H' p)
      ⟨none, none, none, none, none, none, [], [], rfl, hF, rfl, rfl, fun i m ss h => by simp at h, fun b o _ _ h => h, KT.refl _, p12⟩ (fun j σ H' _ ⟨_, _, _, _, _, _, _, _, _, _, _, _, _, s, _⟩ => .inl (.inl (s _ _ nLp nFL.symm hL12))) ?_ ?_⟩
    · rintro j x σ H' H'' hj ⟨y2, y6, y7, y8, y9, y10, ms, sl, rfl, hF', hml, hsl, hM, sx, kt, pp⟩ ⟨T1, v1, v2, rfl, nT, rfl, e1', e2'⟩
      have hj : j < 3 := hj
      have e1' : some (V.int (0 + (j : Nat))) = some v1 := e1'
      obtain rfl := Option.some.inj e1'
      have e2' : ([.ref R1, .ref R2, .ref R3] : List V)[j]? = some v2 := e2'
      obtain ⟨R, rs, rfl, nRp, hR, hP, ok, bd, l6, pz, l2⟩ := rows j v2 e2'
      have e0 := same_new (o := .tup [.int (0 + (j : Nat)), .ref R]) nT
      have rl : rs.length = (pw j).length := hP.1
      refine ⟨T1, _, rfl, .inl (.inl upd_same), rfl, _, _, rfl, _, _, rfl, rfl, ?_⟩
      dsimp only [List.set_cons_succ, List.set_cons_zero]
      refine ⟨by show 0 ≤ sizeLine; decide, fun G nG => ?_⟩
      obtain ⟨HG, fG, eG, hG⟩ : ∃ B, B = upd (upd H' T1 (.tup [.int (0 + (j : Nat)), .ref R])) G (.lst []) ∧ Same (upd H' T1 (.tup [.int (0 + (j : Nat)), .ref R])) B ∧ B G = some (.lst []) := ⟨_, rfl, same_new nG, upd_same⟩
      show gName 7 (V.ref G) _ (upd (upd H' T1 (.tup [.int (0 + (j : Nat)), .ref R])) G (.lst [])) _
      rw [← fG]
      have e0G := e0.trans eG
      have hR12 := m12 _ _ nRp hR
      have nRF : R ≠ F := ne_of_none (m11 _ _ nRp hR) nF
      have hRG := e0G _ _ (sx _ _ nRp nRF hR12)
      have hNG := e0G _ _ (sx _ _ nNp nFN.symm hN12)
      have hFG := e0G _ _ hF'
      have pG := pp.same e0G
      have nGp : G ≠ p := (pp.same e0).ne nG
      have nGF : G ≠ F := (ne_of_none (e0 _ _ hF') nG).symm
      have nGR : G ≠ R := (ne_of_none (e0 _ _ (sx _ _ nRp nRF hR12)) nG).symm
      have nGN : G ≠ N := (ne_of_none (e0 _ _ (sx _ _ nNp nFN.symm hN12)) nG).symm
      have hP12 : Parts K HG rs (pw j) := ((hP.k (kt_x m12 p7)).k kt).k (kt_same e0G)
      dsimp only [List.set_cons_succ, List.set_cons_zero]
      refine ⟨_, rfl, true, R, rs, rfl, .inl (.inl hRG), for_it (walk_enB (K := K) (b := true) (a := R) (xs := rs) (k := 0)) (fun i σ H' => ∃ (z8 z9 z10 : Option V) (ws : List V) (ss : List Seat), σ = [some (.ref p), some (.ref L), some (.ref R), some (.int W), some (.ref N), some (.ref F), some (.int (0 + (j : Nat))), some (.ref G), z8, z9, z10] ∧ H' G = some (.lst ws) ∧ DpAll K H' ws (ss.map seatD) ∧ ss.length = i ∧ ss.map Prod.snd = (pw j).take i ∧ (∀ s ∈ ss, Nm0 s.1) ∧ (names ss).Sublist (if j < 2 then (us.drop (6 * j)).take i else []) ∧ (∀ b o, b ≠ p → b ≠ G → HG b = some o → H' b = some o) ∧ KT HG H' ∧ PotAt H' p)
        ⟨y8, y9, y10, [], [], rfl, hG, .nil, rfl, rfl, fun _ h => (List.not_mem_nil h).elim, List.nil_sublist _, fun b o _ _ h => h, KT.refl _, pG⟩ (fun i σ H' _ ⟨_, _, _, _, _, _, _, _, _, _, _, _, s, _⟩ => .inl (.inl (s _ _ nRp nGR.symm hRG))) ?_ ?_⟩
      · rintro i x σ H1' H2' hi ⟨z8, z9, z10, ws, ss, rfl, hGs, hW, hsl2, hps, hnm, hsub, sg, kg, pg⟩ ⟨T2, u1, u2, rfl, nT2, rfl, w1', w2'⟩
        have hi : i < rs.length := hi
        have w1' : some (V.int (0 + (i : Nat))) = some u1 := w1'
        obtain rfl := Option.some.inj w1'
        have w2' : rs[i]? = some u2 := w2'
        obtain ⟨pq, hpq, tq⟩ := (hP12.k kg).2 i u2 w2'
        have e2 := same_new (o := .tup [.int (0 + (i : Nat)), u2]) nT2
        have hwl : ws.length = i := by rw [dpall_len hW, List.length_map, hsl2]
        refine ⟨T2, _, rfl, .inl (.inl upd_same), rfl, _, _, rfl, _, _, rfl, rfl, ?_⟩
        dsimp only [List.set_cons_succ, List.set_cons_zero]
        -- is one there
        have fin : ∀ (y : Str) (u : Addr) (b : Bool) (HH : Hp), (y = "" ∨ (j < 2 ∧ us[6 * j + i]? = some y)) → SameX p H1' HH → PotAt HH p → HH u = none → ∃ (z8 z9 z10 : Option V) (ws' : List V) (ss' : List Seat), [some (V.ref p), some (.ref L), some (.ref R), some (.int W), some (.ref N), some (.ref F), some (.int (0 + (j : Nat))), some (.ref G), some (.int (0 + (i : Nat))), some u2, some (.bl b)] = [some (.ref p), some (.ref L), some (.ref R), some (.int W), some (.ref N), some (.ref F), some (.int (0 + (j : Nat))), some (.ref G), z8, z9, z10] ∧ upd (upd HH u (.tup [.str y, u2])) G (.lst (ws ++ [.ref u])) G = some (.lst ws') ∧ DpAll K (upd (upd HH u (.tup [.str y, u2])) G (.lst (ws ++ [.ref u]))) ws' (ss'.map seatD) ∧ ss'.length = i + 1 ∧ ss'.map Prod.snd = (pw j).take (i + 1) ∧ (∀ s ∈ ss', Nm0 s.1) ∧ (names ss').Sublist (if j < 2 then (us.drop (6 * j)).take (i + 1) else []) ∧ (∀ b o, b ≠ p → b ≠ G → HG b = some o → upd (upd HH u (.tup [.str y, u2])) G (.lst (ws ++ [.ref u])) b = some o) ∧ KT HG (upd (upd HH u (.tup [.str y, u2])) G (.lst (ws ++ [.ref u]))) ∧ PotAt (upd (upd HH u (.tup [.str y, u2])) G (.lst (ws ++ [.ref u]))) p := by
          intro y u b HH hy sH pH nu
          have eu := same_new (o := .tup [.str y, u2]) nu
          have hG9 := eu _ _ (sH _ _ nGp hGs)
          have k9 := kt_set (ys := ws ++ [.ref u]) hG9
          have kH := kt_x sH pg
          refine ⟨_, _, _, ws ++ [.ref u], ss ++ [(y, pq)], rfl, upd_same, ?_, by simp [hsl2], by rw [List.map_append, hps, List.take_add_one, hpq]; rfl, fun x hx => ?_, ?_, fun b o nb ng h => ?_, (kg.trans kH).trans ((kt_same eu).trans k9), (pH.same eu).upd nGp⟩
          · rw [List.map_append]
            refine (dpall_add ((hW.kt kH (seats_imm _)).sm eu) (seat_mk (s := (y, pq)) (.inl (.inl upd_same)) (pd_dp ((tq.k kH).same eu)))).kt k9 ?_
            rw [immAll_app, seats_imm]
            rfl
          · rcases List.mem_append.mp hx with h | h
            · exact hnm x h
            · rw [List.mem_singleton.mp h]
              rcases hy with rfl | ⟨_, hy⟩
              · exact .inl rfl
              · exact .inr (unm _ (List.mem_of_getElem? hy))
          · rw [names_app]
            by_cases hj2 : j < 2
            · rw [if_pos hj2] at hsub ⊢
              rw [List.take_add_one]
              refine List.Sublist.append hsub ?_
              rcases hy with rfl | ⟨_, hy⟩
              · exact List.nil_sublist _
              · rw [List.getElem?_drop, hy]
                exact List.filter_sublist
            · rw [if_neg hj2] at hsub ⊢
              rcases hy with rfl | ⟨h, _⟩
              · exact List.Sublist.append hsub (List.nil_sublist _)
              · exact absurd h hj2
          · rw [upd_ne ng]
            exact eu _ _ (sH _ _ nb (sg _ _ nb ng h))
        refine ⟨_, rfl, _, _, rfl, rfl, _, rfl, ite2 (fun hc => ?_) (fun hc => ?_)⟩
        · have hj2 : j < 2 := by have := of_decide_eq_true hc; omega
          refine ⟨_, rfl, p, 4, rfl, pg.same e2, by decide, b4, fun d H3' d0 dd sd pd' => ?_⟩
          refine ⟨_, _, rfl, rfl, ?_⟩
          have sH : SameX p H1' H3' := (Same.x e2).trans sd
          dsimp only [List.set_cons_succ, List.set_cons_zero]
          refine ⟨_, rfl, .inl ⟨rfl, _, .inl (.inl (sH _ _ nGp hGs))⟩, ?_⟩
          refine ⟨_, rfl, _, rfl, ite2 (fun hb => ?_) (fun hb => ?_)⟩
          · have bj : Bt 4 ((0 : Int) + (j : Nat)) := Bt.of_lt (by omega) (by omega)
            obtain ⟨y, ey⟩ : ∃ y, us[6 * j + i]? = some y := ⟨_, List.getElem?_eq_getElem (by omega)⟩
            have ei : (6 : Int) * (0 + ((j : Nat) : Int)) + (0 + ((i : Nat) : Int)) = ((6 * j + i : Nat) : Int) := by omega
            have hN' := sH _ _ nNp (sg _ _ nNp nGN.symm hNG)
            refine ⟨_, rfl, _, rfl, _, _, rfl, rfl, (show Bt 4 (6 : Int) by unfold Bt; decide).cmul bj (by decide), _, rfl, _, _, rfl, rfl, N, _, _, V.str y, rfl, rfl, .inl (.inl hN'), ?_, ?_⟩
            · rw [ei]
              exact atI_nat (by rw [List.getElem?_map, ey]; rfl)
            refine ⟨_, rfl, by show 2 ≤ sizeLine; decide, fun u nu => ?_⟩
            have eu := same_new (o := .tup [.str y, u2]) nu
            refine ⟨G, ws, .ref u, rfl, rfl, eu _ _ (sH _ _ nGp hGs), small1000 (by omega), ?_⟩
            exact fin y u _ H3' (.inr ⟨hj2, ey⟩) sH pd' nu
          · refine ⟨_, rfl, by show 2 ≤ sizeLine; decide, fun u nu => ?_⟩
            have eu := same_new (o := .tup [.str "", u2]) nu
            refine ⟨G, ws, .ref u, rfl, rfl, eu _ _ (sH _ _ nGp hGs), small1000 (by omega), ?_⟩
            exact fin "" u _ H3' (.inl rfl) sH pd' nu
        · have sH : SameX p H1' (upd H1' T2 (.tup [.int (0 + (i : Nat)), u2])) := Same.x e2
          dsimp only [List.set_cons_succ, List.set_cons_zero]
          refine ⟨_, rfl, .inl ⟨rfl, _, .inl (.inl (sH _ _ nGp hGs))⟩, ?_⟩
          refine ⟨_, rfl, _, rfl, ite2 (fun hb => Bool.noConfusion hb) (fun hb => ?_)⟩
          refine ⟨_, rfl, by show 2 ≤ sizeLine; decide, fun u nu => ?_⟩
          have eu := same_new (o := .tup [.str "", u2]) nu
          refine ⟨G, ws, .ref u, rfl, rfl, eu _ _ (sH _ _ nGp hGs), small1000 (by omega), ?_⟩
          exact fin "" u _ _ (.inl rfl) sH (pg.same e2) nu
      · rintro σ H1' ⟨z8, z9, z10, ws, ss, rfl, hGs, hW, hsl2, hps, hnm, hsub, sg, kg, pg⟩
        rw [rl, List.take_length] at hps
        rw [rl] at hsub
        have hFs := sg _ _ nFp nGF.symm hFG
        refine ⟨_, rfl, .inl ⟨rfl, _, .inl (.inl hFs)⟩, ?_⟩
        refine ⟨_, rfl, _, rfl, G, ws, rfl, .inl ⟨.inl (.inl hGs), fun r nr => ?_⟩⟩
        obtain ⟨H2', f2, e2, hr2⟩ : ∃ B, B = upd H1' r (.tup ws) ∧ Same H1' B ∧ SqT K B r ws := ⟨_, rfl, same_new nr, .inl (.inl upd_same)⟩
        rw [← f2]
        refine ⟨by show 2 ≤ sizeLine; decide, fun m nm => ?_⟩
        obtain ⟨H3', f3, e3, hm3⟩ : ∃ B, B = upd H2' m (.tup [.int W, .ref r]) ∧ Same H2' B ∧ SqT K B m [.int W, .ref r] := ⟨_, rfl, same_new nm, .inl (.inl upd_same)⟩
        show tNil _ (upd H2' m (.tup [.int W, .ref r])) _
        rw [← f3]
        have e23 := e2.trans e3
        have dm : Dp K H3' (.ref m) (momD W ss) := mom_mk hm3 (Same.tup e3 hr2) (hW.sm e23)
        have hF3 := e23 _ _ hFs
        have k9 := kt_set (ys := ms ++ [.ref m]) hF3
        refine ⟨F, ms, .ref m, rfl, rfl, hF3, small1000 (by omega), ?_⟩
        refine ⟨_, _, _, _, _, _, ms ++ [.ref m], sl ++ [ss], rfl, upd_same, by simp [hml], by simp [hsl], fun i m' ss' hi1 hi2 => ?_, fun b o nb nf h => ?_, (kt.trans (kt_same e0G)).trans (kg.trans ((kt_same e23).trans k9)), (pg.same e23).upd nFp⟩
        · rcases Nat.lt_or_ge i j with hij | hij
          · rw [List.getElem?_append_left (by omega)] at hi1 hi2
            obtain ⟨h1, h2, h3, h4⟩ := hM i m' ss' hi1 hi2
            exact ⟨h1.kt ((kt_same e0G).trans (kg.trans ((kt_same e23).trans k9))) (mom_imm _ _), h2, h3, h4⟩
          · rw [List.getElem?_append_right (by omega)] at hi1 hi2
            have z0 : i - ms.length = 0 := by
              have := (List.getElem?_eq_some_iff.mp hi1).1
              have : i - ms.length < 1 := this
              omega
            rw [hsl, ← hml, z0] at hi2
            rw [z0] at hi1
            obtain rfl := Option.some.inj hi1
            obtain rfl : ss = ss' := Option.some.inj hi2
            obtain rfl : i = j := by omega
            exact ⟨dm.kt k9 (mom_imm _ _), hps, hnm, hsub⟩
        · rw [upd_ne nf]
          have nbG : b ≠ G := ne_of_none (e0 _ _ (sx _ _ nb nf h)) nG
          exact e23 _ _ (sg _ _ nb nbG (e0G _ _ (sx _ _ nb nf h)))
    · rintro σ H' ⟨y2, y6, y7, y8, y9, y10, ms, sl, rfl, hF', hml, hsl, hM, sx, kt, pp⟩
      have hml : ms.length = 3 := hml
      have hsl : sl.length = 3 := hsl
      obtain ⟨v1, v2, v3, rfl⟩ : ∃ v1 v2 v3, ms = [v1, v2, v3] := by
        match ms, hml with
        | [a, b, c], _ => exact ⟨a, b, c, rfl⟩
      obtain ⟨q1, q2, q3, rfl⟩ : ∃ v1 v2 v3, sl = [v1, v2, v3] := by
        match sl, hsl with
        | [a, b, c], _ => exact ⟨a, b, c, rfl⟩
      have mk : ∀ (i : Nat) (m : V) (ss : List Seat), i < 3 → ([v1, v2, v3] : List V)[i]? = some m → ([q1, q2, q3] : List (List Seat))[i]? = some ss → M3 W ss := fun i m ss hi e1 e2 => by
        obtain ⟨h1, h2, h3, h4⟩ := hM i m ss e1 e2
        obtain ⟨x, ex⟩ : ∃ x, ([.ref R1, .ref R2, .ref R3] : List V)[i]? = some x := ⟨_, List.getElem?_eq_getElem (by exact hi)⟩
        obtain ⟨R, rs, _, _, _, hP, ok, bd, l6, pz, l2⟩ := rows i x ex
        have sl : ss.length = (pw i).length := by rw [← h2, List.length_map]
        refine ⟨by omega, W1, bW, ?_, h3, fun s hs => ?_, good_mk h2 (wth i hi) pz⟩
        · split at h4
          · exact (und.sublist (List.drop_sublist _ _) |>.sublist (List.take_sublist _ _)).sublist h4
          · rw [List.sublist_nil.mp h4]
            exact List.nodup_nil
        · have := ok s.2 (by rw [← h2]; exact List.mem_map_of_mem hs)
          exact ⟨this.2, this.1⟩
      obtain ⟨a1, a2, a3, a4⟩ := hM 0 v1 q1 rfl rfl
      obtain ⟨b1, b2, b3', b4'⟩ := hM 1 v2 q2 rfl rfl
      obtain ⟨c1, c2, c3', c4⟩ := hM 2 v3 q3 rfl rfl
      have l1 := (mk 0 v1 q1 (by decide) rfl rfl).l
      have w1 : (pw 0).length ≤ 6 := by rw [← a2, List.length_map]; exact l1
      have l3 : q3.length ≤ 2 := by
        obtain ⟨R, rs, _, _, _, hP, ok, bd, l6, pz, l2⟩ := rows 2 (.ref R3) rfl
        have := l2 (Nat.le_refl 2)
        rw [← c2, List.length_map] at this
        exact this
      refine ⟨_, rfl, q F v1 v2 v3 W q1 q2 q3 H' hF' a1 b1 c1 (mk 0 v1 q1 (by decide) rfl rfl) (mk 1 v2 q2 (by decide) rfl rfl) (mk 2 v3 q3 (by decide) rfl rfl) l3 (List.sublist_nil.mp c4) (fun z h1 h2 => ?_) ?_ pp⟩
      · have h1 := (a4.subset h1)
        have h2 := (b4'.subset h2)
        rw [if_pos (by decide)] at h1 h2
        have h1 : z ∈ us.take 6 := by
          have : (us.drop (6 * 0)).take (pw 0).length = us.take (pw 0).length := rfl
          rw [this] at h1
          exact (List.take_subset_take_left us w1) h1
        have h2 : z ∈ us.drop 6 := List.mem_of_mem_take h2
        have nd := und
        rw [← List.take_append_drop 6 us] at nd
        exact (List.nodup_append.mp nd).2.2 z h1 z h2 rfl
      · intro b o nb h
        have h6 : H6 b = some o := s6 _ _ nb (s5 _ _ nb (s4 _ _ nb (s3 _ _ nb (s2 _ _ nb (s1 _ _ nb h)))))
        have h12 := m12 _ _ nb (e7 _ _ h6)
        exact sx _ _ nb (fun z => by rw [z] at h6; have := m11 _ _ nFp (e7 _ _ h6); rw [nF] at this; cases this) h12

end
end WS

set_option Elab.async false
set_option linter.all false
set_option maxRecDepth 100000
set_option maxHeartbeats 4000000
namespace WS
open PySem PySem.Spec PyProof.Rows L2
section
variable {P : Program} {w : World} {K : PySem.W.Frag} {mg : Str → Option Value} {base : Heap}
open TL
theorem ok_lone (T : Tx K mg base) {A : Around} (hg : Calm A) : FnAt A P w K mg base CX0 11 T.f_lone T.d_lone ["_law_pot_here"] (spOneT T.P_tab) := by
  refine fun_at T.F_lone sc_lone (fun vs H Q E h => ?_) (fun cdv outer s H vs Q E hr h => ?_)
  · obtain ⟨p, rfl, _⟩ := h
    rfl
  · obtain ⟨p, rfl, hp, hT0, q0⟩ := h
    have hT : LamX.Tabs T.TT H := TabS.tabs hT0
    have q : ∀ H', ExtX p H H' → LamX.Tabs T.TT H' → Q (.bl true) H' := fun H' x t => q0 H' x (t _ (List.mem_singleton.mpr rfl))
    refine ⟨_, PSs.nox (pss_cons (ps_asg (pe_call (ok_lthree T) (hr.mono (by decide)) (by rfl) T.g_lthree T.F_lthree.kp T.b_lthree .nil pass0 (pa_cons (pv 0) pa_nil)) (pg_lst (by rfl) (pgs_cons (pg_name (i := 1) sc_lone.nd rfl (.inl rfl)) (pgs_cons (pg_name (i := 2) sc_lone.nd rfl (.inl rfl)) (pgs_cons (pg_name (i := 3) sc_lone.nd rfl (.inl rfl)) pgs_nil)))))
        (pss_cons (ps_set (i := 4) sc_lone.nd rfl (.inl rfl) (pe_call (ok_joined T) (hr.mono (by decide)) (by rfl) T.g_joined T.F_joined.kp T.b_joined .nil pass0 (pa_cons (pv 1) (pa_cons (pv 2) pa_nil))))
        (pss_cons (ps_if (pt_not (pt_val (pe_callA (ok_lwhole_right T (Calm.down hg _)) (hr.mono (by decide)) (by rfl) T.g_lwhole_right T.F_lwhole_right.kp T.b_lwhole_right .nil pass0 (pa_cons (pv 4) (pa_cons (pv 1) (pa_cons (pv 2) pa_nil)))))) (pss_one (ps_ret pe_bl)) pss_nil)
        (pss_cons (ps_set (i := 5) sc_lone.nd rfl (.inl rfl) (pe_tupRg (by rfl) (by rfl) T.n_tuple (prg_1 (by rfl) T.n_range (pe_callB call_len_seq (by rfl) T.n_len (by decide +kernel) (pa_cons (pe_ix ix_tup (pv 1) pe_int (fun _ _ => rfl)) pa_nil)))))
        (pss_cons (ps_set (i := 6) sc_lone.nd rfl (.inl rfl) (pe_tupRg (by rfl) (by rfl) T.n_tuple (prg_2 (by rfl) T.n_range (pe_callB call_len_seq (by rfl) T.n_len (by decide +kernel) (pa_cons (pe_ix ix_tup (pv 1) pe_int (fun _ _ => rfl)) pa_nil)) (pe_callB call_len_seq (by rfl) T.n_len (by decide +kernel) (pa_cons (pe_ix ix_tup (pv 4) pe_int (fun _ _ => rfl)) pa_nil)))))
        (pss_cons (ps_if (PW.pt (pw_or (pt_cmpR op_ne (pe_callB (call_reprD (Calm.down hg _) hr.units) (by rfl) T.n_repr (by decide +kernel) (pa_cons (pe_call (ok_parted T) (hr.mono (by decide)) (by rfl) T.g_parted T.F_parted.kp T.b_parted .nil pass0 (pa_cons (pv 4) (pa_cons (pv 5) pa_nil))) pa_nil)) (pe_callB (call_reprD (Calm.down hg _) hr.units) (by rfl) T.n_repr (by decide +kernel) (pa_cons (pe_tup (pa_cons (pv 1) (pa_cons (pv 2) pa_nil))) pa_nil)) (nomark _)) (pw_or1 (pt_cmpR op_ne (pe_callB (call_reprD (Calm.down hg _) hr.units) (by rfl) T.n_repr (by decide +kernel) (pa_cons (pe_call (ok_parted T) (hr.mono (by decide)) (by rfl) T.g_parted T.F_parted.kp T.b_parted .nil pass0 (pa_cons (pv 4) (pa_cons (pe_revT (pv 6)) pa_nil))) pa_nil)) (pe_callB (call_reprD (Calm.down hg _) hr.units) (by rfl) T.n_repr (by decide +kernel) (pa_cons (pe_tup (pa_cons (pv 2) (pa_cons (pv 1) pa_nil))) pa_nil)) (nomark _))))) (pss_one (ps_ret pe_bl)) pss_nil)
        (pss_cons (ps_set (i := 7) sc_lone.nd rfl (.inl rfl) (pe_call (ok_moment_of T) (hr.mono (by decide)) (by rfl) T.g_moment_of T.F_moment_of.kp T.b_moment_of .nil pass0 (pa_cons (pe_ix ix_tup (pv 1) pe_int (fun _ _ => rfl)) pa_nil)))
        (pss_cons (ps_if (PW.pt (pw_or (pt_cmpR op_ne (pe_callB (call_reprD (Calm.down hg _) hr.units) (by rfl) T.n_repr (by decide +kernel) (pa_cons (pe_call (ok_joined T) (hr.mono (by decide)) (by rfl) T.g_joined T.F_joined.kp T.b_joined .nil pass0 (pa_cons (pv 7) (pa_cons (pv 1) pa_nil))) pa_nil)) (pe_callB (call_reprD (Calm.down hg _) hr.units) (by rfl) T.n_repr (by decide +kernel) (pa_cons (pv 1) pa_nil)) (nomark _)) (pw_or1 (pt_cmpR op_ne (pe_callB (call_reprD (Calm.down hg _) hr.units) (by rfl) T.n_repr (by decide +kernel) (pa_cons (pe_call (ok_joined T) (hr.mono (by decide)) (by rfl) T.g_joined T.F_joined.kp T.b_joined .nil pass0 (pa_cons (pv 1) (pa_cons (pv 7) pa_nil))) pa_nil)) (pe_callB (call_reprD (Calm.down hg _) hr.units) (by rfl) T.n_repr (by decide +kernel) (pa_cons (pv 1) pa_nil)) (nomark _))))) (pss_one (ps_ret pe_bl)) pss_nil)
        (pss_cons (ps_if (pt_cmpR op_ne (pe_callB (call_reprD (Calm.down hg _) hr.units) (by rfl) T.n_repr (by decide +kernel) (pa_cons (pe_call (ok_joined T) (hr.mono (by decide)) (by rfl) T.g_joined T.F_joined.kp T.b_joined .nil pass0 (pa_cons (pv 4) (pa_cons (pv 3) pa_nil))) pa_nil)) (pe_callB (call_reprD (Calm.down hg _) hr.units) (by rfl) T.n_repr (by decide +kernel) (pa_cons (pe_call (ok_joined T) (hr.mono (by decide)) (by rfl) T.g_joined T.F_joined.kp T.b_joined .nil pass0 (pa_cons (pv 1) (pa_cons (pe_call (ok_joined T) (hr.mono (by decide)) (by rfl) T.g_joined T.F_joined.kp T.b_joined .nil pass0 (pa_cons (pv 2) (pa_cons (pv 3) pa_nil))) pa_nil))) pa_nil)) (nomark _)) (pss_one (ps_ret pe_bl)) pss_nil)
        (pss_one (ps_ret (pe_callA (ok_lwhole_right T (Calm.down hg _)) (hr.mono (by decide)) (by rfl) T.g_lwhole_right T.F_lwhole_right.kp T.b_lwhole_right .nil pass0 (pa_cons (pe_call (ok_joined T) (hr.mono (by decide)) (by rfl) T.g_joined T.F_joined.kp T.b_joined .nil pass0 (pa_cons (pv 3) (pa_cons (pv 4) pa_nil))) (pa_cons (pv 3) (pa_cons (pv 4) pa_nil))))))))))))))), ?_⟩
    rw [show L2.start [Str.ofString "_law_pot_here", Str.ofString "_law_one_here", Str.ofString "_law_other", Str.ofString "_law_third", Str.ofString "_law_both", Str.ofString "_law_ahead", Str.ofString "_law_after", Str.ofString "_law_none"] [V.ref p] = [some (V.ref p), none, none, none, none, none, none, none] from rfl]
    refine ⟨_, rfl, p, rfl, hp, fun D v1 v2 v3 W s1 s2 s3 H1 hD d1 d2 d3 m1 m2 m3 l3 nm3 dis x1 p1 => ?_⟩
    have T1 := Tabs.x hT x1 hp
    have xx1 : ExtX p H H1 := ExtX.x x1
    refine ⟨D, _, rfl, .inl (.inl hD), rfl, _, _, rfl, _, _, rfl, _, _, rfl, rfl, ?_⟩
    dsimp only [List.set_cons_succ, List.set_cons_zero]
    have l1 := m1.l
    have l2 := m2.l
    have w1 := m1.w
    have bW : Bt 1500 W := m1.b.mono (by decide)
    -- joined
    refine ⟨_, rfl, _, rfl, v1, v2, W, s1, s2, rfl, d1, d2, by omega, by omega, dis, fun vb H2 e2 db => ?_⟩
    obtain ⟨mo12, oq12⟩ := m1.mok m2 dis
    have t2 := T1.ext e2
    have x12 : LamX.ExtN H1 H2 := ExtN.same e2
    have lapp : (s1 ++ s2).length = s1.length + s2.length := List.length_append
    dsimp only [List.set_cons_succ, List.set_cons_zero]
    refine ⟨_, rfl, _, rfl, _, rfl, vb, v1, v2, W, s1, s2, rfl, db, d1.sm e2, d2.sm e2, mo12, oq12, t2, fun H3 x3 t3 => ?_⟩
    refine ⟨true, rfl, iteF ?_⟩
    have x13 := x12.trans x3
    have db3 := ExtN.dp x3 db (mom_imm _ _)
    have d13 := ExtN.dp x13 d1 (mom_imm _ _)
    have d23 := ExtN.dp x13 d2 (mom_imm _ _)
    obtain ⟨a, S1, as, rfl, ha, hS1, hV1⟩ := mom_get d13
    obtain ⟨c, Sc, cs, rfl, hc, hSc, hVc⟩ := mom_get db3
    have ela : as.length = s1.length := by rw [dpall_len hV1, List.length_map]
    have elc : cs.length = s1.length + s2.length := by rw [dpall_len hVc, List.length_map, lapp]
    dsimp only [List.set_cons_succ, List.set_cons_zero]
    -- places
    refine ⟨_, rfl, a, _, 1, _, rfl, rfl, ha, atI_nat (j := 1) rfl, S1, _, rfl, .inr hS1, _, rfl, RgOk.of_le (by omega) (by omega) (by omega) (by omega), fun q1 nq1 => ?_⟩
    rw [rgV_nat, ela]
    obtain ⟨H4, f4, e4, hq1⟩ : ∃ B, B = upd H3 q1 (.tup ((List.range s1.length).map fun j : Nat => V.int j)) ∧ Same H3 B ∧ SqT K B q1 ((List.range s1.length).map fun j : Nat => V.int j) := ⟨_, rfl, same_new nq1, .inl (.inl upd_same)⟩
    rw [← f4]
    dsimp only [List.set_cons_succ, List.set_cons_zero]
    refine ⟨_, rfl, a, _, 1, _, rfl, rfl, Same.tup e4 ha, atI_nat (j := 1) rfl, S1, _, rfl, .inr (Same.tup e4 hS1), ?_⟩
    refine ⟨_, rfl, c, _, 1, _, rfl, rfl, Same.tup e4 hc, atI_nat (j := 1) rfl, Sc, _, rfl, .inr (Same.tup e4 hSc), _, _, rfl, rfl, RgOk.of_le (by omega) (by omega) (by omega) (by omega), fun q2 nq2 => ?_⟩
    rw [elc, ela, rgV_from]
    obtain ⟨H5, f5, e5, hq2⟩ : ∃ B, B = upd H4 q2 (.tup (((List.range s2.length).map fun j => s1.length + j).map fun j : Nat => V.int j)) ∧ Same H4 B ∧ SqT K B q2 (((List.range s2.length).map fun j => s1.length + j).map fun j : Nat => V.int j) := ⟨_, rfl, same_new nq2, .inl (.inl upd_same)⟩
    rw [← f5]
    dsimp only [List.set_cons_succ, List.set_cons_zero]
    have e35 := e4.trans e5
    have shm : ∀ (ss : List Seat), ss.length ≤ 15 → (∀ s ∈ ss, Okq 190 90 s.2 ∧ Nm0 s.1) → Sh 240000 6 (momD W ss) := fun ss hl h => mom_shJ bW hl fun s hs => ⟨⟨(h s hs).1.1, (h s hs).1.2.1.mono (by decide), (h s hs).1.2.2.mono (by decide)⟩, (h s hs).2⟩
    have sh1 := shm s1 (by omega) fun s hs => ⟨(m1.ok s hs).1, m1.nm s hs⟩
    have sh2 := shm s2 (by omega) fun s hs => ⟨(m2.ok s hs).1, m2.nm s hs⟩
    have ok250 : ∀ s ∈ s1 ++ s2, Okp 250 s.2 := fun s hs => (oq12 s hs).okp (by decide) (by decide)
    have s1lt : ∀ i ∈ List.range s1.length, i < (s1 ++ s2).length := fun i hi => by have := List.mem_range.mp hi; omega
    have s2lt : ∀ i ∈ (List.range s2.length).map (fun j => s1.length + j), i < (s1 ++ s2).length := fun i hi => by
      obtain ⟨j, hj, rfl⟩ := List.mem_map.mp hi
      have := List.mem_range.mp hj
      omega
    have up2 : ((List.range s2.length).map fun j => s1.length + j).Pairwise (· < ·) := by
      rw [List.pairwise_map]
      exact List.pairwise_lt_range.imp fun h => by omega
    -- parted ahead
    have dc5 := (mom_mk hc hSc hVc : Dp K H3 (.ref c) (momD W (s1 ++ s2))).sm e35
    refine ⟨_, rfl, _, rfl, .ref c, q1, W, s1 ++ s2, List.range s1.length, List.range s1.length, (List.range s2.length).map fun j => s1.length + j, rfl, dc5, Same.tup e5 hq1, List.Perm.refl _, List.pairwise_lt_range, s1lt, by rw [lapp, filt_l], by omega, by omega, ok250, bW.mono (by decide), by rw [sum_l]; exact m1.g.z, by rw [map_gs_l]; exact m1.g.w, by rw [map_gs_r]; exact m2.g.w, t3.ext e35, fun v6 H6 x6 t6 d6 => ?_⟩
    rw [map_gs_l, map_gs_r] at d6
    obtain ⟨P1, eP1⟩ : ∃ P1, P1 = PyData.tuple [momD W s1, momD W s2] := ⟨_, rfl⟩
    obtain ⟨y1, y2, y3, y4⟩ := (two_shJ sh1 sh2).ok (Nat.le_refl _) (Nat.le_refl _)
    rw [← eP1] at y1 y2 y3 y4
    refine ⟨_, P1, rfl, by rw [eP1]; exact d6, y1, y2, y3, y4, ?_⟩
    have x36 := (ExtN.same e35).trans x6
    refine ⟨_, rfl, _, rfl, by show 2 ≤ sizeLine; decide, fun r7 nr7 => ?_⟩
    obtain ⟨H7, f7, e7, hr7⟩ : ∃ B, B = upd H6 r7 (.tup [.ref a, v2]) ∧ Same H6 B ∧ SqT K B r7 [.ref a, v2] := ⟨_, rfl, same_new nr7, .inl (.inl upd_same)⟩
    have d17 := ExtN.dp x36 (mom_mk ha hS1 hV1 : Dp K H3 (.ref a) (momD W s1)) (mom_imm _ _)
    have d27 := ExtN.dp x36 d23 (mom_imm _ _)
    refine ⟨_, P1, rfl, by rw [← f7, eP1]; exact mk_dp2 hr7 (d17.sm e7) (d27.sm e7), y1, y2, y3, y4, rfl, _, rfl, ?_⟩
    rw [decide_eq_true rfl, ← f7]
    refine iteF ?_
    have x37 := x36.trans (ExtN.same e7)
    have t7 := t6.ext e7
    -- parted behind
    have hq27 := ExtN.sqt (x6.trans (ExtN.same e7)) hq2
    refine ⟨_, rfl, _, rfl, q2, _, rfl, hq27, fun q8 nq8 => ?_⟩
    rw [← List.map_reverse]
    obtain ⟨H8, f8, e8, hq8⟩ : ∃ B, B = upd H7 q8 (.tup ((((List.range s2.length).map fun j => s1.length + j).reverse).map fun j : Nat => V.int j)) ∧ Same H7 B ∧ SqT K B q8 ((((List.range s2.length).map fun j => s1.length + j).reverse).map fun j : Nat => V.int j) := ⟨_, rfl, same_new nq8, .inl (.inl upd_same)⟩
    rw [← f8]
    have x38 := x37.trans (ExtN.same e8)
    have dc8 := ExtN.dp x38 (mom_mk hc hSc hVc : Dp K H3 (.ref c) (momD W (s1 ++ s2))) (mom_imm _ _)
    refine ⟨.ref c, q8, W, s1 ++ s2, ((List.range s2.length).map fun j => s1.length + j).reverse, (List.range s2.length).map fun j => s1.length + j, List.range s1.length, rfl, dc8, hq8, List.reverse_perm _, up2, fun i hi => s2lt i (List.mem_reverse.mp hi), by rw [lapp, filt_r], by omega, by omega, ok250, bW.mono (by decide), by rw [sumF_perm (List.reverse_perm _), sum_r]; exact m2.g.z, by rw [map_gs_r]; exact m2.g.w, by rw [map_gs_l]; exact m1.g.w, t7.ext e8, fun v9 H9 x9 t9 d9 => ?_⟩
    rw [map_gs_l, map_gs_r] at d9
    obtain ⟨P2, eP2⟩ : ∃ P2, P2 = PyData.tuple [momD W s2, momD W s1] := ⟨_, rfl⟩
    obtain ⟨z1, z2, z3, z4⟩ := (two_shJ sh2 sh1).ok (Nat.le_refl _) (Nat.le_refl _)
    rw [← eP2] at z1 z2 z3 z4
    refine ⟨_, P2, rfl, by rw [eP2]; exact d9, z1, z2, z3, z4, ?_⟩
    have x39 := x38.trans x9
    refine ⟨_, rfl, _, rfl, by show 2 ≤ sizeLine; decide, fun r10 nr10 => ?_⟩
    obtain ⟨H10, f10, e10, hr10⟩ : ∃ B, B = upd H9 r10 (.tup [v2, .ref a]) ∧ Same H9 B ∧ SqT K B r10 [v2, .ref a] := ⟨_, rfl, same_new nr10, .inl (.inl upd_same)⟩
    have x310 := x39.trans (ExtN.same e10)
    have d110 := ExtN.dp x310 (mom_mk ha hS1 hV1 : Dp K H3 (.ref a) (momD W s1)) (mom_imm _ _)
    have d210 := ExtN.dp x310 d23 (mom_imm _ _)
    refine ⟨_, P2, rfl, by rw [← f10, eP2]; exact mk_dp2 hr10 d210 d110, z1, z2, z3, z4, rfl, _, rfl, ?_⟩
    rw [decide_eq_true rfl, ← f10]
    refine iteF ?_
    have t10 := t9.ext e10
    have ha10 := ExtN.sqt x310 ha
    dsimp only [List.set_cons_succ, List.set_cons_zero]
    -- none
    refine ⟨_, rfl, a, _, 0, _, rfl, rfl, ha10, atI_nat (j := 0) rfl, W, rfl, w1, fun vn H11 e11 dn => ?_⟩
    have d111 := d110.sm e11
    dsimp only [List.set_cons_succ, List.set_cons_zero]
    obtain ⟨P3, eP3⟩ : ∃ P3, P3 = momD W s1 := ⟨_, rfl⟩
    obtain ⟨g1, g2, g3, g4⟩ := (sh1.mono (by omega) (by omega) : Sh 1000000 60 (momD W s1)).ok (Nat.le_refl _) (Nat.le_refl _)
    rw [← eP3] at g1 g2 g3 g4
    refine ⟨_, rfl, _, rfl, vn, .ref a, W, [], s1, rfl, dn, d111, by decide, by omega, (fun z hz => by cases hz), fun vj H12 e12 dj => ?_⟩
    refine ⟨_, P3, rfl, by rw [eP3]; exact dj, g1, g2, g3, g4, _, rfl, ?_⟩
    refine ⟨_, P3, rfl, by rw [eP3]; exact d111.sm e12, g1, g2, g3, g4, rfl, _, rfl, ?_⟩
    rw [decide_eq_true rfl]
    refine iteF ?_
    refine ⟨_, rfl, _, rfl, .ref a, vn, W, s1, [], rfl, d111.sm e12, dn.sm e12, by omega, by decide, (fun z _ hz => by cases hz), fun vk H13 e13 dk => ?_⟩
    rw [List.append_nil] at dk
    refine ⟨_, P3, rfl, by rw [eP3]; exact dk, g1, g2, g3, g4, _, rfl, ?_⟩
    refine ⟨_, P3, rfl, by rw [eP3]; exact d111.sm (e12.trans e13), g1, g2, g3, g4, rfl, _, rfl, ?_⟩
    rw [decide_eq_true rfl]
    refine iteF ?_
    have e1013 := e11.trans (e12.trans e13)
    have x313 := x310.trans (ExtN.same e1013)
    have dc13 := ExtN.dp x313 (mom_mk hc hSc hVc : Dp K H3 (.ref c) (momD W (s1 ++ s2))) (mom_imm _ _)
    have d313 := ExtN.dp (x13.trans x313) d3 (mom_imm _ _)
    have d213 := ExtN.dp x313 d23 (mom_imm _ _)
    have d113 := d111.sm (e12.trans e13)
    have no3 : ∀ (l : List Seat), ∀ z ∈ names l, z ∉ names s3 := fun l z _ h => by rw [nm3] at h; cases h
    have no3' : ∀ (l : List Seat), ∀ z ∈ names s3, z ∉ names l := fun l z h _ => by rw [nm3] at h; cases h
    -- all three
    have all3 : ∀ s ∈ s1 ++ s2 ++ s3, Okq 190 90 s.2 ∧ Nm0 s.1 := fun s hs => by
      rcases List.mem_append.mp hs with h | h
      · exact ⟨oq12 s h, mo12.nm s h⟩
      · exact ⟨(m3.ok s h).1, m3.nm s h⟩
    obtain ⟨P4, eP4⟩ : ∃ P4, P4 = momD W (s1 ++ s2 ++ s3) := ⟨_, rfl⟩
    obtain ⟨k1, k2, k3, k4⟩ := ((shm (s1 ++ s2 ++ s3) (by rw [List.length_append]; omega) all3).mono (by omega) (by omega) : Sh 1000000 60 (momD W (s1 ++ s2 ++ s3))).ok (Nat.le_refl _) (Nat.le_refl _)
    rw [← eP4] at k1 k2 k3 k4
    refine ⟨_, rfl, _, rfl, .ref c, v3, W, s1 ++ s2, s3, rfl, dc13, d313, by omega, by omega, no3 _, fun va H14 e14 da => ?_⟩
    refine ⟨_, P4, rfl, by rw [eP4]; exact da, k1, k2, k3, k4, ?_⟩
    refine ⟨_, rfl, _, rfl, _, rfl, v2, v3, W, s2, s3, rfl, d213.sm e14, d313.sm e14, by omega, by omega, no3 _, fun vd H15 e15 dd => ?_⟩
    refine ⟨.ref a, vd, W, s1, s2 ++ s3, rfl, d113.sm (e14.trans e15), dd, by omega, by rw [List.length_append]; omega, fun z h1 h2 => ?_, fun ve H16 e16 de => ?_⟩
    · rw [names_app, nm3, List.append_nil] at h2
      exact dis z h1 h2
    rw [← List.append_assoc] at de
    refine ⟨_, P4, rfl, by rw [eP4]; exact de, k1, k2, k3, k4, rfl, _, rfl, ?_⟩
    rw [decide_eq_true rfl]
    refine iteF ?_
    have e1316 := e14.trans (e15.trans e16)
    have t16 := t10.ext (e1013.trans e1316)
    -- the third ahead
    refine ⟨_, rfl, _, rfl, v3, .ref c, W, s3, s1 ++ s2, rfl, d313.sm e1316, dc13.sm e1316, by omega, by omega, no3' _, fun vf H17 e17 df => ?_⟩
    have e1317 := e1316.trans e17
    have mo3 : MOk 190 W (s3 ++ (s1 ++ s2)) := by
      refine ⟨by rw [List.length_append]; omega, w1, bW, ?_, fun s hs => ?_, fun s hs => ?_, good_app (by omega) m3.g mo12.g⟩
      · rw [names_app, nm3]
        exact mo12.nd
      · rcases List.mem_append.mp hs with h | h
        · exact m3.nm s h
        · exact mo12.nm s h
      · rcases List.mem_append.mp hs with h | h
        · exact ⟨(m3.ok s h).1.okp (by decide) (by decide), (m3.ok s h).2⟩
        · exact mo12.ok s h
    have oq3 : ∀ s ∈ s3 ++ (s1 ++ s2), Okq 190 90 s.2 := fun s hs => by
      rcases List.mem_append.mp hs with h | h
      · exact (m3.ok s h).1
      · exact oq12 s h
    refine ⟨_, rfl, _, rfl, vf, v3, .ref c, W, s3, s1 ++ s2, rfl, df, d313.sm e1317, dc13.sm e1317, mo3, oq3, t16.ext e17, fun H18 x18 t18 => ?_⟩
    exact q H18 (xx1.trans (ExtX.n (x13.trans (x313.trans ((ExtN.same e1317).trans x18))))) t18

end
end WS

set_option Elab.async false
set_option linter.all false
set_option maxRecDepth 100000
set_option maxHeartbeats 4000000
namespace WS
open PySem PySem.Spec PyProof.Rows L2
section
variable {P : Program} {w : World} {K : PySem.W.Frag} {mg : Str → Option Value} {base : Heap}
open TL
theorem ok_law (T : Tx K mg base) {A : Around} (hg : Calm A) : FnAt A P w K mg base CX0 12 T.f_law T.d_law ["_law_script"] (spLawT K T.P_tab) := by
  refine fun_at T.F_law sc_law (fun vs H Q E h => ?_) (fun cdv outer s H vs Q E hr h => ?_)
  · obtain ⟨a, ns, rfl, _⟩ := h
    rfl
  · obtain ⟨a, ns, rfl, hS, hlen, hT, q⟩ := h
    refine ⟨_, PSs.nox (pss_one (ps_ret (pe_callB (cr_all (by rfl)) (by rfl) T.n_all (by decide +kernel) (pa_cons (pe_lc (own := [("_law_k", 1)]) (g := gName 1) (tt := tYes) (by rfl) sc_law.nd (pi_range1 (by rfl) T.n_range (pa_cons (pe_callB (call_max2 (by rfl)) (by rfl) T.n_max (by decide +kernel) (pa_cons pe_int (pa_cons (pe_callB (call_min2 (by rfl)) (by rfl) T.n_min (by decide +kernel) (pa_cons (pe_callB call_len_seq (by rfl) T.n_len (by decide +kernel) (pa_cons (pv 0) pa_nil)) (pa_cons pe_int pa_nil))) pa_nil))) pa_nil)) (blkOk_by (own := [("_law_k", 1)]) (N := ["_law_script", "_law_k"]) (sc := defScope s_law) (by decide +kernel)) (fun _ _ _ _ _ => (pg_name (i := 1) sc_law.nd rfl (.inl rfl))) (fun _ _ _ _ _ => pts_nil) (fun _ _ _ _ _ => (pe_callA (ok_lone T (Calm.down hg _)) (hr.mono (by decide)) (by rfl) T.g_lone T.F_lone.kp T.b_lone .nil pass0 (pa_cons (pe_call (ok_lpot T) (hr.mono (by decide)) (by rfl) T.g_lpot T.F_lpot.kp T.b_lpot .nil pass0 (pa_cons (pv 0) (pa_cons (pv 1) pa_nil))) pa_nil)))) pa_nil)))), ?_⟩
    refine ⟨_, rfl, a, _, rfl, .inl hS, _, _, rfl, _, _, rfl, ?_⟩
    rw [List.length_map]
    refine ⟨_, rfl, ?_, ?_, fun D nD => ?_⟩
    · split <;> omega
    · show (if (if (6 : Int) < ns.length then (6 : Int) else ns.length) > 1 then (if (6 : Int) < ns.length then (6 : Int) else ns.length) else 1) < 2 ^ 62
      split <;> split <;> omega
    · generalize hN : (if (if (6 : Int) < ns.length then (6 : Int) else ns.length) > 1 then (if (6 : Int) < ns.length then (6 : Int) else ns.length) else 1).toNat = N
      have hN2 : N ≤ 6 := by rw [← hN]; split <;> split <;> omega
      refine lc_range (lo := 0) (n := N) (fun i H' => H' D = some (.lst ((List.replicate i true).map V.bl)) ∧ (∀ o, H a = some o → (∀ ps, o ≠ .tbl ps) → H' a = some o) ∧ LamX.TabS H' T.P_tab qLam) ⟨upd_same, fun o e _ => same_new nD a o e, hT.ext (same_new nD)⟩ ?_ ?_
      · rintro i H' hi ⟨hD, hS', t'⟩
        refine ⟨rfl, tyes ?_⟩
        refine iteT ?_
        refine ⟨_, rfl, _, rfl, a, ns, _, rfl, seq_keepN hS hS', by omega, by omega, fun p H2 s2 np hp => ?_⟩
        refine ⟨p, rfl, hp, t'.ext s2, fun H3 s3 t3 => ?_⟩
        have nDp : D ≠ p := ne_of_none hD np
        have hD3 : H3 D = some (.lst ((List.replicate i true).map V.bl)) := s3 D _ nDp (s2 _ _ hD) (fun _ z => by cases z)
        refine ⟨_, hD3, ?_, ?_, ?_, TabS.set t3 hD3⟩
        · rw [List.length_map, List.length_replicate]
          exact small1000 (by omega)
        · rw [upd_same, List.replicate_succ', List.map_append]
          rfl
        · intro o e nt
          rw [upd_ne (ne_of_none e nD)]
          exact s3 a o (ne_of_none (hS' o e nt) np) (s2 a o (hS' o e nt)) nt
      · rintro H' ⟨hD, hS', t'⟩
        refine ⟨D, _, rfl, .inl (.inl hD), ?_⟩
        rw [all_true]
        exact q _


end
end WS

set_option Elab.async false
set_option linter.all false
set_option maxRecDepth 100000
set_option maxHeartbeats 4000000
namespace WS
open PySem PySem.Spec PyProof.Rows L2
theorem all_mk {l : PySem.W.OpenLaw} {w : World} {K : PySem.W.Frag} {h : Heap} {mg : Str → Option Value} {fa : Addr} (X : K.In h) (G : h.Ns mainGlobals mg) (hfa : mg "law" = some (.ref fa))
    {f_is_whole : Addr} {od_is_whole an_is_whole : Option Addr} {sl_is_whole : Array (Option Value)} {oc_is_whole dc_is_whole pm_is_whole cd_is_whole ct_is_whole : Value} {kV_is_whole : Value}
    {f_greatest_common : Addr} {od_greatest_common an_greatest_common : Option Addr} {sl_greatest_common : Array (Option Value)} {oc_greatest_common dc_greatest_common pm_greatest_common cd_greatest_common ct_greatest_common : Value} {kV_greatest_common : Value}
    {f_is_part : Addr} {od_is_part an_is_part : Option Addr} {sl_is_part : Array (Option Value)} {oc_is_part dc_is_part pm_is_part cd_is_part ct_is_part : Value} {kV_is_part : Value}
    {f_part : Addr} {od_part an_part : Option Addr} {sl_part : Array (Option Value)} {oc_part dc_part pm_part cd_part ct_part : Value} {kV_part : Value}
    {dT_part : Addr} {do_part : Option Addr} {dn_part : Nat} {ds_part : Array (Option Value)} {dt_part : Tok}
    {f_plus : Addr} {od_plus an_plus : Option Addr} {sl_plus : Array (Option Value)} {oc_plus dc_plus pm_plus cd_plus ct_plus : Value} {kV_plus : Value}
    {f_is_less : Addr} {od_is_less an_is_less : Option Addr} {sl_is_less : Array (Option Value)} {oc_is_less dc_is_less pm_is_less cd_is_less ct_is_less : Value} {kV_is_less : Value}
    {f_total : Addr} {od_total an_total : Option Addr} {sl_total : Array (Option Value)} {oc_total dc_total pm_total cd_total ct_total : Value}
    {kD_total : Addr}
    {f_common_below : Addr} {od_common_below an_common_below : Option Addr} {sl_common_below : Array (Option Value)} {oc_common_below dc_common_below pm_common_below cd_common_below ct_common_below : Value} {kV_common_below : Value}
    {f_greatest_first : Addr} {od_greatest_first an_greatest_first : Option Addr} {sl_greatest_first : Array (Option Value)} {oc_greatest_first dc_greatest_first pm_greatest_first cd_greatest_first ct_greatest_first : Value} {kV_greatest_first : Value}
    {f_sums_ahead : Addr} {od_sums_ahead an_sums_ahead : Option Addr} {sl_sums_ahead : Array (Option Value)} {oc_sums_ahead dc_sums_ahead pm_sums_ahead cd_sums_ahead ct_sums_ahead : Value} {kV_sums_ahead : Value}
    {f_most : Addr} {od_most an_most : Option Addr} {sl_most : Array (Option Value)} {oc_most dc_most pm_most cd_most ct_most : Value} {kV_most : Value}
    {f_fall : Addr} {od_fall an_fall : Option Addr} {sl_fall : Array (Option Value)} {oc_fall dc_fall pm_fall cd_fall ct_fall : Value} {kV_fall : Value}
    {f_is_within : Addr} {od_is_within an_is_within : Option Addr} {sl_is_within : Array (Option Value)} {oc_is_within dc_is_within pm_is_within cd_is_within ct_is_within : Value} {kV_is_within : Value}
    {f_places_beyond : Addr} {od_places_beyond an_places_beyond : Option Addr} {sl_places_beyond : Array (Option Value)} {oc_places_beyond dc_places_beyond pm_places_beyond cd_places_beyond ct_places_beyond : Value} {kV_places_beyond : Value}
    {f_is_name : Addr} {od_is_name an_is_name : Option Addr} {sl_is_name : Array (Option Value)} {oc_is_name dc_is_name pm_is_name cd_is_name ct_is_name : Value} {kV_is_name : Value}
    {f_is_weight : Addr} {od_is_weight an_is_weight : Option Addr} {sl_is_weight : Array (Option Value)} {oc_is_weight dc_is_weight pm_is_weight cd_is_weight ct_is_weight : Value} {kV_is_weight : Value}
    {f_is_pair : Addr} {od_is_pair an_is_pair : Option Addr} {sl_is_pair : Array (Option Value)} {oc_is_pair dc_is_pair pm_is_pair cd_is_pair ct_is_pair : Value} {kV_is_pair : Value}
    {f_is_seat : Addr} {od_is_seat an_is_seat : Option Addr} {sl_is_seat : Array (Option Value)} {oc_is_seat dc_is_seat pm_is_seat cd_is_seat ct_is_seat : Value} {kV_is_seat : Value}
    {f_is_moment : Addr} {od_is_moment an_is_moment : Option Addr} {sl_is_moment : Array (Option Value)} {oc_is_moment dc_is_moment pm_is_moment cd_is_moment ct_is_moment : Value} {kV_is_moment : Value}
    {f_check_weight : Addr} {od_check_weight an_check_weight : Option Addr} {sl_check_weight : Array (Option Value)} {oc_check_weight dc_check_weight pm_check_weight cd_check_weight ct_check_weight : Value} {kV_check_weight : Value}
    {f_moment_of : Addr} {od_moment_of an_moment_of : Option Addr} {sl_moment_of : Array (Option Value)} {oc_moment_of dc_moment_of pm_moment_of cd_moment_of ct_moment_of : Value} {kV_moment_of : Value}
    {f_owing : Addr} {od_owing an_owing : Option Addr} {sl_owing : Array (Option Value)} {oc_owing dc_owing pm_owing cd_owing ct_owing : Value} {kV_owing : Value}
    {f_persons : Addr} {od_persons an_persons : Option Addr} {sl_persons : Array (Option Value)} {oc_persons dc_persons pm_persons cd_persons ct_persons : Value} {kV_persons : Value}
    {f_kitty : Addr} {od_kitty an_kitty : Option Addr} {sl_kitty : Array (Option Value)} {oc_kitty dc_kitty pm_kitty cd_kitty ct_kitty : Value} {kV_kitty : Value}
    {f_sits : Addr} {od_sits an_sits : Option Addr} {sl_sits : Array (Option Value)} {oc_sits dc_sits pm_sits cd_sits ct_sits : Value} {kV_sits : Value}
    {f_seat_of : Addr} {od_seat_of an_seat_of : Option Addr} {sl_seat_of : Array (Option Value)} {oc_seat_of dc_seat_of pm_seat_of cd_seat_of ct_seat_of : Value} {kV_seat_of : Value}
    {f_owes : Addr} {od_owes an_owes : Option Addr} {sl_owes : Array (Option Value)} {oc_owes dc_owes pm_owes cd_owes ct_owes : Value} {kV_owes : Value}
    {f_check_seats : Addr} {od_check_seats an_check_seats : Option Addr} {sl_check_seats : Array (Option Value)} {oc_check_seats dc_check_seats pm_check_seats cd_check_seats ct_check_seats : Value} {kV_check_seats : Value}
    {f_check_within : Addr} {od_check_within an_check_within : Option Addr} {sl_check_within : Array (Option Value)} {oc_check_within dc_check_within pm_check_within cd_check_within ct_check_within : Value} {kV_check_within : Value}
    {f_joined : Addr} {od_joined an_joined : Option Addr} {sl_joined : Array (Option Value)} {oc_joined dc_joined pm_joined cd_joined ct_joined : Value} {kV_joined : Value}
    {f_seats_alone : Addr} {od_seats_alone an_seats_alone : Option Addr} {sl_seats_alone : Array (Option Value)} {oc_seats_alone dc_seats_alone pm_seats_alone cd_seats_alone ct_seats_alone : Value} {kV_seats_alone : Value}
    {f_parted : Addr} {od_parted an_parted : Option Addr} {sl_parted : Array (Option Value)} {oc_parted dc_parted pm_parted cd_parted ct_parted : Value} {kV_parted : Value}
    {f_lpot : Addr} {od_lpot an_lpot : Option Addr} {sl_lpot : Array (Option Value)} {oc_lpot dc_lpot pm_lpot cd_lpot ct_lpot : Value} {kV_lpot : Value}
    {f_ldigit : Addr} {od_ldigit an_ldigit : Option Addr} {sl_ldigit : Array (Option Value)} {oc_ldigit dc_ldigit pm_ldigit cd_ldigit ct_ldigit : Value} {kV_ldigit : Value}
    {f_lname : Addr} {od_lname an_lname : Option Addr} {sl_lname : Array (Option Value)} {oc_lname dc_lname pm_lname cd_lname ct_lname : Value} {kV_lname : Value}
    {f_lnames : Addr} {od_lnames an_lnames : Option Addr} {sl_lnames : Array (Option Value)} {oc_lnames dc_lnames pm_lnames cd_lnames ct_lnames : Value} {kV_lnames : Value}
    {f_llow : Addr} {od_llow an_llow : Option Addr} {sl_llow : Array (Option Value)} {oc_llow dc_llow pm_llow cd_llow ct_llow : Value} {kV_llow : Value}
    {f_lplus : Addr} {od_lplus an_lplus : Option Addr} {sl_lplus : Array (Option Value)} {oc_lplus dc_lplus pm_lplus cd_lplus ct_lplus : Value} {kV_lplus : Value}
    {f_lless : Addr} {od_lless an_lless : Option Addr} {sl_lless : Array (Option Value)} {oc_lless dc_lless pm_lless cd_lless ct_lless : Value} {kV_lless : Value}
    {f_lsum : Addr} {od_lsum an_lsum : Option Addr} {sl_lsum : Array (Option Value)} {oc_lsum dc_lsum pm_lsum cd_lsum ct_lsum : Value} {kV_lsum : Value}
    {f_lfirst : Addr} {od_lfirst an_lfirst : Option Addr} {sl_lfirst : Array (Option Value)} {oc_lfirst dc_lfirst pm_lfirst cd_lfirst ct_lfirst : Value} {kV_lfirst : Value}
    {f_lmost : Addr} {od_lmost an_lmost : Option Addr} {sl_lmost : Array (Option Value)} {oc_lmost dc_lmost pm_lmost cd_lmost ct_lmost : Value} {kV_lmost : Value}
    {f_lfalls : Addr} {od_lfalls an_lfalls : Option Addr} {sl_lfalls : Array (Option Value)} {oc_lfalls dc_lfalls pm_lfalls cd_lfalls ct_lfalls : Value} {kV_lfalls : Value}
    {f_lnumber : Addr} {od_lnumber an_lnumber : Option Addr} {sl_lnumber : Array (Option Value)} {oc_lnumber dc_lnumber pm_lnumber cd_lnumber ct_lnumber : Value} {kV_lnumber : Value}
    {f_lrow : Addr} {od_lrow an_lrow : Option Addr} {sl_lrow : Array (Option Value)} {oc_lrow dc_lrow pm_lrow cd_lrow ct_lrow : Value} {kV_lrow : Value}
    {f_lweight : Addr} {od_lweight an_lweight : Option Addr} {sl_lweight : Array (Option Value)} {oc_lweight dc_lweight pm_lweight cd_lweight ct_lweight : Value} {kV_lweight : Value}
    {f_lthree : Addr} {od_lthree an_lthree : Option Addr} {sl_lthree : Array (Option Value)} {oc_lthree dc_lthree pm_lthree cd_lthree ct_lthree : Value} {kV_lthree : Value}
    {f_lempty_owed : Addr} {od_lempty_owed an_lempty_owed : Option Addr} {sl_lempty_owed : Array (Option Value)} {oc_lempty_owed dc_lempty_owed pm_lempty_owed cd_lempty_owed ct_lempty_owed : Value} {kV_lempty_owed : Value}
    {f_lwhole_right : Addr} {od_lwhole_right an_lwhole_right : Option Addr} {sl_lwhole_right : Array (Option Value)} {oc_lwhole_right dc_lwhole_right pm_lwhole_right cd_lwhole_right ct_lwhole_right : Value} {kV_lwhole_right : Value}
    {f_lone : Addr} {od_lone an_lone : Option Addr} {sl_lone : Array (Option Value)} {oc_lone dc_lone pm_lone cd_lone ct_lone : Value} {kV_lone : Value}
    {f_law : Addr} {od_law an_law : Option Addr} {sl_law : Array (Option Value)} {oc_law dc_law pm_law cd_law ct_law : Value} {kV_law : Value}
    {a_NOUGHT : Addr} {ao_NOUGHT : Option Addr} {an_NOUGHT : Nat} {as_NOUGHT : Array (Option Value)} {at0_NOUGHT at1_NOUGHT : Tok}
    {te_EMPTY : Tok}
    {c_tab P_tab : Addr}
    (a_is_whole : PySem.W.nsIn K mainGlobals "is_whole" = some (some (.ref f_is_whole)))
    (l_is_whole : K.lookup f_is_whole = some ⟨oc_is_whole, od_is_whole, .func (PySem.W.fnOf "is_whole" "is_whole" (defArgs s_is_whole) (defBody s_is_whole) (defScope s_is_whole) .none kV_is_whole dc_is_whole pm_is_whole an_is_whole cd_is_whole ct_is_whole), sl_is_whole⟩)
    (c_is_whole : PySem.W.codeIn K cd_is_whole "is_whole" = true) (k_is_whole : PySem.W.keepIn K (.ref f_is_whole) = true)
    (a_greatest_common : PySem.W.nsIn K mainGlobals "greatest_common" = some (some (.ref f_greatest_common)))
    (l_greatest_common : K.lookup f_greatest_common = some ⟨oc_greatest_common, od_greatest_common, .func (PySem.W.fnOf "greatest_common" "greatest_common" (defArgs s_greatest_common) (defBody s_greatest_common) (defScope s_greatest_common) .none kV_greatest_common dc_greatest_common pm_greatest_common an_greatest_common cd_greatest_common ct_greatest_common), sl_greatest_common⟩)
    (c_greatest_common : PySem.W.codeIn K cd_greatest_common "greatest_common" = true) (k_greatest_common : PySem.W.keepIn K (.ref f_greatest_common) = true)
    (a_is_part : PySem.W.nsIn K mainGlobals "is_part" = some (some (.ref f_is_part)))
    (l_is_part : K.lookup f_is_part = some ⟨oc_is_part, od_is_part, .func (PySem.W.fnOf "is_part" "is_part" (defArgs s_is_part) (defBody s_is_part) (defScope s_is_part) .none kV_is_part dc_is_part pm_is_part an_is_part cd_is_part ct_is_part), sl_is_part⟩)
    (c_is_part : PySem.W.codeIn K cd_is_part "is_part" = true) (k_is_part : PySem.W.keepIn K (.ref f_is_part) = true)
    (a_part : PySem.W.nsIn K mainGlobals "part" = some (some (.ref f_part)))
    (l_part : K.lookup f_part = some ⟨oc_part, od_part, .func (PySem.W.fnOf "part" "part" (defArgs s_part) (defBody s_part) (defScope s_part) (.ref dT_part) kV_part dc_part pm_part an_part cd_part ct_part), sl_part⟩)
    (c_part : PySem.W.codeIn K cd_part "part" = true) (k_part : PySem.W.keepIn K (.ref f_part) = true)
    (q_part : K.lookup dT_part = some ⟨.type "tuple", do_part, .seq #[.int 1 dt_part] dn_part, ds_part⟩)
    (a_plus : PySem.W.nsIn K mainGlobals "plus" = some (some (.ref f_plus)))
    (l_plus : K.lookup f_plus = some ⟨oc_plus, od_plus, .func (PySem.W.fnOf "plus" "plus" (defArgs s_plus) (defBody s_plus) (defScope s_plus) .none kV_plus dc_plus pm_plus an_plus cd_plus ct_plus), sl_plus⟩)
    (c_plus : PySem.W.codeIn K cd_plus "plus" = true) (k_plus : PySem.W.keepIn K (.ref f_plus) = true)
    (a_is_less : PySem.W.nsIn K mainGlobals "is_less" = some (some (.ref f_is_less)))
    (l_is_less : K.lookup f_is_less = some ⟨oc_is_less, od_is_less, .func (PySem.W.fnOf "is_less" "is_less" (defArgs s_is_less) (defBody s_is_less) (defScope s_is_less) .none kV_is_less dc_is_less pm_is_less an_is_less cd_is_less ct_is_less), sl_is_less⟩)
    (c_is_less : PySem.W.codeIn K cd_is_less "is_less" = true) (k_is_less : PySem.W.keepIn K (.ref f_is_less) = true)
    (a_total : PySem.W.nsIn K mainGlobals "total" = some (some (.ref f_total)))
    (l_total : K.lookup f_total = some ⟨oc_total, od_total, .func (PySem.W.fnOf "total" "total" (defArgs s_total) (defBody s_total) (defScope s_total) .none (.ref kD_total) dc_total pm_total an_total cd_total ct_total), sl_total⟩)
    (c_total : PySem.W.codeIn K cd_total "total" = true) (k_total : PySem.W.keepIn K (.ref f_total) = true)
    (kd_total : PySem.W.nsIn K kD_total "start" = some (some (.ref a_NOUGHT)))
    (a_common_below : PySem.W.nsIn K mainGlobals "common_below" = some (some (.ref f_common_below)))
    (l_common_below : K.lookup f_common_below = some ⟨oc_common_below, od_common_below, .func (PySem.W.fnOf "common_below" "common_below" (defArgs s_common_below) (defBody s_common_below) (defScope s_common_below) .none kV_common_below dc_common_below pm_common_below an_common_below cd_common_below ct_common_below), sl_common_below⟩)
    (c_common_below : PySem.W.codeIn K cd_common_below "common_below" = true) (k_common_below : PySem.W.keepIn K (.ref f_common_below) = true)
    (a_greatest_first : PySem.W.nsIn K mainGlobals "greatest_first" = some (some (.ref f_greatest_first)))
    (l_greatest_first : K.lookup f_greatest_first = some ⟨oc_greatest_first, od_greatest_first, .func (PySem.W.fnOf "greatest_first" "greatest_first" (defArgs s_greatest_first) (defBody s_greatest_first) (defScope s_greatest_first) .none kV_greatest_first dc_greatest_first pm_greatest_first an_greatest_first cd_greatest_first ct_greatest_first), sl_greatest_first⟩)
    (c_greatest_first : PySem.W.codeIn K cd_greatest_first "greatest_first" = true) (k_greatest_first : PySem.W.keepIn K (.ref f_greatest_first) = true)
    (a_sums_ahead : PySem.W.nsIn K mainGlobals "sums_ahead" = some (some (.ref f_sums_ahead)))
    (l_sums_ahead : K.lookup f_sums_ahead = some ⟨oc_sums_ahead, od_sums_ahead, .func (PySem.W.fnOf "sums_ahead" "sums_ahead" (defArgs s_sums_ahead) (defBody s_sums_ahead) (defScope s_sums_ahead) .none kV_sums_ahead dc_sums_ahead pm_sums_ahead an_sums_ahead cd_sums_ahead ct_sums_ahead), sl_sums_ahead⟩)
    (c_sums_ahead : PySem.W.codeIn K cd_sums_ahead "sums_ahead" = true) (k_sums_ahead : PySem.W.keepIn K (.ref f_sums_ahead) = true)
    (a_most : PySem.W.nsIn K mainGlobals "most" = some (some (.ref f_most)))
    (l_most : K.lookup f_most = some ⟨oc_most, od_most, .func (PySem.W.fnOf "most" "most" (defArgs s_most) (defBody s_most) (defScope s_most) .none kV_most dc_most pm_most an_most cd_most ct_most), sl_most⟩)
    (c_most : PySem.W.codeIn K cd_most "most" = true) (k_most : PySem.W.keepIn K (.ref f_most) = true)
    (a_fall : PySem.W.nsIn K mainGlobals "fall" = some (some (.ref f_fall)))
    (l_fall : K.lookup f_fall = some ⟨oc_fall, od_fall, .func (PySem.W.fnOf "fall" "fall" (defArgs s_fall) (defBody s_fall) (defScope s_fall) .none kV_fall dc_fall pm_fall an_fall cd_fall ct_fall), sl_fall⟩)
    (c_fall : PySem.W.codeIn K cd_fall "fall" = true) (k_fall : PySem.W.keepIn K (.ref f_fall) = true)
    (a_is_within : PySem.W.nsIn K mainGlobals "is_within" = some (some (.ref f_is_within)))
    (l_is_within : K.lookup f_is_within = some ⟨oc_is_within, od_is_within, .func (PySem.W.fnOf "is_within" "is_within" (defArgs s_is_within) (defBody s_is_within) (defScope s_is_within) .none kV_is_within dc_is_within pm_is_within an_is_within cd_is_within ct_is_within), sl_is_within⟩)
    (c_is_within : PySem.W.codeIn K cd_is_within "is_within" = true) (k_is_within : PySem.W.keepIn K (.ref f_is_within) = true)
    (a_places_beyond : PySem.W.nsIn K mainGlobals "places_beyond" = some (some (.ref f_places_beyond)))
    (l_places_beyond : K.lookup f_places_beyond = some ⟨oc_places_beyond, od_places_beyond, .func (PySem.W.fnOf "places_beyond" "places_beyond" (defArgs s_places_beyond) (defBody s_places_beyond) (defScope s_places_beyond) .none kV_places_beyond dc_places_beyond pm_places_beyond an_places_beyond cd_places_beyond ct_places_beyond), sl_places_beyond⟩)
    (c_places_beyond : PySem.W.codeIn K cd_places_beyond "places_beyond" = true) (k_places_beyond : PySem.W.keepIn K (.ref f_places_beyond) = true)
    (a_is_name : PySem.W.nsIn K mainGlobals "is_name" = some (some (.ref f_is_name)))
    (l_is_name : K.lookup f_is_name = some ⟨oc_is_name, od_is_name, .func (PySem.W.fnOf "is_name" "is_name" (defArgs s_is_name) (defBody s_is_name) (defScope s_is_name) .none kV_is_name dc_is_name pm_is_name an_is_name cd_is_name ct_is_name), sl_is_name⟩)
    (c_is_name : PySem.W.codeIn K cd_is_name "is_name" = true) (k_is_name : PySem.W.keepIn K (.ref f_is_name) = true)
    (a_is_weight : PySem.W.nsIn K mainGlobals "is_weight" = some (some (.ref f_is_weight)))
    (l_is_weight : K.lookup f_is_weight = some ⟨oc_is_weight, od_is_weight, .func (PySem.W.fnOf "is_weight" "is_weight" (defArgs s_is_weight) (defBody s_is_weight) (defScope s_is_weight) .none kV_is_weight dc_is_weight pm_is_weight an_is_weight cd_is_weight ct_is_weight), sl_is_weight⟩)
    (c_is_weight : PySem.W.codeIn K cd_is_weight "is_weight" = true) (k_is_weight : PySem.W.keepIn K (.ref f_is_weight) = true)
    (a_is_pair : PySem.W.nsIn K mainGlobals "is_pair" = some (some (.ref f_is_pair)))
    (l_is_pair : K.lookup f_is_pair = some ⟨oc_is_pair, od_is_pair, .func (PySem.W.fnOf "is_pair" "is_pair" (defArgs s_is_pair) (defBody s_is_pair) (defScope s_is_pair) .none kV_is_pair dc_is_pair pm_is_pair an_is_pair cd_is_pair ct_is_pair), sl_is_pair⟩)
    (c_is_pair : PySem.W.codeIn K cd_is_pair "is_pair" = true) (k_is_pair : PySem.W.keepIn K (.ref f_is_pair) = true)
    (a_is_seat : PySem.W.nsIn K mainGlobals "is_seat" = some (some (.ref f_is_seat)))
    (l_is_seat : K.lookup f_is_seat = some ⟨oc_is_seat, od_is_seat, .func (PySem.W.fnOf "is_seat" "is_seat" (defArgs s_is_seat) (defBody s_is_seat) (defScope s_is_seat) .none kV_is_seat dc_is_seat pm_is_seat an_is_seat cd_is_seat ct_is_seat), sl_is_seat⟩)
    (c_is_seat : PySem.W.codeIn K cd_is_seat "is_seat" = true) (k_is_seat : PySem.W.keepIn K (.ref f_is_seat) = true)
    (a_is_moment : PySem.W.nsIn K mainGlobals "is_moment" = some (some (.ref f_is_moment)))
    (l_is_moment : K.lookup f_is_moment = some ⟨oc_is_moment, od_is_moment, .func (PySem.W.fnOf "is_moment" "is_moment" (defArgs s_is_moment) (defBody s_is_moment) (defScope s_is_moment) .none kV_is_moment dc_is_moment pm_is_moment an_is_moment cd_is_moment ct_is_moment), sl_is_moment⟩)
    (c_is_moment : PySem.W.codeIn K cd_is_moment "is_moment" = true) (k_is_moment : PySem.W.keepIn K (.ref f_is_moment) = true)
    (a_check_weight : PySem.W.nsIn K mainGlobals "check_weight" = some (some (.ref f_check_weight)))
    (l_check_weight : K.lookup f_check_weight = some ⟨oc_check_weight, od_check_weight, .func (PySem.W.fnOf "check_weight" "check_weight" (defArgs s_check_weight) (defBody s_check_weight) (defScope s_check_weight) .none kV_check_weight dc_check_weight pm_check_weight an_check_weight cd_check_weight ct_check_weight), sl_check_weight⟩)
    (c_check_weight : PySem.W.codeIn K cd_check_weight "check_weight" = true) (k_check_weight : PySem.W.keepIn K (.ref f_check_weight) = true)
    (a_moment_of : PySem.W.nsIn K mainGlobals "moment_of" = some (some (.ref f_moment_of)))
    (l_moment_of : K.lookup f_moment_of = some ⟨oc_moment_of, od_moment_of, .func (PySem.W.fnOf "moment_of" "moment_of" (defArgs s_moment_of) (defBody s_moment_of) (defScope s_moment_of) .none kV_moment_of dc_moment_of pm_moment_of an_moment_of cd_moment_of ct_moment_of), sl_moment_of⟩)
    (c_moment_of : PySem.W.codeIn K cd_moment_of "moment_of" = true) (k_moment_of : PySem.W.keepIn K (.ref f_moment_of) = true)
    (a_owing : PySem.W.nsIn K mainGlobals "owing" = some (some (.ref f_owing)))
    (l_owing : K.lookup f_owing = some ⟨oc_owing, od_owing, .func (PySem.W.fnOf "owing" "owing" (defArgs s_owing) (defBody s_owing) (defScope s_owing) .none kV_owing dc_owing pm_owing an_owing cd_owing ct_owing), sl_owing⟩)
    (c_owing : PySem.W.codeIn K cd_owing "owing" = true) (k_owing : PySem.W.keepIn K (.ref f_owing) = true)
    (a_persons : PySem.W.nsIn K mainGlobals "persons" = some (some (.ref f_persons)))
    (l_persons : K.lookup f_persons = some ⟨oc_persons, od_persons, .func (PySem.W.fnOf "persons" "persons" (defArgs s_persons) (defBody s_persons) (defScope s_persons) .none kV_persons dc_persons pm_persons an_persons cd_persons ct_persons), sl_persons⟩)
    (c_persons : PySem.W.codeIn K cd_persons "persons" = true) (k_persons : PySem.W.keepIn K (.ref f_persons) = true)
    (a_kitty : PySem.W.nsIn K mainGlobals "kitty" = some (some (.ref f_kitty)))
    (l_kitty : K.lookup f_kitty = some ⟨oc_kitty, od_kitty, .func (PySem.W.fnOf "kitty" "kitty" (defArgs s_kitty) (defBody s_kitty) (defScope s_kitty) .none kV_kitty dc_kitty pm_kitty an_kitty cd_kitty ct_kitty), sl_kitty⟩)
    (c_kitty : PySem.W.codeIn K cd_kitty "kitty" = true) (k_kitty : PySem.W.keepIn K (.ref f_kitty) = true)
    (a_sits : PySem.W.nsIn K mainGlobals "sits" = some (some (.ref f_sits)))
    (l_sits : K.lookup f_sits = some ⟨oc_sits, od_sits, .func (PySem.W.fnOf "sits" "sits" (defArgs s_sits) (defBody s_sits) (defScope s_sits) .none kV_sits dc_sits pm_sits an_sits cd_sits ct_sits), sl_sits⟩)
    (c_sits : PySem.W.codeIn K cd_sits "sits" = true) (k_sits : PySem.W.keepIn K (.ref f_sits) = true)
    (a_seat_of : PySem.W.nsIn K mainGlobals "seat_of" = some (some (.ref f_seat_of)))
    (l_seat_of : K.lookup f_seat_of = some ⟨oc_seat_of, od_seat_of, .func (PySem.W.fnOf "seat_of" "seat_of" (defArgs s_seat_of) (defBody s_seat_of) (defScope s_seat_of) .none kV_seat_of dc_seat_of pm_seat_of an_seat_of cd_seat_of ct_seat_of), sl_seat_of⟩)
    (c_seat_of : PySem.W.codeIn K cd_seat_of "seat_of" = true) (k_seat_of : PySem.W.keepIn K (.ref f_seat_of) = true)
    (a_owes : PySem.W.nsIn K mainGlobals "owes" = some (some (.ref f_owes)))
    (l_owes : K.lookup f_owes = some ⟨oc_owes, od_owes, .func (PySem.W.fnOf "owes" "owes" (defArgs s_owes) (defBody s_owes) (defScope s_owes) .none kV_owes dc_owes pm_owes an_owes cd_owes ct_owes), sl_owes⟩)
    (c_owes : PySem.W.codeIn K cd_owes "owes" = true) (k_owes : PySem.W.keepIn K (.ref f_owes) = true)
    (a_check_seats : PySem.W.nsIn K mainGlobals "check_seats" = some (some (.ref f_check_seats)))
    (l_check_seats : K.lookup f_check_seats = some ⟨oc_check_seats, od_check_seats, .func (PySem.W.fnOf "check_seats" "check_seats" (defArgs s_check_seats) (defBody s_check_seats) (defScope s_check_seats) .none kV_check_seats dc_check_seats pm_check_seats an_check_seats cd_check_seats ct_check_seats), sl_check_seats⟩)
    (c_check_seats : PySem.W.codeIn K cd_check_seats "check_seats" = true) (k_check_seats : PySem.W.keepIn K (.ref f_check_seats) = true)
    (a_check_within : PySem.W.nsIn K mainGlobals "check_within" = some (some (.ref f_check_within)))
    (l_check_within : K.lookup f_check_within = some ⟨oc_check_within, od_check_within, .func (PySem.W.fnOf "check_within" "check_within" (defArgs s_check_within) (defBody s_check_within) (defScope s_check_within) .none kV_check_within dc_check_within pm_check_within an_check_within cd_check_within ct_check_within), sl_check_within⟩)
    (c_check_within : PySem.W.codeIn K cd_check_within "check_within" = true) (k_check_within : PySem.W.keepIn K (.ref f_check_within) = true)
    (a_joined : PySem.W.nsIn K mainGlobals "joined" = some (some (.ref f_joined)))
    (l_joined : K.lookup f_joined = some ⟨oc_joined, od_joined, .func (PySem.W.fnOf "joined" "joined" (defArgs s_joined) (defBody s_joined) (defScope s_joined) .none kV_joined dc_joined pm_joined an_joined cd_joined ct_joined), sl_joined⟩)
    (c_joined : PySem.W.codeIn K cd_joined "joined" = true) (k_joined : PySem.W.keepIn K (.ref f_joined) = true)
    (a_seats_alone : PySem.W.nsIn K mainGlobals "seats_alone" = some (some (.ref f_seats_alone)))
    (l_seats_alone : K.lookup f_seats_alone = some ⟨oc_seats_alone, od_seats_alone, .func (PySem.W.fnOf "seats_alone" "seats_alone" (defArgs s_seats_alone) (defBody s_seats_alone) (defScope s_seats_alone) .none kV_seats_alone dc_seats_alone pm_seats_alone an_seats_alone cd_seats_alone ct_seats_alone), sl_seats_alone⟩)
    (c_seats_alone : PySem.W.codeIn K cd_seats_alone "seats_alone" = true) (k_seats_alone : PySem.W.keepIn K (.ref f_seats_alone) = true)
    (a_parted : PySem.W.nsIn K mainGlobals "parted" = some (some (.ref f_parted)))
    (l_parted : K.lookup f_parted = some ⟨oc_parted, od_parted, .func (PySem.W.fnOf "parted" "parted" (defArgs s_parted) (defBody s_parted) (defScope s_parted) .none kV_parted dc_parted pm_parted an_parted cd_parted ct_parted), sl_parted⟩)
    (c_parted : PySem.W.codeIn K cd_parted "parted" = true) (k_parted : PySem.W.keepIn K (.ref f_parted) = true)
    (a_lpot : PySem.W.nsIn K mainGlobals "_law_pot" = some (some (.ref f_lpot)))
    (l_lpot : K.lookup f_lpot = some ⟨oc_lpot, od_lpot, .func (PySem.W.fnOf "_law_pot" "_law_pot" (defArgs s_lpot) (defBody s_lpot) (defScope s_lpot) .none kV_lpot dc_lpot pm_lpot an_lpot cd_lpot ct_lpot), sl_lpot⟩)
    (c_lpot : PySem.W.codeIn K cd_lpot "_law_pot" = true) (k_lpot : PySem.W.keepIn K (.ref f_lpot) = true)
    (a_ldigit : PySem.W.nsIn K mainGlobals "_law_digit" = some (some (.ref f_ldigit)))
    (l_ldigit : K.lookup f_ldigit = some ⟨oc_ldigit, od_ldigit, .func (PySem.W.fnOf "_law_digit" "_law_digit" (defArgs s_ldigit) (defBody s_ldigit) (defScope s_ldigit) .none kV_ldigit dc_ldigit pm_ldigit an_ldigit cd_ldigit ct_ldigit), sl_ldigit⟩)
    (c_ldigit : PySem.W.codeIn K cd_ldigit "_law_digit" = true) (k_ldigit : PySem.W.keepIn K (.ref f_ldigit) = true)
    (a_lname : PySem.W.nsIn K mainGlobals "_law_name" = some (some (.ref f_lname)))
    (l_lname : K.lookup f_lname = some ⟨oc_lname, od_lname, .func (PySem.W.fnOf "_law_name" "_law_name" (defArgs s_lname) (defBody s_lname) (defScope s_lname) .none kV_lname dc_lname pm_lname an_lname cd_lname ct_lname), sl_lname⟩)
    (c_lname : PySem.W.codeIn K cd_lname "_law_name" = true) (k_lname : PySem.W.keepIn K (.ref f_lname) = true)
    (a_lnames : PySem.W.nsIn K mainGlobals "_law_names" = some (some (.ref f_lnames)))
    (l_lnames : K.lookup f_lnames = some ⟨oc_lnames, od_lnames, .func (PySem.W.fnOf "_law_names" "_law_names" (defArgs s_lnames) (defBody s_lnames) (defScope s_lnames) .none kV_lnames dc_lnames pm_lnames an_lnames cd_lnames ct_lnames), sl_lnames⟩)
    (c_lnames : PySem.W.codeIn K cd_lnames "_law_names" = true) (k_lnames : PySem.W.keepIn K (.ref f_lnames) = true)
    (a_llow : PySem.W.nsIn K mainGlobals "_law_low" = some (some (.ref f_llow)))
    (l_llow : K.lookup f_llow = some ⟨oc_llow, od_llow, .func (PySem.W.fnOf "_law_low" "_law_low" (defArgs s_llow) (defBody s_llow) (defScope s_llow) .none kV_llow dc_llow pm_llow an_llow cd_llow ct_llow), sl_llow⟩)
    (c_llow : PySem.W.codeIn K cd_llow "_law_low" = true) (k_llow : PySem.W.keepIn K (.ref f_llow) = true)
    (a_lplus : PySem.W.nsIn K mainGlobals "_law_plus" = some (some (.ref f_lplus)))
    (l_lplus : K.lookup f_lplus = some ⟨oc_lplus, od_lplus, .func (PySem.W.fnOf "_law_plus" "_law_plus" (defArgs s_lplus) (defBody s_lplus) (defScope s_lplus) .none kV_lplus dc_lplus pm_lplus an_lplus cd_lplus ct_lplus), sl_lplus⟩)
    (c_lplus : PySem.W.codeIn K cd_lplus "_law_plus" = true) (k_lplus : PySem.W.keepIn K (.ref f_lplus) = true)
    (a_lless : PySem.W.nsIn K mainGlobals "_law_less" = some (some (.ref f_lless)))
    (l_lless : K.lookup f_lless = some ⟨oc_lless, od_lless, .func (PySem.W.fnOf "_law_less" "_law_less" (defArgs s_lless) (defBody s_lless) (defScope s_lless) .none kV_lless dc_lless pm_lless an_lless cd_lless ct_lless), sl_lless⟩)
    (c_lless : PySem.W.codeIn K cd_lless "_law_less" = true) (k_lless : PySem.W.keepIn K (.ref f_lless) = true)
    (a_lsum : PySem.W.nsIn K mainGlobals "_law_sum" = some (some (.ref f_lsum)))
    (l_lsum : K.lookup f_lsum = some ⟨oc_lsum, od_lsum, .func (PySem.W.fnOf "_law_sum" "_law_sum" (defArgs s_lsum) (defBody s_lsum) (defScope s_lsum) .none kV_lsum dc_lsum pm_lsum an_lsum cd_lsum ct_lsum), sl_lsum⟩)
    (c_lsum : PySem.W.codeIn K cd_lsum "_law_sum" = true) (k_lsum : PySem.W.keepIn K (.ref f_lsum) = true)
    (a_lfirst : PySem.W.nsIn K mainGlobals "_law_first" = some (some (.ref f_lfirst)))
    (l_lfirst : K.lookup f_lfirst = some ⟨oc_lfirst, od_lfirst, .func (PySem.W.fnOf "_law_first" "_law_first" (defArgs s_lfirst) (defBody s_lfirst) (defScope s_lfirst) .none kV_lfirst dc_lfirst pm_lfirst an_lfirst cd_lfirst ct_lfirst), sl_lfirst⟩)
    (c_lfirst : PySem.W.codeIn K cd_lfirst "_law_first" = true) (k_lfirst : PySem.W.keepIn K (.ref f_lfirst) = true)
    (a_lmost : PySem.W.nsIn K mainGlobals "_law_most" = some (some (.ref f_lmost)))
    (l_lmost : K.lookup f_lmost = some ⟨oc_lmost, od_lmost, .func (PySem.W.fnOf "_law_most" "_law_most" (defArgs s_lmost) (defBody s_lmost) (defScope s_lmost) .none kV_lmost dc_lmost pm_lmost an_lmost cd_lmost ct_lmost), sl_lmost⟩)
    (c_lmost : PySem.W.codeIn K cd_lmost "_law_most" = true) (k_lmost : PySem.W.keepIn K (.ref f_lmost) = true)
    (a_lfalls : PySem.W.nsIn K mainGlobals "_law_falls" = some (some (.ref f_lfalls)))
    (l_lfalls : K.lookup f_lfalls = some ⟨oc_lfalls, od_lfalls, .func (PySem.W.fnOf "_law_falls" "_law_falls" (defArgs s_lfalls) (defBody s_lfalls) (defScope s_lfalls) .none kV_lfalls dc_lfalls pm_lfalls an_lfalls cd_lfalls ct_lfalls), sl_lfalls⟩)
    (c_lfalls : PySem.W.codeIn K cd_lfalls "_law_falls" = true) (k_lfalls : PySem.W.keepIn K (.ref f_lfalls) = true)
    (a_lnumber : PySem.W.nsIn K mainGlobals "_law_number" = some (some (.ref f_lnumber)))
    (l_lnumber : K.lookup f_lnumber = some ⟨oc_lnumber, od_lnumber, .func (PySem.W.fnOf "_law_number" "_law_number" (defArgs s_lnumber) (defBody s_lnumber) (defScope s_lnumber) .none kV_lnumber dc_lnumber pm_lnumber an_lnumber cd_lnumber ct_lnumber), sl_lnumber⟩)
    (c_lnumber : PySem.W.codeIn K cd_lnumber "_law_number" = true) (k_lnumber : PySem.W.keepIn K (.ref f_lnumber) = true)
    (a_lrow : PySem.W.nsIn K mainGlobals "_law_row" = some (some (.ref f_lrow)))
    (l_lrow : K.lookup f_lrow = some ⟨oc_lrow, od_lrow, .func (PySem.W.fnOf "_law_row" "_law_row" (defArgs s_lrow) (defBody s_lrow) (defScope s_lrow) .none kV_lrow dc_lrow pm_lrow an_lrow cd_lrow ct_lrow), sl_lrow⟩)
    (c_lrow : PySem.W.codeIn K cd_lrow "_law_row" = true) (k_lrow : PySem.W.keepIn K (.ref f_lrow) = true)
    (a_lweight : PySem.W.nsIn K mainGlobals "_law_weight" = some (some (.ref f_lweight)))
    (l_lweight : K.lookup f_lweight = some ⟨oc_lweight, od_lweight, .func (PySem.W.fnOf "_law_weight" "_law_weight" (defArgs s_lweight) (defBody s_lweight) (defScope s_lweight) .none kV_lweight dc_lweight pm_lweight an_lweight cd_lweight ct_lweight), sl_lweight⟩)
    (c_lweight : PySem.W.codeIn K cd_lweight "_law_weight" = true) (k_lweight : PySem.W.keepIn K (.ref f_lweight) = true)
    (a_lthree : PySem.W.nsIn K mainGlobals "_law_three" = some (some (.ref f_lthree)))
    (l_lthree : K.lookup f_lthree = some ⟨oc_lthree, od_lthree, .func (PySem.W.fnOf "_law_three" "_law_three" (defArgs s_lthree) (defBody s_lthree) (defScope s_lthree) .none kV_lthree dc_lthree pm_lthree an_lthree cd_lthree ct_lthree), sl_lthree⟩)
    (c_lthree : PySem.W.codeIn K cd_lthree "_law_three" = true) (k_lthree : PySem.W.keepIn K (.ref f_lthree) = true)
    (a_lempty_owed : PySem.W.nsIn K mainGlobals "_law_empty_owed" = some (some (.ref f_lempty_owed)))
    (l_lempty_owed : K.lookup f_lempty_owed = some ⟨oc_lempty_owed, od_lempty_owed, .func (PySem.W.fnOf "_law_empty_owed" "_law_empty_owed" (defArgs s_lempty_owed) (defBody s_lempty_owed) (defScope s_lempty_owed) .none kV_lempty_owed dc_lempty_owed pm_lempty_owed an_lempty_owed cd_lempty_owed ct_lempty_owed), sl_lempty_owed⟩)
    (c_lempty_owed : PySem.W.codeIn K cd_lempty_owed "_law_empty_owed" = true) (k_lempty_owed : PySem.W.keepIn K (.ref f_lempty_owed) = true)
    (a_lwhole_right : PySem.W.nsIn K mainGlobals "_law_whole_right" = some (some (.ref f_lwhole_right)))
    (l_lwhole_right : K.lookup f_lwhole_right = some ⟨oc_lwhole_right, od_lwhole_right, .func (PySem.W.fnOf "_law_whole_right" "_law_whole_right" (defArgs s_lwhole_right) (defBody s_lwhole_right) (defScope s_lwhole_right) .none kV_lwhole_right dc_lwhole_right pm_lwhole_right an_lwhole_right cd_lwhole_right ct_lwhole_right), sl_lwhole_right⟩)
    (c_lwhole_right : PySem.W.codeIn K cd_lwhole_right "_law_whole_right" = true) (k_lwhole_right : PySem.W.keepIn K (.ref f_lwhole_right) = true)
    (a_lone : PySem.W.nsIn K mainGlobals "_law_one" = some (some (.ref f_lone)))
    (l_lone : K.lookup f_lone = some ⟨oc_lone, od_lone, .func (PySem.W.fnOf "_law_one" "_law_one" (defArgs s_lone) (defBody s_lone) (defScope s_lone) .none kV_lone dc_lone pm_lone an_lone cd_lone ct_lone), sl_lone⟩)
    (c_lone : PySem.W.codeIn K cd_lone "_law_one" = true) (k_lone : PySem.W.keepIn K (.ref f_lone) = true)
    (a_law : PySem.W.nsIn K mainGlobals "law" = some (some (.ref f_law)))
    (l_law : K.lookup f_law = some ⟨oc_law, od_law, .func (PySem.W.fnOf "law" "law" (defArgs s_law) (defBody s_law) (defScope s_law) .none kV_law dc_law pm_law an_law cd_law ct_law), sl_law⟩)
    (c_law : PySem.W.codeIn K cd_law "law" = true) (k_law : PySem.W.keepIn K (.ref f_law) = true)
    (g_NOUGHT : PySem.W.nsIn K mainGlobals "NOUGHT" = some (some (.ref a_NOUGHT))) (t_NOUGHT : K.lookup a_NOUGHT = some ⟨.type "tuple", ao_NOUGHT, .seq #[.int 0 at0_NOUGHT, .int 1 at1_NOUGHT] an_NOUGHT, as_NOUGHT⟩)
    (g_EMPTY : PySem.W.nsIn K mainGlobals "EMPTY" = some (some (.str "" te_EMPTY)))
    (n_abs : PySem.W.nsIn K mainGlobals "abs" = some none)
    (n_all : PySem.W.nsIn K mainGlobals "all" = some none)
    (n_bool : PySem.W.nsIn K mainGlobals "bool" = some none)
    (n_divmod : PySem.W.nsIn K mainGlobals "divmod" = some none)
    (n_enumerate : PySem.W.nsIn K mainGlobals "enumerate" = some none)
    (n_int : PySem.W.nsIn K mainGlobals "int" = some none)
    (n_isinstance : PySem.W.nsIn K mainGlobals "isinstance" = some none)
    (n_len : PySem.W.nsIn K mainGlobals "len" = some none)
    (n_list : PySem.W.nsIn K mainGlobals "list" = some none)
    (n_max : PySem.W.nsIn K mainGlobals "max" = some none)
    (n_min : PySem.W.nsIn K mainGlobals "min" = some none)
    (n_range : PySem.W.nsIn K mainGlobals "range" = some none)
    (n_repr : PySem.W.nsIn K mainGlobals "repr" = some none)
    (n_set : PySem.W.nsIn K mainGlobals "set" = some none)
    (n_sorted : PySem.W.nsIn K mainGlobals "sorted" = some none)
    (n_str : PySem.W.nsIn K mainGlobals "str" = some none)
    (n_tuple : PySem.W.nsIn K mainGlobals "tuple" = some none)
    (t_tab : PySem.W.tabIn K "greatest_first" = some (c_tab, P_tab)) (u_tab : K.lookup P_tab = none) (v_tab : cd_greatest_first = .ref c_tab)
    : ∃ (fd : FuncData) (c0 P0 : Addr) (sp : Sp), PySem.W.tabIn K "greatest_first" = some (c0, P0) ∧ K.lookup P0 = none ∧ (∀ (s : Shared) (v : Value), BindsTo s fd ⟨[v], []⟩ [("_law_script", v)]) ∧
        (∀ (H : Hp) (a : Addr) (ns : List Int), ns.length ≤ 63 → H P0 = some (.tbl #[]) → SqL K H a (ns.map V.int) → sp [.ref a] H (fun v _ => v = .bl true) fun _ _ _ => False) ∧
        ∀ base : Heap, K.In base → base.Ns mainGlobals mg → LamX.TabB base mg c0 P0 → FnAt callerA l.prog w K mg base CX0 12 fa fd ["_law_script"] sp := by
  have e := hfa.symm.trans (PySem.W.mg_of X G a_law)
  cases e
  have F_is_whole := fun_mk (st := s_is_whole) l_is_whole c_is_whole k_is_whole
  have F_greatest_common := fun_mk (st := s_greatest_common) l_greatest_common c_greatest_common k_greatest_common
  have F_is_part := fun_mk (st := s_is_part) l_is_part c_is_part k_is_part
  have F_part : FunD K "part" "part" (defArgs s_part) (defBody s_part) (defScope s_part) [.int 1] [] f_part _ := ⟨⟨_, _, _, _, _, _, _, _, _, _, rfl, l_part, c_part, .inr ⟨by simp, dT_part, _, [.int 1 dt_part], _, rfl, q_part, rfl, .cons ⟨_, rfl⟩ .nil⟩, .inl rfl⟩, k_part⟩
  obtain ⟨ds_part2, vd_part2, b_part⟩ := F_part.binds1 (ps := ["above", "below"]) 2 1 (by simp) rfl (fun T kV doc pm an cdv ct us its h1 h2 => match us, its, h1, h2 with | [_, _], [_], _, _ => ⟨_, rfl, rfl⟩)
  cases vd_part2
  obtain ⟨ds_part1, vd_part1, b1_part⟩ := F_part.binds1 (ps := ["above", "below"]) 1 0 (by simp) rfl (fun T kV doc pm an cdv ct us its h1 h2 => match us, its, h1, h2 with | [_], [_], _, _ => ⟨_, rfl, rfl⟩)
  have F_plus := fun_mk (st := s_plus) l_plus c_plus k_plus
  have F_is_less := fun_mk (st := s_is_less) l_is_less c_is_less k_is_less
  have F_total : FunD K "total" "total" (defArgs s_total) (defBody s_total) (defScope s_total) [] [("start", .ref a_NOUGHT)] f_total _ := ⟨⟨_, _, _, _, _, _, _, _, _, _, rfl, l_total, c_total, .inl ⟨rfl, rfl⟩, .inr ⟨kD_total, rfl, fun q hq => by rw [List.mem_singleton.mp hq]; exact ⟨_, kd_total, rfl⟩⟩⟩, k_total⟩
  obtain ⟨v_total, vb_total, b_total⟩ := F_total.binds0 (ps := ["row", "start"]) 1 (by simp) rfl (fun D doc pm an cdv ct us ks h1 h2 => match us, ks, h1, h2 with | [_], [_], _, _ => ⟨_, _, _, _, _, _, rfl, rfl, rfl⟩)
  have F_common_below := fun_mk (st := s_common_below) l_common_below c_common_below k_common_below
  have F_greatest_first := fun_mk (st := s_greatest_first) l_greatest_first c_greatest_first k_greatest_first
  have F_sums_ahead := fun_mk (st := s_sums_ahead) l_sums_ahead c_sums_ahead k_sums_ahead
  have F_most := fun_mk (st := s_most) l_most c_most k_most
  have F_fall := fun_mk (st := s_fall) l_fall c_fall k_fall
  have F_is_within := fun_mk (st := s_is_within) l_is_within c_is_within k_is_within
  have F_places_beyond := fun_mk (st := s_places_beyond) l_places_beyond c_places_beyond k_places_beyond
  have F_is_name := fun_mk (st := s_is_name) l_is_name c_is_name k_is_name
  have F_is_weight := fun_mk (st := s_is_weight) l_is_weight c_is_weight k_is_weight
  have F_is_pair := fun_mk (st := s_is_pair) l_is_pair c_is_pair k_is_pair
  have F_is_seat := fun_mk (st := s_is_seat) l_is_seat c_is_seat k_is_seat
  have F_is_moment := fun_mk (st := s_is_moment) l_is_moment c_is_moment k_is_moment
  have F_check_weight := fun_mk (st := s_check_weight) l_check_weight c_check_weight k_check_weight
  have F_moment_of := fun_mk (st := s_moment_of) l_moment_of c_moment_of k_moment_of
  have F_owing := fun_mk (st := s_owing) l_owing c_owing k_owing
  have F_persons := fun_mk (st := s_persons) l_persons c_persons k_persons
  have F_kitty := fun_mk (st := s_kitty) l_kitty c_kitty k_kitty
  have F_sits := fun_mk (st := s_sits) l_sits c_sits k_sits
  have F_seat_of := fun_mk (st := s_seat_of) l_seat_of c_seat_of k_seat_of
  have F_owes := fun_mk (st := s_owes) l_owes c_owes k_owes
  have F_check_seats := fun_mk (st := s_check_seats) l_check_seats c_check_seats k_check_seats
  have F_check_within := fun_mk (st := s_check_within) l_check_within c_check_within k_check_within
  have F_joined := fun_mk (st := s_joined) l_joined c_joined k_joined
  have F_seats_alone := fun_mk (st := s_seats_alone) l_seats_alone c_seats_alone k_seats_alone
  have F_parted := fun_mk (st := s_parted) l_parted c_parted k_parted
  have F_lpot := fun_mk (st := s_lpot) l_lpot c_lpot k_lpot
  have F_ldigit := fun_mk (st := s_ldigit) l_ldigit c_ldigit k_ldigit
  have F_lname := fun_mk (st := s_lname) l_lname c_lname k_lname
  have F_lnames := fun_mk (st := s_lnames) l_lnames c_lnames k_lnames
  have F_llow := fun_mk (st := s_llow) l_llow c_llow k_llow
  have F_lplus := fun_mk (st := s_lplus) l_lplus c_lplus k_lplus
  have F_lless := fun_mk (st := s_lless) l_lless c_lless k_lless
  have F_lsum := fun_mk (st := s_lsum) l_lsum c_lsum k_lsum
  have F_lfirst := fun_mk (st := s_lfirst) l_lfirst c_lfirst k_lfirst
  have F_lmost := fun_mk (st := s_lmost) l_lmost c_lmost k_lmost
  have F_lfalls := fun_mk (st := s_lfalls) l_lfalls c_lfalls k_lfalls
  have F_lnumber := fun_mk (st := s_lnumber) l_lnumber c_lnumber k_lnumber
  have F_lrow := fun_mk (st := s_lrow) l_lrow c_lrow k_lrow
  have F_lweight := fun_mk (st := s_lweight) l_lweight c_lweight k_lweight
  have F_lthree := fun_mk (st := s_lthree) l_lthree c_lthree k_lthree
  have F_lempty_owed := fun_mk (st := s_lempty_owed) l_lempty_owed c_lempty_owed k_lempty_owed
  have F_lwhole_right := fun_mk (st := s_lwhole_right) l_lwhole_right c_lwhole_right k_lwhole_right
  have F_lone := fun_mk (st := s_lone) l_lone c_lone k_lone
  have F_law := fun_mk (st := s_law) l_law c_law k_law
  exact ⟨_, c_tab, P_tab, spLawT K P_tab, t_tab, u_tab, fun s v => .of_eq rfl, fun H a ns hl hP hS => ⟨a, ns, rfl, hS, hl, LamX.TabS.nil hP, fun _ => rfl⟩, fun base _ _ TB => ok_law (P := l.prog) (w := w) (base := base) ({
      f_is_whole := f_is_whole, d_is_whole := _, g_is_whole := PySem.W.mg_of X G a_is_whole, F_is_whole := F_is_whole, b_is_whole := F_is_whole.binds (ps := ["thing"]) (fun _ _ _ _ _ _ us hl => match us, hl with | [_], _ => rfl),
      f_greatest_common := f_greatest_common, d_greatest_common := _, g_greatest_common := PySem.W.mg_of X G a_greatest_common, F_greatest_common := F_greatest_common, b_greatest_common := F_greatest_common.binds (ps := ["one", "other"]) (fun _ _ _ _ _ _ us hl => match us, hl with | [_, _], _ => rfl),
      f_is_part := f_is_part, d_is_part := _, g_is_part := PySem.W.mg_of X G a_is_part, F_is_part := F_is_part, b_is_part := F_is_part.binds (ps := ["thing"]) (fun _ _ _ _ _ _ us hl => match us, hl with | [_], _ => rfl),
      f_part := f_part, d_part := _, g_part := PySem.W.mg_of X G a_part, F_part := F_part, b_part := b_part, v_part := ds_part1, vb_part := vd_part1, b1_part := b1_part,
      f_plus := f_plus, d_plus := _, g_plus := PySem.W.mg_of X G a_plus, F_plus := F_plus, b_plus := F_plus.binds (ps := ["one", "other"]) (fun _ _ _ _ _ _ us hl => match us, hl with | [_, _], _ => rfl),
      f_is_less := f_is_less, d_is_less := _, g_is_less := PySem.W.mg_of X G a_is_less, F_is_less := F_is_less, b_is_less := F_is_less.binds (ps := ["one", "other"]) (fun _ _ _ _ _ _ us hl => match us, hl with | [_, _], _ => rfl),
      f_total := f_total, d_total := _, g_total := PySem.W.mg_of X G a_total, a0 := a_NOUGHT, F_total := F_total, t0 := fun H => .inr ⟨_, _, _, t_NOUGHT, rfl, rfl, by show 2 ≤ sizeLine; decide, (.cons ⟨_, rfl⟩ (.cons ⟨_, rfl⟩ .nil))⟩, v_total := v_total, vb_total := vb_total, b_total := b_total, kb_total := ⟨(fun s us ws _ h1 h2 => match us, ws, h1, h2 with | [_], [_], _, _ => .of_eq rfl), (fun r1 r2 => r1.append r2)⟩,
      f_common_below := f_common_below, d_common_below := _, g_common_below := PySem.W.mg_of X G a_common_below, F_common_below := F_common_below, b_common_below := F_common_below.binds (ps := ["row"]) (fun _ _ _ _ _ _ us hl => match us, hl with | [_], _ => rfl),
      f_greatest_first := f_greatest_first, d_greatest_first := _, g_greatest_first := PySem.W.mg_of X G a_greatest_first, F_greatest_first := F_greatest_first, b_greatest_first := F_greatest_first.binds (ps := ["row"]) (fun _ _ _ _ _ _ us hl => match us, hl with | [_], _ => rfl),
      f_sums_ahead := f_sums_ahead, d_sums_ahead := _, g_sums_ahead := PySem.W.mg_of X G a_sums_ahead, F_sums_ahead := F_sums_ahead, b_sums_ahead := F_sums_ahead.binds (ps := ["row"]) (fun _ _ _ _ _ _ us hl => match us, hl with | [_], _ => rfl),
      f_most := f_most, d_most := _, g_most := PySem.W.mg_of X G a_most, F_most := F_most, b_most := F_most.binds (ps := ["weight", "seats", "many"]) (fun _ _ _ _ _ _ us hl => match us, hl with | [_, _, _], _ => rfl),
      f_fall := f_fall, d_fall := _, g_fall := PySem.W.mg_of X G a_fall, F_fall := F_fall, b_fall := F_fall.binds (ps := ["weight", "row"]) (fun _ _ _ _ _ _ us hl => match us, hl with | [_, _], _ => rfl),
      f_is_within := f_is_within, d_is_within := _, g_is_within := PySem.W.mg_of X G a_is_within, F_is_within := F_is_within, b_is_within := F_is_within.binds (ps := ["weight", "row"]) (fun _ _ _ _ _ _ us hl => match us, hl with | [_, _], _ => rfl),
      f_places_beyond := f_places_beyond, d_places_beyond := _, g_places_beyond := PySem.W.mg_of X G a_places_beyond, F_places_beyond := F_places_beyond, b_places_beyond := F_places_beyond.binds (ps := ["weight", "row"]) (fun _ _ _ _ _ _ us hl => match us, hl with | [_, _], _ => rfl),
      f_is_name := f_is_name, d_is_name := _, g_is_name := PySem.W.mg_of X G a_is_name, F_is_name := F_is_name, b_is_name := F_is_name.binds (ps := ["thing"]) (fun _ _ _ _ _ _ us hl => match us, hl with | [_], _ => rfl),
      f_is_weight := f_is_weight, d_is_weight := _, g_is_weight := PySem.W.mg_of X G a_is_weight, F_is_weight := F_is_weight, b_is_weight := F_is_weight.binds (ps := ["thing"]) (fun _ _ _ _ _ _ us hl => match us, hl with | [_], _ => rfl),
      f_is_pair := f_is_pair, d_is_pair := _, g_is_pair := PySem.W.mg_of X G a_is_pair, F_is_pair := F_is_pair, b_is_pair := F_is_pair.binds (ps := ["thing"]) (fun _ _ _ _ _ _ us hl => match us, hl with | [_], _ => rfl),
      f_is_seat := f_is_seat, d_is_seat := _, g_is_seat := PySem.W.mg_of X G a_is_seat, F_is_seat := F_is_seat, b_is_seat := F_is_seat.binds (ps := ["thing"]) (fun _ _ _ _ _ _ us hl => match us, hl with | [_], _ => rfl),
      f_is_moment := f_is_moment, d_is_moment := _, g_is_moment := PySem.W.mg_of X G a_is_moment, F_is_moment := F_is_moment, b_is_moment := F_is_moment.binds (ps := ["thing"]) (fun _ _ _ _ _ _ us hl => match us, hl with | [_], _ => rfl),
      f_check_weight := f_check_weight, d_check_weight := _, g_check_weight := PySem.W.mg_of X G a_check_weight, F_check_weight := F_check_weight, b_check_weight := F_check_weight.binds (ps := ["weight"]) (fun _ _ _ _ _ _ us hl => match us, hl with | [_], _ => rfl),
      f_moment_of := f_moment_of, d_moment_of := _, g_moment_of := PySem.W.mg_of X G a_moment_of, F_moment_of := F_moment_of, b_moment_of := F_moment_of.binds (ps := ["weight"]) (fun _ _ _ _ _ _ us hl => match us, hl with | [_], _ => rfl),
      f_owing := f_owing, d_owing := _, g_owing := PySem.W.mg_of X G a_owing, F_owing := F_owing, b_owing := F_owing.binds (ps := ["moment"]) (fun _ _ _ _ _ _ us hl => match us, hl with | [_], _ => rfl),
      f_persons := f_persons, d_persons := _, g_persons := PySem.W.mg_of X G a_persons, F_persons := F_persons, b_persons := F_persons.binds (ps := ["moment"]) (fun _ _ _ _ _ _ us hl => match us, hl with | [_], _ => rfl),
      f_kitty := f_kitty, d_kitty := _, g_kitty := PySem.W.mg_of X G a_kitty, F_kitty := F_kitty, b_kitty := F_kitty.binds (ps := ["moment"]) (fun _ _ _ _ _ _ us hl => match us, hl with | [_], _ => rfl),
      f_sits := f_sits, d_sits := _, g_sits := PySem.W.mg_of X G a_sits, F_sits := F_sits, b_sits := F_sits.binds (ps := ["moment", "person"]) (fun _ _ _ _ _ _ us hl => match us, hl with | [_, _], _ => rfl),
      f_seat_of := f_seat_of, d_seat_of := _, g_seat_of := PySem.W.mg_of X G a_seat_of, F_seat_of := F_seat_of, b_seat_of := F_seat_of.binds (ps := ["moment", "person"]) (fun _ _ _ _ _ _ us hl => match us, hl with | [_, _], _ => rfl),
      f_owes := f_owes, d_owes := _, g_owes := PySem.W.mg_of X G a_owes, F_owes := F_owes, b_owes := F_owes.binds (ps := ["moment", "person"]) (fun _ _ _ _ _ _ us hl => match us, hl with | [_, _], _ => rfl),
      f_check_seats := f_check_seats, d_check_seats := _, g_check_seats := PySem.W.mg_of X G a_check_seats, F_check_seats := F_check_seats, b_check_seats := F_check_seats.binds (ps := ["moment", "seats"]) (fun _ _ _ _ _ _ us hl => match us, hl with | [_, _], _ => rfl),
      f_check_within := f_check_within, d_check_within := _, g_check_within := PySem.W.mg_of X G a_check_within, F_check_within := F_check_within, b_check_within := F_check_within.binds (ps := ["moment", "numbers"]) (fun _ _ _ _ _ _ us hl => match us, hl with | [_, _], _ => rfl),
      f_joined := f_joined, d_joined := _, g_joined := PySem.W.mg_of X G a_joined, F_joined := F_joined, b_joined := F_joined.binds (ps := ["one", "other"]) (fun _ _ _ _ _ _ us hl => match us, hl with | [_, _], _ => rfl),
      f_seats_alone := f_seats_alone, d_seats_alone := _, g_seats_alone := PySem.W.mg_of X G a_seats_alone, F_seats_alone := F_seats_alone, b_seats_alone := F_seats_alone.binds (ps := ["moment", "numbers"]) (fun _ _ _ _ _ _ us hl => match us, hl with | [_, _], _ => rfl),
      f_parted := f_parted, d_parted := _, g_parted := PySem.W.mg_of X G a_parted, F_parted := F_parted, b_parted := F_parted.binds (ps := ["moment", "seats"]) (fun _ _ _ _ _ _ us hl => match us, hl with | [_, _], _ => rfl),
      f_lpot := f_lpot, d_lpot := _, g_lpot := PySem.W.mg_of X G a_lpot, F_lpot := F_lpot, b_lpot := F_lpot.binds (ps := ["_law_script", "_law_k"]) (fun _ _ _ _ _ _ us hl => match us, hl with | [_, _], _ => rfl),
      f_ldigit := f_ldigit, d_ldigit := _, g_ldigit := PySem.W.mg_of X G a_ldigit, F_ldigit := F_ldigit, b_ldigit := F_ldigit.binds (ps := ["_law_pot_here", "_law_many"]) (fun _ _ _ _ _ _ us hl => match us, hl with | [_, _], _ => rfl),
      f_lname := f_lname, d_lname := _, g_lname := PySem.W.mg_of X G a_lname, F_lname := F_lname, b_lname := F_lname.binds (ps := ["_law_pot_here", "_law_used"]) (fun _ _ _ _ _ _ us hl => match us, hl with | [_, _], _ => rfl),
      f_lnames := f_lnames, d_lnames := _, g_lnames := PySem.W.mg_of X G a_lnames, F_lnames := F_lnames, b_lnames := F_lnames.binds (ps := ["_law_pot_here", "_law_many"]) (fun _ _ _ _ _ _ us hl => match us, hl with | [_, _], _ => rfl),
      f_llow := f_llow, d_llow := _, g_llow := PySem.W.mg_of X G a_llow, F_llow := F_llow, b_llow := F_llow.binds (ps := ["_law_above", "_law_below"]) (fun _ _ _ _ _ _ us hl => match us, hl with | [_, _], _ => rfl),
      f_lplus := f_lplus, d_lplus := _, g_lplus := PySem.W.mg_of X G a_lplus, F_lplus := F_lplus, b_lplus := F_lplus.binds (ps := ["_law_one_here", "_law_other"]) (fun _ _ _ _ _ _ us hl => match us, hl with | [_, _], _ => rfl),
      f_lless := f_lless, d_lless := _, g_lless := PySem.W.mg_of X G a_lless, F_lless := F_lless, b_lless := F_lless.binds (ps := ["_law_one_here", "_law_other"]) (fun _ _ _ _ _ _ us hl => match us, hl with | [_, _], _ => rfl),
      f_lsum := f_lsum, d_lsum := _, g_lsum := PySem.W.mg_of X G a_lsum, F_lsum := F_lsum, b_lsum := F_lsum.binds (ps := ["_law_parts"]) (fun _ _ _ _ _ _ us hl => match us, hl with | [_], _ => rfl),
      f_lfirst := f_lfirst, d_lfirst := _, g_lfirst := PySem.W.mg_of X G a_lfirst, F_lfirst := F_lfirst, b_lfirst := F_lfirst.binds (ps := ["_law_row_here"]) (fun _ _ _ _ _ _ us hl => match us, hl with | [_], _ => rfl),
      f_lmost := f_lmost, d_lmost := _, g_lmost := PySem.W.mg_of X G a_lmost, F_lmost := F_lmost, b_lmost := F_lmost.binds (ps := ["_law_weight_here", "_law_many", "_law_k"]) (fun _ _ _ _ _ _ us hl => match us, hl with | [_, _, _], _ => rfl),
      f_lfalls := f_lfalls, d_lfalls := _, g_lfalls := PySem.W.mg_of X G a_lfalls, F_lfalls := F_lfalls, b_lfalls := F_lfalls.binds (ps := ["_law_weight_here", "_law_row_here"]) (fun _ _ _ _ _ _ us hl => match us, hl with | [_, _], _ => rfl),
      f_lnumber := f_lnumber, d_lnumber := _, g_lnumber := PySem.W.mg_of X G a_lnumber, F_lnumber := F_lnumber, b_lnumber := F_lnumber.binds (ps := ["_law_pot_here"]) (fun _ _ _ _ _ _ us hl => match us, hl with | [_], _ => rfl),
      f_lrow := f_lrow, d_lrow := _, g_lrow := PySem.W.mg_of X G a_lrow, F_lrow := F_lrow, b_lrow := F_lrow.binds (ps := ["_law_pot_here", "_law_many"]) (fun _ _ _ _ _ _ us hl => match us, hl with | [_, _], _ => rfl),
      f_lweight := f_lweight, d_lweight := _, g_lweight := PySem.W.mg_of X G a_lweight, F_lweight := F_lweight, b_lweight := F_lweight.binds (ps := ["_law_row_here"]) (fun _ _ _ _ _ _ us hl => match us, hl with | [_], _ => rfl),
      f_lthree := f_lthree, d_lthree := _, g_lthree := PySem.W.mg_of X G a_lthree, F_lthree := F_lthree, b_lthree := F_lthree.binds (ps := ["_law_pot_here"]) (fun _ _ _ _ _ _ us hl => match us, hl with | [_], _ => rfl),
      f_lempty_owed := f_lempty_owed, d_lempty_owed := _, g_lempty_owed := PySem.W.mg_of X G a_lempty_owed, F_lempty_owed := F_lempty_owed, b_lempty_owed := F_lempty_owed.binds (ps := ["_law_moment"]) (fun _ _ _ _ _ _ us hl => match us, hl with | [_], _ => rfl),
      f_lwhole_right := f_lwhole_right, d_lwhole_right := _, g_lwhole_right := PySem.W.mg_of X G a_lwhole_right, F_lwhole_right := F_lwhole_right, b_lwhole_right := F_lwhole_right.binds (ps := ["_law_both", "_law_one_here", "_law_other"]) (fun _ _ _ _ _ _ us hl => match us, hl with | [_, _, _], _ => rfl),
      f_lone := f_lone, d_lone := _, g_lone := PySem.W.mg_of X G a_lone, F_lone := F_lone, b_lone := F_lone.binds (ps := ["_law_pot_here"]) (fun _ _ _ _ _ _ us hl => match us, hl with | [_], _ => rfl),
      f_law := _, d_law := _, g_law := PySem.W.mg_of X G a_law, F_law := F_law, b_law := F_law.binds (ps := ["_law_script"]) (fun _ _ _ _ _ _ us hl => match us, hl with | [_], _ => rfl),
      a_NOUGHT := a_NOUGHT, g_NOUGHT := PySem.W.mg_of X G g_NOUGHT, t_NOUGHT := fun H => .inr ⟨_, _, _, t_NOUGHT, rfl, rfl, by show 2 ≤ sizeLine; decide, (.cons ⟨_, rfl⟩ (.cons ⟨_, rfl⟩ .nil))⟩,
      v_EMPTY := _, g_EMPTY := PySem.W.mg_of X G g_EMPTY, r_EMPTY := ⟨_, rfl⟩,
      n_abs := PySem.W.mg_none_of X G n_abs,
      n_all := PySem.W.mg_none_of X G n_all,
      n_bool := PySem.W.mg_none_of X G n_bool,
      n_divmod := PySem.W.mg_none_of X G n_divmod,
      n_enumerate := PySem.W.mg_none_of X G n_enumerate,
      n_int := PySem.W.mg_none_of X G n_int,
      n_isinstance := PySem.W.mg_none_of X G n_isinstance,
      n_len := PySem.W.mg_none_of X G n_len,
      n_list := PySem.W.mg_none_of X G n_list,
      n_max := PySem.W.mg_none_of X G n_max,
      n_min := PySem.W.mg_none_of X G n_min,
      n_range := PySem.W.mg_none_of X G n_range,
      n_repr := PySem.W.mg_none_of X G n_repr,
      n_set := PySem.W.mg_none_of X G n_set,
      n_sorted := PySem.W.mg_none_of X G n_sorted,
      n_str := PySem.W.mg_none_of X G n_str,
      n_tuple := PySem.W.mg_none_of X G n_tuple,
      c_tab := c_tab, P_tab := P_tab, hc_tab := v_tab, tb := TB } : Tx K mg base) rfl⟩
end WS
open PySem PySem.W PyProof.Rows
set_option maxHeartbeats 0 in
theorem PySem.Challenge.cw_whoserves_k55_whole_joined_and_parted_ag_holds : PySem.Challenge.rw_whoserves_k55_whole_joined_and_parted_ag.Holds := by
  w_on; o_law; k_head; (case hw => w_witness2)
  k_fill
  refine WS.walk_T (l := PySem.Challenge.rw_whoserves_k55_whole_joined_and_parted_ag) (n := 63) (k := 12) (x := "_law_script") "greatest_first" rfl (by decide) rfl ⟨rfl, by decide, by decide⟩ (by rfl) (fun w h Y => PySem.W.km_in_of Y) ?F
  case F =>
    intro w mg fa h KX G hmg
    refine' WS.all_mk KX G hmg ?a_is_whole ?l_is_whole ?c_is_whole ?k_is_whole ?a_greatest_common ?l_greatest_common ?c_greatest_common ?k_greatest_common ?a_is_part ?l_is_part ?c_is_part ?k_is_part ?a_part ?l_part ?c_part ?k_part ?q_part ?a_plus ?l_plus ?c_plus ?k_plus ?a_is_less ?l_is_less ?c_is_less ?k_is_less ?a_total ?l_total ?c_total ?k_total ?kd_total ?a_common_below ?l_common_below ?c_common_below ?k_common_below ?a_greatest_first ?l_greatest_first ?c_greatest_first ?k_greatest_first ?a_sums_ahead ?l_sums_ahead ?c_sums_ahead ?k_sums_ahead ?a_most ?l_most ?c_most ?k_most ?a_fall ?l_fall ?c_fall ?k_fall ?a_is_within ?l_is_within ?c_is_within ?k_is_within ?a_places_beyond ?l_places_beyond ?c_places_beyond ?k_places_beyond ?a_is_name ?l_is_name ?c_is_name ?k_is_name ?a_is_weight ?l_is_weight ?c_is_weight ?k_is_weight ?a_is_pair ?l_is_pair ?c_is_pair ?k_is_pair ?a_is_seat ?l_is_seat ?c_is_seat ?k_is_seat ?a_is_moment ?l_is_moment ?c_is_moment ?k_is_moment ?a_check_weight ?l_check_weight ?c_check_weight ?k_check_weight ?a_moment_of ?l_moment_of ?c_moment_of ?k_moment_of ?a_owing ?l_owing ?c_owing ?k_owing ?a_persons ?l_persons ?c_persons ?k_persons ?a_kitty ?l_kitty ?c_kitty ?k_kitty ?a_sits ?l_sits ?c_sits ?k_sits ?a_seat_of ?l_seat_of ?c_seat_of ?k_seat_of ?a_owes ?l_owes ?c_owes ?k_owes ?a_check_seats ?l_check_seats ?c_check_seats ?k_check_seats ?a_check_within ?l_check_within ?c_check_within ?k_check_within ?a_joined ?l_joined ?c_joined ?k_joined ?a_seats_alone ?l_seats_alone ?c_seats_alone ?k_seats_alone ?a_parted ?l_parted ?c_parted ?k_parted ?a_lpot ?l_lpot ?c_lpot ?k_lpot ?a_ldigit ?l_ldigit ?c_ldigit ?k_ldigit ?a_lname ?l_lname ?c_lname ?k_lname ?a_lnames ?l_lnames ?c_lnames ?k_lnames ?a_llow ?l_llow ?c_llow ?k_llow ?a_lplus ?l_lplus ?c_lplus ?k_lplus ?a_lless ?l_lless ?c_lless ?k_lless ?a_lsum ?l_lsum ?c_lsum ?k_lsum ?a_lfirst ?l_lfirst ?c_lfirst ?k_lfirst ?a_lmost ?l_lmost ?c_lmost ?k_lmost ?a_lfalls ?l_lfalls ?c_lfalls ?k_lfalls ?a_lnumber ?l_lnumber ?c_lnumber ?k_lnumber ?a_lrow ?l_lrow ?c_lrow ?k_lrow ?a_lweight ?l_lweight ?c_lweight ?k_lweight ?a_lthree ?l_lthree ?c_lthree ?k_lthree ?a_lempty_owed ?l_lempty_owed ?c_lempty_owed ?k_lempty_owed ?a_lwhole_right ?l_lwhole_right ?c_lwhole_right ?k_lwhole_right ?a_lone ?l_lone ?c_lone ?k_lone ?a_law ?l_law ?c_law ?k_law ?g_NOUGHT ?t_NOUGHT ?g_EMPTY ?n_abs ?n_all ?n_bool ?n_divmod ?n_enumerate ?n_int ?n_isinstance ?n_len ?n_list ?n_max ?n_min ?n_range ?n_repr ?n_set ?n_sorted ?n_str ?n_tuple ?t_tab ?u_tab ?v_tab
    (case a_is_whole => k_is)
    (case l_is_whole => k_is)
    (case c_is_whole => k_is)
    (case k_is_whole => k_is)
    (case a_greatest_common => k_is)
    (case l_greatest_common => k_is)
    (case c_greatest_common => k_is)
    (case k_greatest_common => k_is)
    (case a_is_part => k_is)
    (case l_is_part => k_is)
    (case c_is_part => k_is)
    (case k_is_part => k_is)
    (case a_part => k_is)
    (case l_part => k_is)
    (case c_part => k_is)
    (case k_part => k_is)
    (case q_part => k_is)
    (case a_plus => k_is)
    (case l_plus => k_is)
    (case c_plus => k_is)
    (case k_plus => k_is)
    (case a_is_less => k_is)
    (case l_is_less => k_is)
    (case c_is_less => k_is)
    (case k_is_less => k_is)
    (case a_total => k_is)
    (case l_total => k_is)
    (case c_total => k_is)
    (case k_total => k_is)
    (case kd_total => k_is)
    (case a_common_below => k_is)
    (case l_common_below => k_is)
    (case c_common_below => k_is)
    (case k_common_below => k_is)
    (case a_greatest_first => k_is)
    (case l_greatest_first => k_is)
    (case c_greatest_first => k_is)
    (case k_greatest_first => k_is)
    (case a_sums_ahead => k_is)
    (case l_sums_ahead => k_is)
    (case c_sums_ahead => k_is)
    (case k_sums_ahead => k_is)
    (case a_most => k_is)
    (case l_most => k_is)
    (case c_most => k_is)
    (case k_most => k_is)
    (case a_fall => k_is)
    (case l_fall => k_is)
    (case c_fall => k_is)
    (case k_fall => k_is)
    (case a_is_within => k_is)
    (case l_is_within => k_is)
    (case c_is_within => k_is)
    (case k_is_within => k_is)
    (case a_places_beyond => k_is)
    (case l_places_beyond => k_is)
    (case c_places_beyond => k_is)
    (case k_places_beyond => k_is)
    (case a_is_name => k_is)
    (case l_is_name => k_is)
    (case c_is_name => k_is)
    (case k_is_name => k_is)
    (case a_is_weight => k_is)
    (case l_is_weight => k_is)
    (case c_is_weight => k_is)
    (case k_is_weight => k_is)
    (case a_is_pair => k_is)
    (case l_is_pair => k_is)
    (case c_is_pair => k_is)
    (case k_is_pair => k_is)
    (case a_is_seat => k_is)
    (case l_is_seat => k_is)
    (case c_is_seat => k_is)
    (case k_is_seat => k_is)
    (case a_is_moment => k_is)
    (case l_is_moment => k_is)
    (case c_is_moment => k_is)
    (case k_is_moment => k_is)
    (case a_check_weight => k_is)
    (case l_check_weight => k_is)
    (case c_check_weight => k_is)
    (case k_check_weight => k_is)
    (case a_moment_of => k_is)
    (case l_moment_of => k_is)
    (case c_moment_of => k_is)
    (case k_moment_of => k_is)
    (case a_owing => k_is)
    (case l_owing => k_is)
    (case c_owing => k_is)
    (case k_owing => k_is)
    (case a_persons => k_is)
    (case l_persons => k_is)
    (case c_persons => k_is)
    (case k_persons => k_is)
    (case a_kitty => k_is)
    (case l_kitty => k_is)
    (case c_kitty => k_is)
    (case k_kitty => k_is)
    (case a_sits => k_is)
    (case l_sits => k_is)
    (case c_sits => k_is)
    (case k_sits => k_is)
    (case a_seat_of => k_is)
    (case l_seat_of => k_is)
    (case c_seat_of => k_is)
    (case k_seat_of => k_is)
    (case a_owes => k_is)
    (case l_owes => k_is)
    (case c_owes => k_is)
    (case k_owes => k_is)
    (case a_check_seats => k_is)
    (case l_check_seats => k_is)
    (case c_check_seats => k_is)
    (case k_check_seats => k_is)
    (case a_check_within => k_is)
    (case l_check_within => k_is)
    (case c_check_within => k_is)
    (case k_check_within => k_is)
    (case a_joined => k_is)
    (case l_joined => k_is)
    (case c_joined => k_is)
    (case k_joined => k_is)
    (case a_seats_alone => k_is)
    (case l_seats_alone => k_is)
    (case c_seats_alone => k_is)
    (case k_seats_alone => k_is)
    (case a_parted => k_is)
    (case l_parted => k_is)
    (case c_parted => k_is)
    (case k_parted => k_is)
    (case a_lpot => k_is)
    (case l_lpot => k_is)
    (case c_lpot => k_is)
    (case k_lpot => k_is)
    (case a_ldigit => k_is)
    (case l_ldigit => k_is)
    (case c_ldigit => k_is)
    (case k_ldigit => k_is)
    (case a_lname => k_is)
    (case l_lname => k_is)
    (case c_lname => k_is)
    (case k_lname => k_is)
    (case a_lnames => k_is)
    (case l_lnames => k_is)
    (case c_lnames => k_is)
    (case k_lnames => k_is)
    (case a_llow => k_is)
    (case l_llow => k_is)
    (case c_llow => k_is)
    (case k_llow => k_is)
    (case a_lplus => k_is)
    (case l_lplus => k_is)
    (case c_lplus => k_is)
    (case k_lplus => k_is)
    (case a_lless => k_is)
    (case l_lless => k_is)
    (case c_lless => k_is)
    (case k_lless => k_is)
    (case a_lsum => k_is)
    (case l_lsum => k_is)
    (case c_lsum => k_is)
    (case k_lsum => k_is)
    (case a_lfirst => k_is)
    (case l_lfirst => k_is)
    (case c_lfirst => k_is)
    (case k_lfirst => k_is)
    (case a_lmost => k_is)
    (case l_lmost => k_is)
    (case c_lmost => k_is)
    (case k_lmost => k_is)
    (case a_lfalls => k_is)
    (case l_lfalls => k_is)
    (case c_lfalls => k_is)
    (case k_lfalls => k_is)
    (case a_lnumber => k_is)
    (case l_lnumber => k_is)
    (case c_lnumber => k_is)
    (case k_lnumber => k_is)
    (case a_lrow => k_is)
    (case l_lrow => k_is)
    (case c_lrow => k_is)
    (case k_lrow => k_is)
    (case a_lweight => k_is)
    (case l_lweight => k_is)
    (case c_lweight => k_is)
    (case k_lweight => k_is)
    (case a_lthree => k_is)
    (case l_lthree => k_is)
    (case c_lthree => k_is)
    (case k_lthree => k_is)
    (case a_lempty_owed => k_is)
    (case l_lempty_owed => k_is)
    (case c_lempty_owed => k_is)
    (case k_lempty_owed => k_is)
    (case a_lwhole_right => k_is)
    (case l_lwhole_right => k_is)
    (case c_lwhole_right => k_is)
    (case k_lwhole_right => k_is)
    (case a_lone => k_is)
    (case l_lone => k_is)
    (case c_lone => k_is)
    (case k_lone => k_is)
    (case a_law => k_is)
    (case l_law => k_is)
    (case c_law => k_is)
    (case k_law => k_is)
    (case g_NOUGHT => k_is)
    (case t_NOUGHT => k_is)
    (case g_EMPTY => k_is)
    (case n_abs => k_is)
    (case n_all => k_is)
    (case n_bool => k_is)
    (case n_divmod => k_is)
    (case n_enumerate => k_is)
    (case n_int => k_is)
    (case n_isinstance => k_is)
    (case n_len => k_is)
    (case n_list => k_is)
    (case n_max => k_is)
    (case n_min => k_is)
    (case n_range => k_is)
    (case n_repr => k_is)
    (case n_set => k_is)
    (case n_sorted => k_is)
    (case n_str => k_is)
    (case n_tuple => k_is)
    (case t_tab => first | k_is | rfl)
    (case u_tab => first | k_is | rfl)
    (case v_tab => first | k_is | rfl)

