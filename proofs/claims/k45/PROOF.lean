import PyProof.Rows.All
import Wide.All
import OpenK.AllK
import Wide.FinOn
import KE.KDictZip
import KE.GoesZip
import KE.GoesMore
import KE.GoesEnum
import PyProof.TupleOfGen
import HandS.Base
import HandS.ForMost
import HandS.ForExc
import HandS.Wide
import HandS.WideBits
import HandS.Defaults
import HandS.IsInst
import HandS.TryOnly
import HandS.ExcIs
import HandS.Codes
import PyProof.ReprRoads
import HandS.FStrTup
import HandS.Sort
import HandS.Conv
import HandS.SortKw
import HandS.Lambda
import HandS.EndTab
import HandS.ExcValue
import KE.SortKeyHeap
import HandS.Walk
import HandS.Style
import HandS.SortInts
import HandS.TupAny
import PyProof.StrLawsRepr
import HandS.Zip
import KE.GoesEnumKw
import HandS.HotCalls
import HandS.ExcCtx
import PyProof.Rows.StrOr
import KE.KIntText
import HandS.FStr
import HandS.Text
import HandS.More
import KE.DataMinMax
import KE.DataFind
import HandS.SetFor
import PyProof.Claim2Refuses
import HandS.Strs
import HandS.Dict
import KE.KDictPairs
import HandS.DictComp
import KE.SortData
import PyProof.Transfer
import HandS.ExcInit
import HandS.ExcField
import HandS.ExcInitHot
import KE.KExcIs
import PyProof.StrOps2
import PyProof.EqKinds
import KE.KEqDict
import HandS.Flt
import HandS.TupMul
import HandS.SetBool
import HandS.Star
import HandS.NamedTupGet
import PySem.Challenge.RW_whoserves_k45_whole_levelled_by_fewer_gi
set_option Elab.async false
set_option linter.all false
set_option maxRecDepth 100000
set_option maxHeartbeats 4000000
namespace WS
open PySem PySem.Spec PyProof.Rows L2
/-! list(zip(a, b)), tuple(zip(a, b)): each of both a list or a tuple -/
structure ZlG (P1 P2 : Nat → Value → Prop) (lo : Addr) (h : Heap) (as : List Addr) : Prop where
  rise : as.Pairwise (· < ·)
  above : ∀ a ∈ as, lo < a
  pairs : ∀ (j : Nat) (a : Addr), as[j]? = some a → ∃ x y, P1 j x ∧ P2 j y ∧ IsTupOf2 h a x y
theorem ZlG.there {P1 P2 : Nat → Value → Prop} {lo : Addr} {h : Heap} {as : List Addr} (g : ZlG P1 P2 lo h as) {a : Addr} (ha : a ∈ as) : a < h.objs.size := by
  obtain ⟨j, hj⟩ := List.mem_iff_getElem?.mp ha
  obtain ⟨_, _, _, _, e⟩ := g.pairs j a hj
  exact Heap.lt_size e
end WS
namespace WS
/-! lowest terms -/
def lo (a b : Int) : Int × Int := (a / (Int.gcd a b : Int), b / (Int.gcd a b : Int))
def Lowest (a b : Int) : Prop := 0 < b ∧ Int.gcd a b = 1
theorem gcd_pos {a b : Int} (h : b ≠ 0) : 0 < Int.gcd a b := by
  have := (Int.gcd_pos_iff (a := a) (b := b)).mpr (Or.inr h)
  exact this
theorem lo_fst (a b : Int) : (lo a b).1 * (Int.gcd a b : Int) = a := Int.ediv_mul_cancel (Int.gcd_dvd_left a b)
theorem lo_snd (a b : Int) : (lo a b).2 * (Int.gcd a b : Int) = b := Int.ediv_mul_cancel (Int.gcd_dvd_right a b)
theorem lo_lowest {a b : Int} (h : 0 < b) : Lowest (lo a b).1 (lo a b).2 := by
  have g : 0 < Int.gcd a b := gcd_pos (by omega)
  refine ⟨?_, Int.gcd_ediv_gcd_ediv_gcd g⟩
  have e := lo_snd a b
  apply Decidable.byContradiction
  intro n
  have : (lo a b).2 * (Int.gcd a b : Int) ≤ 0 := Int.mul_nonpos_of_nonpos_of_nonneg (by omega) (by omega)
  omega
theorem lo_cross (a b : Int) : (lo a b).1 * b = a * (lo a b).2 := by
  have e1 := lo_fst a b
  have e2 := lo_snd a b
  have h1 : (lo a b).1 * b = (lo a b).1 * ((lo a b).2 * (Int.gcd a b : Int)) := by rw [e2]
  have h2 : a * (lo a b).2 = ((lo a b).1 * (Int.gcd a b : Int)) * (lo a b).2 := by rw [e1]
  rw [h1, h2]
  simp only [Int.mul_assoc, Int.mul_comm, Int.mul_left_comm]
theorem dvd_cop {a b y : Int} (hg : Int.gcd a b = 1) (h : b ∣ a * y) : b ∣ y := by
  have h1 : b.natAbs ∣ a.natAbs * y.natAbs := by
    rw [← Int.natAbs_mul]
    exact Int.natAbs_dvd_natAbs.mpr h
  have c : Nat.Coprime b.natAbs a.natAbs := by
    have : Nat.gcd a.natAbs b.natAbs = 1 := hg
    exact (Nat.gcd_comm _ _).trans this
  exact Int.natAbs_dvd_natAbs.mp (c.dvd_of_dvd_mul_left h1)
theorem lowest_unique {a b x y : Int} (h : Lowest a b) (k : Lowest x y) (e : x * b = a * y) : x = a ∧ y = b := by
  have d1 : b ∣ y := dvd_cop h.2 (by rw [← e]; exact Int.dvd_mul_left _ _)
  have d2 : y ∣ b := dvd_cop k.2 (by rw [e]; exact Int.dvd_mul_left _ _)
  have hb := h.1
  have hy := k.1
  have l1 : b ≤ y := Int.le_of_dvd hy d1
  have l2 : y ≤ b := Int.le_of_dvd hb d2
  have ey : y = b := by omega
  refine ⟨?_, ey⟩
  rw [ey] at e
  exact Int.eq_of_mul_eq_mul_right (by omega) e
theorem lo_eq {a b x y : Int} (h : Lowest a b) (hy : 0 < y) (e : x * b = a * y) : lo x y = (a, b) := by
  have k := lo_lowest (a := x) hy
  have c := lo_cross x y
  have g : (lo x y).1 * b = a * (lo x y).2 := by
    have : ((lo x y).1 * b) * y = (a * (lo x y).2) * y := by
      calc ((lo x y).1 * b) * y = ((lo x y).1 * y) * b := by simp only [Int.mul_assoc, Int.mul_comm, Int.mul_left_comm]
        _ = (x * (lo x y).2) * b := by rw [c]
        _ = (x * b) * (lo x y).2 := by simp only [Int.mul_assoc, Int.mul_comm, Int.mul_left_comm]
        _ = (a * y) * (lo x y).2 := by rw [e]
        _ = (a * (lo x y).2) * y := by simp only [Int.mul_assoc, Int.mul_comm, Int.mul_left_comm]
    exact Int.eq_of_mul_eq_mul_right (by omega) this
  have u := lowest_unique h k g
  exact Prod.ext u.1 u.2
theorem lo_of {a b : Int} (h : Lowest a b) : lo a b = (a, b) := lo_eq h h.1 rfl
theorem ediv_natAbs_le (a : Int) (g : Nat) : (a / (g : Int)).natAbs ≤ a.natAbs := by
  cases g with
  | zero => simp
  | succ g => exact Int.natAbs_ediv_le_natAbs _ _
theorem lo_fst_le (a b : Int) : (lo a b).1.natAbs ≤ a.natAbs := ediv_natAbs_le a _
theorem lo_snd_le (a b : Int) : (lo a b).2.natAbs ≤ b.natAbs := ediv_natAbs_le b _
/-! bits -/
def Bt (n : Nat) (a : Int) : Prop := a.natAbs < 2 ^ n
theorem Bt.mono {n m : Nat} {a : Int} (h : Bt n a) (k : n ≤ m) : Bt m a := Nat.lt_of_lt_of_le h (Nat.pow_le_pow_right (by decide) k)
theorem Bt.of_le {n : Nat} {a b : Int} (h : Bt n b) (k : a.natAbs ≤ b.natAbs) : Bt n a := Nat.lt_of_le_of_lt k h
theorem Bt.mul {n m : Nat} {a b : Int} (h : Bt n a) (k : Bt m b) : Bt (n + m) (a * b) := by
  unfold Bt
  rw [Int.natAbs_mul, Nat.pow_add]
  exact Nat.mul_lt_mul'' h k
theorem Bt.add {n : Nat} {a b : Int} (h : Bt n a) (k : Bt n b) : Bt (n + 1) (a + b) := by
  unfold Bt at *
  have := Int.natAbs_add_le a b
  rw [Nat.pow_succ]
  omega
theorem Bt.sub {n : Nat} {a b : Int} (h : Bt n a) (k : Bt n b) : Bt (n + 1) (a - b) := by
  unfold Bt at *
  have : (a - b).natAbs ≤ a.natAbs + b.natAbs := Int.natAbs_sub_le a b
  rw [Nat.pow_succ]
  omega
theorem Bt.lo1 {n : Nat} {a b : Int} (h : Bt n a) : Bt n (lo a b).1 := h.of_le (lo_fst_le a b)
theorem Bt.lo2 {n : Nat} {a b : Int} (h : Bt n b) : Bt n (lo a b).2 := h.of_le (lo_snd_le a b)
theorem Bt.of_lt {n : Nat} {a : Int} (h0 : -(2 ^ n) < a) (h : a < 2 ^ n) : Bt n a := by
  unfold Bt
  have e : ((2 ^ n : Nat) : Int) = 2 ^ n := by simp
  omega
/-! the loop of the greatest number that goes into both -/
theorem gcd_step {x y : Int} (hx : 0 ≤ x) (hy : 0 < y) : Int.gcd y (x % y) = Int.gcd x y := by
  show Nat.gcd y.natAbs (x % y).natAbs = Nat.gcd x.natAbs y.natAbs
  have e : (x % y).natAbs = x.natAbs % y.natAbs := by
    have : x % y = ((x.natAbs % y.natAbs : Nat) : Int) := by
      rw [Int.natCast_emod]
      rw [Int.natAbs_of_nonneg hx, Int.natAbs_of_nonneg (by omega)]
    rw [this]
    rfl
  rw [e, Nat.gcd_comm y.natAbs, ← Nat.gcd_rec, Nat.gcd_comm]
theorem gcd_zero {x : Int} (hx : 0 ≤ x) : (Int.gcd x 0 : Int) = x := by
  have : Int.gcd x 0 = x.natAbs := Int.gcd_zero_right x
  rw [this]
  exact Int.natAbs_of_nonneg hx
theorem gcd_abs (a b : Int) : Int.gcd (if a < 0 then -a else a) b = Int.gcd a b := by
  split
  · exact Int.neg_gcd
  · rfl
/-! sums of parts -/
def pl (p q : Int × Int) : Int × Int := lo (p.1 * q.2 + q.1 * p.2) (p.2 * q.2)
end WS
set_option Elab.async false
set_option linter.all false
set_option maxRecDepth 100000
set_option maxHeartbeats 4000000
namespace WS
open PySem PySem.Spec PyProof.Rows L2
/-! heaps: what is new beside what stood; a pot that changes -/
theorem same_new {H : Hp} {p : Addr} {o : HO} (h : H p = none) : Same H (upd H p o) := fun b x e => by
  rw [upd_ne (ne_of_none e h)]
  exact e
theorem Same.tup {K : PySem.W.Frag} {H H' : Hp} {a : Addr} {xs : List V} (e : Same H H') (h : SqT K H a xs) : SqT K H' a xs := by
  rcases h with (h | ⟨o, h⟩) | h
  · exact .inl (.inl (e _ _ h))
  · exact .inl (.inr ⟨o, e _ _ h⟩)
  · exact .inr h
def SameX (p : Addr) (H H' : Hp) : Prop := ∀ b o, b ≠ p → H b = some o → H' b = some o
theorem SameX.refl (p : Addr) (H : Hp) : SameX p H H := fun _ _ _ h => h
theorem SameX.trans {p : Addr} {H H1 H2 : Hp} (a : SameX p H H1) (b : SameX p H1 H2) : SameX p H H2 := fun c o n h => b c o n (a c o n h)
theorem Same.x {p : Addr} {H H1 : Hp} (a : Same H H1) : SameX p H H1 := fun c o _ h => a c o h
theorem samex_set {p : Addr} {H : Hp} {o : HO} : SameX p H (upd H p o) := fun b x n e => by
  rw [upd_ne n]
  exact e
/-- a pot: two numbers, from which digits are drawn -/
def PotAt (H : Hp) (p : Addr) : Prop := ∃ x y : Int, H p = some (.lst [.int x, .int y]) ∧ 0 ≤ x ∧ 0 ≤ y ∧ y < 2147483648
theorem SameX.tup {K : PySem.W.Frag} {p : Addr} {H H' : Hp} {a : Addr} {xs : List V} (e : SameX p H H') (hp : PotAt H p) (h : SqT K H a xs) : SqT K H' a xs := by
  obtain ⟨x, y, hp, _⟩ := hp
  rcases h with (h | ⟨o, h⟩) | h
  · exact .inl (.inl (e _ _ (ne_of h hp (by intro z; cases z)) h))
  · exact .inl (.inr ⟨o, e _ _ (ne_of h hp (by intro z; cases z)) h⟩)
  · exact .inr h
theorem SameX.lst {K : PySem.W.Frag} {p : Addr} {H H' : Hp} {a : Addr} {xs : List V} (e : SameX p H H') (n : a ≠ p) (h : SqL K H a xs) : SqL K H' a xs := by
  rcases h with (h | ⟨o, h⟩) | h
  · exact .inl (.inl (e _ _ n h))
  · exact .inl (.inr ⟨o, e _ _ n h⟩)
  · exact .inr h
theorem PotAt.same {H H' : Hp} {p : Addr} (h : PotAt H p) (s : Same H H') : PotAt H' p := by
  obtain ⟨x, y, e, r⟩ := h
  exact ⟨x, y, s _ _ e, r⟩
/-! pairs of numbers -/
def TupI (K : PySem.W.Frag) (H : Hp) (v : V) (a b : Int) : Prop := ∃ t, v = .ref t ∧ SqT K H t [.int a, .int b]
theorem TupI.same {K : PySem.W.Frag} {H H' : Hp} {v : V} {a b : Int} (h : TupI K H v a b) (s : Same H H') : TupI K H' v a b := by
  obtain ⟨t, e, h⟩ := h
  exact ⟨t, e, Same.tup s h⟩
theorem TupI.x {K : PySem.W.Frag} {H H' : Hp} {p : Addr} {v : V} {a b : Int} (h : TupI K H v a b) (s : SameX p H H') (hp : PotAt H p) : TupI K H' v a b := by
  obtain ⟨t, e, h⟩ := h
  exact ⟨t, e, SameX.tup s hp h⟩
theorem TupI.new {K : PySem.W.Frag} {H : Hp} {p : Addr} {a b : Int} : TupI K (upd H p (.tup [.int a, .int b])) (.ref p) a b := ⟨p, rfl, .inl (.inl upd_same)⟩
def NewT (K : PySem.W.Frag) (H : Hp) (x y : Int) (Q : VK) : Prop := ∀ v H', Same H H' → TupI K H' v x y → Q v H'
/-! kinds -/
theorem sqt_ty {K : PySem.W.Frag} {H : Hp} {a : Addr} {xs : List V} (h : SqT K H a xs) : TyX K H (.ref a) (.type "tuple") := by
  rcases h with (h | ⟨o, h⟩) | ⟨o, its, n, h1, h2, _⟩
  · exact .base (.tup h)
  · exact .fTuple h
  · exact .kTuple h1 h2
/-- whether a thing is a whole number -/
def WholeIs (K : PySem.W.Frag) (H : Hp) (v : V) (b : Bool) : Prop := ∃ t b1 b2, TyX K H v t ∧ PySem.W.kitOne K t (.type "int") = some b1 ∧ PySem.W.kitOne K t (.type "bool") = some b2 ∧ b = (b1 && !b2)
theorem whole_int {K : PySem.W.Frag} {H : Hp} {i : Int} : WholeIs K H (.int i) true := ⟨_, true, false, .base (.int i), kit_ty (by decide +kernel), kit_ty (by decide +kernel), rfl⟩
theorem whole_non {K : PySem.W.Frag} {H : Hp} : WholeIs K H .non false := ⟨_, false, false, .base .non, kit_ty (by decide +kernel), kit_ty (by decide +kernel), rfl⟩
theorem whole_bl {K : PySem.W.Frag} {H : Hp} {b : Bool} : WholeIs K H (.bl b) false := ⟨_, true, true, .base (.bl b), kit_ty (by decide +kernel), kit_ty (by decide +kernel), rfl⟩
theorem whole_str {K : PySem.W.Frag} {H : Hp} {z : Str} : WholeIs K H (.str z) false := ⟨_, false, false, .base (.str z), kit_ty (by decide +kernel), kit_ty (by decide +kernel), rfl⟩
theorem whole_tup {K : PySem.W.Frag} {H : Hp} {a : Addr} {xs : List V} (h : SqT K H a xs) : WholeIs K H (.ref a) false := ⟨_, false, false, sqt_ty h, kit_ty (by decide +kernel), kit_ty (by decide +kernel), rfl⟩
theorem whole_lst {K : PySem.W.Frag} {H : Hp} {a : Addr} {xs : List V} (h : H a = some (.lst xs)) : WholeIs K H (.ref a) false := ⟨_, false, false, .base (.lst h), kit_ty (by decide +kernel), kit_ty (by decide +kernel), rfl⟩
/-! sizes -/
theorem Bt.cdiv {n : Nat} {i j : Int} (h : 0 < j) (hb : Bt n j) (h9 : n ≤ 8999) : CDivW i j := wide_div (b := n + 1) h (hb.mono (Nat.le_succ n)) (Nat.succ_pos n) (by omega)
theorem Bt.cmul {n m : Nat} {i j : Int} (ha : Bt n i) (hb : Bt m j) (h : n + m ≤ 900000) : CMulW i j := wide_mul (a := n + 1) (b := m + 1) (ha.mono (Nat.le_succ n)) (hb.mono (Nat.le_succ m)) (Nat.succ_pos n) (Nat.succ_pos m) (by omega)
theorem gcd_bt {n : Nat} {a b : Int} (h : 0 < b) (hb : Bt n b) : Bt n (Int.gcd a b : Int) := by
  refine hb.of_le ?_
  have : Int.gcd a b ≤ b.natAbs := Nat.le_of_dvd (by omega) (Nat.gcd_dvd_right a.natAbs b.natAbs)
  simpa using this
/-! promises -/
def spWhole (K : PySem.W.Frag) : Sp := fun vs H Q _ => ∃ v b, vs = [v] ∧ WholeIs K H v b ∧ Q (.bl b) H
def spGcd : Sp := fun vs H Q _ => ∃ x y : Int, vs = [.int x, .int y] ∧ 0 ≤ x ∧ 0 ≤ y ∧ Q (.int (Int.gcd x y)) H
def spLow (K : PySem.W.Frag) : Sp := fun vs H Q _ => ∃ a b : Int, vs = [.int a, .int b] ∧ 0 < b ∧ Bt 8999 b ∧ NewT K H (lo a b).1 (lo a b).2 Q
/-- two pairs and what is made of them -/
def spTwo (K : PySem.W.Frag) (f : Int → Int → Int → Int → Int × Int) : Sp := fun vs H Q _ => ∃ u v a b c d, vs = [u, v] ∧ TupI K H u a b ∧ TupI K H v c d ∧ 0 < b ∧ 0 < d ∧ Bt 400000 a ∧ Bt 4400 b ∧ Bt 400000 c ∧ Bt 4400 d ∧ NewT K H (f a b c d).1 (f a b c d).2 Q
def spDigit : Sp := fun vs H Q _ => ∃ p m, vs = [.ref p, .int m] ∧ PotAt H p ∧ 0 < m ∧ Bt 8999 m ∧ ∀ d H', 0 ≤ d → d < m → SameX p H H' → PotAt H' p → Q (.int d) H'
def spPot (K : PySem.W.Frag) : Sp := fun vs H Q _ => ∃ (a : Addr) (ns : List Int) (k : Int), vs = [.ref a, .int k] ∧ SqL K H a (ns.map V.int) ∧ 0 ≤ k ∧ k < 100 ∧ ∀ p H', Same H H' → H p = none → PotAt H' p → Q (.ref p) H'
/-! all tuples stay -/
def KT (H H' : Hp) : Prop := (∀ a xs, H a = some (.tup xs) → H' a = some (.tup xs)) ∧ (∀ a o xs, H a = some (.frz o (.tup xs)) → H' a = some (.frz o (.tup xs)))
theorem KT.refl (H : Hp) : KT H H := ⟨fun _ _ h => h, fun _ _ _ h => h⟩
theorem KT.trans {H H1 H2 : Hp} (a : KT H H1) (b : KT H1 H2) : KT H H2 := ⟨fun c o h => b.1 c o (a.1 c o h), fun c o x h => b.2 c o x (a.2 c o x h)⟩
theorem kt_same {H H' : Hp} (s : Same H H') : KT H H' := ⟨fun _ _ h => s _ _ h, fun _ _ _ h => s _ _ h⟩
theorem kt_x {p : Addr} {H H' : Hp} (s : SameX p H H') (hp : PotAt H p) : KT H H' := by
  obtain ⟨x, y, hp, _⟩ := hp
  exact ⟨fun a xs h => s _ _ (ne_of h hp (by intro z; cases z)) h, fun a o xs h => s _ _ (ne_of h hp (by intro z; cases z)) h⟩
theorem kt_set {H : Hp} {D : Addr} {xs ys : List V} (h : H D = some (.lst xs)) : KT H (upd H D (.lst ys)) :=
  ⟨fun a zs e => by rw [upd_ne (ne_of e h (by intro z; cases z))]; exact e, fun a o zs e => by rw [upd_ne (ne_of e h (by intro z; cases z))]; exact e⟩
theorem KT.sqt {K : PySem.W.Frag} {H H' : Hp} {a : Addr} {xs : List V} (e : KT H H') (h : SqT K H a xs) : SqT K H' a xs := by
  rcases h with (h | ⟨o, h⟩) | h
  · exact .inl (.inl (e.1 _ _ h))
  · exact .inl (.inr ⟨o, e.2 _ _ _ h⟩)
  · exact .inr h
theorem TupI.k {K : PySem.W.Frag} {H H' : Hp} {v : V} {a b : Int} (h : TupI K H v a b) (s : KT H H') : TupI K H' v a b := by
  obtain ⟨t, e, h⟩ := h
  exact ⟨t, e, s.sqt h⟩
/-- values that are pairs -/
def Parts (K : PySem.W.Frag) (H : Hp) (rs : List V) (ps : List (Int × Int)) : Prop := rs.length = ps.length ∧ ∀ (i : Nat) v, rs[i]? = some v → ∃ p, ps[i]? = some p ∧ TupI K H v p.1 p.2
theorem Parts.k {K : PySem.W.Frag} {H H' : Hp} {rs : List V} {ps : List (Int × Int)} (h : Parts K H rs ps) (s : KT H H') : Parts K H' rs ps :=
  ⟨h.1, fun i v e => by obtain ⟨p, e1, e2⟩ := h.2 i v e; exact ⟨p, e1, e2.k s⟩⟩
theorem Parts.nil {K : PySem.W.Frag} {H : Hp} : Parts K H [] [] := ⟨rfl, fun i v e => by simp at e⟩
theorem Parts.cons {K : PySem.W.Frag} {H : Hp} {v : V} {rs : List V} {p : Int × Int} {ps : List (Int × Int)} (h : TupI K H v p.1 p.2) (k : Parts K H rs ps) : Parts K H (v :: rs) (p :: ps) :=
  ⟨by simp [k.1], fun i x e => by
    cases i with
    | zero => exact ⟨p, rfl, by have e : v = x := Option.some.inj e; rw [← e]; exact h⟩
    | succ i => exact k.2 i x e⟩
theorem Parts.add {K : PySem.W.Frag} {H : Hp} {v : V} {rs : List V} {p : Int × Int} {ps : List (Int × Int)} (k : Parts K H rs ps) (h : TupI K H v p.1 p.2) : Parts K H (rs ++ [v]) (ps ++ [p]) :=
  ⟨by simp [k.1], fun i x e => by
    by_cases hi : i < rs.length
    · rw [List.getElem?_append_left hi] at e
      obtain ⟨q, e1, e2⟩ := k.2 i x e
      exact ⟨q, by rw [List.getElem?_append_left (by rw [← k.1]; exact hi)]; exact e1, e2⟩
    · rw [List.getElem?_append_right (by omega)] at e
      have hl := k.1
      have z : i - rs.length = 0 := by
        cases hz : i - rs.length with
        | zero => rfl
        | succ n => rw [hz] at e; simp at e
      rw [z] at e
      have e : v = x := Option.some.inj e
      refine ⟨p, ?_, by rw [← e]; exact h⟩
      rw [List.getElem?_append_right (by omega), show i - ps.length = 0 by omega]
      rfl⟩
/-- a number with a below, of at most n bits -/
def Okp (n : Nat) (p : Int × Int) : Prop := 0 < p.2 ∧ Bt n p.1 ∧ Bt n p.2
theorem Okp.mono {n m : Nat} {p : Int × Int} (h : Okp n p) (k : n ≤ m) : Okp m p := ⟨h.1, h.2.1.mono k, h.2.2.mono k⟩
theorem Okp.pl {n m : Nat} {p q : Int × Int} (h : Okp n p) (k : Okp m q) : Okp (n + m + 1) (pl p q) := by
  have hy : 0 < p.2 * q.2 := Int.mul_pos h.1 k.1
  refine ⟨(lo_lowest hy).1, Bt.lo1 ?_, Bt.lo2 ?_⟩
  · have a := h.2.1.mul k.2.2
    have b := (k.2.1.mul h.2.2).mono (show m + n ≤ n + m by omega)
    exact a.add b
  · exact (h.2.2.mul k.2.2).mono (by omega)
theorem take_fold {i : Nat} {ps : List (Int × Int)} {p q : Int × Int} (h : ps[i]? = some q) : (ps.take (i + 1)).foldl pl p = pl ((ps.take i).foldl pl p) q := by
  rw [List.take_add_one, h, List.foldl_append]
  rfl
theorem pick {xs : List V} {d : Int} (h0 : 0 ≤ d) (h : d < xs.length) : ∃ v, atI xs d = some v ∧ v ∈ xs :=
  ⟨xs[d.toNat]'(by omega), at_of (j := d.toNat) (by omega) (List.getElem?_eq_getElem _), List.getElem_mem _⟩
theorem PotAt.ne {H : Hp} {p z : Addr} (h : PotAt H p) (n : H z = none) : z ≠ p := by
  obtain ⟨x, y, e, _⟩ := h
  intro q
  rw [q, e] at n
  cases n
/-! promises that are kept where no repr is under way -/
def Calm (A : Around) : Prop := A.guards = some []
theorem Calm.down {A : Around} (h : Calm A) (env : Env) : Calm (A.deeper env) := h
structure FnAt (A : Around) (P : Program) (w : World) (K : PySem.W.Frag) (mg : Str → Option Value) (base : Heap) (CX : CXT) (k : Nat) (f : Addr) (fd : FuncData) (ps : List Str) (sp : Sp) : Prop where
  len : ∀ vs H Q E, sp vs H Q E → vs.length = ps.length
  go : ∀ (outer : List Env) (s : Shared) (H : Hp) (args : Args) (us : List Value) (vs : List V) (Q : VK) (E : XK),
    Room k A → Env0 P w K mg base A outer s H → BindsTo s fd args (ps.zip us) → Vals vs us → sp vs H Q E →
    codeAny (model P w) A (.call (.ref f) args) (CR CX outer P w H s Q E) s
/-- a def by its body, at one place -/
theorem fun_at {A : Around} {P : Program} {w : World} {K : PySem.W.Frag} {mg : Str → Option Value} {base : Heap} {CX : CXT} {x qual : Str} {st : Stmt} {f : Addr} {fd : FuncData} {N ps : List Str} {k : Nat} {sp : Sp}
    (F : Fun K x qual st f fd) (S : FnScope N ps (defScope st)) (len : ∀ vs H Q E, sp vs H Q E → vs.length = ps.length)
    (B : ∀ (cdv : Value) (outer : List Env) (s : Shared) (H : Hp) (vs : List V) (Q : VK) (E : XK),
      Room k (A.deeper (envOfC qual (defScope st) s.heap.objs.size f cdv)) → sp vs H Q E →
      ∃ t, PSs (cxOf CX P w K mg base N qual (defScope st) f cdv A outer s H E) (defBody st) t ∧ t ⟨fun _ H' => Q .non H', Q, fun _ _ => False, fun _ _ => False⟩ (start N vs) H) :
    FnAt A P w K mg base CX (k + 1) f fd ps sp := by
  obtain ⟨oc, od, kV, doc, pm, an, cdv, ct, osl, rfl, at_f, code⟩ := F.ex
  refine ⟨len, ?_⟩
  intro outer s H args us vs Q E room env0 bt vals want
  have inK : K.In s.heap := env0.mod.kin.keeps (fun b o e => (env0.bs b o e).1)
  have kinds : ∀ y ∈ ps.zip us, (defScope st).names.lookup y.1 = some .local ∨ ((defScope st).names.lookup y.1 = some .cell ∧ ((cellsFrom (s.heap.objs.size + 1) (defScope st).names []).lookup y.1).isSome = true) := by
    rintro ⟨n, v⟩ hy
    rcases S.par n (List.of_mem_zip hy).1 with l | c
    · exact .inl l
    · exact .inr ⟨c, PySem.W.cellsFrom_some _ _ _ (.inl c)⟩
  refine codeAny_call_function room.depth (inK _ _ at_f) rfl S.co S.gen rfl (PySem.W.codeRec_of inK code) (bt _ _ _ _ ?_)
  refine wpAny_newFunctionEnv_cells S.kind kinds ?_
  rintro env rfl s1 ic
  refine ⟨(env0.mod.nolimit.keeps fun b o e => (env0.bs b o e).1).keeps ic.toInCall.keep, codeAny_func ?_⟩
  obtain ⟨t, pss, reading⟩ := B cdv outer s H vs Q E (room.deeper _) want
  have inv := inv_start (CX := CX) (E := E) S room.hd env0 (len _ _ _ _ want) vals ic
  refine wpAny_mono (pss.run [] s1 (start N vs) H _ inv reading) ?_ (fun _ _ z => z)
  intro fl s' z
  match fl, z with
  | .ret u, ⟨v, σ', H', J, rv, q⟩ => exact ⟨v, H', J.os, J.bare, J.base, J.hok, rv, q⟩
  | .next, ⟨σ', H', J, q⟩ => exact ⟨.non, H', J.os, J.bare, J.base, J.hok, rfl, q⟩
  | .brk, ⟨_, _, _, q⟩ => exact q.elim
  | .cont, ⟨_, _, _, q⟩ => exact q.elim
/-- f(e, ..) where f keeps its promise at this place -/
theorem pe_callA {X : Cx} {CX : CXT} {k : Nat} {f : Addr} {fd : FuncData} {ps : List Str} {sp : Sp} {dvs : List V} {ds : List Value} {E : XK} {x : Str} {p pos : Pos} {e : Expr} {es : List Expr} {t : TA}
    (F : FnAt X.A X.prog X.w X.K X.mg X.base CX k f fd ps sp) (room : Room k X.A) (gl : Gl X x) (at_x : X.mg x = some (.ref f)) (kp : PySem.W.keepIn X.K (.ref f) = true)
    (bi : Binds X.K fd ps ds) (vd : Vals dvs ds) (ex : Passes CX X E) (args : PA X (e :: es) t)
    (nodbg : (x == ("__debug__" : Str)) = false := by decide) (one : starEach (e :: es) X.env = (false, eval e X.env) :: starEach es X.env := by rfl) (nostar : (backTo pos (starEach es X.env)).any (·.1) = false := by rfl) :
    PE X (.Call (.Name x p) (e :: es) [] pos) (tCall sp dvs E t) := by
  constructor
  intro pins s σ H Q inv want
  refine wpAny_Call_Name_kw (ld_glob inv gl at_x ?_ nodbg)
  refine PySem.W.callWith_K (h₀ := X.base) inv.ok.mod.kin kp (thn (args.run pos pins s σ H _ inv want) ?_) one nostar
  rintro us s1 ⟨vs, H1, inv1, vals, want1⟩
  refine ⟨inv1.kIn, ?_⟩
  have both : Vals (vs ++ dvs) (us ++ ds) := vals.append vd
  have size : (us ++ ds).length = ps.length := both.length.symm.trans (F.len _ _ _ _ want1)
  refine wpAny_call (codeAny_mono (F.go X.stack s1 H1 ⟨us, []⟩ _ _ Q E room inv1.env0 (bi s1 us inv1.kIn size) both want1) ?_)
  intro r s' z
  match r, z with
  | .error er, z => exact ex pins σ H1 s1 er s' inv1 z
  | .ok (.ret u), z => exact inv1.after z
  | .ok .next, z => exact z.elim
  | .ok .brk, z => exact z.elim
  | .ok .cont, z => exact z.elim
/-- repr of data -/
def rRepr (X : Cx) : List V → Hp → VK → Prop := fun xs H Q => ∃ v d, xs = [v] ∧ Dp X.K H v d ∧ d.showable = true ∧ d.hasDict = false ∧ d.depth ≤ 60 ∧ d.shown.length ≤ sizeLine ∧ Q (.str d.shown) H
theorem call_reprD {X : Cx} (g : Calm X.A) (hu : X.A.units + 64 < cLine) : CallR X (.builtin "repr") (rRepr X) := by
  intro pins s σ H xs us Q inv vals want
  obtain ⟨v, d, rfl, dp, sh, nd, dep, len, q⟩ := want
  cases vals with
  | cons rv rest =>
    cases rest
    obtain ⟨as, rd⟩ := Dp.reads inv d v _ dp rv
    have nomod : d.hasDict = true → sysModules ∉ as := fun e => by rw [nd] at e; cases e
    cases dp with
    | non => cases rv; exact PySem.P.repr_of_none ⟨.str _, H, inv.tok _, ⟨_, rfl⟩, q⟩
    | bl b => cases rv; exact PySem.P.repr_of_bool ⟨.str _, H, inv.tok _, ⟨_, rfl⟩, q⟩
    | int i =>
      obtain ⟨t, rfl⟩ := rv
      exact PySem.P.repr_of_int (of_decide_eq_true sh) ⟨.str _, H, inv.tok _, ⟨_, rfl⟩, q⟩
    | str z =>
      obtain ⟨t, rfl⟩ := rv
      exact PySem.P.repr_of_str ⟨.str _, H, inv.tok _, ⟨_, rfl⟩, q⟩ len
    | lst h1 h2 =>
      cases rv
      exact repr_of_reads' rd sh nomod g (by omega) (fun _ _ z => z) (fun h' u tk keep => ⟨.str _, H, inv.kept keep, ⟨_, rfl⟩, q⟩) len
    | tup h1 h2 =>
      cases rv
      exact repr_of_reads' rd sh nomod g (by omega) (fun _ _ z => z) (fun h' u tk keep => ⟨.str _, H, inv.kept keep, ⟨_, rfl⟩, q⟩) len
/-! the end of a law whose def keeps its promise where the law is called -/
theorem tyes {σ : L2.St} {H : Hp} {F : Bool → Hp → Prop} (h : F true H) : tYes σ H F := h
theorem all_true : ∀ n : Nat, (List.replicate n true).all id = true
  | 0 => rfl
  | n + 1 => by simp [List.replicate_succ]
/-! parts by what they stand for -/
theorem lo_congr {x y x' y' : Int} (hy : 0 < y) (hy' : 0 < y') (e : x * y' = x' * y) : lo x y = lo x' y' := by
  have c := lo_cross x' y'
  refine (lo_eq (lo_lowest (a := x') hy') hy ?_).trans (Prod.eta _)
  have h : (x * (lo x' y').2) * y' = ((lo x' y').1 * y) * y' := by
    calc (x * (lo x' y').2) * y' = (x * y') * (lo x' y').2 := by simp only [Int.mul_assoc, Int.mul_comm, Int.mul_left_comm]
      _ = (x' * y) * (lo x' y').2 := by rw [e]
      _ = (x' * (lo x' y').2) * y := by simp only [Int.mul_assoc, Int.mul_comm, Int.mul_left_comm]
      _ = ((lo x' y').1 * y') * y := by rw [c]
      _ = ((lo x' y').1 * y) * y' := by simp only [Int.mul_assoc, Int.mul_comm, Int.mul_left_comm]
  exact Int.eq_of_mul_eq_mul_right (by omega) h
def spLess (K : PySem.W.Frag) : Sp := fun vs H Q _ => ∃ u v a b c d, vs = [u, v] ∧ TupI K H u a b ∧ TupI K H v c d ∧ Bt 400000 a ∧ Bt 4400 b ∧ Bt 400000 c ∧ Bt 4400 d ∧ Q (.bl (decide (a * d < c * b))) H
/-! how long a repr is -/
theorem text_len : ∀ (ts : List Str) (k : Nat) (acc : Str), (textFrom k acc ts).length ≤ acc.length + piled ts
  | [], k, acc => by show acc.length ≤ _; omega
  | t :: r, k, acc => by
    have ih := text_len r (k + 1) (acc ++ (if k > 0 then ", " else "" : String) ++ t)
    have e : ((if k > 0 then ", " else "" : String) : Str).length ≤ 2 := by split <;> decide +kernel
    show (textFrom (k + 1) (acc ++ (if k > 0 then ", " else "" : String) ++ t) r).length ≤ _
    rw [strLen_append, strLen_append] at ih
    rw [piled_cons]
    omega
theorem shown_int_len {n : Nat} {i : Int} (hn : 0 < n) (h : Bt n i) : (PyData.shown (.int i)).length ≤ n + 1 := by
  have e := int_text_length_le (a := i) hn (PySem.Flt.log2_lt_of hn h)
  show (Str.ofString (toString i)).length ≤ n + 1
  rw [PySem.ofString_length]
  exact e
theorem shown_tup_len (ds : List PyData) : (PyData.shown (.tuple ds)).length ≤ piled (PyData.shownAll ds) + 2 := PySem.fmt_text _
theorem shown_lst_len (ds : List PyData) : (PyData.shown (.list ds)).length ≤ piled (PyData.shownAll ds) + 2 := by
  show (textFrom 0 "[" (PyData.shownAll ds) ++ ("]" : Str)).length ≤ _
  have h := text_len (PyData.shownAll ds) 0 "["
  have e1 : (("[" : String) : Str).length = 1 := rfl
  have e2 : (("]" : String) : Str).length = 1 := rfl
  rw [strLen_append]
  omega
/-- the pair as data -/
def pd (a b : Int) : PyData := .tuple [.int a, .int b]
theorem bt_show {i : Int} (h : Bt 1900 i) : (PyData.int i).showable = true := decide_eq_true (Nat.lt_of_lt_of_le (PySem.Flt.log2_lt_of (by decide) h) (by decide))
theorem pd_dp {K : PySem.W.Frag} {H : Hp} {v : V} {a b : Int} (h : TupI K H v a b) : Dp K H v (pd a b) := by
  obtain ⟨t, rfl, h⟩ := h
  exact .tup h (.cons (.int a) (.cons (.int b) .nil))
/-! behind the last argument -/
theorem nil2 {σ : L2.St} {H : Hp} {F : List V → Hp → Prop} (h : F [] H) : tNil σ H F := h
/-! a value that stands for x / y -/
def Rp (K : PySem.W.Frag) (H : Hp) (v : V) (x y : Int) (n : Nat) : Prop := TupI K H v (lo x y).1 (lo x y).2 ∧ 0 < y ∧ Bt n x ∧ Bt n y
theorem Rp.same {K : PySem.W.Frag} {H H' : Hp} {v : V} {x y : Int} {n : Nat} (h : Rp K H v x y n) (s : Same H H') : Rp K H' v x y n := ⟨h.1.same s, h.2⟩
theorem Rp.k {K : PySem.W.Frag} {H H' : Hp} {v : V} {x y : Int} {n : Nat} (h : Rp K H v x y n) (s : KT H H') : Rp K H' v x y n := ⟨h.1.k s, h.2⟩
theorem Rp.x {K : PySem.W.Frag} {H H' : Hp} {p : Addr} {v : V} {x y : Int} {n : Nat} (h : Rp K H v x y n) (s : SameX p H H') (hp : PotAt H p) : Rp K H' v x y n := ⟨h.1.x s hp, h.2⟩
theorem Rp.mono {K : PySem.W.Frag} {H : Hp} {v : V} {x y : Int} {n m : Nat} (h : Rp K H v x y n) (k : n ≤ m) : Rp K H v x y m := ⟨h.1, h.2.1, h.2.2.1.mono k, h.2.2.2.mono k⟩
theorem Rp.of {K : PySem.W.Frag} {H : Hp} {v : V} {a b : Int} {n : Nat} (h : TupI K H v a b) (l : Lowest a b) (ba : Bt n a) (bb : Bt n b) : Rp K H v a b n := ⟨by rw [lo_of l]; exact h, l.1, ba, bb⟩
end WS
set_option Elab.async false
set_option linter.all false
set_option maxRecDepth 100000
set_option maxHeartbeats 4000000
namespace WS
open PySem PySem.Spec PyProof.Rows L2
/-! ### sorted(range(len(xs)), key=lambda place: (-xs[place], place)) -/
open PySem.W in
/-- the lambda called on the place i -/
theorem lam_key {prog : Program} {w : World} {A : Around} {s : Shared} {f c' c l : Addr} {q : Str} {params : Arguments} {scope : Scope} {clo : List (Str × Addr)} {pm ctv : Value} {i : Nat} {ti tz : Tok} {z : Int} {its : List Value} {xs pl : Str} {p1 p2 p3 p4 p5 p6 : Pos} {k : Nat}
    (hf : s.heap.get? f = some (kla_obj "<lambda>" q params (.Tuple [.UnaryOp .USub (.Subscript (.Name xs p1) (.Name pl p2) p3) p4, .Name pl p5] k p6) scope clo pm c' ctv))
    (hcode : s.heap.CodeRec (.ref c') q) (hdepth : A.depth < recursionLimit) (lim : s.heap.NoLimit)
    (hbind : ∀ v : Value, bindArgs (kla_fn "<lambda>" q params (.Tuple [.UnaryOp .USub (.Subscript (.Name xs p1) (.Name pl p2) p3) p4, .Name pl p5] k p6) scope clo pm (.ref c') ctv) ⟨[v], []⟩ = pure [(pl, v)])
    (hk : scope.kind = .function) (hco : scope.isCoroutine = false) (hgen : scope.isGenerator = false) (hnc : ∀ y ∈ scope.names, y.2 ≠ .cell)
    (hpl : scope.names.lookup pl = some .local) (hxs : scope.names.lookup xs = some .free) (hclo : clo.lookup xs = some c) (hcell : s.heap.IsCell c (some (.ref l)))
    (hl : s.heap.IsList l its.toArray) (hi : its[i]? = some (.int z tz)) (hi63 : (i : Int) < 2 ^ 63)
    (hd1 : (xs == ("__debug__" : Str)) = false) (hd2 : (pl == ("__debug__" : Str)) = false) (hd3 : (xs == ("__classdict__" : Str)) = false) :
    wpAny (model prog w) A (call (.ref f) [.int i ti]) (KeyPure (.tuple [.int (-z), .int i]) s) (fun _ _ => False) s := by
  refine wpAny_call (kla_callFunE hdepth hf rfl hco hgen rfl hcode ?_)
  rw [hbind]
  refine wpAny_pure (wpAny_newFunctionEnv hnc (fun y hy => ?_) (fun h₁ hns hsb => ⟨lim.fresh _ hsb, ?_⟩) hk)
  · obtain rfl := List.mem_singleton.mp hy
    exact hpl
  have kp : ∀ b o, s.heap.get? b = some o → h₁.get? b = some o := fun b o e => hsb.extBut b o (Nat.ne_of_lt (Heap.lt_size e)) (Heap.get?_push_of_some _ e)
  refine kla_codeExpr ?_
  refine wpAny_Tuple (Calls.spliced_cons ?_)
  have look : ∀ {h : Heap} {t : Nat} {Q : Value → Shared → Prop} {E : Value → Shared → Prop} {p : Pos}, h.Ns s.heap.objs.size (fun x => [(pl, Value.int (i : Int) ti)].reverse.lookup x) → Q (.int i ti) { s with heap := h, toks := t } →
      wpAny (model prog w) (A.deeper (newEnv scope s.heap.objs.size mainGlobals clo (q ++ ".<locals>.") (some f) (.ref c') none builtinsNs)) (eval (.Name pl p) (newEnv scope s.heap.objs.size mainGlobals clo (q ++ ".<locals>.") (some f) (.ref c') none builtinsNs)) Q E { s with heap := h, toks := t } := by
    intro h t Q E p hn hq
    exact wpAny_Name (wpAny_loadName_local hk hpl hn (by simp) hq) hd2
  refine wpAny_UnaryOp (wpAny_Subscript_Name (T := "list") F.slot_list_getitem.lookup ?_)
  refine wpAny_Name (wpAny_loadName_free hk hxs hclo (v := .ref l) ?_ ?_ hd3) hd1
  · obtain ⟨o, e, d⟩ := hcell
    exact ⟨o, kp _ _ e, d⟩
  refine look hns ?_
  obtain ⟨o, e1, e2, no, e3⟩ := hl
  have hl' : h₁.IsList l its.toArray := ⟨o, kp _ _ e1, e2, no, e3⟩
  refine ⟨⟨o, kp _ _ e1, e2⟩, getItem_listL hl' (by omega) hi63 (by simpa using hi) (neg_int ?_)⟩
  refine Calls.spliced_cons (look hns ?_)
  refine Calls.spliced_nil ⟨by show 2 ≤ sizeLine; decide, _, _, rfl, fun b o e => Heap.get?_push_of_some _ (kp b o e), ?_⟩
  exact Reads.tuple (as := []) (Heap.get?_push_size _ rfl) rfl rfl (.cons (.int _ _) (.cons (.int _ _) .nil))
/-- the places by their numbers, the greatest first, of equal ones the lesser -/
def Ranked (es : List Int) (ord : List Nat) : Prop := ord.Perm (List.range es.length) ∧ ord.Pairwise fun i j => es.getD j 0 < es.getD i 0 ∨ (es.getD i 0 = es.getD j 0 ∧ i < j)
def keyD (es : List Int) (j : Nat) : PyData := .tuple [.int (-(es.getD j 0)), .int j]
theorem ranked_sort (es : List Int) : Ranked es ((List.range es.length).mergeSort (PySem.W.dataLe false (keyD es))) := by
  have e : PySem.W.dataLe false (keyD es) = fun p q : Nat => decide (-(es.getD p 0) < -(es.getD q 0) ∨ (-(es.getD p 0) = -(es.getD q 0) ∧ (p : Int) ≤ q)) := PySem.W.dataLe_ii (fun j : Nat => -(es.getD j 0)) (fun j : Nat => (j : Int))
  rw [e]
  refine ⟨List.mergeSort_perm _ _, ?_⟩
  have sd : List.Pairwise (fun p q : Nat => decide (-(es.getD p 0) < -(es.getD q 0) ∨ (-(es.getD p 0) = -(es.getD q 0) ∧ (p : Int) ≤ q)) = true) ((List.range es.length).mergeSort fun p q : Nat => decide (-(es.getD p 0) < -(es.getD q 0) ∨ (-(es.getD p 0) = -(es.getD q 0) ∧ (p : Int) ≤ q))) := by
    refine List.pairwise_mergeSort (fun a b c h1 h2 => ?_) (fun a b => ?_) _
    · have h1 := of_decide_eq_true h1
      have h2 := of_decide_eq_true h2
      exact decide_eq_true (by omega)
    · rw [Bool.or_eq_true, decide_eq_true_eq, decide_eq_true_eq]
      omega
  have nd : ((List.range es.length).mergeSort fun p q : Nat => decide (-(es.getD p 0) < -(es.getD q 0) ∨ (-(es.getD p 0) = -(es.getD q 0) ∧ (p : Int) ≤ q))).Nodup := (List.mergeSort_perm _ _).nodup_iff.mpr List.nodup_range
  refine (sd.and nd).imp fun {a b} ⟨h, n⟩ => ?_
  have h := of_decide_eq_true h
  have n : a ≠ b := n
  omega
theorem each_range {vs : Array Value} {n : Nat} (h : ItemsOf (fun i v => ∃ t, v = .int (0 + i * 1) t) vs n) : PySem.W.EachIs (fun (v : Value) (j : Nat) => ∃ t, v = .int j t) vs.toList (List.range n) := by
  have go : ∀ (l : List Value) (k : Nat), (∀ j v, l[j]? = some v → ∃ t, v = Value.int ((k + j : Nat) : Int) t) → PySem.W.EachIs (fun (v : Value) (j : Nat) => ∃ t, v = .int j t) l (List.range' k l.length) := by
    intro l
    induction l with
    | nil => intro k _; exact .nil
    | cons v r ih =>
      intro k hk
      refine .cons (by simpa using hk 0 v rfl) (ih (k + 1) fun j u e => ?_)
      obtain ⟨t, e2⟩ := hk (j + 1) u (by simpa using e)
      exact ⟨t, by rw [e2]; congr 1; omega⟩
  have e : n = vs.toList.length := by rw [Array.length_toList]; exact h.1.symm
  rw [List.range_eq_range', e]
  refine go _ 0 fun j v hj => ?_
  obtain ⟨t, e⟩ := h.2 j v (by simpa using hj)
  exact ⟨t, by rw [e]; congr 1; omega⟩
open PySem.W in
/-- sorted(range(n), key=f) -/
theorem sorted_range {prog : Program} {w : World} {A : Around} {E : Value → Shared → Prop} {s : Shared} {r f : Addr} {n : Nat} {t u v : Tok} {Q : Value → Shared → Prop} (k : Nat → PyData) (hh : A.handled = none) (hr : IsRange s.heap r 0 n 1 t u v) (hn : n ≤ 1000000)
    (hal : AllAlike ((List.range n).map k)) (hk : Sortable ((List.range n).map k)) (hu : ∀ x, x ∈ List.range n → A.units + 2 + (k x).depth < cLine)
    (turn : ∀ (ti : Tok) (x : Nat), x < n → ∀ (h : Heap) (tk : Nat), (∀ b o, s.heap.get? b = some o → h.get? b = some o) →
      wpAny (model prog w) A.in1.in1 (call (.ref f) [.int x ti]) (KeyPure (k x) { s with heap := h, toks := tk }) (fun _ _ => False) { s with heap := h, toks := tk })
    (h : ∀ out c h' tk p, (∀ b o, s.heap.get? b = some o → h'.get? b = some o) → s.heap.get? p = none → h'.get? p = some (seqObj "list" (List.toArray out) c) → out.length = n →
      EachIs (fun (v : Value) (j : Nat) => ∃ t, v = .int j t) out ((List.range n).mergeSort (dataLe false k)) → Q (.ref p) { s with heap := h', toks := tk }) :
    wpAny (model prog w) A (call (.builtin "sorted") [.ref r] [(Str.ofString "key", .ref f)]) Q E s := by
  refine call_function_entry_kw kind_sorted plain_sorted entry_sorted (ksk_s1 _ _) ?_
  unfold Builtin.«sorted»
  refine wpAny_bind (m := checkCount "sorted" 1 1 _) (wpAny_pure ?_)
  have hs24 : n ≤ 2 ^ 24 := by omega
  have hsz : n ≤ sizeLine := by rw [sizeLine_eq]; omega
  refine wpAny_bind (L2.collect_range (n := n) hh hr (small_one (by omega) (by omega) (by omega) (by omega)) (by have := rangeSize_nat 0 (n : Int); simpa using this) hs24 fun h1 tk1 acc kp1 hacc => ?_)
  have ea := each_range hacc
  have hla : acc.toList.length = n := by rw [Array.length_toList]; exact hacc.1
  refine wpAny_bind (wpAny_newList ?_ (by rw [hla]; exact hsz))
  have hL : (h1.push (seqObj "list" acc.toList.toArray 0)).get? h1.objs.size = some (seqObj "list" acc.toList.toArray 0) := Heap.get?_push_size _ rfl
  have kp2 : ∀ b o, s.heap.get? b = some o → (h1.push (seqObj "list" acc.toList.toArray 0)).get? b = some o := fun b o e => Heap.get?_push_of_some _ (kp1 b o e)
  have ge : s.heap.get? h1.objs.size = none := by
    cases z : s.heap.get? h1.objs.size with
    | none => rfl
    | some o => exact absurd (Heap.lt_size (kp1 _ _ z)) (Nat.lt_irrefl _)
  refine wpAny_bind (wpAny_holding (wpAny_call_entry_kw slot_list_sort ⟨_, hL, rfl⟩ entry_list_sort ?body (ksk_l1 _ _)))
  case body =>
    rw [ksk_t1]
    have up : ∀ {g : Heap}, KeepsBut h1.objs.size (h1.push (seqObj "list" acc.toList.toArray 0)) g → ∀ b o, s.heap.get? b = some o → g.get? b = some o := fun {g} kp b o q => kp b o (Nat.ne_of_lt (Heap.lt_size (kp1 b o q))) (kp2 b o q)
    refine keyH_tree (kz := (List.range n).map k) (s := { s with heap := h1.push (seqObj "list" acc.toList.toArray 0), toks := tk1 }) hL (by rw [List.length_map, List.length_range, hla]) (by rw [hla]; exact hsz) hal hk (bound_map (A := A.in1.in1) hu)
      (keyH_turns (s := { s with heap := h1.push (seqObj "list" acc.toList.toArray 0), toks := tk1 }) ea fun v x hR hx h tk kp => ?_) fun h' tk out c kp hD ko => ?_
    · obtain ⟨ti, rfl⟩ := hR
      exact turn ti x (List.mem_range.mp hx) h tk (up kp)
    · refine ⟨_, rfl, wpAny_pure ⟨_, rfl, ?_⟩⟩
      exact h out c h' tk _ (up kp) ge hD ((ko.length (by rw [List.length_map, List.length_range, hla])).trans hla) (keyedOut_each k ko ea)
theorem obj_there {P : Program} {w : World} {H : Hp} {h : Heap} {a : Addr} {o : HO} (x : ObjOk P w H h a o) : ∃ u, h.get? a = some u := by
  cases o with
  | lst xs => obtain ⟨_, _, _, _, e⟩ := x; exact ⟨_, e⟩
  | tup xs => obtain ⟨_, _, _, _, e, _⟩ := x; exact ⟨_, e⟩
  | dK kvs => obtain ⟨_, _, _, _, o, _, _, e, _⟩ := x; exact ⟨_, e⟩
  | dT kvs => obtain ⟨_, _, _, _, o, _, _, e, _⟩ := x; exact ⟨_, e⟩
  | set S n => obtain ⟨o, _, _, _, e, _⟩ := x; exact ⟨_, e⟩
  | ins C dx fs => obtain ⟨_, _, _, e, _⟩ := x; exact ⟨_, e⟩
  | own y => obtain ⟨_, e⟩ := x; exact ⟨_, e⟩
  | xd fs => obtain ⟨_, ⟨_, _, _, e, _⟩, _⟩ := x; exact ⟨_, e⟩
  | rng lo hi => obtain ⟨_, _, _, e⟩ := x; exact ⟨_, e⟩
  | frz ob u => obtain ⟨e, _⟩ := x; exact ⟨_, e⟩
  | tbl ps => exact ⟨_, x⟩
  | met f y => exact ⟨_, x⟩
  | ext φ => obtain ⟨_, ⟨_, e⟩, _⟩ := x; exact ⟨_, e⟩
theorem cr_range1 {X : Cx} : CallR X (.type "range") (fun vs H Q => ∃ j, vs = [V.int j] ∧ ∀ p, H p = none → Q (.ref p) (upd H p (.rng 0 j))) := by
  intro pins s σ H vs us Q I r h
  obtain ⟨j, rfl, q⟩ := h
  obtain ⟨u1, rfl, ri⟩ := vals1 r
  obtain ⟨t, rfl⟩ := ri
  refine call_range_1 ⟨.ref s.heap.objs.size, upd H s.heap.objs.size (.rng 0 j), I.laid (t' := s.toks + 2) (fun b o e => Heap.get?_push_of_some _ e) (Nat.le_refl _) ?_, rfl, q _ (I.hok.fresh (Nat.le_refl _))⟩
  exact ⟨_, _, _, Heap.get?_push_size _ rfl⟩
theorem vals_at : ∀ {xs : List V} {us : List Value} {i : Nat} {v : V}, Vals xs us → xs[i]? = some v → ∃ u, us[i]? = some u ∧ RelV v u
  | _, _, 0, v, .cons r _, e => ⟨_, rfl, by simp at e; subst e; exact r⟩
  | _, _, i + 1, v, .cons _ t, e => by
    obtain ⟨u, e1, e2⟩ := vals_at t (by simpa using e)
    exact ⟨u, by simpa using e1, e2⟩
theorem vals_each : ∀ {out : List Value} {ord : List Nat}, PySem.W.EachIs (fun (v : Value) (j : Nat) => ∃ t, v = .int j t) out ord → Vals (ord.map fun j : Nat => V.int j) out
  | _, _, .nil => .nil
  | _, _, .cons ⟨t, e⟩ r => .cons ⟨t, e⟩ (vals_each r)
abbrev keyBody (xs pl : Str) (p1 p2 p3 p4 p5 p6 : Pos) (k : Nat) : Expr := .Tuple [.UnaryOp .USub (.Subscript (.Name xs p1) (.Name pl p2) p3) p4, .Name pl p5] k p6
def tSrt (T : List (Addr × Str)) (i : Nat) (tr : TE) : TE := fun σ H Q => tr σ H fun v H1 => ∃ (r l : Addr) (es : List Int), v = .ref r ∧ H1 r = some (.rng 0 es.length) ∧ σ[i]? = some (some (.ref l)) ∧ H1 l = some (.lst (es.map V.int)) ∧ es.length ≤ 1000000 ∧ LamX.Tabs T H1 ∧
  ∀ H2 p ord, LamX.ExtN H1 H2 → LamX.Tabs T H2 → H2 p = none → Ranked es ord → Q (.ref p) (upd H2 p (.lst (ord.map fun j : Nat => V.int j)))
theorem pe_sortedLam {X : Cx} {T : List (Addr × Str)} {tr : TE} {er : Expr} {xs pl : Str} {params : Arguments} {scope : Scope} {c P : Addr} {i k m : Nat} {p pos lpos kpos p1 p2 p3 p4 p5 p6 : Pos}
    (hcalm : X.calm = true) (hg : Gl X "sorted") (hm : X.mg "sorted" = none) (hr : PE X er tr) (room : Room m X.A)
    (TB : LamX.TabB X.base X.mg c P) (hcode : X.env.code = .ref c) (hmT : (P, X.env.qual ++ "<lambda>") ∈ T) (hu : ∀ p ∈ T, p.1 = P → p.2 = X.env.qual ++ "<lambda>")
    (hN : X.N[i]? = some xs) (hv : X.env.scope.names.lookup xs = some .cell) (hdef : defaultsOf params X.env = ([], []))
    (hbind : ∀ (q : Str) (cl : List (Str × Addr)) (pm cv ctv v : Value), bindArgs (PySem.W.kla_fn "<lambda>" q params (keyBody xs pl p1 p2 p3 p4 p5 p6 k) scope cl pm cv ctv) ⟨[v], []⟩ = pure [(pl, v)])
    (hk : scope.kind = .function) (hco : scope.isCoroutine = false) (hgen : scope.isGenerator = false) (hnames : scope.names = [(pl, .local), (xs, .free)]) (hne : (pl == xs) = false)
    (hd1 : (xs == ("__debug__" : Str)) = false) (hd2 : (pl == ("__debug__" : Str)) = false) (hd3 : (xs == ("__classdict__" : Str)) = false)
    (na : backTo pos (starEach [er] X.env) = (false, eval er X.env) :: backTo pos (starEach [] X.env) := by rfl) :
    PE X (.Call (.Name "sorted" p) [er] [⟨some "key", .Lambda params (keyBody xs pl p1 p2 p3 p4 p5 p6 k) scope lpos, kpos⟩] pos) (tSrt T i tr) := by
  refine ⟨fun pins s σ H Q I h => ?_⟩
  have hne2 : (xs == pl) = false := by
    rw [beq_eq_false_iff_ne] at hne ⊢
    exact fun z => hne z.symm
  refine wpAny_Call_Name_kw (ld_blt I hg hm (by rfl) ?_)
  refine PyProof.Rows.callWith_kw ?_ na (by rw [na]; rfl)
  rw [na]
  refine Calls.spliced_cons (thn (hr.run pins s σ H _ I h) fun u s1 ⟨v, H1, I1, r1, q1⟩ => ?_)
  obtain ⟨r, l, es, rfl, hrng, hσ, hlst, hlen, hT, q⟩ := q1
  obtain rfl : u = Value.ref r := r1
  refine Calls.spliced_nil ?_
  show wpAny _ _ (evalAll [do let v ← eval (.Lambda params (keyBody xs pl p1 p2 p3 p4 p5 p6 k) scope lpos) X.env; standAt pos; pure v]) _ _ _
  refine evalAll_cons (wpAny_bind (LamX.lam_make2 I1 TB hcode hmT hu hT hdef (fun y hy e => ?_) fun f c' pm ctv H2 s2 I2 eN T2 hf hfn hfr hco' => wpAny_bind (wpAny_standAt (wpAny_pure (evalAll_nil ?_)))))
  · rw [hnames] at hy
    simp only [List.mem_cons, List.not_mem_nil, or_false] at hy
    rcases hy with rfl | rfl
    · cases e
    · exact I1.ok.has _ (.inl hv)
  show wpAny _ _ (call (.builtin "sorted") [.ref r] [(Str.ofString "key", .ref f)]) _ _ _
  have hrng2 := eN _ _ hrng (fun ps z => by cases z)
  have hlst2 := eN _ _ hlst (fun ps z => by cases z)
  obtain ⟨t, u, v, hro⟩ := I2.hok r _ hrng2
  obtain ⟨hz, its, n, hvals, hlo⟩ := I2.hok l _ hlst2
  obtain ⟨⟨oc, vs, tq, c1, c2, c3⟩, _, _⟩ := I2.hok c' _ hco'
  obtain ⟨mm, _, hloc⟩ := I2.loc
  obtain ⟨ul, ru, hlook⟩ := hloc i xs _ hN hσ (.inr (.inl hv))
  obtain rfl : ul = Value.ref l := ru
  obtain ⟨cc, hcc, hcell⟩ : ∃ c, X.env.cells.lookup xs = some c ∧ s2.heap.IsCell c (some (.ref l)) := by
    rcases hlook with ⟨z, _⟩ | ⟨_, z⟩
    · have z : X.env.scope.names.lookup xs = some .local := z
      rw [hv] at z
      cases z
    · exact z
  have hclo : (cloFrom X.env.cells scope.names []).lookup xs = some cc := by
    rw [hnames]
    show (cloFrom X.env.cells [(pl, NameKind.local), (xs, NameKind.free)] []).lookup xs = some cc
    simp [cloFrom, hcc]
  refine sorted_range (n := es.length) (keyD es) (I.ok.hd hcalm) (r := r) hro hlen ?_ ?_ ?_ ?_ ?_
  · intro d hd d' hd'
    obtain ⟨a, _, rfl⟩ := List.mem_map.mp hd
    obtain ⟨b, _, rfl⟩ := List.mem_map.mp hd'
    simp [keyD, PySem.W.alike, PySem.W.alikeAll]
  · refine .inl fun d hd => ?_
    obtain ⟨a, _, rfl⟩ := List.mem_map.mp hd
    exact ⟨_, _, rfl⟩
  · intro x _
    have := room.un
    have e : (keyD es x).depth ≤ 10 := by simp [keyD, PyData.depth, PyData.depthAll]
    omega
  · intro ti x hx h tk kp
    have hz' : (es.map V.int)[x]? = some (.int (es.getD x 0)) := by
      rw [List.getElem?_map, List.getElem?_eq_getElem hx, List.getD_eq_getElem?_getD, List.getElem?_eq_getElem hx]
      rfl
    obtain ⟨u, hu1, tz, rfl⟩ := vals_at hvals hz'
    refine lam_key (s := { s2 with heap := h, toks := tk }) (c := cc) (l := l) (its := its) (kp _ _ hf) ⟨c', oc, vs, tq, rfl, kp _ _ c1, c2, c3⟩ (by have := room.dp; show X.A.depth < _; omega) (I2.nolimit.keeps kp) (fun v => hbind _ _ _ _ _ v) hk hco hgen (fun y hy => ?_) ?_ ?_ hclo ?_ ⟨_, kp _ _ hlo, rfl, n, rfl⟩ hu1 (by omega) hd1 hd2 hd3
    · rw [hnames] at hy
      simp only [List.mem_cons, List.not_mem_nil, or_false] at hy
      rcases hy with rfl | rfl <;> exact fun z => by cases z
    · rw [hnames]
      simp
    · rw [hnames]
      simp [List.lookup, hne2]
    · obtain ⟨o, e, d⟩ := hcell
      exact ⟨o, kp _ _ e, d⟩
  · intro out c h' tk p kp fresh hp hout each
    have nH : H2 p = none := by
      cases z : H2 p with
      | none => rfl
      | some o =>
        obtain ⟨u, e⟩ := obj_there (I2.hok p o z)
        rw [fresh] at e
        cases e
    have rk := ranked_sort es
    refine ⟨.ref p, _, Inv.laidN I2 kp fresh nH ?_, rfl, q H2 p _ eN T2 nH rk⟩
    refine ⟨?_, out, c, vals_each each, hp⟩
    rw [List.length_map, List.length_mergeSort, List.length_range, sizeLine_eq]
    omega
end WS
set_option Elab.async false
set_option linter.all false
set_option maxRecDepth 100000
set_option maxHeartbeats 4000000
namespace WS
open PySem PySem.Spec PyProof.Rows L2
/-! ### a def whose code object is known; the end of a law with one table -/
theorem fun_cd {CX : CXT} {P : Program} {w : World} {K : PySem.W.Frag} {mg : Str → Option Value} {base : Heap} {x qual : Str} {st : Stmt} {f : Addr} {fd : FuncData} {N ps : List Str} {k : Nat} {sp : Sp}
    (F : Fun K x qual st f fd) (S : FnScope N ps (defScope st)) (len : ∀ vs H Q E, sp vs H Q E → vs.length = ps.length)
    (B : ∀ (cdv : Value) (A : Around) (outer : List Env) (s : Shared) (H : Hp) (vs : List V) (Q : VK) (E : XK), fd.code = cdv → Room k (A.deeper (envOfC qual (defScope st) s.heap.objs.size f cdv)) → sp vs H Q E →
      ∃ t, PSs (cxOf CX P w K mg base N qual (defScope st) f cdv A outer s H E) (defBody st) t ∧ t ⟨fun _ H' => Q .non H', Q, fun _ _ => False, fun _ _ => False⟩ (start N vs) H) : FnOk P w K mg base CX (k + 1) f fd ps sp := by
  obtain ⟨oc, od, kV, doc, pm, an, cdv, ct, osl, rfl, lk, code⟩ := F.ex
  exact fn_of lk code S len (fun A outer s H vs Q E hr h => B cdv A outer s H vs Q E rfl hr h)
/-! ### tables through steps -/
open LamX in
theorem TabS.x {p P : Addr} {q : Str} {H H' : Hp} (t : TabS H P q) (s : SameX p H H') (hp : PotAt H p) : TabS H' P q := by
  obtain ⟨x, y, e, _⟩ := hp
  obtain ⟨ps, h1, h2, h3⟩ := t
  refine ⟨ps, s _ _ (fun z => ?_) h1, h2, fun pos cv hc => ?_⟩
  · rw [z, e] at h1
    cases h1
  · obtain ⟨c, e1, e2⟩ := h3 pos cv hc
    refine ⟨c, e1, s _ _ (fun z => ?_) e2⟩
    rw [z, e] at e2
    unfold CodeO at e2
    cases e2
open LamX in
theorem TabS.set {P D : Addr} {q : Str} {H : Hp} {xs ys : List V} (t : TabS H P q) (h : H D = some (.lst xs)) : TabS (upd H D (.lst ys)) P q := by
  obtain ⟨ps, h1, h2, h3⟩ := t
  refine ⟨ps, ?_, h2, fun pos cv hc => ?_⟩
  · rw [upd_ne (fun z => by rw [z, h] at h1; cases h1)]
    exact h1
  · obtain ⟨c, e1, e2⟩ := h3 pos cv hc
    refine ⟨c, e1, ?_⟩
    rw [upd_ne (fun z => by rw [z, h] at e2; unfold CodeO at e2; cases e2)]
    exact e2
open LamX in
theorem TabS.tabs {P : Addr} {q : Str} {H : Hp} (t : TabS H P q) : Tabs [(P, q)] H := fun p hp => by
  obtain rfl := List.mem_singleton.mp hp
  exact t
open LamX in
theorem ExtN.same {H H' : Hp} (e : Same H H') : ExtN H H' := fun b o h _ => e b o h
open LamX in
theorem ExtN.kt {H H' : Hp} (e : ExtN H H') : KT H H' := ⟨fun _ _ h => e _ _ h (fun _ z => by cases z), fun _ _ _ h => e _ _ h (fun _ z => by cases z)⟩
open LamX in
theorem ExtN.pot {H H' : Hp} {p : Addr} (e : ExtN H H') (h : PotAt H p) : PotAt H' p := by
  obtain ⟨x, y, z, r⟩ := h
  exact ⟨x, y, e _ _ z (fun _ z => by cases z), r⟩
end WS
set_option Elab.async false
set_option linter.all false
set_option maxRecDepth 100000
set_option maxHeartbeats 4000000
namespace WS
open PySem PySem.Spec PyProof.Rows L2
/-! ### rows by their greatest -/
abbrev qLam : Str := ("greatest_first" : Str) ++ ".<locals>." ++ "<lambda>"
def RankedP (ps : List (Int × Int)) (ord : List Nat) : Prop := ord.Perm (List.range ps.length) ∧ ord.Pairwise fun i j =>
  (ps.getD j (0, 1)).1 * (ps.getD i (0, 1)).2 < (ps.getD i (0, 1)).1 * (ps.getD j (0, 1)).2 ∨ ((ps.getD i (0, 1)).1 * (ps.getD j (0, 1)).2 = (ps.getD j (0, 1)).1 * (ps.getD i (0, 1)).2 ∧ i < j)
theorem cross_lt {a b a' b' c : Int} (hb : 0 < b) (hb' : 0 < b') (h : b ∣ c) (h' : b' ∣ c) (hc : 0 < c) : a * (c / b) < a' * (c / b') ↔ a * b' < a' * b := by
  obtain ⟨m, rfl⟩ := h
  obtain ⟨n, e⟩ := h'
  rw [Int.mul_ediv_cancel_left _ (by omega)]
  rw [show b * m / b' = n by rw [e, Int.mul_ediv_cancel_left _ (by omega)]]
  have k : 0 < b * b' := Int.mul_pos hb hb'
  have e1 : a * m * (b * b') = a * b' * (b * m) := by grind
  have e2 : a' * n * (b * b') = a' * b * (b * m) := by rw [e]; grind
  constructor
  · intro h
    have := Int.mul_lt_mul_of_pos_right h k
    rw [e1, e2] at this
    exact Int.lt_of_mul_lt_mul_right this (Int.le_of_lt hc)
  · intro h
    have := Int.mul_lt_mul_of_pos_right h hc
    rw [← e1, ← e2] at this
    exact Int.lt_of_mul_lt_mul_right this (Int.le_of_lt k)
theorem cross_eq {a b a' b' c : Int} (hb : 0 < b) (hb' : 0 < b') (h : b ∣ c) (h' : b' ∣ c) (hc : 0 < c) : a * (c / b) = a' * (c / b') ↔ a * b' = a' * b := by
  have h1 := cross_lt (a := a) (a' := a') hb hb' h h' hc
  have h2 := cross_lt (a := a') (a' := a) hb' hb h' h hc
  omega
def overC (c : Int) (p : Int × Int) : Int := p.1 * (c / p.2)
theorem ranked_c {ps : List (Int × Int)} {c : Int} {ord : List Nat} (hc : 0 < c) (hp : ∀ p ∈ ps, 0 < p.2 ∧ p.2 ∣ c) : Ranked (ps.map (overC c)) ord ↔ RankedP ps ord := by
  unfold Ranked RankedP
  rw [List.length_map]
  refine and_congr_right fun hperm => ?_
  have at_ : ∀ i ∈ ord, (ps.map (overC c)).getD i 0 = overC c (ps.getD i (0, 1)) ∧ 0 < (ps.getD i (0, 1)).2 ∧ (ps.getD i (0, 1)).2 ∣ c := by
    intro i hi
    have hi : i < ps.length := List.mem_range.mp (hperm.mem_iff.mp hi)
    rw [List.getD_eq_getElem?_getD, List.getD_eq_getElem?_getD, List.getElem?_map, List.getElem?_eq_getElem hi]
    exact ⟨rfl, hp _ (List.getElem_mem hi)⟩
  constructor
  · intro h
    refine List.Pairwise.imp_of_mem (fun {i j} hi hj h => ?_) h
    obtain ⟨e1, p1, d1⟩ := at_ i hi
    obtain ⟨e2, p2, d2⟩ := at_ j hj
    rw [e1, e2] at h
    unfold overC at h
    rw [cross_lt p2 p1 d2 d1 hc, cross_eq p1 p2 d1 d2 hc] at h
    exact h
  · intro h
    refine List.Pairwise.imp_of_mem (fun {i j} hi hj h => ?_) h
    obtain ⟨e1, p1, d1⟩ := at_ i hi
    obtain ⟨e2, p2, d2⟩ := at_ j hj
    rw [e1, e2]
    unfold overC
    rw [cross_lt p2 p1 d2 d1 hc, cross_eq p1 p2 d1 d2 hc]
    exact h
theorem lcm_step {f b : Int} (hf : 0 < f) (hb : 0 < b) : 0 < f / (Int.gcd f b : Int) * b ∧ f ∣ f / (Int.gcd f b : Int) * b ∧ b ∣ f / (Int.gcd f b : Int) * b := by
  have g : (0 : Int) < (Int.gcd f b : Int) := by have := gcd_pos (a := f) (b := b) (by omega); omega
  have d1 : (Int.gcd f b : Int) ∣ f := Int.gcd_dvd_left f b
  have d2 : (Int.gcd f b : Int) ∣ b := Int.gcd_dvd_right f b
  generalize (Int.gcd f b : Int) = G at *
  obtain ⟨m, rfl⟩ := d1
  obtain ⟨k, rfl⟩ := d2
  rw [Int.mul_ediv_cancel_left m (by omega)]
  have hm0 : 0 < m := Int.pos_of_mul_pos_right hf (by omega)
  exact ⟨Int.mul_pos hm0 hb, ⟨k, by grind⟩, Int.dvd_mul_left m _⟩
/-- what stands at p, if anything, is a table -/
def New (H : Hp) (p : Addr) : Prop := ∀ o, H p = some o → ∃ ps, o = .tbl ps
theorem New.ne {H : Hp} {p b : Addr} {o : HO} (n : New H p) (h : H b = some o) (t : ∀ ps, o ≠ .tbl ps) : b ≠ p := by
  rintro rfl
  obtain ⟨ps, e⟩ := n o h
  exact t ps e
theorem New.of {H : Hp} {p : Addr} (h : H p = none) : New H p := fun o e => by rw [h] at e; cases e
def spCommon (K : PySem.W.Frag) : Sp := fun vs H Q _ => ∃ (n : Nat) (l : Addr) (rs : List V) (ps : List (Int × Int)), vs = [.ref l] ∧ n ≤ 8999 ∧ SqT K H l rs ∧ Parts K H rs ps ∧ (∀ q ∈ ps, Okp n q) ∧ (ps.length + 2) * (n + 1) ≤ 800000 ∧ ∀ c, 0 < c → (∀ q ∈ ps, q.2 ∣ c) → Bt (1 + ps.length * n) c → Q (.int c) H
end WS
set_option Elab.async false
set_option linter.all false
set_option maxRecDepth 100000
set_option maxHeartbeats 4000000
namespace WS
open PySem PySem.Spec PyProof.Rows L2
/-! ### sets of places, and the greatest -/
def gd (xs : List Int) (i : Nat) : Int := xs.getD i 0
/-! ### sums of parts over one below -/
theorem lo_zero {c : Int} (hc : 0 < c) : lo 0 c = (0, 1) := lo_eq ⟨by decide, by decide⟩ hc (by omega)
/-- a number into which all belows go -/
def cmul : List (Int × Int) → Int
  | [] => 1
  | q :: qs => q.2 * cmul qs
def gp (ps : List (Int × Int)) (i : Nat) : Int × Int := ps.getD i (0, 1)
theorem gp_mem {ps : List (Int × Int)} {i : Nat} (h : i < ps.length) : gp ps i ∈ ps := by
  unfold gp
  rw [List.getD_eq_getElem?_getD, List.getElem?_eq_getElem h]
  exact List.getElem_mem h
end WS
set_option Elab.async false
set_option linter.all false
set_option maxRecDepth 100000
set_option maxHeartbeats 4000000
namespace WS
open PySem PySem.Spec PyProof.Rows L2
/-! ### promises of sums_ahead, fall, is_within -/
def sumK (ps : List (Int × Int)) (ord : List Nat) (k : Nat) : Int × Int := ((ord.take k).map (gp ps)).foldl pl (0, 1)
def sumsP (ps : List (Int × Int)) (ord : List Nat) : List (Int × Int) := (List.range (ps.length + 1)).map (sumK ps ord)
def spMostW (K : PySem.W.Frag) : Sp := fun vs H Q _ => ∃ a n k : Int, vs = [.int a, .int n, .int k] ∧ Bt 2000 a ∧ Bt 200 n ∧ Bt 200 k ∧ NewT K H (lo (a * k * (n - k)) 2).1 (lo (a * k * (n - k)) 2).2 Q
/-- a row at l whose parts are ps, small enough -/
def RowAt (K : PySem.W.Frag) (H : Hp) (l : Addr) (ps : List (Int × Int)) : Prop := ∃ (n : Nat) (rs : List V), SqT K H l rs ∧ Parts K H rs ps ∧ (∀ q ∈ ps, Okp n q) ∧ (ps.length + 2) * (n + 1) ≤ 4400
theorem RowAt.k {K : PySem.W.Frag} {H H' : Hp} {l : Addr} {ps : List (Int × Int)} (h : RowAt K H l ps) (s : KT H H') : RowAt K H' l ps := by
  obtain ⟨n, rs, a, b, c⟩ := h
  exact ⟨n, rs, s.sqt a, b.k s, c⟩
def fallsAt (w : Int) (ps : List (Int × Int)) (ord : List Nat) (k : Nat) : Bool := decide ((lo (w * k * ((ps.length : Int) - k)) 2).1 * (sumK ps ord k).2 < (sumK ps ord k).1 * (lo (w * k * ((ps.length : Int) - k)) 2).2)
def fallV (w : Int) (ps : List (Int × Int)) (ord : List Nat) : V := match (List.range (ps.length + 1)).find? (fallsAt w ps ord) with
  | some k => .int (k : Nat)
  | none => .non
theorem RankedP.lt {ps : List (Int × Int)} {ord : List Nat} (h : RankedP ps ord) : ord.length = ps.length ∧ ∀ i ∈ ord, i < ps.length :=
  ⟨by rw [h.1.length_eq, List.length_range], fun _ hi => List.mem_range.mp (h.1.mem_iff.mp hi)⟩
theorem sumK_succ {ps : List (Int × Int)} {ord : List Nat} {k j : Nat} (h : ord[k]? = some j) : sumK ps ord (k + 1) = pl (sumK ps ord k) (gp ps j) := by
  unfold sumK
  rw [List.take_add_one, h]
  simp
theorem eqv_pairs (a b c d : Int) : PyData.eqv (pd a b) (pd c d) = decide (a = c ∧ b = d) := by
  simp [pd, PyData.eqv, PyData.eqvAll, Bool.beq_eq_decide_eq]
theorem find_at {p : Nat → Bool} {n k : Nat} (h : k < n) (hk : p k = true) (hb : ∀ j, j < k → p j = false) : (List.range n).find? p = some k := by
  rw [List.find?_range_eq_some]
  exact ⟨hk, List.mem_range.mpr h, fun j hj => by rw [hb j hj]; rfl⟩
theorem find_no {p : Nat → Bool} {n : Nat} (hb : ∀ j, j < n → p j = false) : (List.range n).find? p = none := by
  rw [List.find?_range_eq_none]
  exact fun j hj => by rw [hb j hj]; rfl
end WS
set_option Elab.async false
set_option linter.all false
set_option maxRecDepth 100000
set_option maxHeartbeats 4000000
namespace WS
open PySem PySem.Spec PyProof.Rows L2
/-! ### lists of numbers, of parts, of lists -/
theorem same_upd {H H' : Hp} {F : Addr} {o : HO} (s : Same H H') (n : H F = none) : Same H (upd H' F o) := fun b x e => by
  rw [upd_ne (ne_of_none e n)]
  exact s b x e
theorem dpall_ints {K : PySem.W.Frag} {H : Hp} : ∀ ns : List Int, DpAll K H (ns.map V.int) (ns.map PyData.int)
  | [] => .nil
  | n :: ns => .cons (.int n) (dpall_ints ns)
theorem lay_ints : ∀ ns : List Int, PyData.canLayAll0 (ns.map PyData.int) = true ∧ PyData.depthAll (ns.map PyData.int) ≤ 1
  | [] => ⟨by simp [PyData.canLayAll0], by simp [PyData.depthAll]⟩
  | n :: ns => by
    obtain ⟨a, b⟩ := lay_ints ns
    refine ⟨by simp [PyData.canLayAll0, PyData.canLay0, a], ?_⟩
    simp only [List.map_cons, PyData.depthAll, PyData.depth]
    omega
theorem shaped_ints (ns : List Int) : SeqAt.shaped (.list (ns.map PyData.int)) = true := by
  obtain ⟨a, b⟩ := lay_ints ns
  unfold SeqAt.shaped
  rw [show (PyData.list (ns.map PyData.int)).canLay0 = true from by simp only [PyData.canLay0]; exact a, show (PyData.list (ns.map PyData.int)).depth = PyData.depthAll (ns.map PyData.int) + 1 from by simp only [PyData.depth], Bool.true_and, decide_eq_true_eq]
  omega
theorem ints_dp {K : PySem.W.Frag} {H : Hp} {l : Addr} {ns : List Int} (h : SqL K H l (ns.map V.int)) : Dp K H (.ref l) (.list (ns.map PyData.int)) := .lst h (dpall_ints ns)
theorem nats_int (ns : List Nat) : ns.map (fun j : Nat => V.int j) = (ns.map fun j : Nat => (j : Int)).map V.int := by rw [List.map_map]; rfl
def pdP (p : Int × Int) : PyData := pd p.1 p.2
theorem dpall_parts {K : PySem.W.Frag} {H : Hp} : ∀ {rs : List V} {ps : List (Int × Int)}, Parts K H rs ps → DpAll K H rs (ps.map pdP)
  | [], [], _ => .nil
  | r :: rs, p :: ps, h => by
    obtain ⟨p', e, t⟩ := h.2 0 r rfl
    obtain rfl : p = p' := by simpa using e
    exact .cons (pd_dp t) (dpall_parts ⟨by have := h.1; simpa using this, fun i v hv => by simpa using h.2 (i + 1) v (by simpa using hv)⟩)
  | [], p :: ps, h => by have := h.1; simp at this
  | r :: rs, [], h => by have := h.1; simp at this
theorem lay_parts : ∀ ps : List (Int × Int), PyData.canLayAll0 (ps.map pdP) = true ∧ PyData.depthAll (ps.map pdP) ≤ 4
  | [] => ⟨by simp [PyData.canLayAll0], by simp [PyData.depthAll]⟩
  | n :: ns => by
    obtain ⟨a, b⟩ := lay_parts ns
    refine ⟨by simp [PyData.canLayAll0, PyData.canLay0, pdP, pd, a], ?_⟩
    simp only [List.map_cons, PyData.depthAll, PyData.depth, pdP, pd]
    omega
theorem shaped_parts (ps : List (Int × Int)) : SeqAt.shaped (.list (ps.map pdP)) = true ∧ SeqAt.shaped (.tuple (ps.map pdP)) = true := by
  obtain ⟨a, b⟩ := lay_parts ps
  unfold SeqAt.shaped
  constructor
  · rw [show (PyData.list (ps.map pdP)).canLay0 = true from by simp only [PyData.canLay0]; exact a, show (PyData.list (ps.map pdP)).depth = PyData.depthAll (ps.map pdP) + 1 from by simp only [PyData.depth], Bool.true_and, decide_eq_true_eq]
    omega
  · rw [show (PyData.tuple (ps.map pdP)).canLay0 = true from by simp only [PyData.canLay0]; exact a, show (PyData.tuple (ps.map pdP)).depth = PyData.depthAll (ps.map pdP) + 1 from by simp only [PyData.depth], Bool.true_and, decide_eq_true_eq]
    omega
theorem eqv_nil {α : Type} (f : α → PyData) (ns : List α) : PyData.eqv (.list (ns.map f)) (.list []) = ns.isEmpty := by
  cases ns <;> simp [PyData.eqv, PyData.eqvAll]
theorem dp_nil {K : PySem.W.Frag} {H : Hp} {l : Addr} (h : SqL K H l []) : Dp K H (.ref l) (.list []) := .lst h .nil
theorem shaped_nil : SeqAt.shaped (.list []) = true := rfl
theorem rgV_nat (n : Nat) : rgV 0 (n : Int) = (List.range n).map fun j : Nat => V.int j := by
  unfold rgV
  simp
/-- lists of places -/
def Lists (H : Hp) (vs : List V) (ss : List (List Nat)) : Prop := vs.length = ss.length ∧ ∀ (i : Nat) v, vs[i]? = some v → ∃ a s, v = .ref a ∧ ss[i]? = some s ∧ H a = some (.lst (s.map fun j : Nat => V.int j))
theorem Lists.same {H H' : Hp} {vs : List V} {ss : List (List Nat)} (h : Lists H vs ss) (s : Same H H') : Lists H' vs ss := ⟨h.1, fun i v e => by
  obtain ⟨a, t, h1, h2, h3⟩ := h.2 i v e
  exact ⟨a, t, h1, h2, s _ _ h3⟩⟩
theorem Lists.upd {H : Hp} {D : Addr} {o : HO} {vs : List V} {ss : List (List Nat)} (h : Lists H vs ss) (n : ∀ v ∈ vs, v ≠ .ref D) : Lists (upd H D o) vs ss := ⟨h.1, fun i v e => by
  obtain ⟨a, t, h1, h2, h3⟩ := h.2 i v e
  refine ⟨a, t, h1, h2, ?_⟩
  rw [upd_ne fun z => n v (List.mem_of_getElem? e) (by rw [h1, z])]
  exact h3⟩
theorem Lists.add {H : Hp} {vs : List V} {ss : List (List Nat)} {a : Addr} {s : List Nat} (h : Lists H vs ss) (ha : H a = some (.lst (s.map fun j : Nat => V.int j))) : Lists H (vs ++ [.ref a]) (ss ++ [s]) := by
  refine ⟨by simp [h.1], fun i v e => ?_⟩
  rcases Nat.lt_or_ge i vs.length with hi | hi
  · rw [List.getElem?_append_left hi] at e
    obtain ⟨b, t, h1, h2, h3⟩ := h.2 i v e
    exact ⟨b, t, h1, by rw [List.getElem?_append_left (by rw [← h.1]; exact hi)]; exact h2, h3⟩
  · rw [List.getElem?_append_right hi] at e
    have hi2 : i - vs.length = 0 := by
      rcases Nat.eq_zero_or_pos (i - vs.length) with z | z
      · exact z
      · rw [List.getElem?_eq_none (show [V.ref a].length ≤ _ from z)] at e; cases e
    rw [hi2] at e
    refine ⟨a, s, by simpa using e.symm, ?_, ha⟩
    rw [List.getElem?_append_right (by rw [← h.1]; exact hi), ← h.1, hi2]
    rfl
theorem Lists.append {H : Hp} {vs vs' : List V} {ss ss' : List (List Nat)} (h : Lists H vs ss) (k : Lists H vs' ss') : Lists H (vs ++ vs') (ss ++ ss') := by
  refine ⟨by simp [h.1, k.1], fun i v e => ?_⟩
  rcases Nat.lt_or_ge i vs.length with hi | hi
  · rw [List.getElem?_append_left hi] at e
    obtain ⟨b, t, h1, h2, h3⟩ := h.2 i v e
    exact ⟨b, t, h1, by rw [List.getElem?_append_left (by rw [← h.1]; exact hi)]; exact h2, h3⟩
  · rw [List.getElem?_append_right hi] at e
    obtain ⟨b, t, h1, h2, h3⟩ := k.2 _ v e
    exact ⟨b, t, h1, by rw [List.getElem?_append_right (by rw [← h.1]; exact hi), ← h.1]; exact h2, h3⟩
theorem Parts.at {K : PySem.W.Frag} {H : Hp} {rs : List V} {ps : List (Int × Int)} (h : Parts K H rs ps) {i : Nat} (hi : i < ps.length) : ∃ v, rs[i]? = some v ∧ gp ps i ∈ ps ∧ TupI K H v (gp ps i).1 (gp ps i).2 := by
  obtain ⟨v, hv⟩ : ∃ v, rs[i]? = some v := ⟨_, List.getElem?_eq_getElem (by rw [h.1]; exact hi)⟩
  obtain ⟨p, hp, t⟩ := h.2 i v hv
  have e : gp ps i = p := by unfold gp; rw [List.getD_eq_getElem?_getD, hp]; rfl
  exact ⟨v, hv, gp_mem hi, by rw [e]; exact t⟩
end WS
set_option Elab.async false
set_option linter.all false
set_option maxRecDepth 100000
set_option maxHeartbeats 4000000
namespace WS
open PySem PySem.Spec PyProof.Rows L2
/-! ### bounds of sums over small belows; due -/
def Okq (n d : Nat) (p : Int × Int) : Prop := 0 < p.2 ∧ Bt n p.1 ∧ Bt d p.2
theorem Okq.pl {n d m e : Nat} {p q : Int × Int} (h : Okq n d p) (k : Okq m e q) : Okq (max (n + e) (m + d) + 1) (d + e) (pl p q) := by
  have hp : 0 < p.2 * q.2 := Int.mul_pos h.1 k.1
  refine ⟨(lo_lowest hp).1, ?_, (h.2.2.mul k.2.2).lo2⟩
  exact (((h.2.1.mul k.2.2).mono (Nat.le_max_left _ _)).add ((k.2.1.mul h.2.2).mono (Nat.le_max_right _ _))).lo1
theorem Okq.mono {n d m e : Nat} {p : Int × Int} (h : Okq n d p) (a : n ≤ m) (b : d ≤ e) : Okq m e p := ⟨h.1, h.2.1.mono a, h.2.2.mono b⟩
theorem Okq.okp {n d m : Nat} {p : Int × Int} (h : Okq n d p) (a : n ≤ m) (b : d ≤ m) : Okp m p := ⟨h.1, h.2.1.mono a, h.2.2.mono b⟩
theorem Parts.erase {K : PySem.W.Frag} {H : Hp} {rs : List V} {ps : List (Int × Int)} (h : Parts K H rs ps) (k : Nat) : Parts K H (rs.eraseIdx k) (ps.eraseIdx k) := by
  refine ⟨by rw [List.length_eraseIdx, List.length_eraseIdx, h.1], fun i v e => ?_⟩
  rw [List.getElem?_eraseIdx] at e ⊢
  split at e
  · rename_i c
    rw [if_pos c]
    exact h.2 i v e
  · rename_i c
    rw [if_neg c]
    exact h.2 _ v e
theorem seq_keepN {K : PySem.W.Frag} {H H' : Hp} {a : Addr} {xs : List V} (h : SqL K H a xs) (s : ∀ o, H a = some o → (∀ ps, o ≠ .tbl ps) → H' a = some o) : SqL K H' a xs := by
  rcases h with (h | ⟨o, h⟩) | h
  · exact .inl (.inl (s _ h (fun _ z => by cases z)))
  · exact .inl (.inr ⟨o, s _ h (fun _ z => by cases z)⟩)
  · exact .inr h
end WS
set_option Elab.async false
set_option linter.all false
set_option maxRecDepth 100000
set_option maxHeartbeats 4000000
namespace WS
open PySem PySem.Spec PyProof.Rows L2
/-! ### reprs of rows; the best of the sets; sorted places -/
def setSum (ps : List (Int × Int)) (s : List Nat) : Int × Int := (s.map (gp ps)).foldl pl (0, 1)
def valC (ps : List (Int × Int)) (s : List Nat) : Int := (s.map (gd (ps.map (overC (cmul ps))))).sum
/-- v is the best of the sets of k places among ss -/
def BestOf (K : PySem.W.Frag) (H : Hp) (ps : List (Int × Int)) (ss : List (List Nat)) (k : Nat) (v : V) : Prop :=
  (v = .non ∧ ∀ s ∈ ss, s.length ≠ k) ∨ ∃ s ∈ ss, s.length = k ∧ TupI K H v (setSum ps s).1 (setSum ps s).2 ∧ ∀ s' ∈ ss, s'.length = k → valC ps s' ≤ valC ps s
theorem BestOf.k {K : PySem.W.Frag} {H H' : Hp} {ps : List (Int × Int)} {ss : List (List Nat)} {k : Nat} {v : V} (h : BestOf K H ps ss k v) (s : KT H H') : BestOf K H' ps ss k v := by
  rcases h with h | ⟨t, a, b, c, d⟩
  · exact .inl h
  · exact .inr ⟨t, a, b, c.k s, d⟩
theorem BestOf.put {K : PySem.W.Frag} {H : Hp} {ps : List (Int × Int)} {ss : List (List Nat)} {st : List Nat} {k : Nat} {t : V} (l : st.length = k) (tt : TupI K H t (setSum ps st).1 (setSum ps st).2) (mx : ∀ s' ∈ ss, s'.length = k → valC ps s' ≤ valC ps st) : BestOf K H ps (ss ++ [st]) k t := by
  refine .inr ⟨st, List.mem_append_right _ (List.mem_singleton.mpr rfl), l, tt, fun s hs l => ?_⟩
  rcases List.mem_append.mp hs with hs | hs
  · exact mx s hs l
  · rw [List.mem_singleton.mp hs]; exact Int.le_refl _
theorem rankedP_one {ps : List (Int × Int)} {a b : List Nat} (ha : RankedP ps a) (hb : RankedP ps b) : a = b := by
  refine List.Perm.eq_of_pairwise (fun i j _ _ h1 h2 => ?_) ha.2 hb.2 (ha.1.trans hb.1.symm)
  omega
theorem cutV_take (xs : List V) (k : Nat) : cutV xs none (some (k : Int)) = xs.take k := by
  unfold cutV
  rw [HT.sIx_none, HT.sIx_nat, List.drop_zero, Nat.sub_zero]
  rcases Nat.le_total k xs.length with h | h
  · rw [Nat.min_eq_left h]
  · rw [Nat.min_eq_right h, List.take_length, List.take_of_length_le h]
/-- what stands in H but p and the tables stands in H' -/
def ExtX (p : Addr) (H H' : Hp) : Prop := ∀ b o, b ≠ p → H b = some o → (∀ ps, o ≠ .tbl ps) → H' b = some o
theorem ExtX.trans {p : Addr} {H H1 H2 : Hp} (a : ExtX p H H1) (b : ExtX p H1 H2) : ExtX p H H2 := fun c o n h t => b c o n (a c o n h t) t
theorem ExtX.x {p : Addr} {H H1 : Hp} (s : SameX p H H1) : ExtX p H H1 := fun c o n h _ => s c o n h
theorem ExtX.n {p : Addr} {H H1 : Hp} (s : LamX.ExtN H H1) : ExtX p H H1 := fun c o _ h t => s c o h t
theorem ExtX.s {p : Addr} {H H1 : Hp} (s : Same H H1) : ExtX p H H1 := fun c o _ h _ => s c o h
theorem ExtX.w {p Z : Addr} {H H1 H2 : Hp} {o' : HO} (a : ExtX p H H1) (b : ExtX p H1 H2) (n : New H1 Z) : ExtX p H (upd H2 Z o') := fun c o nc h t => by
  have h1 := a c o nc h t
  rw [upd_ne (n.ne h1 t)]
  exact b c o nc h1 t
end WS
set_option Elab.async false
set_option linter.all false
set_option maxRecDepth 100000
set_option maxHeartbeats 4000000
namespace WS
open PySem PySem.Spec PyProof.Rows L2
/-! ### t[::-1] of a tuple -/
section
variable {prog : Program} {w : World} {A : Around} {E : Value → Shared → Prop} {s : Shared}
theorem fm_congr {α β : Type} {f g : α → Option β} : ∀ {l : List α}, (∀ x ∈ l, f x = g x) → l.filterMap f = l.filterMap g
  | [], _ => rfl
  | x :: l, h => by rw [List.filterMap_cons, List.filterMap_cons, h x List.mem_cons_self, fm_congr fun y hy => h y (List.mem_cons_of_mem _ hy)]
end
/-! ### t[lo:hi] of a tuple, the whole of it or not -/
def AllParts (K : PySem.W.Frag) (H : Hp) (rs : List V) : Prop := ∀ v ∈ rs, ∃ a b, TupI K H v a b ∧ Bt 4400 a ∧ Bt 4400 b
def Okl (p : Int × Int) : Prop := Lowest p.1 p.2 ∧ Okp 202 p
theorem Parts.all {K : PySem.W.Frag} {H : Hp} {rs : List V} {ps : List (Int × Int)} (h : Parts K H rs ps) (hk : ∀ q ∈ ps, Okl q) : AllParts K H rs := fun v hv => by
  obtain ⟨i, hi⟩ := List.getElem?_of_mem hv
  obtain ⟨p, hp, t⟩ := h.2 i v hi
  have := (hk p (List.mem_of_getElem? hp)).2
  exact ⟨_, _, t, this.2.1.mono (by decide), this.2.2.mono (by decide)⟩
end WS
set_option Elab.async false
set_option linter.all false
set_option maxRecDepth 100000
set_option maxHeartbeats 4000000
namespace WS
open PySem PySem.Spec PyProof.Rows L2
/-! data: values that never change, as PyData -/
mutual
def imm : PyData → Bool
  | .list _ | .dict _ => false
  | .tuple xs => immAll xs
  | _ => true
def immAll : List PyData → Bool
  | [] => true
  | x :: xs => imm x && immAll xs
end
mutual
theorem dp_k {K : PySem.W.Frag} {H H' : Hp} (s : KT H H') : ∀ (d : PyData) (v : V), imm d = true → Dp K H v d → Dp K H' v d
  | .none, _, _, h => by cases h; exact .non
  | .bool b, _, _, h => by cases h; exact .bl b
  | .int i, _, _, h => by cases h; exact .int i
  | .str x, _, _, h => by cases h; exact .str x
  | .list xs, _, e, _ => by unfold imm at e; cases e
  | .dict xs, _, e, _ => by unfold imm at e; cases e
  | .tuple xs, _, e, h => by
    unfold imm at e
    cases h with
    | tup h0 h1 => exact .tup (s.sqt h0) (dpall_k s xs _ e h1)
theorem dpall_k {K : PySem.W.Frag} {H H' : Hp} (s : KT H H') : ∀ (ds : List PyData) (vs : List V), immAll ds = true → DpAll K H vs ds → DpAll K H' vs ds
  | [], _, _, h => by cases h; exact .nil
  | d :: ds, _, e, h => by
    unfold immAll at e
    rw [Bool.and_eq_true] at e
    cases h with
    | cons h0 h1 => exact .cons (dp_k s d _ e.1 h0) (dpall_k s ds _ e.2 h1)
end
mutual
theorem dp_same {K : PySem.W.Frag} {H H' : Hp} (s : Same H H') : ∀ (d : PyData) (v : V), Dp K H v d → Dp K H' v d
  | .none, _, h => by cases h; exact .non
  | .bool b, _, h => by cases h; exact .bl b
  | .int i, _, h => by cases h; exact .int i
  | .str x, _, h => by cases h; exact .str x
  | .list xs, _, h => by
    cases h with
    | lst h0 h1 => exact .lst (s.seq h0) (dpall_same s xs _ h1)
  | .dict xs, _, h => by cases h
  | .tuple xs, _, h => by
    cases h with
    | tup h0 h1 => exact .tup (Same.tup s h0) (dpall_same s xs _ h1)
theorem dpall_same {K : PySem.W.Frag} {H H' : Hp} (s : Same H H') : ∀ (ds : List PyData) (vs : List V), DpAll K H vs ds → DpAll K H' vs ds
  | [], _, h => by cases h; exact .nil
  | d :: ds, _, h => by
    cases h with
    | cons h0 h1 => exact .cons (dp_same s d _ h0) (dpall_same s ds _ h1)
end
theorem _root_.L2.Dp.sm {K : PySem.W.Frag} {H H' : Hp} {v : V} {d : PyData} (h : Dp K H v d) (s : Same H H') : Dp K H' v d := dp_same s d v h
theorem _root_.L2.Dp.kt {K : PySem.W.Frag} {H H' : Hp} {v : V} {d : PyData} (h : Dp K H v d) (s : KT H H') (e : imm d = true) : Dp K H' v d := dp_k s d v e h
theorem _root_.L2.DpAll.sm {K : PySem.W.Frag} {H H' : Hp} {vs : List V} {ds : List PyData} (h : DpAll K H vs ds) (s : Same H H') : DpAll K H' vs ds := dpall_same s ds vs h
theorem _root_.L2.DpAll.kt {K : PySem.W.Frag} {H H' : Hp} {vs : List V} {ds : List PyData} (h : DpAll K H vs ds) (s : KT H H') (e : immAll ds = true) : DpAll K H' vs ds := dpall_k s ds vs e h
theorem dp_tup {K : PySem.W.Frag} {H : Hp} {v : V} {ds : List PyData} (h : Dp K H v (.tuple ds)) : ∃ t vs, v = .ref t ∧ SqT K H t vs ∧ DpAll K H vs ds := by
  cases h with
  | tup h0 h1 => exact ⟨_, _, rfl, h0, h1⟩
theorem dp_int {K : PySem.W.Frag} {H : Hp} {v : V} {i : Int} (h : Dp K H v (.int i)) : v = .int i := by cases h; rfl
theorem dp_str {K : PySem.W.Frag} {H : Hp} {v : V} {z : Str} (h : Dp K H v (.str z)) : v = .str z := by cases h; rfl
theorem dp2 {K : PySem.W.Frag} {H : Hp} {v : V} {d e : PyData} (h : Dp K H v (.tuple [d, e])) : ∃ t x y, v = .ref t ∧ SqT K H t [x, y] ∧ Dp K H x d ∧ Dp K H y e := by
  obtain ⟨t, vs, rfl, h0, h1⟩ := dp_tup h
  cases h1 with
  | cons a b => cases b with
    | cons c d => cases d; exact ⟨t, _, _, rfl, h0, a, c⟩
theorem dp_pd {K : PySem.W.Frag} {H : Hp} {v : V} {a b : Int} (h : Dp K H v (pd a b)) : TupI K H v a b := by
  obtain ⟨t, x, y, rfl, h0, hx, hy⟩ := dp2 h
  rw [dp_int hx, dp_int hy] at h0
  exact ⟨t, rfl, h0⟩
theorem dpall_len {K : PySem.W.Frag} {H : Hp} : ∀ {vs : List V} {ds : List PyData}, DpAll K H vs ds → vs.length = ds.length
  | _, [], h => by cases h; rfl
  | _, d :: ds, h => by
    cases h with
    | cons a b => simp [dpall_len b]
theorem dpall_at {K : PySem.W.Frag} {H : Hp} : ∀ {vs : List V} {ds : List PyData} {i : Nat} {v : V}, DpAll K H vs ds → vs[i]? = some v → ∃ d, ds[i]? = some d ∧ Dp K H v d
  | _, [], i, v, h, e => by cases h; simp at e
  | _, d :: ds, 0, v, h, e => by
    cases h with
    | cons a b =>
      simp only [List.getElem?_cons_zero, Option.some.injEq] at e
      subst e
      exact ⟨d, rfl, a⟩
  | _, d :: ds, i + 1, v, h, e => by
    cases h with
    | cons a b =>
      rw [List.getElem?_cons_succ] at e
      obtain ⟨d', e', h'⟩ := dpall_at b e
      exact ⟨d', by rw [List.getElem?_cons_succ]; exact e', h'⟩
theorem dpall_get {K : PySem.W.Frag} {H : Hp} {vs : List V} {ds : List PyData} {i : Nat} {d : PyData} (h : DpAll K H vs ds) (e : ds[i]? = some d) : ∃ v, vs[i]? = some v ∧ Dp K H v d := by
  have hl := dpall_len h
  have hi := (List.getElem?_eq_some_iff.mp e).1
  obtain ⟨d', e', h'⟩ := dpall_at h (List.getElem?_eq_getElem (show i < vs.length by omega))
  rw [e] at e'
  obtain rfl := Option.some.inj e'
  exact ⟨_, List.getElem?_eq_getElem (by omega), h'⟩
theorem dpall_app {K : PySem.W.Frag} {H : Hp} : ∀ {vs ws : List V} {ds es : List PyData}, DpAll K H vs ds → DpAll K H ws es → DpAll K H (vs ++ ws) (ds ++ es)
  | _, _, [], _, h, k => by cases h; exact k
  | _, _, d :: ds, _, h, k => by
    cases h with
    | cons a b => exact .cons a (dpall_app b k)
theorem dpall_add {K : PySem.W.Frag} {H : Hp} {vs : List V} {v : V} {ds : List PyData} {d : PyData} (h : DpAll K H vs ds) (k : Dp K H v d) : DpAll K H (vs ++ [v]) (ds ++ [d]) := dpall_app h (.cons k .nil)
theorem immAll_map {α : Type} {f : α → PyData} (h : ∀ x, imm (f x) = true) : ∀ l : List α, immAll (l.map f) = true
  | [] => rfl
  | x :: l => by
    show (imm (f x) && immAll (l.map f)) = true
    rw [h x, immAll_map h l]
    rfl
theorem parts_dp {K : PySem.W.Frag} {H : Hp} : ∀ {rs : List V} {ps : List (Int × Int)}, DpAll K H rs (ps.map pdP) → Parts K H rs ps
  | _, [], h => by cases h; exact Parts.nil
  | _, p :: ps, h => by
    cases h with
    | cons a b => exact Parts.cons (dp_pd a) (parts_dp b)
/-! what can be shown -/
def Sh (n k : Nat) (d : PyData) : Prop := d.showable = true ∧ d.hasDict = false ∧ d.depth ≤ k ∧ d.shown.length ≤ n
theorem Sh.mono {n k m l : Nat} {d : PyData} (h : Sh n k d) (a : n ≤ m) (b : k ≤ l) : Sh m l d := ⟨h.1, h.2.1, Nat.le_trans h.2.2.1 b, Nat.le_trans h.2.2.2 a⟩
theorem Sh.int {m : Nat} {i : Int} (h0 : 0 < m) (h1 : m ≤ 1900) (h : Bt m i) : Sh (m + 1) 1 (.int i) := ⟨bt_show (h.mono h1), rfl, by simp [PyData.depth], shown_int_len h0 h⟩
theorem Sh.str {z : Str} (hz : ∀ c ∈ z.cps.toList, c < 16 ^ 8) : Sh (10 * z.length + 2) 1 (.str z) := ⟨rfl, rfl, by simp [PyData.depth], StrLaws.reprText_len z hz⟩
theorem sh_all {n k : Nat} : ∀ (ds : List PyData), (∀ d ∈ ds, Sh n k d) → PyData.showableAll ds = true ∧ PyData.hasDictAll ds = false ∧ PyData.depthAll ds ≤ k ∧ piled (PyData.shownAll ds) ≤ ds.length * (n + 2)
  | [], _ => ⟨rfl, rfl, Nat.zero_le _, by simp [PyData.shownAll, piled]⟩
  | d :: ds, h => by
    obtain ⟨a, b, c, e⟩ := sh_all ds (fun x hx => h x (List.mem_cons_of_mem _ hx))
    obtain ⟨a', b', c', e'⟩ := h d List.mem_cons_self
    refine ⟨?_, ?_, ?_, ?_⟩
    · simp [PyData.showableAll, a, a']
    · simp [PyData.hasDictAll, b, b']
    · simp only [PyData.depthAll]
      omega
    · simp only [PyData.shownAll, piled, List.length_cons, Nat.add_mul, List.map_cons, List.sum_cons] at e ⊢
      omega
theorem Sh.tup {n k m : Nat} {ds : List PyData} (h : ∀ d ∈ ds, Sh n k d) (hl : ds.length ≤ m) : Sh (m * (n + 2) + 2) (k + 1) (.tuple ds) := by
  obtain ⟨a, b, c, e⟩ := sh_all ds h
  refine ⟨a, b, ?_, ?_⟩
  · simp only [PyData.depth]
    omega
  · have := shown_tup_len ds
    have := Nat.mul_le_mul_right (n + 2) hl
    omega
theorem Sh.lst {n k m : Nat} {ds : List PyData} (h : ∀ d ∈ ds, Sh n k d) (hl : ds.length ≤ m) : Sh (m * (n + 2) + 2) (k + 1) (.list ds) := by
  obtain ⟨a, b, c, e⟩ := sh_all ds h
  refine ⟨a, b, ?_, ?_⟩
  · simp only [PyData.depth]
    omega
  · have := shown_lst_len ds
    have := Nat.mul_le_mul_right (n + 2) hl
    omega
theorem Sh.pd {m : Nat} {a b : Int} (h0 : 0 < m) (h1 : m ≤ 1900) (h : Bt m a) (k : Bt m b) : Sh (2 * (m + 3) + 2) 2 (pd a b) := by
  refine Sh.tup (n := m + 1) (k := 1) (fun d hd => ?_) (Nat.le_refl 2)
  simp only [List.mem_cons, List.not_mem_nil, or_false] at hd
  rcases hd with rfl | rfl
  · exact Sh.int h0 h1 h
  · exact Sh.int h0 h1 k
theorem immAll_app : ∀ a b : List PyData, immAll (a ++ b) = (immAll a && immAll b)
  | [], b => by simp [immAll]
  | x :: a, b => by
    show (imm x && immAll (a ++ b)) = (imm x && immAll a && immAll b)
    rw [immAll_app a b, Bool.and_assoc]
end WS
set_option Elab.async false
set_option linter.all false
set_option maxRecDepth 100000
set_option maxHeartbeats 4000000
namespace WS
open PySem PySem.Spec PyProof.Rows L2
/-! walks over lists and tuples alike: enumerate, zip of two, zip of three -/
def SqB (K : PySem.W.Frag) (b : Bool) (H : Hp) (a : Addr) (xs : List V) : Prop := match b with | true => SqL K H a xs | false => SqT K H a xs
def ItB (b : Bool) (h : Heap) (it a : Addr) (i : Nat) : Prop := match b with | true => h.IsListIter it a i | false => h.IsTupleIter it a i
def IsB (b : Bool) (h : Heap) (a : Addr) (its : Array Value) : Prop := match b with | true => h.IsList a its | false => h.IsTuple a its
def oB (b : Bool) (a : Addr) : Obj := match b with | true => { cls := .type "list_iterator", data := .fields #[.ref a, .int 0 0] } | false => { cls := .type "tuple_iterator", data := .fields #[.ref a, .int 0 0] }
theorem sqb_get {X : Cx} {pins : List (Addr × Obj)} {σ : L2.St} {H : Hp} {s : Shared} {b : Bool} {a : Addr} {xs : List V} (I : Inv X pins σ H s) (h : SqB X.K b H a xs) : ∃ its : List Value, Vals xs its ∧ IsB b s.heap a its.toArray := by
  cases b with
  | true =>
    obtain ⟨its, r, p, _⟩ := I.list h
    exact ⟨its, r, p.isList⟩
  | false =>
    obtain ⟨its, r, ⟨o, e, c, n, d⟩, _⟩ := I.tuple h
    exact ⟨its, r, o, e, c, n, d⟩
theorem sqb_inj {X : Cx} {pins : List (Addr × Obj)} {σ : L2.St} {H : Hp} {s : Shared} {b : Bool} {a : Addr} {xs ys : List V} (I : Inv X pins σ H s) (h : SqB X.K b H a xs) (h' : SqB X.K b H a ys) : xs = ys := by
  cases b with
  | true => exact I.list_inj h h'
  | false => exact I.tuple_inj h h'
theorem itb_obj {b : Bool} {h : Heap} {it a : Addr} {i : Nat} (x : ItB b h it a i) : ∃ o, h.get? it = some o ∧ ∀ v, o.data ≠ .cell v := by
  cases b <;> (obtain ⟨o, e, c, d⟩ := x; exact ⟨o, e, fun v z => by rw [d] at z; cases z⟩)
theorem itb_keep {b : Bool} {h h' : Heap} {it a : Addr} {i : Nat} (x : ItB b h it a i) (k : ∀ o, h.get? it = some o → h'.get? it = some o) : ItB b h' it a i := by
  cases b <;> (obtain ⟨o, e, r⟩ := x; exact ⟨o, k o e, r⟩)
theorem itb_draws {b : Bool} {prog : Program} {w : World} {A : Around} (hh : A.handled = none) (it a : Addr) (hne : a ≠ it) (its : Array Value) :
    Draws prog w A it [it, a] its.size (fun i v => its[i]? = some v) (fun i h => ItB b h it a i ∧ IsB b h a its) := by
  cases b with
  | true => exact Draws.list hh it a hne its
  | false => exact Draws.tuple hh it a hne its
theorem itb_begins (b : Bool) (a : Addr) (its : Array Value) : Begins (.ref a) (oB b a) (fun h => IsB b h a its) := by
  cases b with
  | true => exact begins_list a its
  | false => exact begins_tuple a its
theorem itb_start {b : Bool} {h : Heap} {it a : Addr} (e : h.get? it = some (oB b a)) : ItB b h it a 0 := by
  cases b <;> exact ⟨_, e, rfl, rfl⟩
theorem isb_lt {b : Bool} {h : Heap} {a : Addr} {its : Array Value} (x : IsB b h a its) : a < h.objs.size := by
  cases b <;> (obtain ⟨o, e, _⟩ := x; exact Heap.lt_size e)
theorem isb_ne {b c : Bool} {h : Heap} {it a a' : Addr} {i : Nat} {its : Array Value} (x : IsB b h a its) (y : ItB c h it a' i) : a ≠ it := by
  intro z
  subst z
  cases b <;> cases c <;> (obtain ⟨o, e, k, _⟩ := x; obtain ⟨o', e', k', _⟩ := y; rw [e] at e'; cases e'; rw [k] at k'; simp at k')
/-- a walk told turn by turn -/
theorem turn_gen {P : Program} {w : World} {K : PySem.W.Frag} {elts : List Expr} {kk : Nat} {tpos : Pos} {J : It} {fp : List Addr} {e : Addr} {tn : Nat → Heap → Prop} (hm : e ∈ fp)
    (obj : ∀ i h, tn i h → ∀ b ∈ fp, ∃ o, h.get? b = some o ∧ ∀ v, o.data ≠ .cell v)
    (keep : ∀ i h h', tn i h → (∀ b ∈ fp, ∀ o, h.get? b = some o → h'.get? b = some o) → tn i h')
    (each : ∀ (X : Cx), X.prog = P → X.w = w → X.K = K → X.calm = true → ∀ (i : Nat) (pins : List (Addr × Obj)) (s : Shared) (σ : L2.St) (H : Hp), Inv X pins σ H s → (∀ b ∈ fp, FpOk X pins H b) → tn i s.heap → J.go i H →
      ∃ (FP wr : List Addr) (n : Nat) (Pt : Nat → Array Value → Prop) (St : Nat → Heap → Prop) (Mid : Nat → Addr → Heap → Prop), WalksT P w X.A e FP wr n Pt St Mid ∧ (∀ b ∈ wr, b ∈ fp) ∧ i < n ∧ St i s.heap ∧ (∀ h, St (i + 1) h → tn (i + 1) h) ∧
        ∀ vals, Pt i vals → ∃ xs : List V, Vals xs vals.toList ∧ xs.length ≤ sizeLine ∧ ∀ T, H T = none → J.yld i H (.ref T) (upd H T (.tup xs)))
    (fin : ∀ (X : Cx), X.prog = P → X.w = w → X.K = K → X.calm = true → ∀ (i : Nat) (pins : List (Addr × Obj)) (s : Shared) (σ : L2.St) (H : Hp), Inv X pins σ H s → (∀ b ∈ fp, FpOk X pins H b) → tn i s.heap → J.stop i H →
      ∃ (FP wr : List Addr) (n : Nat) (Pt : Nat → Array Value → Prop) (St : Nat → Heap → Prop) (Mid : Nat → Addr → Heap → Prop), WalksT P w X.A e FP wr n Pt St Mid ∧ (∀ b ∈ wr, b ∈ fp) ∧ St n s.heap)
    (self : ∀ (A : Around) (i : Nat) (s : Shared) (Q : Value → Shared → Prop) (E : Value → Shared → Prop), tn i s.heap → Q (.ref e) s → wpAny (model P w) A (pyIter (.ref e)) Q E s) :
    Turn P w K (.Tuple elts kk tpos) J fp e tn where
  mem := hm
  obj := obj
  keep := keep
  item := fun X hP hw hK hc i pins s σ H E I hf st hg => by
    obtain ⟨FP, wr, n, Pt, St, Mid, W, hwr, hi, h0, hn, hv⟩ := each X hP hw hK hc i pins s σ H I hf st hg
    subst hP hw hK
    refine W.item i s _ E hi h0 fun T vals h1 tk hp hT hI hMid hk => ⟨.ref T, rfl, ?_⟩
    refine W.go elts kk tpos i T _ _ _ hMid fun h2 st2 hk2 => ?_
    obtain ⟨xs, rv, hz, hy⟩ := hv vals hp
    obtain ⟨oT, eT, cT, n', dT⟩ := hI
    have eT2 : h2.get? T = some oT := hk2 T oT (W.apart i T _ hMid) eT
    have new : ObjOk X.prog X.w (upd H T (.tup xs)) h2 T (.tup xs) := ⟨hz, vals.toList, rv, oT, eT2, cT, n', by simpa using dT⟩
    have I2 : Inv X pins σ (upd H T (.tup xs)) { s with heap := h2, toks := tk } := I.turnedNew (t' := tk) (ch := fp) (fun b o hb q => hk2 b o (fun z => hb (hwr b z)) (hk b o (fun z => hb (hwr b z)) q)) hf hT new
    have fT : H T = none := I.hok.fresh hT
    refine ⟨.ref T, _, I2, rfl, hy T fT, hn _ st2, fun b hb => ?_⟩
    have nb : b ≠ T := fun z => by
      obtain ⟨o, eo, _⟩ := obj i s.heap st b hb
      have := Heap.lt_size eo
      rw [z] at this
      exact absurd (Nat.lt_of_lt_of_le this hT) (Nat.lt_irrefl _)
    rw [upd_ne nb]
    exact (hf b hb).1
  done := fun X hP hw hK hc i pins s σ H E I hf st hg => by
    obtain ⟨FP, wr, n, Pt, St, Mid, W, hwr, h0⟩ := fin X hP hw hK hc i pins s σ H I hf st hg
    subst hP hw hK
    exact W.done s _ E h0 fun h1 tk hk => ⟨rfl, I.turnedL (t' := tk) (ch := fp) (fun b o hb q => hk b o (fun z => hb (hwr b z)) q) hf⟩
  self := self
/-- the items with their numbers from k on -/
def ItE (K : PySem.W.Frag) (b : Bool) (a : Addr) (k : Int) : It :=
  ⟨fun i H => ∃ (xs : List V) (x : V), SqB K b H a xs ∧ xs[i]? = some x,
   fun i H v H' => ∃ T x, v = .ref T ∧ H T = none ∧ H' = upd H T (.tup [.int (k + (i : Nat)), x]) ∧ ∀ xs, SqB K b H a xs → xs[i]? = some x,
   fun i H => ∃ xs : List V, SqB K b H a xs ∧ xs.length = i⟩
theorem turn_enumB {P : Program} {w : World} {K : PySem.W.Frag} {elts : List Expr} {kk : Nat} {tpos : Pos} {b : Bool} {k : Int} (a e it : Addr) (hei : e ≠ it) :
    Turn P w K (.Tuple elts kk tpos) (ItE K b a k) [e, it] e (fun i h => (∃ old, IsEnum h e it (k + (i : Nat)) old) ∧ ItB b h it a i) := by
  have two : ∀ {c : Addr}, c ∈ [e, it] → c = e ∨ c = it := fun h => by simpa using h
  refine turn_gen (by simp) ?_ ?_ ?_ ?_ ?_
  · rintro i h ⟨⟨old, he⟩, hi⟩ c hc
    rcases two hc with rfl | rfl
    · exact ⟨_, he, fun v q => nomatch q⟩
    · exact itb_obj hi
  · rintro i h h' ⟨⟨old, he⟩, hi⟩ kp
    exact ⟨⟨old, kp e (by simp) _ he⟩, itb_keep hi fun o q => kp it (by simp) o q⟩
  · rintro X hP hw hK hc i pins s σ H I hf ⟨⟨old, he⟩, hi⟩ ⟨xs, x, hq, hx⟩
    subst hP hw hK
    obtain ⟨its, rv, hB⟩ := sqb_get I hq
    have hne := isb_ne hB hi
    have hae : a ≠ e := fun z => by
      subst z
      cases b <;> (obtain ⟨o, q, c, _⟩ := hB; rw [he] at q; cases q; simp at c)
    obtain ⟨u, hu, ru⟩ := rv.get hx
    have D := itb_draws (b := b) (prog := X.prog) (w := X.w) (A := X.A.in1) (I.ok.hd hc) it a hne its.toArray
    have hlt : i < its.toArray.size := by
      have := (List.getElem?_eq_some_iff.mp hu).1
      simpa using this
    refine ⟨_, _, _, _, _, _, WalksT.enumFrom k D e hei (by simp [hei, Ne.symm hae]) (by simp), fun c hc => hc, hlt, ⟨⟨old, he⟩, hi, hB⟩, fun h st => ⟨st.1, st.2.1⟩, ?_⟩
    rintro vals ⟨t, y, hy, rfl⟩
    have ey : y = u := by
      have : its[i]? = some y := by simpa using hy
      rw [hu] at this
      exact (Option.some.inj this).symm
    subst ey
    refine ⟨[.int (k + (i : Nat)), x], .cons ⟨_, rfl⟩ (.cons ru .nil), by show 2 ≤ sizeLine; decide, fun T hT => ⟨T, x, rfl, hT, rfl, fun ys hys => by rw [sqb_inj I hys hq]; exact hx⟩⟩
  · rintro X hP hw hK hc i pins s σ H I hf ⟨⟨old, he⟩, hi⟩ ⟨xs, hq, hx⟩
    subst hP hw hK
    obtain ⟨its, rv, hB⟩ := sqb_get I hq
    have hne := isb_ne hB hi
    have hae : a ≠ e := fun z => by
      subst z
      cases b <;> (obtain ⟨o, q, c, _⟩ := hB; rw [he] at q; cases q; simp at c)
    have D := itb_draws (b := b) (prog := X.prog) (w := X.w) (A := X.A.in1) (I.ok.hd hc) it a hne its.toArray
    have hl : its.toArray.size = i := by
      have := rv.length
      simp
      omega
    refine ⟨_, _, _, _, _, _, WalksT.enumFrom k D e hei (by simp [hei, Ne.symm hae]) (by simp), fun c hc => hc, ?_⟩
    rw [hl]
    exact ⟨⟨old, he⟩, hi, hB⟩
  · rintro A i s Q E ⟨⟨old, he⟩, _⟩ h
    exact wpAny_pyIter_enum he h
end WS
set_option Elab.async false
set_option linter.all false
set_option maxRecDepth 100000
set_option maxHeartbeats 4000000
namespace WS
open PySem PySem.Spec PyProof.Rows L2
/-! enumerate(x), x a list or a tuple; its cells -/
set_option maxHeartbeats 1000000 in
theorem meets_en1 {x : Value} {ob : Obj} {Ah : Heap → Prop} (B : Begins x ob Ah) : Meets (Builtin.«enumerate.__new__» ⟨[.type "enumerate", x], []⟩)
    (fun _ Rk z => Ah z.heap ∧ Rk (.ok (.ret (.ref (z.heap.push ob).objs.size))) { z with heap := (z.heap.push ob).push { cls := .type "enumerate", data := .fields #[.none, .bool false, .ref z.heap.objs.size, rawInt 0, .none, .none] } }) := by
  refine .of_wp fun prog w A Rk z hz => ?_
  obtain ⟨hp, g, d, tk, os⟩ := z
  obtain ⟨h1, hz⟩ := hz
  have hsub := sub_enumerate
  have q1 : ∀ {A1 : Around} {E1 : Value → Shared → Prop} {Q1 : Value → Shared → Prop}, Q1 (.ref hp.objs.size) ⟨hp.push ob, g, d, tk, os⟩ →
      wpAny (model prog w) A1 (pyIter x) Q1 E1 ⟨hp, g, d, tk, os⟩ := fun q => B.iter prog w _ _ ⟨hp, g, d, tk, os⟩ _ h1 q
  wp_walk using q1
  refine wpAny_stack_any (fun stk => wpAny_pure ?_)
  split
  · rename_i c0 _ _ _ _ _
    cases (c0 == Value.type "enumerate") <;> (wp_walk using q1; exact ⟨_, rfl, hz⟩)
  · wp_walk using q1
    exact ⟨_, rfl, hz⟩
section
variable {prog : Program} {w : World} {A : Around} {E : Value → Shared → Prop} {s : Shared}
theorem en1_call {x : Value} {ob : Obj} {Ah : Heap → Prop} {Q : Value → Shared → Prop} (B : Begins x ob Ah) (h1 : Ah s.heap)
    (hQ : ∀ h', IsEnum h' (s.heap.objs.size + 1) s.heap.objs.size 0 .none → h'.get? s.heap.objs.size = some ob → (∀ c o, s.heap.get? c = some o → h'.get? c = some o) → Q (.ref (s.heap.objs.size + 1)) { s with heap := h' }) :
    wpAny (model prog w) A (call (.type "enumerate") [x]) Q E s := by
  have sz : (s.heap.push ob).objs.size = s.heap.objs.size + 1 := Heap.size_push ..
  refine callType_new F.called_enumerate (by decide) (F.typeCall_enumerate_1 x) (F.newCall_enumerate_1 x) (fun obj => F.args_object_init_2 obj x) F.entry_enumerate_new (meets_en1 B) ⟨h1, ?_⟩
  have got := Heap.get?_push_size (s.heap.push ob) (o := { cls := .type "enumerate", data := .fields #[.none, .bool false, .ref s.heap.objs.size, rawInt 0, .none, .none] }) rfl
  rw [sz] at got
  show _ ∧ _
  rw [sz]
  exact ⟨⟨_, got, rfl⟩, hQ _ got (Heap.get?_push_of_some _ (Heap.get?_push_size _ B.free)) fun c o z => Heap.get?_push_of_some _ (Heap.get?_push_of_some _ z)⟩
end
def iEnB (K : PySem.W.Frag) (ta : TA) : TI := fun σ H R => ta σ H fun vs H1 => ∃ b a xs, vs = [.ref a] ∧ SqB K b H1 a xs ∧ R (ItE K b a 0) H1
theorem pi_enB {X : Cx} {e : Expr} {ta : TA} {p pos tpos : Pos} {elts : List Expr} {kk : Nat} (hg : Gl X "enumerate") (hm : X.mg "enumerate" = none) (ha : PA X [e] ta)
    (hs : starEach [e] X.env = [(false, eval e X.env)] := by rfl) : PI X (.Tuple elts kk tpos) (.Call (.Name "enumerate" p) [e] [] pos) (iEnB X.K ta) := by
  constructor
  intro pins s σ H R I h
  refine Call_ (ld_blt I hg hm boot_enumerate (PyProof.Rows.callWith_type1 (thn (ha.run pos pins s σ H _ I h) fun us s1 ⟨vs, H1, I1, r1, q1⟩ => ?_) hs rfl))
  obtain ⟨b, a, xs, rfl, hq, q⟩ := q1
  obtain _ | ⟨r, rr⟩ := r1
  cases rr
  cases r
  obtain ⟨its, rv, hB⟩ := sqb_get I1 hq
  refine en1_call (itb_begins b a its.toArray) hB fun h' he hi hk => wpAny_pyIter_enum he ?_
  have I2 : Inv X pins σ H1 { s1 with heap := h' } := I1.kept (t' := s1.toks) hk
  refine ⟨_, [s1.heap.objs.size + 1, s1.heap.objs.size], _, _, H1, rfl, I2, turn_enumB (b := b) (k := 0) a (s1.heap.objs.size + 1) s1.heap.objs.size (Nat.succ_ne_self _), ⟨⟨.none, he⟩, itb_start hi⟩, fun c hc => ?_, q⟩
  have hle : s1.heap.objs.size ≤ c := by
    have z : c = s1.heap.objs.size + 1 ∨ c = s1.heap.objs.size := by simpa using hc
    rcases z with rfl | rfl
    · exact Nat.le_succ _
    · exact Nat.le_refl _
  exact I1.fpOk hle (I1.hok.fresh hle)
theorem walk_enB {K : PySem.W.Frag} {b : Bool} {a : Addr} {xs : List V} {k : Int} : Walk (ItE K b a k) xs.length (fun H => SqB K b H a xs) (YPair (fun i => some (.int (k + (i : Nat)))) (fun i => xs[i]?)) where
  goes := fun i H hi h => ⟨xs, xs[i], h, by simp [hi]⟩
  stops := fun H h => ⟨xs, h, rfl⟩
  yields := fun i H x H' hi h y => by
    obtain ⟨T, v, e1, e2, e3, e4⟩ := y
    exact ⟨T, _, v, e1, e2, e3, rfl, e4 xs h⟩
end WS
set_option Elab.async false
set_option linter.all false
set_option maxRecDepth 100000
set_option maxHeartbeats 4000000
namespace WS
open PySem PySem.Spec PyProof.Rows L2
/-! zip of two or three, each a list or a tuple -/
def ItZ2 (K : PySem.W.Frag) (b1 b2 : Bool) (a1 a2 : Addr) : It :=
  ⟨fun i H => ∃ (xs ys : List V) (x y : V), SqB K b1 H a1 xs ∧ SqB K b2 H a2 ys ∧ xs[i]? = some x ∧ ys[i]? = some y,
   fun i H v H' => ∃ T x y, v = .ref T ∧ H T = none ∧ H' = upd H T (.tup [x, y]) ∧ (∀ xs, SqB K b1 H a1 xs → xs[i]? = some x) ∧ ∀ ys, SqB K b2 H a2 ys → ys[i]? = some y,
   fun i H => ∃ xs ys : List V, SqB K b1 H a1 xs ∧ SqB K b2 H a2 ys ∧ min xs.length ys.length = i⟩
def ItZ3 (K : PySem.W.Frag) (b1 b2 b3 : Bool) (a1 a2 a3 : Addr) : It :=
  ⟨fun i H => ∃ (xs ys zs : List V) (x y z : V), SqB K b1 H a1 xs ∧ SqB K b2 H a2 ys ∧ SqB K b3 H a3 zs ∧ xs[i]? = some x ∧ ys[i]? = some y ∧ zs[i]? = some z,
   fun i H v H' => ∃ T x y z, v = .ref T ∧ H T = none ∧ H' = upd H T (.tup [x, y, z]) ∧ (∀ xs, SqB K b1 H a1 xs → xs[i]? = some x) ∧ (∀ ys, SqB K b2 H a2 ys → ys[i]? = some y) ∧ ∀ zs, SqB K b3 H a3 zs → zs[i]? = some z,
   fun i H => ∃ xs ys zs : List V, SqB K b1 H a1 xs ∧ SqB K b2 H a2 ys ∧ SqB K b3 H a3 zs ∧ min (min xs.length ys.length) zs.length = i⟩
theorem val_at {xs : List V} {its : List Value} {i : Nat} {x : V} {u : Value} (rv : Vals xs its) (hx : xs[i]? = some x) (hu : its.toArray[i]? = some u) : RelV x u := by
  obtain ⟨u', e, r⟩ := rv.get hx
  have : its[i]? = some u := by simpa using hu
  rw [e] at this
  obtain rfl := Option.some.inj this
  exact r
theorem val_lt {xs : List V} {its : List Value} {i : Nat} {x : V} (rv : Vals xs its) (hx : xs[i]? = some x) : i < its.toArray.size := by
  obtain ⟨u', e, _⟩ := rv.get hx
  have := (List.getElem?_eq_some_iff.mp e).1
  simpa using this
theorem val_size {xs : List V} {its : List Value} (rv : Vals xs its) : its.toArray.size = xs.length := by
  have := rv.length
  simp
  omega
theorem turn_zB2 {P : Program} {w : World} {K : PySem.W.Frag} {elts : List Expr} {kk : Nat} {tpos : Pos} {b1 b2 : Bool} {a1 a2 z TI TO i1 i2 : Addr} (S : ZipSep2 z TI TO i1 i2 [i1, a1] [i2, a2]) (n1 : a1 ≠ i1) (n2 : a2 ≠ i2) :
    Turn P w K (.Tuple elts kk tpos) (ItZ2 K b1 b2 a1 a2) [z, TI, TO, i1, i2] z (fun i h => IsZip h z TI TO .none ∧ IsTupOf2 h TI (.ref i1) (.ref i2) ∧ (∃ x y, IsTupOf2 h TO x y) ∧ ItB b1 h i1 a1 i ∧ ItB b2 h i2 a2 i) := by
  have five : ∀ {c : Addr}, c ∈ [z, TI, TO, i1, i2] → c = z ∨ c = TI ∨ c = TO ∨ c = i1 ∨ c = i2 := fun h => by simpa using h
  refine turn_gen (by simp) ?_ ?_ ?_ ?_ ?_
  · rintro i h ⟨hz, hTI, ⟨x, y, hTO⟩, h1, h2⟩ c hc
    rcases five hc with rfl | rfl | rfl | rfl | rfl
    · exact ⟨_, hz, fun v q => nomatch q⟩
    · exact ⟨_, hTI, fun v q => nomatch q⟩
    · exact ⟨_, hTO, fun v q => nomatch q⟩
    · exact itb_obj h1
    · exact itb_obj h2
  · rintro i h h' ⟨hz, hTI, ⟨x, y, hTO⟩, h1, h2⟩ kp
    exact ⟨kp z (by simp) _ hz, kp TI (by simp) _ hTI, ⟨x, y, kp TO (by simp) _ hTO⟩, itb_keep h1 fun o q => kp i1 (by simp) o q, itb_keep h2 fun o q => kp i2 (by simp) o q⟩
  · rintro X hP hw hK hc i pins s σ H I hf ⟨hz, hTI, hTO, h1, h2⟩ ⟨xs, ys, x, y, hq1, hq2, hx, hy⟩
    subst hP hw hK
    obtain ⟨t1, r1, B1⟩ := sqb_get I hq1
    obtain ⟨t2, r2, B2⟩ := sqb_get I hq2
    have D1 := itb_draws (b := b1) (prog := X.prog) (w := X.w) (A := X.A.in1) (I.ok.hd hc) i1 a1 n1 t1.toArray
    have D2 := itb_draws (b := b2) (prog := X.prog) (w := X.w) (A := X.A.in1) (I.ok.hd hc) i2 a2 n2 t2.toArray
    have l1 := val_lt r1 hx
    have l2 := val_lt r2 hy
    refine ⟨_, _, _, _, _, _, WalksT.zipD2 S D1 D2, fun c hc => ?_, by omega, ⟨hz, hTI, hTO, ⟨h1, B1⟩, h2, B2⟩, fun h st => ⟨st.1, st.2.1, st.2.2.1, st.2.2.2.1.1, st.2.2.2.2.1⟩, ?_⟩
    · simp at hc ⊢
      rcases hc with h | h | h | h <;> simp [h]
    · rintro vals ⟨u, v, hu, hv, rfl⟩
      exact ⟨[x, y], .cons (val_at r1 hx hu) (.cons (val_at r2 hy hv) .nil), by show 2 ≤ sizeLine; decide, fun T hT => ⟨T, x, y, rfl, hT, rfl, fun l hl => by rw [sqb_inj I hl hq1]; exact hx, fun l hl => by rw [sqb_inj I hl hq2]; exact hy⟩⟩
  · rintro X hP hw hK hc i pins s σ H I hf ⟨hz, hTI, hTO, h1, h2⟩ ⟨xs, ys, hq1, hq2, hx⟩
    subst hP hw hK
    obtain ⟨t1, r1, B1⟩ := sqb_get I hq1
    obtain ⟨t2, r2, B2⟩ := sqb_get I hq2
    have D1 := itb_draws (b := b1) (prog := X.prog) (w := X.w) (A := X.A.in1) (I.ok.hd hc) i1 a1 n1 t1.toArray
    have D2 := itb_draws (b := b2) (prog := X.prog) (w := X.w) (A := X.A.in1) (I.ok.hd hc) i2 a2 n2 t2.toArray
    refine ⟨_, _, _, _, _, _, WalksT.zipD2 S D1 D2, fun c hc => ?_, ?_⟩
    · simp at hc ⊢
      rcases hc with h | h | h | h <;> simp [h]
    · rw [val_size r1, val_size r2, hx]
      exact ⟨hz, hTI, hTO, ⟨h1, B1⟩, h2, B2⟩
  · rintro A i s Q E ⟨hz, _⟩ h
    exact wpAny_pyIter_zip hz h
theorem turn_zB3 {P : Program} {w : World} {K : PySem.W.Frag} {elts : List Expr} {kk : Nat} {tpos : Pos} {b1 b2 b3 : Bool} {a1 a2 a3 z TI TO i1 i2 i3 : Addr} (S : ZipSep3 z TI TO i1 i2 i3 [i1, a1] [i2, a2] [i3, a3]) (n1 : a1 ≠ i1) (n2 : a2 ≠ i2) (n3 : a3 ≠ i3) :
    Turn P w K (.Tuple elts kk tpos) (ItZ3 K b1 b2 b3 a1 a2 a3) [z, TI, TO, i1, i2, i3] z (fun i h => IsZip h z TI TO .none ∧ IsTupOf3 h TI (.ref i1) (.ref i2) (.ref i3) ∧ (∃ x y u, IsTupOf3 h TO x y u) ∧ ItB b1 h i1 a1 i ∧ ItB b2 h i2 a2 i ∧ ItB b3 h i3 a3 i) := by
  have six : ∀ {c : Addr}, c ∈ [z, TI, TO, i1, i2, i3] → c = z ∨ c = TI ∨ c = TO ∨ c = i1 ∨ c = i2 ∨ c = i3 := fun h => by simpa using h
  refine turn_gen (by simp) ?_ ?_ ?_ ?_ ?_
  · rintro i h ⟨hz, hTI, ⟨x, y, u, hTO⟩, h1, h2, h3⟩ c hc
    rcases six hc with rfl | rfl | rfl | rfl | rfl | rfl
    · exact ⟨_, hz, fun v q => nomatch q⟩
    · exact ⟨_, hTI, fun v q => nomatch q⟩
    · exact ⟨_, hTO, fun v q => nomatch q⟩
    · exact itb_obj h1
    · exact itb_obj h2
    · exact itb_obj h3
  · rintro i h h' ⟨hz, hTI, ⟨x, y, u, hTO⟩, h1, h2, h3⟩ kp
    exact ⟨kp z (by simp) _ hz, kp TI (by simp) _ hTI, ⟨x, y, u, kp TO (by simp) _ hTO⟩, itb_keep h1 fun o q => kp i1 (by simp) o q, itb_keep h2 fun o q => kp i2 (by simp) o q, itb_keep h3 fun o q => kp i3 (by simp) o q⟩
  · rintro X hP hw hK hc i pins s σ H I hf ⟨hz, hTI, hTO, h1, h2, h3⟩ ⟨xs, ys, zs, x, y, u, hq1, hq2, hq3, hx, hy, hu⟩
    subst hP hw hK
    obtain ⟨t1, r1, B1⟩ := sqb_get I hq1
    obtain ⟨t2, r2, B2⟩ := sqb_get I hq2
    obtain ⟨t3, r3, B3⟩ := sqb_get I hq3
    have D1 := itb_draws (b := b1) (prog := X.prog) (w := X.w) (A := X.A.in1) (I.ok.hd hc) i1 a1 n1 t1.toArray
    have D2 := itb_draws (b := b2) (prog := X.prog) (w := X.w) (A := X.A.in1) (I.ok.hd hc) i2 a2 n2 t2.toArray
    have D3 := itb_draws (b := b3) (prog := X.prog) (w := X.w) (A := X.A.in1) (I.ok.hd hc) i3 a3 n3 t3.toArray
    have l1 := val_lt r1 hx
    have l2 := val_lt r2 hy
    have l3 := val_lt r3 hu
    refine ⟨_, _, _, _, _, _, WalksT.zipD3 S D1 D2 D3, fun c hc => ?_, by omega, ⟨hz, hTI, hTO, ⟨h1, B1⟩, ⟨h2, B2⟩, h3, B3⟩, fun h st => ⟨st.1, st.2.1, st.2.2.1, st.2.2.2.1.1, st.2.2.2.2.1.1, st.2.2.2.2.2.1⟩, ?_⟩
    · simp at hc ⊢
      rcases hc with h | h | h | h | h <;> simp [h]
    · rintro vals ⟨v1, v2, v3, e1, e2, e3, rfl⟩
      exact ⟨[x, y, u], .cons (val_at r1 hx e1) (.cons (val_at r2 hy e2) (.cons (val_at r3 hu e3) .nil)), by show 3 ≤ sizeLine; decide, fun T hT => ⟨T, x, y, u, rfl, hT, rfl, fun l hl => by rw [sqb_inj I hl hq1]; exact hx, fun l hl => by rw [sqb_inj I hl hq2]; exact hy, fun l hl => by rw [sqb_inj I hl hq3]; exact hu⟩⟩
  · rintro X hP hw hK hc i pins s σ H I hf ⟨hz, hTI, hTO, h1, h2, h3⟩ ⟨xs, ys, zs, hq1, hq2, hq3, hx⟩
    subst hP hw hK
    obtain ⟨t1, r1, B1⟩ := sqb_get I hq1
    obtain ⟨t2, r2, B2⟩ := sqb_get I hq2
    obtain ⟨t3, r3, B3⟩ := sqb_get I hq3
    have D1 := itb_draws (b := b1) (prog := X.prog) (w := X.w) (A := X.A.in1) (I.ok.hd hc) i1 a1 n1 t1.toArray
    have D2 := itb_draws (b := b2) (prog := X.prog) (w := X.w) (A := X.A.in1) (I.ok.hd hc) i2 a2 n2 t2.toArray
    have D3 := itb_draws (b := b3) (prog := X.prog) (w := X.w) (A := X.A.in1) (I.ok.hd hc) i3 a3 n3 t3.toArray
    refine ⟨_, _, _, _, _, _, WalksT.zipD3 S D1 D2 D3, fun c hc => ?_, ?_⟩
    · simp at hc ⊢
      rcases hc with h | h | h | h | h <;> simp [h]
    · rw [val_size r1, val_size r2, val_size r3, hx]
      exact ⟨hz, hTI, hTO, ⟨h1, B1⟩, ⟨h2, B2⟩, h3, B3⟩
  · rintro A i s Q E ⟨hz, _⟩ h
    exact wpAny_pyIter_zip hz h
def iZB2 (K : PySem.W.Frag) (ta : TA) : TI := fun σ H R => ta σ H fun vs H1 => ∃ b1 b2 a1 a2 xs ys, vs = [.ref a1, .ref a2] ∧ SqB K b1 H1 a1 xs ∧ SqB K b2 H1 a2 ys ∧ R (ItZ2 K b1 b2 a1 a2) H1
theorem pi_zB2 {X : Cx} {e e2 : Expr} {ta : TA} {p pos tpos : Pos} {elts : List Expr} {kk : Nat} (hg : Gl X "zip") (hm : X.mg "zip" = none) (ha : PA X [e, e2] ta)
    (hs : starEach [e, e2] X.env = (false, eval e X.env) :: starEach [e2] X.env := by rfl) (hp : (backTo pos (starEach [e2] X.env)).any (·.1) = false := by rfl) :
    PI X (.Tuple elts kk tpos) (.Call (.Name "zip" p) [e, e2] [] pos) (iZB2 X.K ta) := by
  constructor
  intro pins s σ H R I h
  refine Call_ (ld_blt I hg hm PyProof.Rows.boot_zip (PyProof.Rows.callWith_type1 (thn (ha.run pos pins s σ H _ I h) fun us s1 ⟨vs, H1, I1, r1, q1⟩ => ?_) hs hp))
  obtain ⟨b1, b2, a1, a2, xs, ys, rfl, hq1, hq2, q⟩ := q1
  obtain _ | ⟨r, _ | ⟨r', rr⟩⟩ := r1
  cases rr
  cases r
  cases r'
  obtain ⟨t1, v1, B1⟩ := sqb_get I1 hq1
  obtain ⟨t2, v2, B2⟩ := sqb_get I1 hq2
  have l1 := isb_lt B1
  have l2 := isb_lt B2
  refine zip_begins2 (itb_begins b1 a1 t1.toArray) (itb_begins b2 a2 t2.toArray) B1 B2 fun h' hz hTI hTO g1 g2 _ hk => wpAny_pyIter_zip hz ?_
  have I2 : Inv X pins σ H1 { s1 with heap := h' } := I1.kept (t' := s1.toks) hk
  have S := zip_sep2 (N := s1.heap.objs.size) (fp1 := [a1]) (fp2 := [a2]) (fun c hc => by rw [List.mem_singleton.mp hc]; exact l1) (fun c hc => by rw [List.mem_singleton.mp hc]; exact l2)
  refine ⟨_, _, _, _, H1, rfl, I2, turn_zB2 (b1 := b1) (b2 := b2) S (Nat.ne_of_lt l1) (Nat.ne_of_lt (Nat.lt_succ_of_lt l2)), ⟨hz, hTI, ⟨_, _, hTO⟩, itb_start g1, itb_start g2⟩, fun c hc => ?_, q⟩
  have hle : s1.heap.objs.size ≤ c := by
    have z : c = s1.heap.objs.size + 4 ∨ c = s1.heap.objs.size + 2 ∨ c = s1.heap.objs.size + 3 ∨ c = s1.heap.objs.size ∨ c = s1.heap.objs.size + 1 := by simpa using hc
    rcases z with rfl | rfl | rfl | rfl | rfl <;> first | exact Nat.le_add_right _ _ | exact Nat.le_refl _
  exact I1.fpOk hle (I1.hok.fresh hle)
def iZB3 (K : PySem.W.Frag) (ta : TA) : TI := fun σ H R => ta σ H fun vs H1 => ∃ b1 b2 b3 a1 a2 a3 xs ys zs, vs = [.ref a1, .ref a2, .ref a3] ∧ SqB K b1 H1 a1 xs ∧ SqB K b2 H1 a2 ys ∧ SqB K b3 H1 a3 zs ∧ R (ItZ3 K b1 b2 b3 a1 a2 a3) H1
theorem pi_zB3 {X : Cx} {e e2 e3 : Expr} {ta : TA} {p pos tpos : Pos} {elts : List Expr} {kk : Nat} (hg : Gl X "zip") (hm : X.mg "zip" = none) (ha : PA X [e, e2, e3] ta)
    (hs : starEach [e, e2, e3] X.env = (false, eval e X.env) :: starEach [e2, e3] X.env := by rfl) (hp : (backTo pos (starEach [e2, e3] X.env)).any (·.1) = false := by rfl) :
    PI X (.Tuple elts kk tpos) (.Call (.Name "zip" p) [e, e2, e3] [] pos) (iZB3 X.K ta) := by
  constructor
  intro pins s σ H R I h
  refine Call_ (ld_blt I hg hm PyProof.Rows.boot_zip (PyProof.Rows.callWith_type1 (thn (ha.run pos pins s σ H _ I h) fun us s1 ⟨vs, H1, I1, r1, q1⟩ => ?_) hs hp))
  obtain ⟨b1, b2, b3, a1, a2, a3, xs, ys, zs, rfl, hq1, hq2, hq3, q⟩ := q1
  obtain _ | ⟨r, _ | ⟨r', _ | ⟨r'', rr⟩⟩⟩ := r1
  cases rr
  cases r
  cases r'
  cases r''
  obtain ⟨t1, v1, B1⟩ := sqb_get I1 hq1
  obtain ⟨t2, v2, B2⟩ := sqb_get I1 hq2
  obtain ⟨t3, v3, B3⟩ := sqb_get I1 hq3
  have l1 := isb_lt B1
  have l2 := isb_lt B2
  have l3 := isb_lt B3
  refine zip_begins3 (itb_begins b1 a1 t1.toArray) (itb_begins b2 a2 t2.toArray) (itb_begins b3 a3 t3.toArray) B1 B2 B3 fun h' hz hTI hTO g1 g2 g3 _ hk => wpAny_pyIter_zip hz ?_
  have I2 : Inv X pins σ H1 { s1 with heap := h' } := I1.kept (t' := s1.toks) hk
  have S := zip_sep3 (N := s1.heap.objs.size) (fp1 := [a1]) (fp2 := [a2]) (fp3 := [a3]) (fun c hc => by rw [List.mem_singleton.mp hc]; exact l1) (fun c hc => by rw [List.mem_singleton.mp hc]; exact l2) (fun c hc => by rw [List.mem_singleton.mp hc]; exact l3)
  refine ⟨_, _, _, _, H1, rfl, I2, turn_zB3 (b1 := b1) (b2 := b2) (b3 := b3) S (Nat.ne_of_lt l1) (Nat.ne_of_lt (Nat.lt_succ_of_lt l2)) (Nat.ne_of_lt (Nat.lt_succ_of_lt (Nat.lt_succ_of_lt l3))), ⟨hz, hTI, ⟨_, _, _, hTO⟩, itb_start g1, itb_start g2, itb_start g3⟩, fun c hc => ?_, q⟩
  have hle : s1.heap.objs.size ≤ c := by
    have z : c = s1.heap.objs.size + 5 ∨ c = s1.heap.objs.size + 3 ∨ c = s1.heap.objs.size + 4 ∨ c = s1.heap.objs.size ∨ c = s1.heap.objs.size + 1 ∨ c = s1.heap.objs.size + 2 := by simpa using hc
    rcases z with rfl | rfl | rfl | rfl | rfl | rfl <;> first | exact Nat.le_add_right _ _ | exact Nat.le_refl _
  exact I1.fpOk hle (I1.hok.fresh hle)
theorem walk_zB2 {K : PySem.W.Frag} {b1 b2 : Bool} {a1 a2 : Addr} {xs ys : List V} : Walk (ItZ2 K b1 b2 a1 a2) (min xs.length ys.length) (fun H => SqB K b1 H a1 xs ∧ SqB K b2 H a2 ys) (YPair (fun i => xs[i]?) (fun i => ys[i]?)) where
  goes := fun i H hi h => ⟨xs, ys, xs[i]'(by omega), ys[i]'(by omega), h.1, h.2, by simp, by simp⟩
  stops := fun H h => ⟨xs, ys, h.1, h.2, rfl⟩
  yields := fun i H x H' hi h ⟨T, v, u, e1, e2, e3, e4, e5⟩ => ⟨T, v, u, e1, e2, e3, e4 xs h.1, e5 ys h.2⟩
def YTri (xs ys zs : Nat → Option V) : Nat → Hp → V → Hp → Prop := fun i H v H' => ∃ T x y z, v = .ref T ∧ H T = none ∧ H' = upd H T (.tup [x, y, z]) ∧ xs i = some x ∧ ys i = some y ∧ zs i = some z
theorem walk_zB3 {K : PySem.W.Frag} {b1 b2 b3 : Bool} {a1 a2 a3 : Addr} {xs ys zs : List V} : Walk (ItZ3 K b1 b2 b3 a1 a2 a3) (min (min xs.length ys.length) zs.length) (fun H => SqB K b1 H a1 xs ∧ SqB K b2 H a2 ys ∧ SqB K b3 H a3 zs) (YTri (fun i => xs[i]?) (fun i => ys[i]?) (fun i => zs[i]?)) where
  goes := fun i H hi h => ⟨xs, ys, zs, xs[i]'(by omega), ys[i]'(by omega), zs[i]'(by omega), h.1, h.2.1, h.2.2, by simp, by simp, by simp⟩
  stops := fun H h => ⟨xs, ys, zs, h.1, h.2.1, h.2.2, rfl⟩
  yields := fun i H x H' hi h ⟨T, v, u, t, e1, e2, e3, e4, e5, e6⟩ => ⟨T, v, u, t, e1, e2, e3, e4 xs h.1, e5 ys h.2.1, e6 zs h.2.2⟩
end WS
set_option Elab.async false
set_option linter.all false
set_option maxRecDepth 100000
set_option maxHeartbeats 4000000
set_option Elab.async false
set_option linter.all false
set_option maxRecDepth 100000
set_option maxHeartbeats 4000000
namespace WS
open PySem PySem.Spec PyProof.Rows L2
/-! calls with defaults where what is raised is wished for at the caller's slots -/
/-! classes that are no base of D -/
/-! things that are no whole numbers -/
def Odd (p : Addr) (K : PySem.W.Frag) (H : Hp) (v : V) : Prop := v = .non ∨ (∃ b, v = .bl b) ∨ (∃ z, v = .str z) ∨ ∃ a, v = .ref a ∧ ((∃ xs, SqT K H a xs) ∨ (a ≠ p ∧ ∃ xs, H a = some (.lst xs)) ∨ (a ≠ p ∧ ∃ kvs, H a = some (.dK kvs)))
theorem whole_dct {K : PySem.W.Frag} {H : Hp} {a : Addr} {kvs : List (Key × V)} (h : H a = some (.dK kvs)) : WholeIs K H (.ref a) false := ⟨_, false, false, .base (.dK h), kit_ty (by decide +kernel), kit_ty (by decide +kernel), rfl⟩
theorem Odd.whole {p : Addr} {K : PySem.W.Frag} {H : Hp} {v : V} (h : Odd p K H v) : WholeIs K H v false := by
  rcases h with rfl | ⟨b, rfl⟩ | ⟨z, rfl⟩ | ⟨a, rfl, ⟨xs, h⟩ | ⟨_, xs, h⟩ | ⟨_, kvs, h⟩⟩
  · exact whole_non
  · exact whole_bl
  · exact whole_str
  · exact whole_tup h
  · exact whole_lst h
  · exact whole_dct h
theorem Odd.x {p : Addr} {K : PySem.W.Frag} {H H' : Hp} {v : V} (h : Odd p K H v) (s : SameX p H H') (hp : PotAt H p) : Odd p K H' v := by
  rcases h with rfl | ⟨b, rfl⟩ | ⟨z, rfl⟩ | ⟨a, rfl, ⟨xs, h⟩ | ⟨n, xs, h⟩ | ⟨n, kvs, h⟩⟩
  · exact .inl rfl
  · exact .inr (.inl ⟨b, rfl⟩)
  · exact .inr (.inr (.inl ⟨z, rfl⟩))
  · exact .inr (.inr (.inr ⟨a, rfl, .inl ⟨xs, s.tup hp h⟩⟩))
  · exact .inr (.inr (.inr ⟨a, rfl, .inr (.inl ⟨n, xs, s a _ n h⟩)⟩))
  · exact .inr (.inr (.inr ⟨a, rfl, .inr (.inr ⟨n, kvs, s a _ n h⟩)⟩))
/-- a whole number, or none -/
def Thing (p : Addr) (K : PySem.W.Frag) (H : Hp) (v : V) : Prop := (∃ i : Int, v = .int i ∧ Bt 400 i) ∨ Odd p K H v
theorem Thing.x {p : Addr} {K : PySem.W.Frag} {H H' : Hp} {v : V} (h : Thing p K H v) (s : SameX p H H') (hp : PotAt H p) : Thing p K H' v := h.elim .inl fun h => .inr (h.x s hp)
/-! the part that two numbers make -/
/-! what is a part -/
def PairIs (K : PySem.W.Frag) (H : Hp) (v : V) (b : Bool) : Prop :=
  (b = false ∧ ∃ t, TyX K H v t ∧ PySem.W.kitOne K t (.type "tuple") = some false) ∨
  ∃ a xs, v = .ref a ∧ SqT K H a xs ∧ ((b = false ∧ xs.length ≠ 2) ∨ ∃ x y, xs = [x, y] ∧ ((b = false ∧ WholeIs K H x false) ∨ (∃ i, x = .int i ∧ b = false ∧ WholeIs K H y false) ∨ ∃ i j : Int, x = .int i ∧ y = .int j ∧ b = (decide (0 < j) && decide ((Int.gcd i j : Int) = 1))))
def spPair (K : PySem.W.Frag) : Sp := fun vs H Q _ => ∃ v b, vs = [v] ∧ PairIs K H v b ∧ Q (.bl b) H
theorem pair_of {K : PySem.W.Frag} {H : Hp} {v : V} {a b : Int} (h : TupI K H v a b) : PairIs K H v (decide (0 < b) && decide ((Int.gcd a b : Int) = 1)) := by
  obtain ⟨t, rfl, h⟩ := h
  exact .inr ⟨t, _, rfl, h, .inr ⟨_, _, rfl, .inr (.inr ⟨a, b, rfl, rfl, rfl⟩)⟩⟩
theorem ty_same {K : PySem.W.Frag} {H H' : Hp} {v : V} {t : Value} (h : TyX K H v t) (s : Same H H') : TyX K H' v t := by
  cases h with
  | base h =>
    cases h with
    | non => exact .base .non
    | bl x => exact .base (.bl x)
    | int i => exact .base (.int i)
    | str z => exact .base (.str z)
    | flt z => exact .base (.flt z)
    | lst e => exact .base (.lst (s _ _ e))
    | frz e => exact .base (.frz (s _ _ e))
    | tup e => exact .base (.tup (s _ _ e))
    | dK e => exact .base (.dK (s _ _ e))
    | dT e => exact .base (.dT (s _ _ e))
    | ins e a b c d f => exact .base (.ins (s _ _ e) a b c d f)
  | byt b => exact .byt b
  | set e => exact .set (s _ _ e)
  | kList e c => exact .kList e c
  | kTuple e c => exact .kTuple e c
  | kDict e c => exact .kDict e c
  | fTuple e => exact .fTuple (s _ _ e)
  | fDict e => exact .fDict (s _ _ e)
theorem WholeIs.same {K : PySem.W.Frag} {H H' : Hp} {v : V} {b : Bool} (h : WholeIs K H v b) (s : Same H H') : WholeIs K H' v b := by
  obtain ⟨t, b1, b2, ty, r⟩ := h
  exact ⟨t, b1, b2, ty_same ty s, r⟩
theorem PairIs.same {K : PySem.W.Frag} {H H' : Hp} {v : V} {b : Bool} (h : PairIs K H v b) (s : Same H H') : PairIs K H' v b := by
  rcases h with ⟨e, t, ty, k⟩ | ⟨a, xs, e, ht, h⟩
  · exact .inl ⟨e, t, ty_same ty s, k⟩
  · refine .inr ⟨a, xs, e, Same.tup s ht, ?_⟩
    rcases h with h | ⟨x, y, e, h⟩
    · exact .inl h
    · refine .inr ⟨x, y, e, ?_⟩
      rcases h with ⟨e1, w⟩ | ⟨i, e1, e2, w⟩ | h
      · exact .inl ⟨e1, w.same s⟩
      · exact .inr (.inl ⟨i, e1, e2, w.same s⟩)
      · exact .inr (.inr h)
end WS
set_option Elab.async false
set_option linter.all false
set_option maxRecDepth 100000
set_option maxHeartbeats 4000000
namespace WS
open PySem PySem.Spec PyProof.Rows L2
/-! defs that let exceptions out, of any kind -/
/-! things of two dozen sorts that are no whole numbers, and no parts -/
def Odd2 (p : Addr) (K : PySem.W.Frag) (H : Hp) (v : V) : Prop := v = .non ∨ (∃ b, v = .bl b) ∨ (∃ z, v = .str z) ∨ ∃ a, v = .ref a ∧ ((∃ xs, SqT K H a xs ∧ (xs.length ≠ 2 ∨ (∃ y, xs = [.non, y]) ∨ (∃ z y, xs = [.str z, y]) ∨ xs = [.int 2, .int 2])) ∨ (a ≠ p ∧ ∃ xs, H a = some (.lst xs)) ∨ (a ≠ p ∧ ∃ kvs, H a = some (.dK kvs)))
theorem Odd2.x {p : Addr} {K : PySem.W.Frag} {H H' : Hp} {v : V} (h : Odd2 p K H v) (s : SameX p H H') (hp : PotAt H p) : Odd2 p K H' v := by
  rcases h with h | h | h | ⟨a, e, ⟨xs, h, r⟩ | ⟨n, xs, h⟩ | ⟨n, kvs, h⟩⟩
  · exact .inl h
  · exact .inr (.inl h)
  · exact .inr (.inr (.inl h))
  · exact .inr (.inr (.inr ⟨a, e, .inl ⟨xs, s.tup hp h, r⟩⟩))
  · exact .inr (.inr (.inr ⟨a, e, .inr (.inl ⟨n, xs, s a _ n h⟩)⟩))
  · exact .inr (.inr (.inr ⟨a, e, .inr (.inr ⟨n, kvs, s a _ n h⟩)⟩))
end WS
set_option Elab.async false
set_option linter.all false
set_option maxRecDepth 100000
set_option maxHeartbeats 4000000
set_option Elab.async false
set_option linter.all false
set_option maxRecDepth 100000
set_option maxHeartbeats 4000000
namespace WS
open PySem PySem.Spec PyProof.Rows L2
/-! vouchers -/
structure VR where
  w : Int
  a : Int
  b : Int
  l : Int × Int
  m : Int × Int
  c : Int × Int
def VRow (K : PySem.W.Frag) (H : Hp) (v : V) (r : VR) : Prop := ∃ t x y z, v = .ref t ∧ SqT K H t [.int r.w, .int r.a, .int r.b, x, y, z] ∧ TupI K H x r.l.1 r.l.2 ∧ TupI K H y r.m.1 r.m.2 ∧ TupI K H z r.c.1 r.c.2
theorem VRow.k {K : PySem.W.Frag} {H H' : Hp} {v : V} {r : VR} (h : VRow K H v r) (s : KT H H') : VRow K H' v r := by
  obtain ⟨t, x, y, z, e, h0, h1, h2, h3⟩ := h
  exact ⟨t, x, y, z, e, s.sqt h0, h1.k s, h2.k s, h3.k s⟩
def VRows (K : PySem.W.Frag) (H : Hp) (vs : List V) (rs : List VR) : Prop := vs.length = rs.length ∧ ∀ (i : Nat) v, vs[i]? = some v → ∃ r, rs[i]? = some r ∧ VRow K H v r
theorem VRows.k {K : PySem.W.Frag} {H H' : Hp} {vs : List V} {rs : List VR} (h : VRows K H vs rs) (s : KT H H') : VRows K H' vs rs := ⟨h.1, fun i v e => by
  obtain ⟨r, e1, h1⟩ := h.2 i v e
  exact ⟨r, e1, h1.k s⟩⟩
theorem VRows.nil {K : PySem.W.Frag} {H : Hp} : VRows K H [] [] := ⟨rfl, fun i v e => by simp at e⟩
theorem VRows.add {K : PySem.W.Frag} {H : Hp} {v : V} {vs : List V} {r : VR} {rs : List VR} (k : VRows K H vs rs) (h : VRow K H v r) : VRows K H (vs ++ [v]) (rs ++ [r]) := by
  refine ⟨by simp [k.1], fun i x e => ?_⟩
  rw [List.getElem?_append] at e ⊢
  have hl := k.1
  split at e
  · rename_i hi
    obtain ⟨r', e1, h1⟩ := k.2 i x e
    rw [if_pos (by omega)]
    exact ⟨r', e1, h1⟩
  · rename_i hi
    rw [if_neg (by omega)]
    have e0 : i - vs.length = 0 := by
      cases hj : i - vs.length with
      | zero => rfl
      | succ j => rw [hj] at e; simp at e
    rw [e0] at e
    rw [← hl, e0]
    simp only [List.getElem?_cons_zero, Option.some.injEq] at e ⊢
    subst e
    exact ⟨r, rfl, h⟩
def ltp (p q : Int × Int) : Bool := decide (p.1 * q.2 < q.1 * p.2)
def mo (W n k : Int) : Int × Int := lo (W * k * (n - k)) 2
def tm (p : Int × Int) (i : Int) : Int × Int := lo (p.1 * i) p.2
def mi (p q : Int × Int) : Int × Int := lo (p.1 * q.2 - q.1 * p.2) (p.2 * q.2)
def Okv (p : Int × Int) : Prop := Lowest p.1 p.2 ∧ Okq 204 92 p
def Vch (K : PySem.W.Frag) (H : Hp) (v : V) (n k : Int) (s : Int × Int) (rs : List VR) : Prop := ∃ t u R vs, v = .ref t ∧ SqT K H t [.int n, .int k, u, .ref R] ∧ TupI K H u s.1 s.2 ∧ SqT K H R vs ∧ VRows K H vs rs
theorem Vch.k {K : PySem.W.Frag} {H H' : Hp} {v : V} {n k : Int} {s : Int × Int} {rs : List VR} (h : Vch K H v n k s rs) (e : KT H H') : Vch K H' v n k s rs := by
  obtain ⟨t, u, R, vs, e1, h1, h2, h3, h4⟩ := h
  exact ⟨t, u, R, vs, e1, e.sqt h1, h2.k e, e.sqt h3, h4.k e⟩
theorem Okv.okp {m : Nat} {p : Int × Int} (h : Okv p) (hm : 204 ≤ m) : Okp m p := h.2.okp hm (by omega)
theorem Okq.mi {n d m e : Nat} {p q : Int × Int} (h : Okq n d p) (k : Okq m e q) : Okq (max (n + e) (m + d) + 1) (d + e) (mi p q) := by
  refine ⟨(lo_lowest (Int.mul_pos h.1 k.1)).1, Bt.lo1 ?_, (h.2.2.mul k.2.2).lo2⟩
  exact Bt.sub ((h.2.1.mul k.2.2).mono (Nat.le_max_left _ _)) ((k.2.1.mul h.2.2).mono (Nat.le_max_right _ _))
end WS
set_option Elab.async false
set_option linter.all false
set_option maxRecDepth 100000
set_option maxHeartbeats 4000000
set_option Elab.async false
set_option linter.all false
set_option maxRecDepth 100000
set_option maxHeartbeats 4000000
namespace WS
open PySem PySem.Spec PyProof.Rows L2
/-! parts as rational numbers -/
def rv (p : Int × Int) : Rat := (p.1 : Rat) / (p.2 : Rat)
theorem cast_pos {b : Int} (h : 0 < b) : (0 : Rat) < b := by exact_mod_cast h
theorem cast_nn {b : Int} (h : 0 ≤ b) : (0 : Rat) ≤ b := by exact_mod_cast h
theorem cast_ne {b : Int} (h : 0 < b) : (b : Rat) ≠ 0 := by exact_mod_cast (by omega : b ≠ 0)
theorem cast_le {a b : Int} : (a : Rat) ≤ b ↔ a ≤ b := by exact_mod_cast Iff.rfl
theorem cast_mul (a b : Int) : ((a * b : Int) : Rat) = a * b := Rat.intCast_mul a b
theorem cast_add (a b : Int) : ((a + b : Int) : Rat) = a + b := Rat.intCast_add a b
theorem cast_sub (a b : Int) : ((a - b : Int) : Rat) = a - b := Rat.intCast_sub a b
theorem rv_lo {a b : Int} (hb : 0 < b) : rv (lo a b) = (a : Rat) / b := by
  have h1 := cast_ne hb
  have h2 := cast_ne (lo_lowest (a := a) hb).1
  have e' : ((lo a b).1 : Rat) * b = a * (lo a b).2 := by
    have := lo_cross a b
    exact_mod_cast this
  unfold rv
  grind
theorem rv_pl {p q : Int × Int} (hp : 0 < p.2) (hq : 0 < q.2) : rv (pl p q) = rv p + rv q := by
  unfold pl
  rw [rv_lo (Int.mul_pos hp hq), cast_add, cast_mul, cast_mul, cast_mul]
  have h1 := cast_ne hp
  have h2 := cast_ne hq
  unfold rv
  grind
theorem rv_mi {p q : Int × Int} (hp : 0 < p.2) (hq : 0 < q.2) : rv (mi p q) = rv p - rv q := by
  unfold mi
  rw [rv_lo (Int.mul_pos hp hq), cast_sub, cast_mul, cast_mul, cast_mul]
  have h1 := cast_ne hp
  have h2 := cast_ne hq
  unfold rv
  grind
theorem rv_mo (W n k : Int) : rv (mo W n k) = (W : Rat) * k * (n - k) / 2 := by
  unfold mo
  rw [rv_lo (by decide), cast_mul, cast_mul, cast_sub]
  rfl
theorem ltp_iff {p q : Int × Int} (hp : 0 < p.2) (hq : 0 < q.2) : ltp p q = true ↔ rv p < rv q := by
  unfold ltp rv
  rw [decide_eq_true_iff]
  have h1 := cast_pos hp
  have h2 := cast_pos hq
  have e : (p.1 * q.2 < q.1 * p.2) ↔ (p.1 : Rat) * q.2 < q.1 * p.2 := by exact_mod_cast Iff.rfl
  rw [e, Rat.div_lt_iff h1]
  have : (q.1 : Rat) / q.2 * p.2 = (q.1 * p.2) / q.2 := by grind
  rw [this, Rat.lt_div_iff h2]
theorem ltp_no {p q : Int × Int} (hp : 0 < p.2) (hq : 0 < q.2) : ltp p q = false ↔ rv q ≤ rv p := by
  rw [← Bool.not_eq_true, ltp_iff hp hq, Rat.not_lt]
theorem row_bound {W n k a b S L M C : Rat} (hW : 0 < W) (ha : 0 ≤ a) (hb : 0 ≤ b) (hs : S ≤ W * k * (n - k) / 2) (hl : L ≤ W * (k - a) * (n - (k - a)) / 2) (hm : M ≤ W * (k + b) * (n - (k + b)) / 2) (hx : (S - L) * b ≤ (M - S) * a) (hc : C ≤ a * b / 2) :
    W * C ≤ W * k * (n - k) / 2 - S := by
  have h1 := Rat.mul_le_mul_of_nonneg_left hl hb
  have h2 := Rat.mul_le_mul_of_nonneg_left hm ha
  have h3 : (a + b) * S ≤ (a + b) * (W * k * (n - k) / 2 - W * a * b / 2) := by grind
  have h4 := Rat.mul_le_mul_of_nonneg_left hc (Rat.le_of_lt hW)
  by_cases hab : 0 < a + b
  · have h5 : S ≤ W * k * (n - k) / 2 - W * a * b / 2 := Rat.le_of_mul_le_mul_left h3 hab
    grind
  · have ea : a = 0 := by grind
    have eb : b = 0 := by grind
    subst ea eb
    grind
end WS
set_option Elab.async false
set_option linter.all false
set_option maxRecDepth 100000
set_option maxHeartbeats 4000000
namespace WS
open PySem PySem.Spec PyProof.Rows L2
theorem samex_upd {p F : Addr} {H H' : Hp} {o : HO} (s : SameX p H H') (n : H F = none) : SameX p H (upd H' F o) := fun b x nb e => by
  rw [upd_ne (ne_of_none e n)]
  exact s b x nb e
theorem PotAt.upd {H : Hp} {p F : Addr} {o : HO} (h : PotAt H p) (n : F ≠ p) : PotAt (upd H F o) p := by
  obtain ⟨x, y, e, r⟩ := h
  exact ⟨x, y, by rw [upd_ne n.symm]; exact e, r⟩
theorem PotAt.nel {H : Hp} {p F : Addr} {xs : List V} (h : PotAt H p) (hF : H F = some (.lst xs)) (n : xs.length ≠ 2) : F ≠ p := by
  obtain ⟨x, y, e, r⟩ := h
  intro z
  subst z
  rw [hF] at e
  cases e
  exact n rfl
end WS
set_option Elab.async false
set_option linter.all false
set_option maxRecDepth 100000
set_option maxHeartbeats 4000000
namespace WS
open PySem PySem.Spec PyProof.Rows L2
open TL
/-! names -/
def Nm (z : Str) : Prop := 1 ≤ (tl z).length ∧ (tl z).length ≤ 8 ∧ ∀ c ∈ tl z, 97 ≤ c ∧ c ≤ 122
def Nm0 (z : Str) : Prop := z = "" ∨ Nm z
theorem nm_ne {z : Str} (h : Nm z) : z ≠ "" := fun e => by
  rw [e] at h
  exact absurd h.1 (by decide)
theorem nm_sh {z : Str} (h : Nm0 z) : Sh 82 1 (.str z) := by
  have hl : z.length ≤ 8 := by
    rw [len_tl]
    rcases h with rfl | h
    · decide
    · exact h.2.1
  refine (Sh.str (z := z) fun c hc => ?_).mono (by omega) (Nat.le_refl _)
  rcases h with rfl | h
  · exact absurd hc (by decide +revert)
  · have := h.2.2 c hc
    omega
theorem inV_str (z : Str) (us : List Str) : inV (.str z) (us.map V.str) = decide (z ∈ us) := by
  unfold inV
  rw [List.any_map]
  induction us with
  | nil => simp
  | cons u us ih =>
    simp only [List.any_cons, Function.comp, List.mem_cons, ih]
    show ((u == z) || decide (z ∈ us)) = decide (z = u ∨ z ∈ us)
    by_cases h : z = u
    · subst h; simp
    · have : (u == z) = false := by simp [Ne.symm h]
      rw [this, Bool.false_or]
      simp [h]
theorem flat_strs (us : List Str) : (us.map V.str).all flatV = true := by
  rw [List.all_eq_true]
  intro v hv
  obtain ⟨u, _, rfl⟩ := List.mem_map.mp hv
  rfl
theorem join_one (ys : List Str) : tl (Str.join "" ys) = (ys.map tl).flatten := by
  rw [tl_join]
  show joinL [] (ys.map tl) = _
  induction ys.map tl with
  | nil => rfl
  | cons p r ih =>
    cases r with
    | nil => simp [joinL]
    | cons q r =>
      show p ++ ([] ++ joinL [] (q :: r)) = _
      rw [ih]
      simp
def sg1 (c : Nat) : Str := ⟨#[c]⟩
theorem join_nm {cs : List Nat} (h1 : 1 ≤ cs.length) (h2 : cs.length ≤ 8) (hc : ∀ c ∈ cs, 97 ≤ c ∧ c ≤ 122) : Nm (Str.join "" (cs.map sg1)) := by
  have e : tl (Str.join "" (cs.map sg1)) = cs := by
    rw [join_one, List.map_map]
    induction cs with
    | nil => rfl
    | cons c cs ih =>
      simp only [List.map_cons, List.flatten_cons]
      show [c] ++ _ = _
      cases cs with
      | nil => simp
      | cons d ds => rw [ih (by simp) (by simp at h2 ⊢; omega) (fun x hx => hc x (List.mem_cons_of_mem _ hx))]; rfl
  unfold Nm
  rw [e]
  exact ⟨h1, h2, hc⟩
theorem sg_len : ∀ cs : List Nat, ((cs.map sg1).map (·.length)).sum ≤ cs.length
  | [] => Nat.le_refl _
  | c :: cs => by
    have := sg_len cs
    simp only [List.map_cons, List.sum_cons, List.length_cons]
    have e : (sg1 c).length = 1 := rfl
    omega
abbrev abc : Str := "abcdefghijklmnopqrstuvwxyz"
theorem abc_at {d : Int} (h0 : 0 ≤ d) (h1 : d < 26) : ∃ c, atI abc.cps.toList d = some c ∧ 97 ≤ c ∧ c ≤ 122 := by
  obtain ⟨n, rfl⟩ : ∃ n : Nat, d = n := ⟨d.toNat, by omega⟩
  have hn : n < 26 := by omega
  have : ∀ m, m < 26 → ∃ c, abc.cps.toList[m]? = some c ∧ 97 ≤ c ∧ c ≤ 122 := by decide +kernel
  obtain ⟨c, e, r⟩ := this n hn
  exact ⟨c, atI_nat e, r⟩
theorem sg1_inj {c d : Nat} (h : sg1 c = sg1 d) : c = d := by
  have : tl (sg1 c) = tl (sg1 d) := by rw [h]
  exact List.head_eq_of_cons_eq this
theorem nodup_in {α : Type} [DecidableEq α] : ∀ {l m : List α}, l.Nodup → (∀ x ∈ l, x ∈ m) → l.length ≤ m.length
  | [], _, _, _ => Nat.zero_le _
  | x :: l, m, hn, hs => by
    have hx := hs x List.mem_cons_self
    have ih := nodup_in (l := l) (m := m.erase x) (List.nodup_cons.mp hn).2 (fun y hy => by
      have hne : y ≠ x := fun e => (List.nodup_cons.mp hn).1 (e ▸ hy)
      exact (List.mem_erase_of_ne hne).mpr (hs y (List.mem_cons_of_mem _ hy)))
    rw [List.length_erase_of_mem hx] at ih
    have : 0 < m.length := List.length_pos_of_mem hx
    simp only [List.length_cons]
    omega
def lets : List Nat := abc.cps.toList
theorem lets_ok : lets.Nodup ∧ lets.length = 26 ∧ (∀ c ∈ lets, 97 ≤ c ∧ c ≤ 122) ∧ abc.cps.size = 26 := by decide +kernel
end WS
set_option Elab.async false
set_option linter.all false
set_option maxRecDepth 100000
set_option maxHeartbeats 4000000
namespace WS
open PySem PySem.Spec PyProof.Rows L2
/-! moments -/
abbrev Seat := Str × (Int × Int)
def seatD (s : Seat) : PyData := .tuple [.str s.1, pdP s.2]
def momD (W : Int) (ss : List Seat) : PyData := .tuple [.int W, .tuple (ss.map seatD)]
theorem pdP_imm (p : Int × Int) : imm (pdP p) = true := rfl
theorem parts_imm (ps : List (Int × Int)) : immAll (ps.map pdP) = true := immAll_map pdP_imm ps
theorem seats_imm (ss : List Seat) : immAll (ss.map seatD) = true := immAll_map (fun _ => rfl) ss
theorem mom_imm (W : Int) (ss : List Seat) : imm (momD W ss) = true := by
  show (true && (immAll (ss.map seatD) && true)) = true
  rw [seats_imm]
  rfl
theorem mom_get {K : PySem.W.Frag} {H : Hp} {v : V} {W : Int} {ss : List Seat} (h : Dp K H v (momD W ss)) : ∃ t S vs, v = .ref t ∧ SqT K H t [.int W, .ref S] ∧ SqT K H S vs ∧ DpAll K H vs (ss.map seatD) := by
  obtain ⟨t, x, y, rfl, h0, hx, hy⟩ := dp2 h
  obtain ⟨S, vs, rfl, h1, h2⟩ := dp_tup hy
  rw [dp_int hx] at h0
  exact ⟨t, S, vs, rfl, h0, h1, h2⟩
theorem mom_mk {K : PySem.W.Frag} {H : Hp} {t S : Addr} {vs : List V} {W : Int} {ss : List Seat} (h0 : SqT K H t [.int W, .ref S]) (h1 : SqT K H S vs) (h2 : DpAll K H vs (ss.map seatD)) : Dp K H (.ref t) (momD W ss) := .tup h0 (.cons (.int W) (.cons (.tup h1 h2) .nil))
theorem seat_mk {K : PySem.W.Frag} {H : Hp} {u : Addr} {x : V} {s : Seat} (h0 : SqT K H u [.str s.1, x]) (h1 : Dp K H x (pdP s.2)) : Dp K H (.ref u) (seatD s) := .tup h0 (.cons (.str _) (.cons h1 .nil))
theorem seat_at {K : PySem.W.Frag} {H : Hp} {vs : List V} {ss : List Seat} {i : Nat} {v : V} (h : DpAll K H vs (ss.map seatD)) (e : vs[i]? = some v) : ∃ s u x, ss[i]? = some s ∧ v = .ref u ∧ SqT K H u [.str s.1, x] ∧ Dp K H x (pdP s.2) := by
  obtain ⟨d, ed, hd⟩ := dpall_at h e
  rw [List.getElem?_map] at ed
  cases z : ss[i]? with
  | none => rw [z] at ed; cases ed
  | some s =>
    rw [z] at ed
    obtain rfl := Option.some.inj ed
    obtain ⟨u, x, y, rfl, h0, hx, hy⟩ := dp2 hd
    rw [dp_str hx] at h0
    exact ⟨s, u, y, rfl, rfl, h0, hy⟩
def gs (ss : List Seat) (i : Nat) : Seat := ss.getD i ("", (0, 1))
theorem gs_at {ss : List Seat} {i : Nat} {s : Seat} (h : ss[i]? = some s) : gs ss i = s := by
  unfold gs
  rw [List.getD_eq_getElem?_getD, h]
  rfl
theorem at_gs {ss : List Seat} {i : Nat} (h : i < ss.length) : ss[i]? = some (gs ss i) := by
  rw [gs_at (List.getElem?_eq_getElem h)]
  exact List.getElem?_eq_getElem h
def names (ss : List Seat) : List Str := (ss.map Prod.fst).filter fun z => !decide (z = "")
def frees (ss : List Seat) : List Nat := (List.range ss.length).filter fun i => decide ((gs ss i).1 = "")
def kittyL (ss : List Seat) : List (Int × Int) := (ss.filter fun s : Seat => decide (s.1 = ("" : Str))).map Prod.snd
def ab (p : Int × Int) : Int × Int := (if p.1 < 0 then -p.1 else p.1, p.2)
def near (ss : List Seat) (f i : Nat) : Nat := if f = ss.length ∨ ltp (ab (gs ss i).2) (ab (gs ss f).2) = true then i else f
def room (ss : List Seat) : Nat := (frees ss).foldl (near ss) ss.length
def put (ss : List Seat) (i : Nat) (z : Str) : List Seat := ss.take i ++ [(z, (gs ss i).2)] ++ ss.drop (i + 1)
def idx (ss : List Seat) (z : Str) : Nat := (ss.map Prod.fst).idxOf z
theorem names_mem {ss : List Seat} {z : Str} : z ∈ names ss ↔ z ≠ "" ∧ ∃ s ∈ ss, s.1 = z := by
  unfold names
  rw [List.mem_filter, List.mem_map]
  simp only [Bool.not_eq_true', decide_eq_false_iff_not]
  exact ⟨fun ⟨a, b⟩ => ⟨b, a⟩, fun ⟨a, b⟩ => ⟨b, a⟩⟩
theorem idx_lt {ss : List Seat} {z : Str} (h : z ∈ names ss) : idx ss z < ss.length := by
  obtain ⟨_, s, hs, rfl⟩ := names_mem.mp h
  have := List.idxOf_lt_length_of_mem (List.mem_map_of_mem (f := Prod.fst) hs)
  rw [List.length_map] at this
  exact this
theorem frees_lt {ss : List Seat} {i : Nat} (h : i ∈ frees ss) : i < ss.length ∧ (gs ss i).1 = "" := by
  obtain ⟨h1, h2⟩ := List.mem_filter.mp h
  exact ⟨List.mem_range.mp h1, of_decide_eq_true h2⟩
theorem gs_mem {ss : List Seat} {i : Nat} (h : i < ss.length) : gs ss i ∈ ss := List.mem_of_getElem? (at_gs h)
def spOwing (K : PySem.W.Frag) : Sp := fun vs H Q _ => ∃ v W ss, vs = [v] ∧ Dp K H v (momD W ss) ∧ ss.length ≤ 100 ∧ ∀ v' H', Same H H' → Dp K H' v' (.tuple ((ss.map Prod.snd).map pdP)) → Q v' H'
def spPersons (K : PySem.W.Frag) : Sp := fun vs H Q _ => ∃ v W ss, vs = [v] ∧ Dp K H v (momD W ss) ∧ ss.length ≤ 100 ∧ ∀ D H', H D = none → Same H H' → H' D = some (.lst ((names ss).map V.str)) → Q (.ref D) H'
def spSits (K : PySem.W.Frag) : Sp := fun vs H Q _ => ∃ v W ss z, vs = [v, .str z] ∧ Dp K H v (momD W ss) ∧ ss.length ≤ 100 ∧ ∀ H', Same H H' → Q (.bl (decide (z ∈ names ss))) H'
def spSeatOf (K : PySem.W.Frag) : Sp := fun vs H Q _ => ∃ v W ss z, vs = [v, .str z] ∧ Dp K H v (momD W ss) ∧ ss.length ≤ 100 ∧ z ∈ names ss ∧ ∀ H', Same H H' → Q (.int (idx ss z : Nat)) H'
def spOwes (K : PySem.W.Frag) : Sp := fun vs H Q _ => ∃ v W ss z, vs = [v, .str z] ∧ Dp K H v (momD W ss) ∧ ss.length ≤ 100 ∧ z ∈ names ss ∧ ∀ v' H', Same H H' → Dp K H' v' (pdP (gs ss (idx ss z)).2) → Q v' H'
theorem eqv_strs (a b : Str) : decide (V.str a = V.str b) = decide (a = b) := decide_eq_decide.mpr ⟨V.str.inj, congrArg V.str⟩
theorem room_le (ss : List Seat) : room ss ≤ ss.length := by
  unfold room
  have : ∀ (l : List Nat) (f : Nat), f ≤ ss.length → (∀ i ∈ l, i ≤ ss.length) → l.foldl (near ss) f ≤ ss.length := by
    intro l
    induction l with
    | nil => exact fun f h _ => h
    | cons i l ih =>
      intro f h hl
      refine ih _ ?_ (fun j hj => hl j (List.mem_cons_of_mem _ hj))
      unfold near
      split
      · exact hl i List.mem_cons_self
      · exact h
  exact this _ _ (Nat.le_refl _) (fun i hi => Nat.le_of_lt (frees_lt hi).1)
end WS
set_option Elab.async false
set_option linter.all false
set_option maxRecDepth 100000
set_option maxHeartbeats 4000000
set_option Elab.async false
set_option linter.all false
set_option maxRecDepth 100000
set_option maxHeartbeats 4000000
namespace WS
open PySem PySem.Spec PyProof.Rows L2
theorem samex_none {p D : Addr} {H H' : Hp} (s : SameX p H H') (n : D ≠ p) (h : H' D = none) : H D = none := by
  cases z : H D with
  | none => rfl
  | some o =>
    rw [s D o n z] at h
    cases h
/-- a list of pairs of a text and a number -/
def TopsAt (K : PySem.W.Frag) (H : Hp) (vs : List V) (xs : List (Str × Int)) : Prop := vs.length = xs.length ∧ ∀ (i : Nat) v, vs[i]? = some v → ∃ x u, xs[i]? = some x ∧ v = .ref u ∧ SqT K H u [.str x.1, .int x.2]
theorem TopsAt.k {K : PySem.W.Frag} {H H' : Hp} {vs : List V} {xs : List (Str × Int)} (h : TopsAt K H vs xs) (s : KT H H') : TopsAt K H' vs xs := ⟨h.1, fun i v e => by
  obtain ⟨x, u, e1, e2, h1⟩ := h.2 i v e
  exact ⟨x, u, e1, e2, s.sqt h1⟩⟩
def topS1 (m : Nat) (x : Str × Int) : Seat := (x.1, lo x.2 m)
end WS
set_option Elab.async false
set_option linter.all false
set_option maxRecDepth 100000
set_option maxHeartbeats 4000000
set_option Elab.async false
set_option linter.all false
set_option maxRecDepth 100000
set_option maxHeartbeats 4000000
namespace WS
open PySem PySem.Spec PyProof.Rows L2
theorem perm_of_map {α β : Type} {f : α → β} {ys : List β} {us : List α} (h : ys.Perm (us.map f)) : ∃ ws : List α, ws.Perm us ∧ ys = ws.map f := by
  generalize e : us.map f = m at h
  induction h generalizing us with
  | nil => 
    cases us with
    | nil => exact ⟨[], .refl _, rfl⟩
    | cons _ _ => cases e
  | cons x h ih =>
    cases us with
    | nil => cases e
    | cons u us =>
      rw [List.map_cons] at e
      obtain ⟨e1, e2⟩ := List.cons.inj e
      obtain ⟨ws, p, e3⟩ := ih e2
      exact ⟨u :: ws, p.cons u, by rw [List.map_cons, e1, e3]⟩
  | swap x y l =>
    match us, e with
    | a :: b :: us, e =>
      rw [List.map_cons, List.map_cons] at e
      obtain ⟨e1, e2⟩ := List.cons.inj e
      obtain ⟨e3, e4⟩ := List.cons.inj e2
      exact ⟨b :: a :: us, .swap a b us, by rw [List.map_cons, List.map_cons, e1, e3, e4]⟩
  | trans h1 h2 ih1 ih2 =>
    obtain ⟨ws, p, e1⟩ := ih2 e
    obtain ⟨vs, p1, e2⟩ := ih1 e1.symm
    exact ⟨vs, p1.trans p, e2⟩
def nz (z : Str) : Bool := !decide (z = "")
/-! moments as the laws make them -/
def GoodM (K : PySem.W.Frag) (H : Hp) (v : V) (W : Int) (ss : List Seat) : Prop := Dp K H v (momD W ss) ∧ ss.length ≤ 12 ∧ (∀ s ∈ ss, Okp 120 s.2 ∧ Nm0 s.1) ∧ (names ss).Nodup
theorem GoodM.kt {K : PySem.W.Frag} {H H' : Hp} {v : V} {W : Int} {ss : List Seat} (h : GoodM K H v W ss) (k : KT H H') : GoodM K H' v W ss := ⟨h.1.kt k (mom_imm _ _), h.2⟩
theorem names_app (a b : List Seat) : names (a ++ b) = names a ++ names b := by
  unfold names
  rw [List.map_append, List.filter_append]
theorem names_put (ss : List Seat) (i : Nat) (z : Str) : names (put ss i z) = names (ss.take i) ++ (if z = "" then [] else [z]) ++ names (ss.drop (i + 1)) := by
  unfold put
  rw [names_app, names_app]
  congr 2
  unfold names
  by_cases h : z = "" <;> simp [h]
theorem names_split (ss : List Seat) (i : Nat) (h : i < ss.length) : names ss = names (ss.take i) ++ names [gs ss i] ++ names (ss.drop (i + 1)) := by
  rw [← names_app, ← names_app]
  congr 1
  have e := List.getElem?_eq_getElem h
  rw [at_gs h] at e
  rw [List.append_assoc, List.singleton_append, Option.some.inj e, List.getElem_cons_drop, List.take_append_drop]
theorem put_len (ss : List Seat) (i : Nat) (z : Str) (h : i ≤ ss.length) : (put ss i z).length = if i < ss.length then ss.length else ss.length + 1 := by
  unfold put
  simp only [List.length_append, List.length_take, List.length_drop, List.length_cons, List.length_nil]
  split <;> omega
theorem put_mem {ss : List Seat} {i : Nat} {z : Str} {s : Seat} (h : s ∈ put ss i z) : s ∈ ss ∨ s = (z, (gs ss i).2) := by
  unfold put at h
  rcases List.mem_append.mp h with h | h
  · rcases List.mem_append.mp h with h | h
    · exact .inl (List.mem_of_mem_take h)
    · exact .inr (List.mem_singleton.mp h)
  · exact .inl (List.mem_of_mem_drop h)
theorem gs_ok {n : Nat} {ss : List Seat} (h : ∀ s ∈ ss, Okp (n + 1) s.2) (i : Nat) : Okp (n + 1) (gs ss i).2 := by
  by_cases hi : i < ss.length
  · exact h _ (gs_mem hi)
  · unfold gs
    rw [List.getD_eq_getElem?_getD, List.getElem?_eq_none (by omega)]
    refine ⟨show (0 : Int) < 1 by decide, ?_, ?_⟩
    · unfold Bt; exact Nat.pow_pos (by decide)
    · show (1 : Int).natAbs < 2 ^ (n + 1)
      have : 2 ^ 1 ≤ 2 ^ (n + 1) := Nat.pow_le_pow_right (by decide) (by omega)
      have e : (1 : Int).natAbs = 1 := rfl
      omega
theorem room_free {ss : List Seat} (h : room ss < ss.length) : (gs ss (room ss)).1 = "" := by
  have : ∀ (l : List Nat) (f : Nat), (f < ss.length → (gs ss f).1 = "") → (∀ i ∈ l, (gs ss i).1 = "") → l.foldl (near ss) f < ss.length → (gs ss (l.foldl (near ss) f)).1 = "" := by
    intro l
    induction l with
    | nil => exact fun f h _ hl => h hl
    | cons i l ih =>
      intro f h hl hlt
      refine ih _ (fun hn => ?_) (fun j hj => hl j (List.mem_cons_of_mem _ hj)) hlt
      unfold near at hn ⊢
      split
      · exact hl i List.mem_cons_self
      · rename_i hc
        rw [if_neg hc] at hn
        exact h hn
  exact this _ _ (fun h => absurd h (Nat.lt_irrefl _)) (fun i hi => (frees_lt hi).2) h
theorem GoodM.come {K : PySem.W.Frag} {H H' : Hp} {v v' : V} {W : Int} {ss : List Seat} {z : Str} (h : GoodM K H v W ss) (hl : ss.length < 12) (hz : Nm z) (hn : z ∉ names ss) (d : Dp K H' v' (momD W (put ss (room ss) z))) : GoodM K H' v' W (put ss (room ss) z) := by
  obtain ⟨_, _, ok, nd⟩ := h
  refine ⟨d, ?_, fun s hs => ?_, ?_⟩
  · rw [put_len _ _ _ (room_le ss)]
    split <;> omega
  · rcases put_mem hs with h | rfl
    · exact ok s h
    · exact ⟨gs_ok (n := 119) (fun s hs => (ok s hs).1) _, .inr hz⟩
  · rw [names_put, if_neg (nm_ne hz)]
    have key : names ss = names (ss.take (room ss)) ++ names (ss.drop (room ss + 1)) := by
      by_cases hr : room ss < ss.length
      · rw [names_split ss _ hr]
        have : names [gs ss (room ss)] = [] := by
          unfold names
          simp [room_free hr]
        rw [this, List.append_nil]
      · have hr' : room ss = ss.length := by have := room_le ss; omega
        rw [hr', List.take_length, List.drop_eq_nil_of_le (by omega)]
        show _ = _ ++ []
        rw [List.append_nil]
    rw [key] at nd hn
    rw [List.append_assoc, List.singleton_append, List.perm_middle.nodup_iff, List.nodup_cons]
    exact ⟨hn, nd⟩
theorem GoodM.leave {K : PySem.W.Frag} {H H' : Hp} {v v' : V} {W : Int} {ss : List Seat} {i : Nat} (h : GoodM K H v W ss) (hi : i < ss.length) (d : Dp K H' v' (momD W (put ss i ""))) : GoodM K H' v' W (put ss i "") := by
  obtain ⟨_, hl, ok, nd⟩ := h
  refine ⟨d, ?_, fun s hs => ?_, ?_⟩
  · rw [put_len _ _ _ (by omega), if_pos hi]
    exact hl
  · rcases put_mem hs with h | rfl
    · exact ok s h
    · exact ⟨(ok _ (gs_mem hi)).1, .inl rfl⟩
  · rw [names_put, if_pos rfl, List.append_nil]
    rw [names_split ss i hi] at nd
    refine nd.sublist ?_
    rw [List.append_assoc]
    exact List.Sublist.append_left (List.sublist_append_right _ _) _
/-- who sits there -/
theorem idx_gs {ss : List Seat} (nd : (names ss).Nodup) {i : Nat} (hi : i < ss.length) (hz : (gs ss i).1 ≠ "") : idx ss (gs ss i).1 = i := by
  have hm : (gs ss i).1 ∈ names ss := names_mem.mpr ⟨hz, _, gs_mem hi, rfl⟩
  have hl := idx_lt hm
  have he : (gs ss (idx ss (gs ss i).1)).1 = (gs ss i).1 := by
    have h1 : (ss.map Prod.fst)[idx ss (gs ss i).1]? = some (gs ss i).1 := by
      unfold idx
      rw [List.getElem?_eq_getElem (List.idxOf_lt_length_of_mem (List.mem_map_of_mem (f := Prod.fst) (gs_mem hi)))]
      rw [List.getElem_idxOf]
    rw [List.getElem?_map, at_gs hl] at h1
    exact Option.some.inj h1
  have one : ∀ a b, a < b → b < ss.length → (gs ss a).1 = (gs ss b).1 → (gs ss a).1 ≠ "" → False := by
    intro a b hab hb e hne
    have e1 := names_split ss b hb
    rw [e1] at nd
    have m1 : (gs ss a).1 ∈ names (ss.take b) := names_mem.mpr ⟨hne, gs ss a, by
      rw [List.mem_iff_getElem?]
      exact ⟨a, by rw [List.getElem?_take_of_lt hab]; exact at_gs (by omega)⟩, rfl⟩
    have m2 : (gs ss a).1 ∈ names [gs ss b] := names_mem.mpr ⟨hne, _, List.mem_singleton.mpr rfl, e.symm⟩
    rw [List.append_assoc] at nd
    exact (List.nodup_append.mp nd).2.2 _ m1 _ (List.mem_append_left _ m2) rfl
  rcases Nat.lt_trichotomy (idx ss (gs ss i).1) i with h | h | h
  · exact (one _ _ h hi he (by rw [he]; exact hz)).elim
  · exact h
  · exact (one _ _ h hl he.symm hz).elim
theorem names_len (ss : List Seat) : (names ss).length ≤ ss.length := by
  unfold names
  have := List.length_filter_le (fun z : Str => !decide (z = "")) (ss.map Prod.fst)
  rw [List.length_map] at this
  exact this
theorem dpall_strs {K : PySem.W.Frag} {H : Hp} : ∀ l : List Str, DpAll K H (l.map V.str) (l.map PyData.str)
  | [] => .nil
  | z :: l => .cons (.str z) (dpall_strs l)
theorem dpall_nats {K : PySem.W.Frag} {H : Hp} : ∀ l : List Nat, DpAll K H (l.map fun j : Nat => V.int j) (l.map fun j : Nat => PyData.int j)
  | [] => .nil
  | j :: l => .cons (.int _) (dpall_nats l)
theorem Sh.ok {n k : Nat} {d : PyData} (h : Sh n k d) (hn : n ≤ 1000000) (hk : k ≤ 60) : d.showable = true ∧ d.hasDict = false ∧ d.depth ≤ 60 ∧ d.shown.length ≤ sizeLine := ⟨h.1, h.2.1, Nat.le_trans h.2.2.1 hk, Nat.le_trans h.2.2.2 (Nat.le_trans hn (by rw [sizeLine_eq]; decide))⟩
theorem strok_nm {z : Str} (h : Nm0 z) : PyData.strOk z = true := by
  unfold PyData.strOk
  rw [Array.all_eq_true_iff_forall_mem]
  intro c hc
  have hc : c ∈ TL.tl z := by
    show c ∈ z.cps.toList
    exact Array.mem_toList_iff.mpr hc
  rcases h with rfl | h
  · exact absurd hc (by decide +revert)
  · have := h.2.2 c hc
    exact decide_eq_true (by omega)
/-- a moment of the first two -/
def First (K : PySem.W.Frag) (H : Hp) (v : V) (W : Int) (us : List Str) : Prop := ∃ ss, GoodM K H v W ss ∧ ss.length ≤ 10 ∧ ∀ z ∈ names ss, z ∈ us
theorem First.kt {K : PySem.W.Frag} {H H' : Hp} {v : V} {W : Int} {us : List Str} (h : First K H v W us) (k : KT H H') : First K H' v W us := let ⟨ss, a, b, c⟩ := h; ⟨ss, a.kt k, b, c⟩
end WS
set_option Elab.async false
set_option linter.all false
set_option maxRecDepth 100000
set_option maxHeartbeats 4000000
namespace WS
open PySem PySem.Spec PyProof.Rows L2
open PySem.W
/-! min of pairs, count of texts; seats as lists -/
abbrev Top := Str × Int
def gx (xs : List Top) (i : Nat) : Top := xs.getD i ("", 0)
theorem gs_tops {m : Nat} (hm : 1 ≤ m) (xs : List Top) (i : Nat) : gs (xs.map (topS1 m)) i = topS1 m (gx xs i) := by
  unfold gs gx
  rw [List.getD_eq_getElem?_getD, List.getD_eq_getElem?_getD, List.getElem?_map]
  cases xs[i]? with
  | none =>
    show (("" : Str), ((0 : Int), (1 : Int))) = (("" : Str), lo 0 m)
    rw [lo_zero (by omega)]
  | some x => rfl
def roomX (xs : List Top) : Nat := room (xs.map (topS1 1))
def putX (xs : List Top) (i : Nat) (z : Str) : List Top := xs.take i ++ [(z, (gx xs i).2)] ++ xs.drop (i + 1)
theorem put_tops {m : Nat} (hm : 1 ≤ m) (xs : List Top) (i : Nat) (z : Str) : put (xs.map (topS1 m)) i z = (putX xs i z).map (topS1 m) := by
  unfold put putX
  rw [gs_tops hm, List.map_append, List.map_append, List.map_take, List.map_drop]
  rfl
/-- seats as lists of a text and a number -/
def SeatsL (H : Hp) (us : List Addr) (xs : List Top) : Prop := us.Nodup ∧ us.length = xs.length ∧ ∀ (i : Nat) (u : Addr), us[i]? = some u → ∃ x, xs[i]? = some x ∧ H u = some (.lst [.str x.1, .int x.2])
theorem SeatsL.sm {H H' : Hp} {us : List Addr} {xs : List Top} (h : SeatsL H us xs) (s : Same H H') : SeatsL H' us xs := ⟨h.1, h.2.1, fun i u e => let ⟨x, a, b⟩ := h.2.2 i u e; ⟨x, a, s _ _ b⟩⟩
theorem SeatsL.x {H H' : Hp} {p : Addr} {us : List Addr} {xs : List Top} (h : SeatsL H us xs) (s : SameX p H H') (hp : PotAt H p) : SeatsL H' us xs := ⟨h.1, h.2.1, fun i u e => by
  obtain ⟨x, a, b⟩ := h.2.2 i u e
  refine ⟨x, a, s _ _ (fun z => ?_) b⟩
  obtain ⟨y1, y2, e1, _⟩ := hp
  rw [z, e1] at b
  cases b⟩
end WS
set_option Elab.async false
set_option linter.all false
set_option maxRecDepth 100000
set_option maxHeartbeats 4000000
namespace WS
open PySem PySem.Spec PyProof.Rows L2
theorem SeatsL.get {H : Hp} {us : List Addr} {xs : List Top} (h : SeatsL H us xs) {i : Nat} {v : V} (e : (us.map V.ref)[i]? = some v) : ∃ x u, us[i]? = some u ∧ xs[i]? = some x ∧ v = .ref u ∧ H u = some (.lst [.str x.1, .int x.2]) := by
  rw [List.getElem?_map] at e
  cases eu : us[i]? with
  | none => rw [eu] at e; cases e
  | some u =>
    rw [eu] at e
    obtain ⟨x, a, b⟩ := h.2.2 i u eu
    exact ⟨x, u, rfl, a, (Option.some.inj e).symm, b⟩
def Fr (S : List Addr) (H H' : Hp) : Prop := ∀ b o, b ∉ S → H b = some o → H' b = some o
def OkT (xs : List Top) : Prop := xs.length ≤ 30 ∧ ∀ x ∈ xs, Nm0 x.1 ∧ Bt 110 x.2
def Club (K : PySem.W.Frag) (H : Hp) (L : Addr) (us : List Addr) (xs : List Top) (m : Nat) (W : Int) (v : V) : Prop := H L = some (.lst (us.map V.ref)) ∧ SeatsL H us xs ∧ OkT xs ∧ (names (xs.map (topS1 m))).Nodup ∧ Dp K H v (momD W (xs.map (topS1 m)))
theorem Club.sm {K : PySem.W.Frag} {H H' : Hp} {L : Addr} {us : List Addr} {xs : List Top} {m : Nat} {W : Int} {v : V} (h : Club K H L us xs m W v) (s : Same H H') : Club K H' L us xs m W v := ⟨s _ _ h.1, h.2.1.sm s, h.2.2.1, h.2.2.2.1, h.2.2.2.2.sm s⟩
theorem SeatsL.nS {H : Hp} {D : Addr} {us : List Addr} {xs : List Top} {zs : List Str} (h : SeatsL H us xs) (hD : H D = some (.lst (zs.map V.str))) : D ∉ us := fun hm => by
  obtain ⟨i, hi⟩ := List.mem_iff_getElem?.mp hm
  obtain ⟨x, _, b⟩ := h.2.2 i D hi
  rw [hD] at b
  match zs, b with
  | [], b => cases b
  | [a], b => simp at b
  | a :: c :: l, b => simp at b
theorem SeatsL.nP {H : Hp} {p : Addr} {us : List Addr} {xs : List Top} (h : SeatsL H us xs) (hp : PotAt H p) : p ∉ us := fun hm => by
  obtain ⟨i, hi⟩ := List.mem_iff_getElem?.mp hm
  obtain ⟨x, _, b⟩ := h.2.2 i p hi
  obtain ⟨y1, y2, e1, _⟩ := hp
  rw [e1] at b
  cases b
theorem nLp {H : Hp} {L p : Addr} {us : List Addr} (hL : H L = some (.lst (us.map V.ref))) (hp : PotAt H p) : L ≠ p := fun z => by
  obtain ⟨y1, y2, e1, _⟩ := hp
  rw [z, e1] at hL
  cases us with
  | nil => cases hL
  | cons a l => simp at hL
theorem nSp {H : Hp} {L p : Addr} {zs : List Str} (hL : H L = some (.lst (zs.map V.str))) (hp : PotAt H p) : L ≠ p := fun z => by
  obtain ⟨y1, y2, e1, _⟩ := hp
  rw [z, e1] at hL
  cases zs with
  | nil => cases hL
  | cons a l => simp at hL
theorem Club.x {K : PySem.W.Frag} {H H' : Hp} {p L : Addr} {us : List Addr} {xs : List Top} {m : Nat} {W : Int} {v : V} (h : Club K H L us xs m W v) (s : SameX p H H') (hp : PotAt H p) : Club K H' L us xs m W v := ⟨s _ _ (nLp h.1 hp) h.1, h.2.1.x s hp, h.2.2.1, h.2.2.2.1, h.2.2.2.2.kt (kt_x s hp) (mom_imm _ _)⟩
theorem nd_come {ss : List Seat} {z : Str} (nd : (names ss).Nodup) (hz : Nm z) (hn : z ∉ names ss) : (names (put ss (room ss) z)).Nodup := by
  rw [names_put, if_neg (nm_ne hz)]
  have key : names ss = names (ss.take (room ss)) ++ names (ss.drop (room ss + 1)) := by
    by_cases hr : room ss < ss.length
    · rw [names_split ss _ hr]
      have : names [gs ss (room ss)] = [] := by
        unfold names
        simp [room_free hr]
      rw [this, List.append_nil]
    · have hr' : room ss = ss.length := by have := room_le ss; omega
      rw [hr', List.take_length, List.drop_eq_nil_of_le (by omega)]
      show _ = _ ++ []
      rw [List.append_nil]
  rw [key] at nd hn
  rw [List.append_assoc, List.singleton_append, List.perm_middle.nodup_iff, List.nodup_cons]
  exact ⟨hn, nd⟩
theorem nd_leave {ss : List Seat} {i : Nat} (nd : (names ss).Nodup) (hi : i < ss.length) : (names (put ss i "")).Nodup := by
  rw [names_put, if_pos rfl, List.append_nil]
  rw [names_split ss i hi] at nd
  refine nd.sublist ?_
  rw [List.append_assoc]
  exact List.Sublist.append_left (List.sublist_append_right _ _) _
theorem names_put_sub {ss : List Seat} {i : Nat} {z y : Str} (h : y ∈ names (put ss i z)) : y ∈ names ss ∨ y = z := by
  obtain ⟨hne, s, hs, rfl⟩ := names_mem.mp h
  rcases put_mem hs with h | rfl
  · exact .inl (names_mem.mpr ⟨hne, s, h, rfl⟩)
  · exact .inr rfl
theorem putX_len {xs : List Top} {i : Nat} {z : Str} (h : i ≤ xs.length) : (putX xs i z).length = if i < xs.length then xs.length else xs.length + 1 := by
  unfold putX
  simp only [List.length_append, List.length_take, List.length_drop, List.length_cons, List.length_nil]
  split <;> omega
theorem roomX_le (xs : List Top) : roomX xs ≤ xs.length := by
  have := room_le (xs.map (topS1 1))
  rw [List.length_map] at this
  exact this
theorem TopsAt.add {K : PySem.W.Frag} {H : Hp} {vs : List V} {xs : List Top} {x : Top} {u : Addr} (h : TopsAt K H vs xs) (hu : SqT K H u [.str x.1, .int x.2]) : TopsAt K H (vs ++ [.ref u]) (xs ++ [x]) := by
  refine ⟨by simp [h.1], fun i v e => ?_⟩
  by_cases hi : i < vs.length
  · rw [List.getElem?_append_left hi] at e
    obtain ⟨y, a, e1, e2, e3⟩ := h.2 i v e
    exact ⟨y, a, by rw [List.getElem?_append_left (by rw [← h.1]; exact hi)]; exact e1, e2, e3⟩
  · have hi2 : i = vs.length := by
      have := (List.getElem?_eq_some_iff.mp e).1
      simp at this
      omega
    subst hi2
    rw [List.getElem?_append_right (Nat.le_refl _)] at e
    obtain rfl : V.ref u = v := by simpa using e
    exact ⟨x, u, by rw [h.1]; simp, rfl, hu⟩
end WS
set_option Elab.async false
set_option linter.all false
set_option maxRecDepth 100000
set_option maxHeartbeats 4000000
namespace WS
open PySem PySem.Spec PyProof.Rows L2
/-- what stays between the turns -/
def LI (K : PySem.W.Frag) (H : Hp) (p L Dl : Addr) (m : Nat) (W : Int) (v0 : V) (xs0 : List Top) (n : Nat) (H' : Hp) (v : V) : Prop := ∃ (us : List Addr) (xs : List Top) (left : List Str), Club K H' L us xs m W v ∧ H' Dl = some (.lst (left.map V.str)) ∧ left.Nodup ∧ (∀ z ∈ left, Nm z ∧ z ∉ names (xs.map (topS1 m))) ∧ PotAt H' p ∧ Dp K H' v0 (momD W (xs0.map (topS1 m))) ∧ left.length + n = m + 8 ∧ xs.length ≤ m + n ∧ SameX p H H' ∧ (∀ u ∈ us, H u = none)
theorem LI.sm {K : PySem.W.Frag} {H H' H'' : Hp} {p L Dl : Addr} {m : Nat} {W : Int} {v0 v : V} {xs0 : List Top} {n : Nat} (h : LI K H p L Dl m W v0 xs0 n H' v) (s : Same H' H'') : LI K H p L Dl m W v0 xs0 n H'' v := by
  obtain ⟨us, xs, left, c, d, e, f, g, i, j, k, l, o⟩ := h
  exact ⟨us, xs, left, c.sm s, s _ _ d, e, f, g.same s, i.sm s, j, k, l.trans (Same.x s), o⟩
theorem LI.x {K : PySem.W.Frag} {H H' H'' : Hp} {p L Dl : Addr} {m : Nat} {W : Int} {v0 v : V} {xs0 : List Top} {n : Nat} (h : LI K H p L Dl m W v0 xs0 n H' v) (s : SameX p H' H'') (hp : PotAt H'' p) : LI K H p L Dl m W v0 xs0 n H'' v := by
  obtain ⟨us, xs, left, c, d, e, f, g, i, j, k, l, o⟩ := h
  exact ⟨us, xs, left, c.x s g, s _ _ (nSp d g) d, e, f, hp, i.kt (kt_x s g) (mom_imm _ _), j, k, l.trans s, o⟩
theorem Club.set {K : PySem.W.Frag} {H : Hp} {L D : Addr} {us : List Addr} {xs : List Top} {m : Nat} {W : Int} {v : V} {ys zs : List V} (h : Club K H L us xs m W v) (hD : H D = some (.lst ys)) (nL : D ≠ L) (nu : D ∉ us) : Club K (upd H D (.lst zs)) L us xs m W v :=
  ⟨by rw [upd_ne nL.symm]; exact h.1, ⟨h.2.1.1, h.2.1.2.1, fun i u e => by
    obtain ⟨x, a, b⟩ := h.2.1.2.2 i u e
    exact ⟨x, a, by rw [upd_ne (fun (q : u = D) => nu (q ▸ List.mem_of_getElem? e))]; exact b⟩⟩, h.2.2.1, h.2.2.2.1, h.2.2.2.2.kt (kt_set hD) (mom_imm _ _)⟩
/-- behind a coming -/
theorem LI.come {K : PySem.W.Frag} {H H' H'' : Hp} {p L Dl : Addr} {m : Nat} {W : Int} {v0 v v' : V} {xs0 : List Top} {n : Nat} {us us' : List Addr} {xs : List Top} {z : Str} {left : List Str} (nHL : H L = none) (nHD : H Dl = none) (nLD : L ≠ Dl) (m1 : 1 ≤ m) (hn : m + n + 1 ≤ 30)
    (C : Club K H' L us xs m W v) (hD : H' Dl = some (.lst ((z :: left).map V.str))) (nd : (z :: left).Nodup) (hz : ∀ y ∈ z :: left, Nm y ∧ y ∉ names (xs.map (topS1 m))) (px : PotAt H' p) (d0 : Dp K H' v0 (momD W (xs0.map (topS1 m)))) (hl : (z :: left).length + n = m + 8) (hx : xs.length ≤ m + n) (sx : SameX p H H') (hu : ∀ u ∈ us, H u = none)
    (C' : Club K H'' L us' (putX xs (roomX xs) z) m W v') (fr : Fr (L :: us) (upd H' Dl (.lst (left.map V.str))) H'') (kt : KT (upd H' Dl (.lst (left.map V.str))) H'') (hu' : ∀ u ∈ us', u ∈ us ∨ upd H' Dl (.lst (left.map V.str)) u = none) : LI K H p L Dl m W v0 xs0 (n + 1) H'' v' := by
  have nDs := C.2.1.nS hD
  have nDp := nSp hD px
  have nLp' := nLp C.1 px
  have npu := C.2.1.nP px
  have k1 : KT H' (upd H' Dl (.lst (left.map V.str))) := kt_set hD
  have nd' := List.nodup_cons.mp nd
  refine ⟨us', _, left, C', ?_, nd'.2, fun y hy => ?_, ?_, (d0.kt k1 (mom_imm _ _)).kt kt (mom_imm _ _), by simp at hl; omega, ?_, fun b o nb e => ?_, fun u hm => ?_⟩
  · exact fr _ _ (fun q => by
      rcases List.mem_cons.mp q with h | h
      · exact nLD h.symm
      · exact nDs h) upd_same
  · obtain ⟨h1, h2⟩ := hz y (List.mem_cons_of_mem _ hy)
    refine ⟨h1, fun hm => ?_⟩
    rw [← put_tops m1] at hm
    rcases names_put_sub hm with h | h
    · exact h2 h
    · exact nd'.1 (h ▸ hy)
  · obtain ⟨y1, y2, e1, r⟩ := px
    refine ⟨y1, y2, fr _ _ (fun q => ?_) (by rw [upd_ne nDp.symm]; exact e1), r⟩
    rcases List.mem_cons.mp q with h | h
    · exact nLp' h.symm
    · exact npu h
  · rw [putX_len (roomX_le xs)]
    split <;> omega
  · have hb : b ∉ L :: us := fun q => by
      rcases List.mem_cons.mp q with h | h
      · rw [h, nHL] at e; cases e
      · rw [hu b h] at e; cases e
    refine fr b o hb ?_
    rw [upd_ne (fun (q : b = Dl) => by rw [q, nHD] at e; cases e)]
    exact sx b o nb e
  · rcases hu' u hm with h | h
    · exact hu u h
    · by_cases hup : u = p
      · rw [hup, upd_ne nDp.symm] at h
        obtain ⟨y1, y2, e1, _⟩ := px
        rw [e1] at h
        cases h
      · by_cases huD : u = Dl
        · rw [huD]; exact nHD
        · rw [upd_ne huD] at h
          exact samex_none sx hup h
/-- behind a leaving -/
theorem LI.go {K : PySem.W.Frag} {H H' H'' : Hp} {p L Dl : Addr} {m : Nat} {W : Int} {v0 v v' : V} {xs0 : List Top} {n i : Nat} {us : List Addr} {xs : List Top} {left : List Str} (nHL : H L = none) (nLD : L ≠ Dl) (m1 : 1 ≤ m) (hi : i < xs.length)
    (C : Club K H' L us xs m W v) (hD : H' Dl = some (.lst (left.map V.str))) (nd : left.Nodup) (hz : ∀ y ∈ left, Nm y ∧ y ∉ names (xs.map (topS1 m))) (px : PotAt H' p) (d0 : Dp K H' v0 (momD W (xs0.map (topS1 m)))) (hl : left.length + n = m + 8) (hx : xs.length ≤ m + n) (sx : SameX p H H') (hu : ∀ u ∈ us, H u = none)
    (C' : Club K H'' L us (putX xs i "") m W v') (fr : Fr (L :: us) H' H'') (kt : KT H' H'') : LI K H p L Dl m W v0 xs0 n H'' v' := by
  have nDs := C.2.1.nS hD
  have nDp := nSp hD px
  have nLp' := nLp C.1 px
  have npu := C.2.1.nP px
  refine ⟨us, _, left, C', ?_, nd, fun y hy => ?_, ?_, d0.kt kt (mom_imm _ _), hl, ?_, fun b o nb e => ?_, hu⟩
  · exact fr _ _ (fun q => by
      rcases List.mem_cons.mp q with h | h
      · exact nLD h.symm
      · exact nDs h) hD
  · obtain ⟨h1, h2⟩ := hz y hy
    refine ⟨h1, fun hm => ?_⟩
    rw [← put_tops m1] at hm
    rcases names_put_sub hm with h | h
    · exact h2 h
    · exact nm_ne h1 h
  · obtain ⟨y1, y2, e1, r⟩ := px
    refine ⟨y1, y2, fr _ _ (fun q => ?_) e1, r⟩
    rcases List.mem_cons.mp q with h | h
    · exact nLp' h.symm
    · exact npu h
  · rw [putX_len (by omega), if_pos hi]
    exact hx
  · have hb : b ∉ L :: us := fun q => by
      rcases List.mem_cons.mp q with h | h
      · rw [h, nHL] at e; cases e
      · rw [hu b h] at e; cases e
    exact fr b o hb (sx b o nb e)
end WS
set_option Elab.async false
set_option linter.all false
set_option maxRecDepth 100000
set_option maxHeartbeats 4000000
set_option Elab.async false
set_option linter.all false
set_option maxRecDepth 100000
set_option maxHeartbeats 4000000
set_option Elab.async false
set_option linter.all false
set_option maxRecDepth 100000
set_option maxHeartbeats 4000000
set_option Elab.async false
set_option linter.all false
set_option maxRecDepth 100000
set_option maxHeartbeats 4000000
set_option Elab.async false
set_option linter.all false
set_option maxRecDepth 100000
set_option maxHeartbeats 4000000
namespace WS
open PySem PySem.Spec PyProof.Rows L2
theorem begin_tabs {P : Program} {w : World} {K : PySem.W.Frag} {mg mb : Str → Option Value} {k : Nat} {fa a : Addr} {Ts : List (Str × Addr × Addr)} {fd : FuncData} {x : Str} {sp : Sp} {s : Shared} {vs : List Value} {H : Hp}
    (inK : K.In s.heap) (gns : s.heap.Ns mainGlobals mg) (bns : s.heap.Ns builtinsNs mb) (bb : ∀ x : Str, x ≠ "__name__" → mb x = bootBuiltins x) (lim : s.heap.NoLimit) (nogen : s.gens = #[])
    (hT : ∀ t ∈ Ts, s.heap.get? t.2.2 = some { cls := .none, data := .fields #[] }) (nT : ∀ t ∈ Ts, K.lookup t.2.2 = none) (C : ∀ t ∈ Ts, PySem.W.CodeHd s.heap t.2.1 t.2.2)
    (hbm : ∃ (bm : Addr) (ob : Obj), mg "__builtins__" = some (.ref bm) ∧ bm ≠ builtinsNs ∧ s.heap.get? bm = some ob ∧ ob.cls = .type "module" ∧ ob.dict = some builtinsNs ∧ ob.data = .plain)
    (script : s.heap.get? a = some { cls := .type "list", data := .seq vs.toArray }) (room : Room k callerA)
    (F : ∀ base : Heap, K.In base → base.Ns mainGlobals mg → (∀ t ∈ Ts, LamX.TabB base mg t.2.1 t.2.2) → FnAt callerA P w K mg base CX0 k fa fd [x] sp) (bind1 : ∀ (s : Shared) (u : Value), BindsTo s fd ⟨[u], []⟩ [(x, u)])
    (only : ∀ b u, H b = some u → (b = a ∧ K.lookup a = none ∧ ∃ o xs, u = .frz o (.lst xs)) ∨ ∃ t ∈ Ts, b = t.2.2) (tab : ∀ t ∈ Ts, H t.2.2 = some (.tbl #[])) (fits : HOk P w H s.heap)
    (want : sp [.ref a] H (fun v _ => v = .bl true) fun _ _ _ => False) :
    codeAny (model P w) callerA (.call (.ref fa) ⟨[.ref a], []⟩) (fun r s' => r = .ok (.ret (.bool true)) ∧ OldK s.heap s'.heap ∧ s'.os = s.os ∧ AllBare s'.gens) s := by
  have noD : ∀ {b : Addr} {o : Obj}, s.heap.get? b = some o → (∀ vs n, o.data ≠ .seq vs n) → o.data ≠ .fields #[] → H b = none := by
    intro b o e h1 h2
    cases z : H b with
    | none => rfl
    | some u =>
      rcases only b u z with ⟨rfl, _⟩ | ⟨t, ht, rfl⟩
      · rw [script] at e
        cases e
        exact (h1 _ _ rfl).elim
      · rw [hT t ht] at e
        cases e
        exact (h2 rfl).elim
  have nsb : ∀ {b : Addr} {m : Str → Option Value}, s.heap.Ns b m → (hidT s.heap H).Ns b m := by
    rintro b m ⟨o, es, ep, e, de, rest⟩
    exact ⟨o, es, ep, hidT_get e (noD e (fun vs n z => by rw [de] at z; cases z) (fun z => by rw [de] at z; cases z)), de, rest⟩
  have kb : K.In (hidT s.heap H) := by
    intro b o e
    refine hidT_get (inK b o e) ?_
    cases z : H b with
    | none => rfl
    | some u =>
      rcases only b u z with ⟨rfl, nk, _⟩ | ⟨t, ht, rfl⟩
      · rw [nk] at e
        cases e
      · rw [nT t ht] at e
        cases e
  obtain ⟨mc, l1, l2⟩ := lim
  have modu : Mod K mg (hidT s.heap H) := ⟨kb, nsb gns, ⟨mb, nsb bns, bb⟩, ⟨mc, nsb l1, l2⟩⟩
  have noEnv : ∀ b ∈ frs [], H b = none := fun b z => absurd (show b ∈ ([] : List Addr) from z) List.not_mem_nil
  have env0 : Env0 P w K mg (hidT s.heap H) callerA [] s H := ⟨rfl, modu, fun b o e => of_hidT e, Nat.le_of_eq (hidT_size _ _), trivial, noEnv, fits, .of_eq nogen⟩
  have TB : ∀ t ∈ Ts, LamX.TabB (hidT s.heap H) mg t.2.1 t.2.2 := by
    intro t ht
    refine ⟨?_, ?_, fun z => ?_⟩
    · obtain ⟨o, us, file, tf, flags, tg, inF, text, tt, e1, r1, r2, r3, r4, r5, r6, r7, r8, hne⟩ := C t ht
      refine ⟨o, us, file, tf, flags, tg, inF, text, tt, hidT_get e1 (noD e1 (fun vs n z => ?_) fun z => ?_), r1, r2, r3, r4, r5, r6, r7, r8, hne⟩
      · rw [r2] at z
        cases z
      · rw [r2] at z
        cases z
        simp at r3
    · obtain ⟨bm, ob, b1, b2, b3, b4, b5, b6⟩ := hbm
      have nG : bm ≠ mainGlobals := fun q => by
        obtain ⟨o, es, ep, e, hd, _⟩ := gns
        rw [q, e] at b3
        cases b3
        rw [hd] at b6
        cases b6
      have nP : bm ≠ t.2.2 := fun q => by
        rw [q, hT t ht] at b3
        cases b3
        cases b6
      exact ⟨bm, ob, b1, b2, nG, nP, hidT_get b3 (noD b3 (fun vs n z => by rw [b6] at z; cases z) fun z => by rw [b6] at z; cases z), b4, b5, b6⟩
    · obtain ⟨o, es, ep, e, hd, _⟩ := gns
      rw [z, hT t ht] at e
      cases e
      cases hd
  refine codeAny_mono ((F _ kb (nsb gns) TB).go [] s H ⟨[.ref a], []⟩ [.ref a] [.ref a] _ _ room env0 (bind1 s (.ref a)) (.cons rfl .nil) want) ?_
  intro r s' z
  match r, z with
  | .error er, z => exact z.elim
  | .ok .next, z => exact z.elim
  | .ok .brk, z => exact z.elim
  | .ok .cont, z => exact z.elim
  | .ok (.ret u), ⟨v, H', os, bare, un, fits', rel, q⟩ =>
    have q : v = .bl true := q
    subst q
    obtain rfl : u = Value.bool true := rel
    have key : ∀ b o, (∀ t ∈ Ts, b ≠ t.2.2) → s.heap.get? b = some o → s'.heap.get? b = some o := by
      intro b o nb e
      cases zb : H b with
      | none => exact un.keep b o e zb (fun z => absurd (show b ∈ ([] : List Addr) from z) List.not_mem_nil) List.not_mem_nil
      | some u =>
        rcases only b u zb with ⟨_, _, ob, xs, rfl⟩ | ⟨t, ht, z⟩
        · have now := (fits' b _ (un.frzs b ob _ zb)).1
          have then_ := (fits b _ zb).1
          rw [e] at then_
          cases then_
          exact now
        · exact absurd z (nb t ht)
    have grown : ∀ t ∈ Ts, ∃ more, s'.heap.get? t.2.2 = some { cls := .none, data := .fields more } := fun t ht => by
      obtain ⟨more, zt⟩ := un.tbls t.2.2 #[] (tab t ht)
      have g := fits' t.2.2 _ zt
      rw [Array.empty_append] at g
      exact ⟨more, g⟩
    refine ⟨rfl, ⟨fun b o e => ?_, fun b o e => ?_⟩, os, bare⟩
    · by_cases hb : ∃ t ∈ Ts, b = t.2.2
      · obtain ⟨t, ht, rfl⟩ := hb
        rw [hT t ht] at e
        cases e
        obtain ⟨more, g⟩ := grown t ht
        exact .inr (.inl ⟨((C t ht).tab (hT t ht)).isCodeTable, rfl, #[], more, rfl, by rw [Array.empty_append]; exact g⟩)
      · exact .inl (key b o (fun t ht z => hb ⟨t, ht, z⟩) e)
    · by_cases hb : ∃ t ∈ Ts, b = t.2.2
      · obtain ⟨t, ht, rfl⟩ := hb
        obtain ⟨more, g⟩ := grown t ht
        exact ⟨_, g⟩
      · exact ⟨o, key b o (fun t ht z => hb ⟨t, ht, z⟩) e⟩
theorem walk_Ts {l : PySem.W.OpenLaw} {n k : Nat} {q : Program} {loose : List Str} {XP : (Str → Option Value) → Heap → Prop} {YP : World → Heap → Prop} {d : DefRec} {K : Params → PySem.W.Frag} {x : Str} (gs : List Str)
    (most : l.most = some n) (small : n ≤ sizeLine) (nodefault : d.params.defaults = []) (room : Room k callerA) (rec : ∀ g ∈ gs, ∃ dg, (recsOf q).find? (fun e => e.name == g) = some dg)
    (Y : ∀ (w : World) (h : Heap), YP w h → (K w.params).In h)
    (F : ∀ (w : World) (mg : Str → Option Value) (fa : Addr) (h : Heap), (K w.params).In h → h.Ns mainGlobals mg → mg d.name = some (.ref fa) →
      ∃ (fd : FuncData) (Ts : List (Str × Addr × Addr)) (sp : Sp), (∀ t ∈ Ts, t.1 ∈ gs ∧ PySem.W.tabIn (K w.params) t.1 = some t.2 ∧ (K w.params).lookup t.2.2 = none) ∧ (∀ (s : Shared) (u : Value), BindsTo s fd ⟨[u], []⟩ [(x, u)]) ∧
        (∀ (H : Hp) (a : Addr) (ns : List Int), ns.length ≤ n → (∀ t ∈ Ts, H t.2.2 = some (.tbl #[])) → SqL (K w.params) H a (ns.map V.int) → sp [.ref a] H (fun v _ => v = .bl true) fun _ _ _ => False) ∧
        ∀ base : Heap, (K w.params).In base → base.Ns mainGlobals mg → (∀ t ∈ Ts, LamX.TabB base mg t.2.1 t.2.2) → FnAt callerA l.prog w (K w.params) mg base CX0 k fa fd [x] sp) :
    PySem.W.WalkO q loose XP YP l.row.toRowW d [] (fun f vs => PySem.call f vs) := by
  refine Att.attach_call most nodefault ?_
  intro w s0 s mg mb fa o pm cd doc a vs ns G y _ _ _ at_law script hi len nogen
  have inK := Y w _ y
  obtain ⟨fd, Ts, sp, hts, b1, want, f⟩ := F w mg fa _ inK G.T.g at_law
  have ct : ∀ t ∈ Ts, PySem.W.CodeHd s.heap t.2.1 t.2.2 ∧ s.heap.get? t.2.2 = some { cls := .none, data := .fields #[] } := fun t ht => by
    obtain ⟨h1, h2, h3⟩ := hts t ht
    obtain ⟨dg, hd⟩ := rec _ h1
    exact PySem.W.tab_of G.T inK hd h2
  have hT := fun t ht => (ct t ht).2
  have C := fun t ht => (ct t ht).1
  have nT := fun t ht => (hts t ht).2.2
  have rel : Vals (ns.map V.int) vs := vals_ints hi
  have sz : ns.length ≤ sizeLine := Nat.le_trans len small
  have aP : ∀ t ∈ Ts, a ≠ t.2.2 := by
    rintro t ht rfl
    rw [hT t ht] at script
    cases script
  have dec : ∀ b, Decidable (∃ t ∈ Ts, b = t.2.2) := fun b => inferInstance
  cases look : (K w.params).lookup a with
  | some ob =>
    have same := inK a ob look
    rw [script] at same
    cases same
    refine begin_tabs (Ts := Ts) (H := fun b => if ∃ t ∈ Ts, b = t.2.2 then some (.tbl #[]) else none) inK G.T.g G.T.b G.T.builtins G.T.nolimit nogen hT nT C G.T.bmain script room f b1 (fun b u z => .inr ?_) (fun t ht => if_pos ⟨t, ht, rfl⟩) (fun b u z => ?_) (want _ a ns len (fun t ht => if_pos ⟨t, ht, rfl⟩) (.inr ⟨_, vs.toArray, _, look, rfl, rfl, rfl, ?_, ?_⟩))
    · replace z : (if ∃ t ∈ Ts, b = t.2.2 then some (HO.tbl #[]) else none) = some u := z
      by_cases hb : ∃ t ∈ Ts, b = t.2.2
      · exact hb
      · rw [if_neg hb] at z
        cases z
    · replace z : (if ∃ t ∈ Ts, b = t.2.2 then some (HO.tbl #[]) else none) = some u := z
      by_cases hb : ∃ t ∈ Ts, b = t.2.2
      · rw [if_pos hb] at z
        cases z
        obtain ⟨t, ht, rfl⟩ := hb
        exact hT t ht
      · rw [if_neg hb] at z
        cases z
    · rw [List.size_toArray, hi.length]
      exact sz
    · simpa using rel
  | none =>
    refine begin_tabs (Ts := Ts) (H := fun b => if b = a then some (.frz { cls := .type "list", data := .seq vs.toArray } (.lst (ns.map V.int))) else if ∃ t ∈ Ts, b = t.2.2 then some (.tbl #[]) else none) inK G.T.g G.T.b G.T.builtins G.T.nolimit nogen hT nT C G.T.bmain script room f b1 (fun b u z => ?_) (fun t ht => ?_) (fun b u z => ?_) (want _ a ns len (fun t ht => ?_) (.inl (.inr ⟨_, if_pos rfl⟩)))
    · replace z : (if b = a then some (HO.frz { cls := .type "list", data := .seq vs.toArray } (.lst (ns.map V.int))) else if ∃ t ∈ Ts, b = t.2.2 then some (.tbl #[]) else none) = some u := z
      by_cases hb : b = a
      · rw [if_pos hb] at z
        exact .inl ⟨hb, look, _, _, (Option.some.inj z).symm⟩
      · rw [if_neg hb] at z
        by_cases hp : ∃ t ∈ Ts, b = t.2.2
        · exact .inr hp
        · rw [if_neg hp] at z
          cases z
    · show (if t.2.2 = a then _ else _) = _
      rw [if_neg (fun z => aP t ht z.symm), if_pos ⟨t, ht, rfl⟩]
    · replace z : (if b = a then some (HO.frz { cls := .type "list", data := .seq vs.toArray } (.lst (ns.map V.int))) else if ∃ t ∈ Ts, b = t.2.2 then some (.tbl #[]) else none) = some u := z
      by_cases hb : b = a
      · rw [if_pos hb] at z
        cases z
        subst hb
        exact ⟨script, by rw [List.length_map]; exact sz, vs, _, rel, script⟩
      · rw [if_neg hb] at z
        by_cases hp : ∃ t ∈ Ts, b = t.2.2
        · rw [if_pos hp] at z
          cases z
          obtain ⟨t, ht, rfl⟩ := hp
          exact hT t ht
        · rw [if_neg hp] at z
          cases z
    · show (if t.2.2 = a then _ else _) = _
      rw [if_neg (fun z => aP t ht z.symm), if_pos ⟨t, ht, rfl⟩]
/-! ### several tables through steps -/
open LamX in
theorem Tabs.x {p : Addr} {TT : List (Addr × Str)} {H H' : Hp} (t : Tabs TT H) (s : SameX p H H') (hp : PotAt H p) : Tabs TT H' := fun q hq => TabS.x (t q hq) s hp
open LamX in
theorem Tabs.sm {TT : List (Addr × Str)} {H H' : Hp} (t : Tabs TT H) (s : Same H H') : Tabs TT H' := t.ext s
open LamX in
theorem Tabs.set {TT : List (Addr × Str)} {D : Addr} {H : Hp} {xs ys : List V} (t : Tabs TT H) (h : H D = some (.lst xs)) : Tabs TT (upd H D (.lst ys)) := fun q hq => TabS.set (t q hq) h
open LamX in
theorem ExtN.dp {K : PySem.W.Frag} {H H' : Hp} {v : V} {d : PyData} (e : ExtN H H') (h : Dp K H v d) (i : imm d = true) : Dp K H' v d := h.kt (ExtN.kt e) i
open LamX in
theorem ExtN.sqt {K : PySem.W.Frag} {H H' : Hp} {a : Addr} {xs : List V} (e : ExtN H H') (h : SqT K H a xs) : SqT K H' a xs := (ExtN.kt e).sqt h
theorem ExtX.refl (p : Addr) (H : Hp) : ExtX p H H := fun _ _ _ h _ => h
def spFirstT (K : PySem.W.Frag) (TT : List (Addr × Str)) : Sp := fun vs H Q _ => ∃ (n : Nat) (l : Addr) (rs : List V) (ps : List (Int × Int)), vs = [.ref l] ∧ n ≤ 8999 ∧ SqT K H l rs ∧ Parts K H rs ps ∧ (∀ q ∈ ps, Okp n q) ∧ (ps.length + 2) * (n + 1) ≤ 800000 ∧ LamX.Tabs TT H ∧
  ∀ H' p ord, LamX.ExtN H H' → LamX.Tabs TT H' → New H p → H' p = some (.lst (ord.map fun j : Nat => V.int j)) → RankedP ps ord → Q (.ref p) H'
def spLawTs (K : PySem.W.Frag) (TT : List (Addr × Str)) : Sp := fun vs H Q _ => ∃ (a : Addr) (ns : List Int), vs = [.ref a] ∧ SqL K H a (ns.map V.int) ∧ ns.length ≤ 63 ∧ LamX.Tabs TT H ∧ ∀ H', Q (.bl true) H'
end WS
set_option Elab.async false
set_option linter.all false
set_option maxRecDepth 100000
set_option maxHeartbeats 4000000
namespace WS
open PySem PySem.Spec PyProof.Rows L2
/-! len(set(t)) of unlike texts -/
section
variable {prog : Program} {w : World} {A : Around} {R : Result → Shared → Prop} {I : Addr} {fp wr : List Addr} {G : Array GenState → Array GenState → Prop} {n : Nat} {P : Nat → Value → Prop} {St : Nat → Shared → Prop}
theorem loopStrN (W : WalksS prog w A.in1 I fp wr G n P St) (S : Addr) (hSf : S ∉ fp) (xs : List Str) (hsz : xs.length = n) (hn1 : n + 1 < scanBound) (hnd : xs.Nodup) (hval : ∀ i v, P i v → ∃ t, v = .str (xs.getD i Str.empty) t) :
    ∀ (k i : Nat) (s : Shared), n - i = k → i ≤ n → St i s → s.heap.SetOf (PySem.strKind prog w) S (fun k' => (xs.take i).any (· == k')) i →
      (∀ s', Moved (S :: wr) G s s' → s'.heap.SetOf (PySem.strKind prog w) S (fun k' => (xs.take n).any (· == k')) n → R (.ok (.ret .none)) s') →
      codeAny (model prog w) A (.builtin "set.update.loop" ⟨[.ref S, .ref I], []⟩) R s := by
  have hSw : S ∉ wr := fun h => hSf (W.sub _ h)
  have hsub : ∀ b ∈ wr, b ∈ S :: wr := fun b hb => List.mem_cons_of_mem _ hb
  have carry : ∀ {i : Nat} {s s' : Shared}, Moved wr G s s' → s.heap.SetOf (PySem.strKind prog w) S (fun k' => (xs.take i).any (· == k')) i → s'.heap.SetOf (PySem.strKind prog w) S (fun k' => (xs.take i).any (· == k')) i := fun hm ⟨o, es, ep, t, ho, rest⟩ => ⟨o, es, ep, t, hm.heap S _ hSw ho, rest⟩
  intro k
  induction k with
  | zero =>
    intro i s hk hi hst hS hR
    obtain rfl : i = n := by omega
    refine codeAny_builtin PyProof.Rows.F.entry_set_update_loop ?_
    rw [Around.under_plainId PyProof.Rows.F.plain_set_update_loop _]
    show wpAny _ A.in1 (pyNext (.ref I) >>= _) _ _ s
    refine wpAny_bind (W.done s _ _ hst fun s' hm => ?_)
    show wpAny _ A.in1 (ret Value.none) _ _ s'
    exact wpAny_pure (hR s' (hm.mono hsub) (carry hm hS))
  | succ k ih =>
    intro i s hk hi hst hS hR
    have hlt : i < n := by omega
    have hix : i < xs.length := by omega
    refine codeAny_builtin PyProof.Rows.F.entry_set_update_loop ?_
    rw [Around.under_plainId PyProof.Rows.F.plain_set_update_loop _]
    show wpAny _ A.in1 (pyNext (.ref I) >>= _) _ _ s
    refine wpAny_bind (W.item i s _ _ hlt hst fun v s' hP hst' hm => ?_)
    obtain ⟨t, rfl⟩ := hval i v hP
    have eg : xs.getD i Str.empty = xs[i] := by rw [List.getD_eq_getElem?_getD, List.getElem?_eq_getElem hix]; rfl
    rw [eg]
    have hS' := carry hm hS
    show wpAny _ A.in1 (holding [Value.str xs[i] t] (setAdd S (.str xs[i] t)) >>= _) _ _ s'
    refine wpAny_bind (wpAny_holding ?_)
    unfold setAdd
    refine wpAny_holding ?_
    refine wpAny_bind ((PySem.strKind prog w).pyHash (k := xs[i]) (strKind_is _ _ _ _) ?_)
    refine wpAny_setAddHashed_of (knd := PySem.strKind prog w) (s := { s' with toks := s'.toks + 1 }) (strKind_is _ _ _ _) rfl hS' (by omega) fun h' hsb hS2 => ?_
    have nin : (xs.take i).any (· == xs[i]) = false := by
      rw [List.any_eq_false]
      intro y hy e
      have e : y = xs[i] := by simpa using e
      obtain ⟨j, hj, rfl⟩ := List.mem_iff_getElem.mp hy
      rw [List.length_take] at hj
      rw [List.getElem_take] at e
      have := (List.getElem_inj hnd).mp e
      omega
    have hSi : h'.SetOf (PySem.strKind prog w) S (fun k' => (xs.take (i + 1)).any (· == k')) (i + 1) := by
      refine PyProof.Rows.SetOf_congr hS2 (fun k' => ?_) (by rw [if_neg (by rw [nin]; simp)])
      rw [List.take_add_one, List.getElem?_eq_getElem hix, List.any_append]
      show ((xs.take i).any (· == k') || decide (k' = xs[i])) = ((xs.take i).any (· == k') || [xs[i]].any (· == k'))
      congr 1
      by_cases e : k' = xs[i]
      · rw [e]; simp
      · have hb : (xs[i] == k') = false := by simpa [beq_iff_eq] using (fun h' : xs[i] = k' => e h'.symm)
        simp [hb, e]
    refine wpAny_pure ⟨plainId_quiet PyProof.Rows.F.plain_set_update_loop _, ih (i + 1) _ (by omega) hlt (W.frame _ s' _ _ hst' (Nat.le_succ _) fun b hb o e => ?_) hSi fun s'' hm'' hS'' => ?_⟩
    · rw [hsb.2 b (fun h : b = S => hSf (by rw [← h]; exact hb))]; exact e
    · refine hR s'' (Moved.trans W.gtrans ((hm.mono hsub).then_heap (Nat.le_succ _) fun b o hb e => ?_) hm'') hS''
      rw [hsb.2 b (fun h : b = S => hb (by rw [h]; exact List.mem_cons_self))]; exact e
end
section
variable {prog : Program} {w : World} {A : Around} {E : Value → Shared → Prop} {s : Shared}
/-- set(x): made, then filled -/
theorem call_set_fill {x : Value} {Q Q₁ : Value → Shared → Prop} (hnew : codeAny (model prog w) A.in1 (.call (.builtin "set.__new__") ⟨[.type "set", x], []⟩) (wants Q₁ E) s)
    (fill : ∀ obj s₁, Q₁ obj s₁ → s₁.TypeIs obj "set" ∧ wpAny (model prog w) A.in1.in1 (Builtin.«set.__init__» ⟨[obj, x], []⟩)
      (fun fin s' => match fin with | .done f => wants (fun r s₂ => r = .none ∧ Q obj s₂) E (.ok f) s' | .again c' => c'.quiet = true ∧ codeAny (model prog w) A.in1 c' (wants (fun r s₂ => r = .none ∧ Q obj s₂) E) s')
      (fun e s' => wants (fun r s₂ => r = .none ∧ Q obj s₂) E (.error e) s') s₁) : wpAny (model prog w) A (call (.type "set") [x]) Q E s := by
  have ft := PySem.F.called_set
  obtain ⟨c, tl, hmro⟩ := ft.mro
  have hmade := ft.made
  have hsub := ft.sub
  have h1 := ft.notType
  have h2 := ft.canCreate
  have hct := PySem.F.typeCall_set_1 x
  refine wpAny_call (codeAny_of_tree ?_)
  show wpAny _ _ (callAny (.type "set") _) _ _ _
  refine wpAny_pure ⟨Code.quiet_builtin _ (by decide +kernel), codeAny_builtin PySem.F.entry_type_call ?_⟩
  rw [Around.under_plain (weight_type_call_type "set" [x] []) rfl]
  repeat (any_goals (first | assumption | wp_step))
  refine codeAny_mono hnew fun r s₁ hr => ?_
  match r, hr with
  | .error e, hr => exact hr
  | .ok (.ret obj), hr =>
    obtain ⟨hT, hfill⟩ := fill _ _ hr
    have hli := ft.init.lookup
    have hbi := ft.init.bind obj
    repeat (any_goals (first | assumption | wp_step))
    refine codeAny_mono (codeAny_call_builtin ft.init.plain PySem.F.entry_set_init (check_set_init_1 hT hfill)) fun r₂ s₂ hr₂ => ?_
    match r₂, hr₂ with
    | .error e, hr₂ => exact hr₂
    | .ok (.ret r), hr₂ =>
      obtain ⟨rfl, hq⟩ := hr₂
      repeat (any_goals (first | assumption | wp_step))
    | .ok .next, hr₂ => exact hr₂.elim
    | .ok .brk, hr₂ => exact hr₂.elim
    | .ok .cont, hr₂ => exact hr₂.elim
  | .ok .next, hr => exact hr.elim
  | .ok .brk, hr => exact hr.elim
  | .ok .cont, hr => exact hr.elim
end
end WS
set_option Elab.async false
set_option linter.all false
set_option maxRecDepth 100000
set_option maxHeartbeats 4000000
namespace WS
open PySem PySem.Spec PyProof.Rows L2
/-! sorted(t, reverse=True), t a tuple of numbers -/
/-- the greatest first -/
def down (ns : List Int) : List Int := ns.mergeSort fun a b => decide (b ≤ a)
theorem down_perm (ns : List Int) : (down ns).Perm ns := List.mergeSort_perm _ _
theorem down_sorted (ns : List Int) : (down ns).Pairwise (· ≥ ·) := by
  have := List.pairwise_mergeSort (le := fun a b : Int => decide (b ≤ a)) (fun a b c h1 h2 => by
    have h1 := of_decide_eq_true h1
    have h2 := of_decide_eq_true h2
    exact decide_eq_true (by omega)) (fun a b => by
    rw [Bool.or_eq_true, decide_eq_true_eq, decide_eq_true_eq]
    omega) ns
  exact this.imp fun h => of_decide_eq_true h
/-! ### evenings -/
def There (ss : List Seat) (zs : List Str) : Prop := 2 ≤ zs.length ∧ zs.length ≤ 100 ∧ zs.Nodup ∧ ∀ z ∈ zs, z ∈ names ss
/-- one owes more, or as much and sits ahead -/
def ahead (ss : List Seat) (a b : Str) : Prop := ltp (gs ss (idx ss b)).2 (gs ss (idx ss a)).2 = true ∨ (ltp (gs ss (idx ss b)).2 (gs ss (idx ss a)).2 = false ∧ ltp (gs ss (idx ss a)).2 (gs ss (idx ss b)).2 = false ∧ idx ss a < idx ss b)
def OrderOf (ss : List Seat) (zs os : List Str) : Prop := os.Perm zs ∧ os.Pairwise (ahead ss)
end WS
set_option Elab.async false
set_option linter.all false
set_option maxRecDepth 100000
set_option maxHeartbeats 4000000
namespace WS
open PySem PySem.Spec PyProof.Rows L2
theorem dpall_mk {K : PySem.W.Frag} {H : Hp} : ∀ {vs : List V} {ds : List PyData}, vs.length = ds.length → (∀ (i : Nat) (v : V) (d : PyData), vs[i]? = some v → ds[i]? = some d → Dp K H v d) → DpAll K H vs ds
  | [], [], _, _ => .nil
  | [], _ :: _, h, _ => by cases h
  | _ :: _, [], h, _ => by cases h
  | v :: vs, d :: ds, h, f => .cons (f 0 v d rfl rfl) (dpall_mk (Nat.succ.inj h) fun i x y h1 h2 => f (i + 1) x y (by simpa using h1) (by simpa using h2))
theorem idx_one {ss : List Seat} {a b : Str} (ha : a ∈ names ss) (hb : b ∈ names ss) (e : idx ss a = idx ss b) : a = b := by
  have get : ∀ z, z ∈ names ss → (ss.map Prod.fst)[idx ss z]? = some z := fun z hz => by
    obtain ⟨_, s, hs, rfl⟩ := names_mem.mp hz
    unfold idx
    rw [List.getElem?_eq_getElem (List.idxOf_lt_length_of_mem (List.mem_map_of_mem (f := Prod.fst) hs)), List.getElem_idxOf]
  have h1 := get a ha
  rw [e, get b hb] at h1
  exact (Option.some.inj h1).symm
end WS
set_option Elab.async false
set_option linter.all false
set_option maxRecDepth 100000
set_option maxHeartbeats 4000000
namespace WS
open PySem PySem.Spec PyProof.Rows L2
/-! ### rows ranked, as the laws rank them -/
def rkR (ps : List (Int × Int)) (i j : Nat) : Prop := (gp ps j).1 * (gp ps i).2 < (gp ps i).1 * (gp ps j).2 ∨ ((gp ps i).1 * (gp ps j).2 = (gp ps j).1 * (gp ps i).2 ∧ i < j)
theorem gp_pos {ps : List (Int × Int)} (h : ∀ q ∈ ps, 0 < q.2) (i : Nat) : 0 < (gp ps i).2 := by
  unfold gp
  rw [List.getD_eq_getElem?_getD]
  cases e : ps[i]? with
  | none => decide
  | some q => exact h q (List.mem_of_getElem? e)
theorem lt_rv {a b : Int × Int} (ha : 0 < a.2) (hb : 0 < b.2) : a.1 * b.2 < b.1 * a.2 ↔ rv a < rv b := by
  rw [← ltp_iff ha hb]
  unfold ltp
  rw [decide_eq_true_eq]
theorem rk_step {ps : List (Int × Int)} (h : ∀ q ∈ ps, 0 < q.2) {t k c : Nat} (h1 : (gp ps t).1 * (gp ps k).2 < (gp ps k).1 * (gp ps t).2) (h2 : c = t ∨ rkR ps t c) : rkR ps k c := by
  have pt := gp_pos h t
  have pk := gp_pos h k
  have pc := gp_pos h c
  rcases h2 with rfl | h2
  · exact .inl h1
  · refine .inl ((lt_rv pc pk).mpr ?_)
    have l1 := (lt_rv pt pk).mp h1
    rcases h2 with h2 | ⟨h2, _⟩
    · have l2 := (lt_rv pc pt).mp h2
      grind
    · have l2 : ¬ rv (gp ps t) < rv (gp ps c) := fun z => by
        have := (lt_rv pt pc).mpr z
        omega
      grind
theorem filter_perm {l : List Nat} (nd : l.Nodup) {t : Nat} (ht : t ∈ l) : (t :: l.filter fun k => !decide (k = t)).Perm l := by
  have e : (l.filter fun k => !decide (k = t)) = l.erase t := by
    rw [nd.erase_eq_filter]
    refine List.filter_congr fun k _ => ?_
    show (!decide (k = t)) = (k != t)
    by_cases h : k = t <;> simp [h]
  rw [e]
  exact (List.perm_cons_erase ht).symm
def spFirstR (K : PySem.W.Frag) : Sp := fun vs H Q _ => ∃ (l : Addr) (rs : List V) (ps : List (Int × Int)), vs = [.ref l] ∧ SqL K H l rs ∧ Parts K H rs ps ∧ (∀ q ∈ ps, Okp 4400 q) ∧ ps.length ≤ 1000 ∧
  ∀ (H' : Hp) (p : Addr) (os : List Nat), Same H H' → H p = none → H' p = some (.lst (os.map fun j : Nat => V.int j)) → RankedP ps os → Q (.ref p) H'
end WS
set_option Elab.async false
set_option linter.all false
set_option maxRecDepth 100000
set_option maxHeartbeats 4000000
namespace WS
open PySem PySem.Spec PyProof.Rows L2
/-! ### evenings, as the laws make them -/
def rkS (ss : List Seat) (i j : Nat) : Prop := (gs ss j).2.1 * (gs ss i).2.2 < (gs ss i).2.1 * (gs ss j).2.2 ∨ ((gs ss i).2.1 * (gs ss j).2.2 = (gs ss j).2.1 * (gs ss i).2.2 ∧ i < j)
def placesOf (ss : List Seat) (zs : List Str) : List Nat := (List.range ss.length).filter fun i => decide ((gs ss i).1 ∈ zs)
/-- two orders of one company are one -/
theorem order_one {ss : List Seat} {zs a b : List Str} (ha : OrderOf ss zs a) (hb : OrderOf ss zs b) : a = b := by
  refine List.Perm.eq_of_pairwise (le := ahead ss) (fun x y _ _ h1 h2 => ?_) ha.2 hb.2 (ha.1.trans hb.1.symm)
  exfalso
  unfold ahead ltp at h1 h2
  simp only [decide_eq_true_eq, decide_eq_false_iff_not] at h1 h2
  rcases h1 with h1 | ⟨h1, h3, h4⟩ <;> rcases h2 with h2 | ⟨h2, h5, h6⟩ <;> omega
theorem places_lt {ss : List Seat} {zs : List Str} {i : Nat} (h : i ∈ placesOf ss zs) : i < ss.length ∧ (gs ss i).1 ∈ zs := by
  obtain ⟨a, b⟩ := List.mem_filter.mp h
  exact ⟨List.mem_range.mp a, of_decide_eq_true b⟩
theorem places_up (ss : List Seat) (zs : List Str) : (placesOf ss zs).Pairwise (· < ·) := List.pairwise_lt_range.filter _
theorem idx_name {ss : List Seat} {zs : List Str} (nd : (names ss).Nodup) (hin : ∀ z ∈ zs, z ∈ names ss) {i : Nat} (h : i ∈ placesOf ss zs) : idx ss (gs ss i).1 = i := by
  obtain ⟨a, b⟩ := places_lt h
  exact idx_gs nd a (names_mem.mp (hin _ b)).1
theorem due_order {ss : List Seat} {zs : List Str} {os : List Nat} (nd : (names ss).Nodup) (hz : zs.Nodup) (hin : ∀ z ∈ zs, z ∈ names ss) (hp : os.Perm (placesOf ss zs)) (hw : os.Pairwise (rkS ss)) : OrderOf ss zs (os.map fun k => (gs ss k).1) := by
  have mem : ∀ i ∈ os, i ∈ placesOf ss zs := fun i hi => hp.mem_iff.mp hi
  refine ⟨?_, ?_⟩
  · refine (hp.map fun k => (gs ss k).1).trans ((List.perm_ext_iff_of_nodup ?_ hz).mpr fun z => ?_)
    · unfold List.Nodup
      rw [List.pairwise_map]
      refine List.Pairwise.imp_of_mem (fun {i j} hi hj h e => ?_) (places_up ss zs)
      have e1 := idx_name nd hin hi
      have e2 := idx_name nd hin hj
      rw [e, e2] at e1
      omega
    · rw [List.mem_map]
      constructor
      · rintro ⟨i, hi, rfl⟩
        exact (places_lt hi).2
      · intro h
        have hn := hin z h
        have hl := idx_lt hn
        have e : (gs ss (idx ss z)).1 = z := by
          have h1 : (ss.map Prod.fst)[idx ss z]? = some z := by
            unfold idx
            have hm : z ∈ ss.map Prod.fst := (List.mem_filter.mp hn).1
            rw [List.getElem?_eq_getElem (List.idxOf_lt_length_of_mem hm), List.getElem_idxOf]
          rw [List.getElem?_map, at_gs hl] at h1
          exact Option.some.inj h1
        exact ⟨idx ss z, List.mem_filter.mpr ⟨List.mem_range.mpr hl, decide_eq_true (by rw [e]; exact h)⟩, e⟩
  · rw [List.pairwise_map]
    refine List.Pairwise.imp_of_mem (fun {i j} hi hj h => ?_) hw
    unfold ahead ltp
    rw [idx_name nd hin (mem i hi), idx_name nd hin (mem j hj)]
    rcases h with h | ⟨h, hij⟩
    · exact .inl (decide_eq_true h)
    · exact .inr ⟨decide_eq_false (by omega), decide_eq_false (by omega), hij⟩
theorem mom_shL {W : Int} {ss : List Seat} (hW : Bt 1500 W) (hl : ss.length ≤ 12) (ok : ∀ s ∈ ss, Okp 190 s.2 ∧ Nm0 s.1) : Sh 20000 5 (momD W ss) := by
  have h1 : Sh 9410 4 (.tuple (ss.map seatD)) := by
    refine (Sh.tup (n := 782) (k := 3) (m := 12) (fun d hd => ?_) (by rw [List.length_map]; exact hl)).mono (by omega) (Nat.le_refl _)
    obtain ⟨s, hs, rfl⟩ := List.mem_map.mp hd
    refine (Sh.tup (n := 388) (k := 2) (m := 2) (ds := [.str s.1, pdP s.2]) (fun d hd => ?_) (Nat.le_refl 2)).mono (by omega) (Nat.le_refl _)
    simp only [List.mem_cons, List.not_mem_nil, or_false] at hd
    rcases hd with rfl | rfl
    · exact (nm_sh (ok s hs).2).mono (by omega) (by omega)
    · exact (Sh.pd (m := 190) (by decide) (by decide) (ok s hs).1.2.1 (ok s hs).1.2.2).mono (by omega) (Nat.le_refl _)
  refine (Sh.tup (n := 9410) (k := 4) (m := 2) (ds := [.int W, .tuple (ss.map seatD)]) (fun d hd => ?_) (Nat.le_refl 2)).mono (by omega) (Nat.le_refl _)
  simp only [List.mem_cons, List.not_mem_nil, or_false] at hd
  rcases hd with rfl | rfl
  · exact (Sh.int (by decide) (by decide) hW).mono (by omega) (by omega)
  · exact h1
def pairsD (os : List Str) (ns : List Int) : PyData := .tuple ((os.zip ns).map fun x => .tuple [.str x.1, .int x.2])
end WS
set_option Elab.async false
set_option linter.all false
set_option maxRecDepth 100000
set_option maxHeartbeats 4000000
set_option Elab.async false
set_option linter.all false
set_option maxRecDepth 100000
set_option maxHeartbeats 4000000
set_option Elab.async false
set_option linter.all false
set_option maxRecDepth 100000
set_option maxHeartbeats 4000000
set_option Elab.async false
set_option linter.all false
set_option maxRecDepth 100000
set_option maxHeartbeats 4000000
namespace WS
open PySem PySem.Spec PyProof.Rows L2
theorem low_one (n : Int) : lo n 1 = (n, 1) := lo_of ⟨by decide, by simp⟩
/-- what a layer brings, by the numbers -/
def layN (bs : List Bool) (m : Nat) : Int := (m : Int) * (bs.count true : Nat) - ((bs.take m).count true : Nat) * (bs.length : Nat)
/-- the layer's numbers: a behind that sit there, b before that do not -/
theorem layN_ab {bs : List Bool} {m : Nat} (hm : m ≤ bs.length) : layN bs m = ((bs.drop m).count true : Nat) * ((m : Int) - ((bs.take m).count true : Nat)) - ((bs.take m).count true : Nat) * ((bs.length : Int) - m - ((bs.drop m).count true : Nat)) := by
  unfold layN
  have e : bs.count true = (bs.take m).count true + (bs.drop m).count true := by rw [← List.count_append, List.take_append_drop]
  rw [e]
  grind
end WS
set_option Elab.async false
set_option linter.all false
set_option maxRecDepth 100000
set_option maxHeartbeats 4000000
namespace WS
open PySem PySem.Spec PyProof.Rows L2
theorem lay_le {a b q c k L : Int} (ha : 0 ≤ a) (hb : 0 ≤ b) (hq : 0 ≤ q) (hc : 0 ≤ c) (hk : 0 ≤ k) (hkL : k ≤ L) : (a * b - q * c) * k ≤ a * b * L := by
  have h1 : 0 ≤ q * c * k := Int.mul_nonneg (Int.mul_nonneg hq hc) hk
  have h2 : 0 ≤ a * b * (L - k) := Int.mul_nonneg (Int.mul_nonneg ha hb) (by omega)
  rw [Int.sub_mul]
  rw [Int.mul_sub] at h2
  omega
end WS
set_option Elab.async false
set_option linter.all false
set_option maxRecDepth 100000
set_option maxHeartbeats 4000000
set_option Elab.async false
set_option linter.all false
set_option maxRecDepth 100000
set_option maxHeartbeats 4000000
set_option Elab.async false
set_option linter.all false
set_option maxRecDepth 100000
set_option maxHeartbeats 4000000
namespace WS
open PySem PySem.Spec PyProof.Rows L2
/-! ### parts whose two numbers have bounds of their own -/
def Ok2 (N D : Nat) (p : Int × Int) : Prop := 0 < p.2 ∧ Bt N p.1 ∧ Bt D p.2
theorem Ok2.mono {N D N' D' : Nat} {p : Int × Int} (h : Ok2 N D p) (a : N ≤ N') (b : D ≤ D') : Ok2 N' D' p := ⟨h.1, h.2.1.mono a, h.2.2.mono b⟩
theorem Ok2.of {n : Nat} {p : Int × Int} (h : Okp n p) : Ok2 n n p := h
theorem Ok2.pl {N D N' D' M : Nat} {p q : Int × Int} (h : Ok2 N D p) (k : Ok2 N' D' q) (h1 : N + D' ≤ M) (h2 : N' + D ≤ M) : Ok2 (M + 1) (D + D') (pl p q) :=
  ⟨(lo_lowest (Int.mul_pos h.1 k.1)).1, Bt.lo1 (((h.2.1.mul k.2.2).mono h1).add ((k.2.1.mul h.2.2).mono h2)), Bt.lo2 (h.2.2.mul k.2.2)⟩
theorem Ok2.mi {N D N' D' M : Nat} {p q : Int × Int} (h : Ok2 N D p) (k : Ok2 N' D' q) (h1 : N + D' ≤ M) (h2 : N' + D ≤ M) : Ok2 (M + 1) (D + D') (mi p q) :=
  ⟨(lo_lowest (Int.mul_pos h.1 k.1)).1, Bt.lo1 (((h.2.1.mul k.2.2).mono h1).sub ((k.2.1.mul h.2.2).mono h2)), Bt.lo2 (h.2.2.mul k.2.2)⟩
theorem ok2_lo {N D : Nat} {a b : Int} (hb : 0 < b) (ha : Bt N a) (hd : Bt D b) : Ok2 N D (lo a b) := ⟨(lo_lowest hb).1, ha.lo1, hd.lo2⟩
theorem Ok2.fold {N D : Nat} : ∀ (ps : List (Int × Int)) (s : Int × Int) (k : Nat), Ok2 (N + k * (D + 1) + 1) (k * D + 1) s → (∀ q ∈ ps, Ok2 N D q) → Ok2 (N + (k + ps.length) * (D + 1) + 1) ((k + ps.length) * D + 1) (ps.foldl WS.pl s)
  | [], s, k, h, _ => h
  | p :: ps, s, k, h, hp => by
    have h1 := h.pl (M := N + (k + 1) * (D + 1)) (hp p List.mem_cons_self) (by rw [Nat.add_mul]; omega) (by rw [Nat.add_mul, Nat.mul_add]; omega)
    have h2 := Ok2.fold ps (WS.pl s p) (k + 1) (h1.mono (Nat.le_refl _) (by rw [Nat.add_mul]; omega)) (fun q hq => hp q (List.mem_cons_of_mem _ hq))
    rw [List.foldl_cons, List.length_cons, show k + (ps.length + 1) = k + 1 + ps.length by omega]
    exact h2
theorem fold_pos : ∀ (ps : List (Int × Int)) (s : Int × Int), 0 < s.2 → (∀ q ∈ ps, 0 < q.2) → 0 < (ps.foldl WS.pl s).2
  | [], s, h, _ => h
  | p :: ps, s, h, hp => fold_pos ps _ (lo_lowest (Int.mul_pos h (hp p List.mem_cons_self))).1 (fun q hq => hp q (List.mem_cons_of_mem _ hq))
theorem rv_fold : ∀ (ps : List (Int × Int)) (s : Int × Int), 0 < s.2 → (∀ q ∈ ps, 0 < q.2) → rv (ps.foldl WS.pl s) = rv s + (ps.map rv).sum
  | [], s, h, _ => by simp [Rat.add_zero]
  | p :: ps, s, h, hp => by
    have h1 := hp p List.mem_cons_self
    rw [List.foldl_cons, rv_fold ps (WS.pl s p) (lo_lowest (Int.mul_pos h h1)).1 (fun q hq => hp q (List.mem_cons_of_mem _ hq)), rv_pl h h1, List.map_cons, List.sum_cons, Rat.add_assoc]
theorem fold_low (ps : List (Int × Int)) (hp : ∀ q ∈ ps, 0 < q.2) : Lowest (ps.foldl WS.pl (0, 1)).1 (ps.foldl WS.pl (0, 1)).2 := by
  rcases List.eq_nil_or_concat ps with rfl | ⟨qs, q, rfl⟩
  · exact ⟨by decide, by decide⟩
  · rw [List.concat_eq_append, List.foldl_append]
    exact lo_lowest (Int.mul_pos (fold_pos qs _ (by decide) (fun x hx => hp x (by rw [List.concat_eq_append]; exact List.mem_append_left _ hx))) (hp q (by rw [List.concat_eq_append]; simp)))
/-- a part in lowest terms is known by what it stands for -/
theorem rv_inj {p q : Int × Int} (hp : Lowest p.1 p.2) (hq : Lowest q.1 q.2) (e : rv p = rv q) : p = q := by
  have h1 := cast_ne hp.1
  have h2 := cast_ne hq.1
  have c : p.1 * q.2 = q.1 * p.2 := by
    unfold rv at e
    have : (p.1 : Rat) * q.2 = q.1 * p.2 := by grind
    exact_mod_cast this
  have := lo_congr hp.1 hq.1 c
  rw [lo_of hp, lo_of hq] at this
  exact this
/-! ### a row behind an evening -/
def rowF (ps : List (Int × Int)) (is : List Nat) (s : Int × Int) (j : Nat) : Int × Int := if j ∈ is then pl (gp ps j) s else gp ps j
def rowG (f : Nat → Int × Int) (ds : List (Nat × Int)) (j : Nat) : Int × Int := match ds.lookup j with
  | some d => mi (f j) (lo d 1)
  | none => f j
def rowE (ps : List (Int × Int)) (is : List Nat) (ds : List (Nat × Int)) : List (Int × Int) := (List.range ps.length).map (rowG (rowF ps is (lo (ds.map Prod.snd).sum (is.length : Nat))) ds)
theorem rowE_len (ps : List (Int × Int)) (is : List Nat) (ds : List (Nat × Int)) : (rowE ps is ds).length = ps.length := by unfold rowE; rw [List.length_map, List.length_range]
theorem rowE_at {ps : List (Int × Int)} {is : List Nat} {ds : List (Nat × Int)} {j : Nat} (h : j < ps.length) : gp (rowE ps is ds) j = rowG (rowF ps is (lo (ds.map Prod.snd).sum (is.length : Nat))) ds j := by
  unfold rowE gp
  rw [List.getD_eq_getElem?_getD, List.getElem?_map, List.getElem?_range h]
  rfl
theorem map_set {α : Type} (f : Nat → α) (n i : Nat) (v : α) : ((List.range n).map f).set i v = (List.range n).map fun j => if j = i then v else f j := by
  refine List.ext_getElem? fun j => ?_
  rw [List.getElem?_set, List.getElem?_map, List.getElem?_map, List.length_map, List.length_range]
  by_cases hj : j < n
  · rw [List.getElem?_range hj]
    by_cases e : i = j
    · subst e
      simp [hj]
    · simp [e, Ne.symm e]
  · rw [List.getElem?_eq_none (by rw [List.length_range]; omega)]
    by_cases e : i = j
    · subst e
      simp [hj]
    · simp [e]
theorem lookup_none {xs : List (Nat × Int)} {j : Nat} (h : j ∉ xs.map Prod.fst) : xs.lookup j = none := by
  induction xs with
  | nil => rfl
  | cons x xs ih =>
    obtain ⟨a, b⟩ := x
    rw [List.lookup_cons]
    have h1 : j ≠ a := fun e => h (by simp [e])
    have h2 : (j == a) = false := by simp [h1]
    rw [h2]
    exact ih (fun z => h (by simp only [List.map_cons, List.mem_cons]; exact .inr z))
/-- what it stands for -/
theorem rv_rowE {ps : List (Int × Int)} {is : List Nat} {ds : List (Nat × Int)} {j : Nat} (hp : ∀ q ∈ ps, 0 < q.2) (hn : 0 < is.length) (h : j < ps.length) :
    rv (gp (rowE ps is ds) j) = rv (gp ps j) + (if j ∈ is then (((ds.map Prod.snd).sum : Int) : Rat) / ((is.length : Nat) : Int) else 0) - (((ds.lookup j).getD 0 : Int) : Rat) := by
  have hgp : 0 < (gp ps j).2 := by
    refine hp _ ?_
    unfold gp
    rw [List.getD_eq_getElem?_getD, List.getElem?_eq_getElem h]
    exact List.getElem_mem h
  have hL : (0 : Int) < ((is.length : Nat) : Int) := by omega
  have hs := lo_lowest (a := (ds.map Prod.snd).sum) hL
  have eF : rv (rowF ps is (lo (ds.map Prod.snd).sum (is.length : Nat)) j) = rv (gp ps j) + (if j ∈ is then (((ds.map Prod.snd).sum : Int) : Rat) / ((is.length : Nat) : Int) else 0) := by
    unfold rowF
    split
    · rw [rv_pl hgp hs.1, rv_lo hL]
    · rw [Rat.add_zero]
  have pF : 0 < (rowF ps is (lo (ds.map Prod.snd).sum (is.length : Nat)) j).2 := by
    unfold rowF
    split
    · exact (lo_lowest (Int.mul_pos hgp hs.1)).1
    · exact hgp
  rw [rowE_at h]
  unfold rowG
  split
  · rename_i d e
    rw [rv_mi pF (lo_lowest (by decide)).1, eF, rv_lo (by decide), e]
    show _ - (d : Rat) / ((1 : Int) : Rat) = _ - (d : Rat)
    have : (d : Rat) / ((1 : Int) : Rat) = d := by
      have e1 : ((1 : Int) : Rat) = 1 := rfl
      rw [e1]
      grind
    rw [this]
  · rename_i e
    rw [eF, e]
    simp [Rat.sub_eq_add_neg, Rat.add_zero]
end WS
set_option Elab.async false
set_option linter.all false
set_option maxRecDepth 100000
set_option maxHeartbeats 4000000
namespace WS
open PySem PySem.Spec PyProof.Rows L2
/-! ### evenings: promises -/
def setRow (ss : List Seat) (ps : List (Int × Int)) : List Seat := (ss.zip ps).map fun x => (x.1.1, x.2)
def spWithRow (K : PySem.W.Frag) : Sp := fun vs H Q _ => ∃ (v u : V) (W : Int) (ss : List Seat) (ps : List (Int × Int)), vs = [v, u] ∧ Dp K H v (momD W ss) ∧ Dp K H u (.tuple (ps.map pdP)) ∧ ss.length ≤ 100 ∧ ps.length = ss.length ∧ ∀ v' H', Same H H' → Dp K H' v' (momD W (setRow ss ps)) → Q v' H'
def dutD (x : Nat × Int) : PyData := .tuple [.int x.1, .int x.2]
/-- who served what, by seats -/
def byS (ss : List Seat) (os : List Str) (dn : List Int) : List (Nat × Int) := (os.zip dn).map fun x => (idx ss x.1, x.2)
def behS (ss : List Seat) (zs os : List Str) (dn : List Int) : List Seat := setRow ss (rowE (ss.map Prod.snd) (zs.map (idx ss)) (byS ss os dn))
def spSumX (K : PySem.W.Frag) : Sp := fun vs H Q _ => ∃ (l : Addr) (rs : List V) (ps : List (Int × Int)), vs = [.ref l] ∧ SqL K H l rs ∧ Parts K H rs ps ∧ ∃ N D : Nat, (∀ q ∈ ps, Ok2 N D q) ∧ (ps.length + 1) * (D + 1) ≤ 4300 ∧ N + (ps.length + 1) * (D + 1) ≤ 390000 ∧ ∀ v H', Same H H' → TupI K H' v (ps.foldl pl (0, 1)).1 (ps.foldl pl (0, 1)).2 → Q v H'
def owedAt (ss : List Seat) (is : List Nat) : List (Int × Int) := is.map fun i => (gs ss i).2
/-! ### layers -/
def stp (dn : List Int) (i : Nat) : Int := dn.getD i 0 - dn.getD (i + 1) 0
def lays (dn : List Int) (k : Nat) : List (Nat × Int) := ((List.range k).filter fun i => decide (0 < stp dn i)).map fun i => (i + 1, stp dn i)
theorem lays_succ (dn : List Int) (k : Nat) : lays dn (k + 1) = lays dn k ++ (if 0 < stp dn k then [(k + 1, stp dn k)] else []) := by
  unfold lays
  rw [List.range_succ, List.filter_append, List.map_append]
  congr 1
  by_cases h : 0 < stp dn k
  · simp [h]
  · simp [h]
theorem down_len (ns : List Int) : (down ns).length = ns.length := (down_perm ns).length_eq
theorem stp_nn {dn : List Int} (hs : dn.Pairwise (· ≥ ·)) (h0 : ∀ n ∈ dn, 0 ≤ n) (i : Nat) : 0 ≤ stp dn i := by
  unfold stp
  rw [List.getD_eq_getElem?_getD, List.getD_eq_getElem?_getD]
  by_cases h1 : i + 1 < dn.length
  · rw [List.getElem?_eq_getElem h1, List.getElem?_eq_getElem (show i < dn.length by omega)]
    have := List.pairwise_iff_getElem.mp hs i (i + 1) (by omega) h1 (by omega)
    simp only [Option.getD_some]
    omega
  · rw [List.getElem?_eq_none (show dn.length ≤ i + 1 by omega)]
    by_cases h2 : i < dn.length
    · rw [List.getElem?_eq_getElem h2]
      have := h0 _ (List.getElem_mem h2)
      simp only [Option.getD_some, Option.getD_none]
      omega
    · rw [List.getElem?_eq_none (show dn.length ≤ i by omega)]
      simp
/-- layers of the numbers C, that grow by c -/
theorem lays_sum {dn : List Int} (hs : dn.Pairwise (· ≥ ·)) (h0 : ∀ n ∈ dn, 0 ≤ n) (C c : Nat → Int) (hC : C 0 = 0) (hc : ∀ i, C (i + 1) = C i + c i) : ∀ k, ((lays dn k).map fun x => x.2 * C x.1).sum = ((List.range k).map fun i => dn.getD i 0 * c i).sum - dn.getD k 0 * C k
  | 0 => by simp [lays, hC]
  | k + 1 => by
    rw [lays_succ, List.map_append, List.sum_append, lays_sum hs h0 C c hC hc k, List.range_succ, List.map_append, List.sum_append]
    have e : ((if 0 < stp dn k then [(k + 1, stp dn k)] else []).map fun x : Nat × Int => x.2 * C x.1).sum = stp dn k * C (k + 1) := by
      split
      · simp
      · have := stp_nn hs h0 k
        have : stp dn k = 0 := by omega
        simp [this]
    rw [e, hc]
    simp only [List.map_cons, List.map_nil, List.sum_cons, List.sum_nil]
    unfold stp
    grind
theorem lays_weigh {dn : List Int} (hs : dn.Pairwise (· ≥ ·)) (h0 : ∀ n ∈ dn, 0 ≤ n) : ∀ k, ((lays dn k).map Prod.snd).sum = dn.getD 0 0 - dn.getD k 0
  | 0 => by simp [lays]
  | k + 1 => by
    rw [lays_succ, List.map_append, List.sum_append, lays_weigh hs h0 k]
    have e : ((if 0 < stp dn k then [(k + 1, stp dn k)] else []).map Prod.snd : List Int).sum = stp dn k := by
      split
      · simp
      · have := stp_nn hs h0 k
        have : stp dn k = 0 := by omega
        simp [this]
    rw [e]
    unfold stp
    omega
theorem range_sum (dn : List Int) : ((List.range dn.length).map fun i => dn.getD i 0).sum = dn.sum := by
  congr 1
  refine List.ext_getElem? fun j => ?_
  rw [List.getElem?_map]
  by_cases h : j < dn.length
  · rw [List.getElem?_range h, List.getElem?_eq_getElem h]
    simp [List.getD_eq_getElem?_getD, h]
  · rw [List.getElem?_eq_none (by rw [List.length_range]; omega), List.getElem?_eq_none (by omega)]
    rfl
theorem lays_mem {dn : List Int} {k : Nat} {x : Nat × Int} (h : x ∈ lays dn k) : 1 ≤ x.1 ∧ x.1 ≤ k ∧ 0 < x.2 ∧ x.2 = stp dn (x.1 - 1) := by
  unfold lays at h
  obtain ⟨i, hi, rfl⟩ := List.mem_map.mp h
  rw [List.mem_filter, List.mem_range] at hi
  exact ⟨by simp, by simp; omega, of_decide_eq_true hi.2, by simp⟩
theorem dut_imm (xs : List (Nat × Int)) : immAll (xs.map dutD) = true := immAll_map (fun _ => rfl) xs
end WS
set_option Elab.async false
set_option linter.all false
set_option maxRecDepth 100000
set_option maxHeartbeats 4000000
namespace WS
open PySem PySem.Spec PyProof.Rows L2
theorem ixN_nat {n k : Nat} (h : k < n) : ixN n (k : Int) = some k := by
  unfold ixN
  rw [if_pos (by omega), if_pos (by omega)]
  simp
theorem dpall_set {K : PySem.W.Frag} {H : Hp} {v : V} {d : PyData} : ∀ {vs : List V} {ds : List PyData} {i : Nat}, DpAll K H vs ds → Dp K H v d → DpAll K H (vs.set i v) (ds.set i d)
  | _, [], i, h, k => by cases h; exact .nil
  | _, e :: ds, 0, h, k => by
    cases h with
    | cons a b => exact .cons k b
  | _, e :: ds, i + 1, h, k => by
    cases h with
    | cons a b => exact .cons a (dpall_set b k)
theorem map_nodup {α β : Type} {f : α → β} : ∀ {l : List α}, l.Nodup → (∀ a ∈ l, ∀ b ∈ l, f a = f b → a = b) → (l.map f).Nodup
  | [], _, _ => List.nodup_nil
  | a :: l, h, hf => by
    rw [List.nodup_cons] at h
    rw [List.map_cons, List.nodup_cons]
    refine ⟨fun hm => ?_, map_nodup h.2 fun x hx y hy => hf x (List.mem_cons_of_mem _ hx) y (List.mem_cons_of_mem _ hy)⟩
    obtain ⟨b, hb, e⟩ := List.mem_map.mp hm
    have := hf b (List.mem_cons_of_mem _ hb) a List.mem_cons_self e
    exact h.1 (this ▸ hb)
theorem idxs_nodup {ss : List Seat} {zs : List Str} (h : zs.Nodup) (hin : ∀ z ∈ zs, z ∈ names ss) : (zs.map (idx ss)).Nodup := map_nodup h fun a ha b hb e => idx_one (hin a ha) (hin b hb) e
theorem zip_fst {α β : Type} : ∀ (xs : List α) (ys : List β), (xs.zip ys).map Prod.fst = xs.take ys.length
  | [], ys => by simp
  | x :: xs, [] => by simp
  | x :: xs, y :: ys => by simp [zip_fst xs ys]
theorem byS_fst (ss : List Seat) (os : List Str) (dn : List Int) : (byS ss os dn).map Prod.fst = (os.take dn.length).map (idx ss) := by
  unfold byS
  rw [← zip_fst, List.map_map, List.map_map]
  rfl
theorem byS_snd {ss : List Seat} : ∀ {os : List Str} {dn : List Int}, dn.length ≤ os.length → (byS ss os dn).map Prod.snd = dn
  | [], [], _ => rfl
  | [], d :: dn, h => by simp at h
  | o :: os, [], _ => rfl
  | o :: os, d :: dn, h => by
    have := byS_snd (ss := ss) (os := os) (dn := dn) (by simpa using h)
    unfold byS at this ⊢
    simp only [List.zip_cons_cons, List.map_cons, this]
theorem byS_mem {ss : List Seat} {os : List Str} {dn : List Int} {x : Nat × Int} (h : x ∈ byS ss os dn) : (∃ z ∈ os, x.1 = idx ss z) ∧ x.2 ∈ dn := by
  unfold byS at h
  obtain ⟨⟨z, n⟩, hz, rfl⟩ := List.mem_map.mp h
  exact ⟨⟨z, (List.of_mem_zip hz).1, rfl⟩, (List.of_mem_zip hz).2⟩
end WS
set_option Elab.async false
set_option linter.all false
set_option maxRecDepth 100000
set_option maxHeartbeats 4000000
namespace WS
open PySem PySem.Spec PyProof.Rows L2
/-! ### sums over seats -/
theorem perm_sumR {xs ys : List Rat} (h : xs.Perm ys) : xs.sum = ys.sum := by
  induction h with
  | nil => rfl
  | cons a _ ih => rw [List.sum_cons, List.sum_cons, ih]
  | swap a b l => simp only [List.sum_cons]; grind
  | trans _ _ h1 h2 => rw [h1, h2]
theorem sum_addR {α : Type} (f g : α → Rat) : ∀ l : List α, (l.map fun x => f x + g x).sum = (l.map f).sum + (l.map g).sum
  | [] => by simp [Rat.add_zero]
  | x :: l => by
    simp only [List.map_cons, List.sum_cons, sum_addR f g l]
    grind
theorem sum_subR {α : Type} (f g : α → Rat) : ∀ l : List α, (l.map fun x => f x - g x).sum = (l.map f).sum - (l.map g).sum
  | [] => by
    simp only [List.map_nil, List.sum_nil]
    grind
  | x :: l => by
    simp only [List.map_cons, List.sum_cons, sum_subR f g l]
    grind
theorem sum_ifR {α : Type} (p : α → Bool) (f : α → Rat) : ∀ l : List α, (l.map fun x => if p x = true then f x else 0).sum = ((l.filter p).map f).sum
  | [] => rfl
  | x :: l => by
    rw [List.map_cons, List.sum_cons, sum_ifR p f l, List.filter_cons]
    cases p x
    · simp [Rat.zero_add]
    · simp
theorem sum_constR {α : Type} (c : Rat) : ∀ l : List α, (l.map fun _ => c).sum = ((l.length : Nat) : Int) * c
  | [] => by simp
  | x :: l => by
    rw [List.map_cons, List.sum_cons, sum_constR c l, List.length_cons]
    have : (((l.length + 1 : Nat) : Int) : Rat) = ((l.length : Nat) : Int) + 1 := by
      rw [show ((l.length + 1 : Nat) : Int) = ((l.length : Nat) : Int) + 1 by omega, cast_add]
      rfl
    rw [this]
    grind
theorem sum_castR {α : Type} (f : α → Int) : ∀ l : List α, (l.map fun x => ((f x : Int) : Rat)).sum = (((l.map f).sum : Int) : Rat)
  | [] => rfl
  | x :: l => by
    rw [List.map_cons, List.sum_cons, sum_castR f l, List.map_cons, List.sum_cons, cast_add]
/-- both ways -/
theorem inter_perm {S O : List Nat} (hS : S.Nodup) (hO : O.Nodup) : (S.filter fun j => decide (j ∈ O)).Perm (O.filter fun j => decide (j ∈ S)) := by
  refine (List.perm_ext_iff_of_nodup (hS.filter _) (hO.filter _)).mpr fun j => ?_
  rw [List.mem_filter, List.mem_filter, decide_eq_true_eq, decide_eq_true_eq]
  exact And.comm
theorem lookup_sum : ∀ (ds : List (Nat × Int)) (S : List Nat), S.Nodup → (ds.map Prod.fst).Nodup → (S.map fun j => (ds.lookup j).getD 0).sum = (ds.map fun x => if x.1 ∈ S then x.2 else 0).sum
  | [], S, _, _ => by
    simp only [List.lookup_nil, Option.getD_none, List.map_nil, List.sum_nil]
    have : ∀ l : List Nat, (l.map fun _ => (0 : Int)).sum = 0 := fun l => by
      induction l with
      | nil => rfl
      | cons a l ih => rw [List.map_cons, List.sum_cons, ih]; rfl
    exact this S
  | (k, d) :: ds, S, hS, hd => by
    rw [List.map_cons, List.nodup_cons] at hd
    have ih := lookup_sum ds S hS hd.2
    rw [List.map_cons, List.sum_cons, ← ih]
    have hk := lookup_none hd.1
    clear ih
    induction S with
    | nil => simp
    | cons a S ih =>
      rw [List.nodup_cons] at hS
      have i2 := ih hS.2
      rw [List.map_cons, List.sum_cons, List.map_cons, List.sum_cons, i2, List.lookup_cons]
      by_cases e : a = k
      · subst e
        have hk' : List.lookup a ds = none := hk
        simp [hS.1, hk']
      · have : (a == k) = false := by simp [e]
        rw [this]
        have : (k = a ∨ k ∈ S) ↔ k ∈ S := ⟨fun h => h.resolve_left (Ne.symm e), .inr⟩
        simp only [List.mem_cons, this]
        omega
theorem zip_range {O : List Nat} {dn : List Int} (S : List Nat) (h : dn.length ≤ O.length) : ((O.zip dn).map fun x => if x.1 ∈ S then x.2 else 0) = (List.range dn.length).map fun i => dn.getD i 0 * (if O.getD i 0 ∈ S then 1 else 0) := by
  refine List.ext_getElem? fun i => ?_
  rw [List.getElem?_map, List.getElem?_map]
  by_cases hi : i < dn.length
  · rw [List.getElem?_range hi]
    have h1 : O[i]? = some (O.getD i 0) := by
      rw [List.getD_eq_getElem?_getD, List.getElem?_eq_getElem (by omega)]
      rfl
    have h2 : dn[i]? = some (dn.getD i 0) := by
      rw [List.getD_eq_getElem?_getD, List.getElem?_eq_getElem hi]
      rfl
    rw [(List.getElem?_zip_eq_some (z := (O.getD i 0, dn.getD i 0))).mpr ⟨h1, h2⟩]
    simp only [Option.map_some]
    split <;> simp
  · rw [List.getElem?_eq_none (by rw [List.length_zip]; omega), List.getElem?_eq_none (by rw [List.length_range]; omega)]
    rfl
/-- how many of the first ones -/
theorem count_step {O : List Nat} (p : Nat → Bool) (i : Nat) (hi : i < O.length) : ((O.take (i + 1)).filter p).length = ((O.take i).filter p).length + (if p (O.getD i 0) = true then 1 else 0) := by
  have h1 : O[i]? = some (O.getD i 0) := by
    rw [List.getD_eq_getElem?_getD, List.getElem?_eq_getElem hi]
    rfl
  rw [List.take_add_one, h1, List.filter_append, List.length_append]
  congr 1
  simp only [Option.toList_some, List.filter_cons, List.filter_nil]
  split <;> rfl
theorem gs_setRow {ss : List Seat} {ps : List (Int × Int)} {i : Nat} (h : i < ss.length) (hl : ps.length = ss.length) : gs (setRow ss ps) i = ((gs ss i).1, gp ps i) := by
  unfold setRow
  refine gs_at ?_
  rw [List.getElem?_map, (List.getElem?_zip_eq_some (z := (gs ss i, gp ps i))).mpr ⟨at_gs h, ?_⟩]
  · rfl
  · unfold gp
    rw [List.getD_eq_getElem?_getD, List.getElem?_eq_getElem (by omega)]
    rfl
theorem setRow_len {ss : List Seat} {ps : List (Int × Int)} (hl : ps.length = ss.length) : (setRow ss ps).length = ss.length := by
  unfold setRow
  rw [List.length_map, List.length_zip]
  omega
theorem gp_snd (ss : List Seat) {i : Nat} (h : i < ss.length) : gp (ss.map Prod.snd) i = (gs ss i).2 := by
  unfold gp
  rw [List.getD_eq_getElem?_getD, List.getElem?_map, at_gs h]
  rfl
theorem behS_len (ss : List Seat) (zs os : List Str) (dn : List Int) : (behS ss zs os dn).length = ss.length := by
  unfold behS
  exact setRow_len (by rw [rowE_len, List.length_map])
/-- what a seat owes behind an evening -/
theorem rv_behS {ss : List Seat} {zs os : List Str} {dn : List Int} (hp : ∀ s ∈ ss, 0 < s.2.2) (hz : 0 < zs.length) (hd : dn.length ≤ os.length) {i : Nat} (h : i < ss.length) :
    rv (gs (behS ss zs os dn) i).2 = rv (gs ss i).2 + (if i ∈ zs.map (idx ss) then ((dn.sum : Int) : Rat) / ((zs.length : Nat) : Int) else 0) - ((((byS ss os dn).lookup i).getD 0 : Int) : Rat) := by
  unfold behS
  rw [gs_setRow h (by rw [rowE_len, List.length_map])]
  show rv (gp (rowE _ _ _) i) = _
  rw [rv_rowE (fun q hq => by obtain ⟨s, hs, rfl⟩ := List.mem_map.mp hq; exact hp s hs) (by rw [List.length_map]; exact hz) (by rw [List.length_map]; exact h), gp_snd ss h, byS_snd hd, List.length_map]
/-- what seats owe behind an evening, all together -/
theorem owed_behS {ss : List Seat} {zs : List Str} {O : List Nat} {dn : List Int} {S : List Nat} (hp : ∀ s ∈ ss, 0 < s.2.2) (hz : 0 < zs.length) (nd : (names ss).Nodup) (hin : ∀ z ∈ zs, z ∈ names ss) (hO : ∀ i ∈ O, i ∈ placesOf ss zs) (ond : O.Nodup) (hOz : (O.map fun k => (gs ss k).1).Perm zs) (hd : dn.length ≤ O.length)
    (hS : S.Nodup) (hl : ∀ i ∈ S, i < ss.length) :
    ((owedAt (behS ss zs (O.map fun k => (gs ss k).1) dn) S).map rv).sum = ((owedAt ss S).map rv).sum + (((O.filter fun j => decide (j ∈ S)).length : Nat) : Int) * (((dn.sum : Int) : Rat) / ((zs.length : Nat) : Int)) - (((((List.range dn.length).map fun i => dn.getD i 0 * (if O.getD i 0 ∈ S then 1 else 0)).sum : Int)) : Rat) := by
  have eO : (O.map fun k => (gs ss k).1).map (idx ss) = O := by
    rw [List.map_map]
    conv => rhs; rw [← List.map_id O]
    refine List.map_congr_left fun k hk => ?_
    exact idx_name nd hin (hO k hk)
  have eB : byS ss (O.map fun k => (gs ss k).1) dn = O.zip dn := by
    have : byS ss (O.map fun k => (gs ss k).1) dn = ((O.map fun k => (gs ss k).1).map (idx ss)).zip dn := by
      unfold byS
      rw [List.zip_map_left (l₁ := O.map fun k => (gs ss k).1)]
      rfl
    rw [this, eO]
  have mz : ∀ i, i ∈ zs.map (idx ss) ↔ i ∈ O := fun i => by
    rw [← (hOz.map (idx ss)).mem_iff, eO]
  have e1 : ((owedAt (behS ss zs (O.map fun k => (gs ss k).1) dn) S).map rv) = S.map fun i => rv (gs ss i).2 + (if decide (i ∈ O) = true then ((dn.sum : Int) : Rat) / ((zs.length : Nat) : Int) else 0) - ((((O.zip dn).lookup i).getD 0 : Int) : Rat) := by
    unfold owedAt
    rw [List.map_map]
    refine List.map_congr_left fun i hi => ?_
    show rv (gs (behS ss zs (O.map fun k => (gs ss k).1) dn) i).2 = _
    rw [rv_behS hp hz (by rw [List.length_map]; exact hd) (hl i hi), eB]
    congr 2
    simp only [mz, decide_eq_true_eq]
  rw [e1, sum_subR, sum_addR, sum_ifR, sum_constR, sum_castR, lookup_sum _ _ hS (by rw [zip_fst]; exact ond.sublist (List.take_sublist _ _)), zip_range S hd, (inter_perm hS ond).length_eq]
  unfold owedAt
  rw [List.map_map]
  rfl
end WS
set_option Elab.async false
set_option linter.all false
set_option maxRecDepth 100000
set_option maxHeartbeats 4000000
namespace WS
open PySem PySem.Spec PyProof.Rows L2
theorem count_decN (O S : List Nat) : (O.map fun k => decide (k ∈ S)).count true = (O.filter fun k => decide (k ∈ S)).length := by
  induction O with
  | nil => rfl
  | cons k os ih =>
    rw [List.map_cons, List.count_cons, ih, List.filter_cons]
    cases decide (k ∈ S) <;> simp
theorem sum_linI {α : Type} (f g : α → Int) (a b : Int) : ∀ l : List α, (l.map fun x => a * f x - b * g x).sum = a * (l.map f).sum - b * (l.map g).sum
  | [] => by simp
  | x :: l => by
    simp only [List.map_cons, List.sum_cons, sum_linI f g a b l]
    grind
theorem lays_layN {dn : List Int} (hs : dn.Pairwise (· ≥ ·)) (h0 : ∀ n ∈ dn, 0 ≤ n) {O S : List Nat} (hd : dn.length ≤ O.length) :
    ((lays dn dn.length).map fun x => x.2 * layN (O.map fun k => decide (k ∈ S)) x.1).sum = (((O.filter fun j => decide (j ∈ S)).length : Nat) : Int) * dn.sum - (O.length : Nat) * ((List.range dn.length).map fun i => dn.getD i 0 * (if O.getD i 0 ∈ S then 1 else 0)).sum := by
  have e : (fun x : Nat × Int => x.2 * layN (O.map fun k => decide (k ∈ S)) x.1) = fun x => (((O.filter fun j => decide (j ∈ S)).length : Nat) : Int) * (x.2 * (x.1 : Nat)) - ((O.length : Nat) : Int) * (x.2 * ((((O.take x.1).filter fun j => decide (j ∈ S)).length : Nat) : Int)) := by
    funext x
    unfold layN
    rw [count_decN, ← List.map_take, count_decN, List.length_map]
    grind
  have g0 : dn.getD dn.length 0 = 0 := by
    rw [List.getD_eq_getElem?_getD, List.getElem?_eq_none (Nat.le_refl _)]
    rfl
  rw [e, sum_linI]
  rw [lays_sum hs h0 (fun m => ((m : Nat) : Int)) (fun _ => 1) rfl (fun i => by simp), lays_sum hs h0 (fun m => ((((O.take m).filter fun j => decide (j ∈ S)).length : Nat) : Int)) (fun i => if i < O.length ∧ O.getD i 0 ∈ S then 1 else 0) (by simp) (fun i => ?_)]
  · rw [g0]
    have e1 : ((List.range dn.length).map fun i => dn.getD i 0 * 1).sum = dn.sum := by
      rw [show (fun i => dn.getD i 0 * 1) = fun i => dn.getD i 0 from funext fun i => Int.mul_one _]
      exact range_sum dn
    have e2 : ((List.range dn.length).map fun i => dn.getD i 0 * (if i < O.length ∧ O.getD i 0 ∈ S then 1 else 0)) = (List.range dn.length).map fun i => dn.getD i 0 * (if O.getD i 0 ∈ S then 1 else 0) := by
      refine List.map_congr_left fun i hi => ?_
      have := List.mem_range.mp hi
      have hi2 : i < O.length := by omega
      simp only [hi2, true_and]
    rw [e1, e2]
    simp
  · by_cases hi : i < O.length
    · rw [count_step (fun j => decide (j ∈ S)) i hi]
      simp only [hi, true_and, decide_eq_true_eq]
      split <;> omega
    · rw [List.take_of_length_le (by omega), List.take_of_length_le (by omega)]
      simp [hi]
theorem rv_nought : rv (0, 1) = 0 := by
  unfold rv
  show (0 : Rat) / (1 : Rat) = 0
  grind
theorem places_nodup (ss : List Seat) (zs : List Str) : (placesOf ss zs).Nodup := (places_up ss zs).imp fun h => Nat.ne_of_lt h
end WS
set_option Elab.async false
set_option linter.all false
set_option maxRecDepth 100000
set_option maxHeartbeats 4000000
namespace WS
open PySem PySem.Spec PyProof.Rows L2
/-! ### within -/
def sumF (f : Nat → Rat) (S : List Nat) : Rat := (S.map f).sum
def mostR (W : Rat) (n k : Nat) : Rat := W * (((k : Nat) : Int) : Rat) * ((((n : Nat) : Int) : Rat) - (((k : Nat) : Int) : Rat)) / 2
def WthF (W : Rat) (n : Nat) (f : Nat → Rat) : Prop := ∀ S : List Nat, S.Nodup → (∀ i ∈ S, i < n) → sumF f S ≤ mostR W n S.length
theorem sum_take_monoR {z : Rat} : ∀ {zs : List Rat} {k : Nat}, (∀ y ∈ zs, y ≤ z) → zs.Pairwise (fun a b => b ≤ a) → k ≤ zs.length → (zs.take k).sum ≤ ((z :: zs).take k).sum
  | zs, 0, _, _, _ => by simp [Rat.le_refl]
  | [], k + 1, _, _, h => by simp at h
  | y :: zs, k + 1, h, p, hk => by
    have p' := List.pairwise_cons.mp p
    rw [List.take_succ_cons, List.take_succ_cons, List.sum_cons, List.sum_cons]
    have h1 := sum_take_monoR (z := y) (zs := zs) (k := k) p'.1 p'.2 (by simpa using hk)
    have h2 := h y List.mem_cons_self
    grind
theorem sub_le_takeR : ∀ {zs ys : List Rat}, zs.Pairwise (fun a b => b ≤ a) → ys.Sublist zs → ys.sum ≤ (zs.take ys.length).sum := by
  intro zs ys p h
  induction h with
  | slnil => simp [Rat.le_refl]
  | cons z h ih =>
    have p' := List.pairwise_cons.mp p
    exact Rat.le_trans (ih p'.2) (sum_take_monoR p'.1 p'.2 h.length_le)
  | cons_cons z h ih =>
    have p' := List.pairwise_cons.mp p
    rw [List.length_cons, List.take_succ_cons, List.sum_cons, List.sum_cons]
    have := ih p'.2
    grind
theorem sumF_perm {f : Nat → Rat} {S T : List Nat} (h : S.Perm T) : sumF f S = sumF f T := perm_sumR (h.map f)
theorem sumF_app (f : Nat → Rat) (S T : List Nat) : sumF f (S ++ T) = sumF f S + sumF f T := by
  unfold sumF
  rw [List.map_append, List.sum_append]
theorem sub_perm {S A : List Nat} (hS : S.Nodup) (hA : A.Nodup) (h : ∀ i ∈ A, i ∈ S) : (S.filter fun i => decide (i ∈ A)).Perm A := by
  refine (List.perm_ext_iff_of_nodup (hS.filter _) hA).mpr fun i => ?_
  rw [List.mem_filter, decide_eq_true_eq]
  exact ⟨fun h => h.2, fun hi => ⟨h i hi, hi⟩⟩
theorem split_perm (S A : List Nat) : (S.filter (fun i => decide (i ∈ A)) ++ S.filter fun i => !decide (i ∈ A)).Perm S := by
  induction S with
  | nil => exact .refl _
  | cons a S ih =>
    rw [List.filter_cons, List.filter_cons]
    cases decide (a ∈ A)
    · simp only [Bool.not_false, if_true, Bool.false_eq_true, if_false]
      exact List.perm_middle.trans (ih.cons a)
    · simp only [Bool.not_true, if_true, Bool.false_eq_true, if_false, List.cons_append]
      exact ih.cons a
theorem top_most {f : Nat → Rat} {O S : List Nat} (hO : O.Nodup) (hs : O.Pairwise fun i j => f j ≤ f i) (hS : S.Nodup) (hin : ∀ i ∈ S, i ∈ O) : sumF f S ≤ sumF f (O.take S.length) := by
  have hp := sub_perm hO hS hin
  rw [← sumF_perm hp, ← hp.length_eq]
  unfold sumF
  have := sub_le_takeR (zs := O.map f) (ys := (O.filter fun i => decide (i ∈ S)).map f) (by rw [List.pairwise_map]; exact hs) (List.filter_sublist.map f)
  rw [List.length_map, ← List.map_take] at this
  exact this
theorem wth_of {W : Rat} {n : Nat} {f : Nat → Rat} {O : List Nat} (hp : O.Perm (List.range n)) (hs : O.Pairwise fun i j => f j ≤ f i) (h : ∀ k, k ≤ n → sumF f (O.take k) ≤ mostR W n k) : WthF W n f := fun S hS hn => by
  have hl : S.length ≤ n := by
    have := hS.length_le_of_subset (l₂ := List.range n) fun i hi => List.mem_range.mpr (hn i hi)
    rw [List.length_range] at this
    exact this
  exact Rat.le_trans (top_most (hp.nodup_iff.mpr List.nodup_range) hs hS fun i hi => hp.mem_iff.mpr (List.mem_range.mpr (hn i hi))) (h _ hl)
/-- each of these no more than each of those -/
theorem cross_sum {f : Nat → Rat} : ∀ (A B : List Nat), (∀ i ∈ A, ∀ j ∈ B, f i ≤ f j) → sumF f A * (((B.length : Nat) : Int) : Rat) ≤ sumF f B * (((A.length : Nat) : Int) : Rat)
  | [], B, _ => by
    unfold sumF
    simp only [List.map_nil, List.sum_nil, List.length_nil]
    show (0 : Rat) * _ ≤ _ * (0 : Rat)
    rw [Rat.zero_mul, Rat.mul_zero]
    exact Rat.le_refl
  | a :: A, B, h => by
    have ih := cross_sum A B fun i hi j hj => h i (List.mem_cons_of_mem _ hi) j hj
    have hb : ∀ B : List Nat, (∀ j ∈ B, f a ≤ f j) → f a * (((B.length : Nat) : Int) : Rat) ≤ sumF f B := by
      intro B
      induction B with
      | nil =>
        intro _
        unfold sumF
        show f a * (0 : Rat) ≤ 0
        rw [Rat.mul_zero]
        exact Rat.le_refl
      | cons b B ih2 =>
        intro hB
        have h1 := hB b List.mem_cons_self
        have h2 := ih2 fun j hj => hB j (List.mem_cons_of_mem _ hj)
        have e : (((b :: B).length : Nat) : Int) = ((B.length : Nat) : Int) + 1 := by simp
        unfold sumF at h2 ⊢
        rw [e, cast_add, List.map_cons, List.sum_cons]
        have : ((1 : Int) : Rat) = 1 := rfl
        rw [this]
        grind
    have h3 := hb B fun j hj => h a List.mem_cons_self j hj
    have e : (((a :: A).length : Nat) : Int) = ((A.length : Nat) : Int) + 1 := by simp
    have e2 : sumF f (a :: A) = f a + sumF f A := by unfold sumF; rw [List.map_cons, List.sum_cons]
    rw [e, e2, cast_add]
    have : ((1 : Int) : Rat) = 1 := rfl
    rw [this]
    grind
/-- of a layer: the idle ones of these, the others of its first -/
def idleL (O S : List Nat) (m : Nat) : List Nat := (O.drop m).filter fun i => decide (i ∈ S)
def othL (O S : List Nat) (m : Nat) : List Nat := (O.take m).filter fun i => !decide (i ∈ S)
section
variable {O S : List Nat} {m n : Nat}
theorem idle_nodup (hO : O.Nodup) : (idleL O S m).Nodup := (hO.sublist (List.drop_sublist _ _)).filter _
theorem oth_nodup (hO : O.Nodup) : (othL O S m).Nodup := (hO.sublist (List.take_sublist _ _)).filter _
theorem idle_in {i : Nat} (h : i ∈ idleL O S m) : i ∈ O.drop m ∧ i ∈ S := by
  unfold idleL at h
  rw [List.mem_filter, decide_eq_true_eq] at h
  exact h
theorem oth_in {i : Nat} (h : i ∈ othL O S m) : i ∈ O.take m ∧ i ∉ S := by
  unfold othL at h
  rw [List.mem_filter, Bool.not_eq_true', decide_eq_false_iff_not] at h
  exact h
theorem less_len (hS : S.Nodup) (hO : O.Nodup) : (S.filter fun i => !decide (i ∈ idleL O S m)).length + (idleL O S m).length = S.length := by
  have h1 := (split_perm S (idleL O S m)).length_eq
  rw [List.length_append, (sub_perm hS (idle_nodup hO) fun i hi => (idle_in hi).2).length_eq] at h1
  omega
theorem less_sum (f : Nat → Rat) (hS : S.Nodup) (hO : O.Nodup) : sumF f (S.filter fun i => !decide (i ∈ idleL O S m)) = sumF f S - sumF f (idleL O S m) := by
  have h1 := sumF_perm (f := f) (split_perm S (idleL O S m))
  rw [sumF_app, sumF_perm (sub_perm hS (idle_nodup hO) fun i hi => (idle_in hi).2)] at h1
  grind
theorem more_nodup (hS : S.Nodup) (hO : O.Nodup) : (S ++ othL O S m).Nodup := by
  rw [List.nodup_append]
  exact ⟨hS, oth_nodup hO, fun a ha b hb e => (oth_in hb).2 (e ▸ ha)⟩
theorem q_oth (hm : m ≤ O.length) : ((O.take m).filter fun i => decide (i ∈ S)).length + (othL O S m).length = m := by
  have h := (split_perm (O.take m) S).length_eq
  rw [List.length_append, List.length_take, Nat.min_eq_left hm] at h
  exact h
theorem layN_io (hm : m ≤ O.length) : layN (O.map fun k => decide (k ∈ S)) m = ((idleL O S m).length : Nat) * ((othL O S m).length : Nat) - (((O.take m).filter fun i => decide (i ∈ S)).length : Nat) * ((O.length : Int) - m - ((idleL O S m).length : Nat)) := by
  rw [layN_ab (by rw [List.length_map]; exact hm), ← List.map_take, ← List.map_drop, count_decN, count_decN, List.length_map]
  have := q_oth (S := S) hm
  have e : (m : Int) - (((O.take m).filter fun i => decide (i ∈ S)).length : Nat) = ((othL O S m).length : Nat) := by omega
  rw [e]
  rfl
theorem idle_le : m ≤ O.length → (idleL O S m).length + m ≤ O.length := fun hm => by
  have := List.length_filter_le (fun i => decide (i ∈ S)) (O.drop m)
  rw [List.length_drop] at this
  unfold idleL
  omega
/-- what a layer brings these, no more than half of the idle ones times the others -/
theorem lay_half (hm : m ≤ O.length) (h2 : 2 ≤ O.length) : ((layN (O.map fun k => decide (k ∈ S)) m : Int) : Rat) / (((O.length : Nat) : Int) : Rat) ≤ ((((idleL O S m).length : Nat) : Int) : Rat) * ((((othL O S m).length : Nat) : Int) : Rat) / 2 := by
  have hi := idle_le (S := S) hm
  have h := lay_le (a := ((idleL O S m).length : Nat)) (b := ((othL O S m).length : Nat)) (q := (((O.take m).filter fun i => decide (i ∈ S)).length : Nat)) (c := (O.length : Int) - m - ((idleL O S m).length : Nat)) (k := 2) (L := (O.length : Nat)) (by omega) (by omega) (by omega) (by omega) (by omega) (by omega)
  rw [← layN_io hm] at h
  have hp : (0 : Int) < ((O.length : Nat) : Int) := by omega
  have h3 : ((layN (O.map fun k => decide (k ∈ S)) m : Int) : Rat) * 2 ≤ ((((idleL O S m).length : Nat) : Int) : Rat) * ((((othL O S m).length : Nat) : Int) : Rat) * (((O.length : Nat) : Int) : Rat) := by
    have := cast_le.mpr h
    rw [cast_mul, cast_mul, cast_mul] at this
    exact this
  refine Rat.not_lt.mp fun z => ?_
  rw [Rat.lt_div_iff (cast_pos hp)] at z
  grind
variable {f : Nat → Rat} {W : Rat}
theorem order_cross (hs : O.Pairwise fun i j => f j ≤ f i) : sumF f (idleL O S m) * ((((othL O S m).length : Nat) : Int) : Rat) ≤ sumF f (othL O S m) * ((((idleL O S m).length : Nat) : Int) : Rat) := by
  refine cross_sum _ _ fun i hi j hj => ?_
  rw [← List.take_append_drop m O, List.pairwise_append] at hs
  exact hs.2.2 j (oth_in hj).1 i (idle_in hi).1
/-- each layer leaves room -/
theorem lay_room (hW : 0 < W) (wf : WthF W n f) (hO : O.Nodup) (hOn : ∀ i ∈ O, i < n) (hs : O.Pairwise fun i j => f j ≤ f i) (hS : S.Nodup) (hSn : ∀ i ∈ S, i < n) (hm : m ≤ O.length) (h2 : 2 ≤ O.length) :
    W * (((layN (O.map fun k => decide (k ∈ S)) m : Int) : Rat) / (((O.length : Nat) : Int) : Rat)) ≤ mostR W n S.length - sumF f S := by
  have l1 := less_len (m := m) hS hO
  have w0 := wf S hS hSn
  have w1 := wf _ (hS.filter fun i => !decide (i ∈ idleL O S m)) fun i hi => hSn i (List.mem_filter.mp hi).1
  have w2 := wf _ (more_nodup (m := m) hS hO) fun i hi => by
    rcases List.mem_append.mp hi with h | h
    · exact hSn i h
    · exact hOn i (List.mem_of_mem_take (oth_in h).1)
  rw [less_sum f hS hO] at w1
  rw [sumF_app, List.length_append] at w2
  have oc := order_cross (m := m) (S := S) hs
  have lh := lay_half (S := S) hm h2
  have e1 : (((S.filter fun i => !decide (i ∈ idleL O S m)).length : Nat) : Int) = ((S.length : Nat) : Int) - ((idleL O S m).length : Nat) := by omega
  have e2 : ((S.length + (othL O S m).length : Nat) : Int) = ((S.length : Nat) : Int) + ((othL O S m).length : Nat) := by omega
  unfold mostR at w0 w1 w2 ⊢
  rw [e1, cast_sub] at w1
  rw [e2, cast_add] at w2
  have ha : (0 : Rat) ≤ ((((idleL O S m).length : Nat) : Int) : Rat) := cast_nn (by omega)
  have hb : (0 : Rat) ≤ ((((othL O S m).length : Nat) : Int) : Rat) := cast_nn (by omega)
  exact row_bound (n := (((n : Nat) : Int) : Rat)) hW ha hb w0 w1 w2 (by grind) lh
end
/-- an evening keeps within -/
theorem eve_within {O S : List Nat} {n : Nat} {f : Nat → Rat} {W : Int} (hW : 0 < W) (wf : WthF W n f) (hO : O.Nodup) (hOn : ∀ i ∈ O, i < n) (hs : O.Pairwise fun i j => f j ≤ f i) (hS : S.Nodup) (hSn : ∀ i ∈ S, i < n) (h2 : 2 ≤ O.length) {xs : List (Nat × Int)} (hx : ∀ x ∈ xs, x.1 ≤ O.length ∧ 0 ≤ x.2) (hw : (xs.map Prod.snd).sum ≤ W) :
    sumF f S + (((xs.map fun x => x.2 * layN (O.map fun k => decide (k ∈ S)) x.1).sum : Int) : Rat) / (((O.length : Nat) : Int) : Rat) ≤ mostR W n S.length := by
  have hW' : (0 : Rat) < W := cast_pos hW
  have w0 := wf S hS hSn
  have D0 : (0 : Rat) ≤ mostR W n S.length - sumF f S := by grind
  have key : ∀ xs : List (Nat × Int), (∀ x ∈ xs, x.1 ≤ O.length ∧ 0 ≤ x.2) → (W : Rat) * ((((xs.map fun x => x.2 * layN (O.map fun k => decide (k ∈ S)) x.1).sum : Int) : Rat) / (((O.length : Nat) : Int) : Rat)) ≤ (((xs.map Prod.snd).sum : Int) : Rat) * (mostR W n S.length - sumF f S) := by
    intro xs
    induction xs with
    | nil =>
      intro _
      simp only [List.map_nil, List.sum_nil]
      show (W : Rat) * ((0 : Rat) / _) ≤ (0 : Rat) * _
      rw [Rat.div_def, Rat.zero_mul, Rat.mul_zero, Rat.zero_mul]
      exact Rat.le_refl
    | cons x xs ih =>
      intro hx
      have i2 := ih fun y hy => hx y (List.mem_cons_of_mem _ hy)
      obtain ⟨h1, h3⟩ := hx x List.mem_cons_self
      have lr := lay_room (W := (W : Rat)) hW' wf hO hOn hs hS hSn h1 h2
      have l2 := Rat.mul_le_mul_of_nonneg_left lr (cast_nn h3)
      rw [List.map_cons, List.sum_cons, List.map_cons, List.sum_cons, cast_add, cast_add, cast_mul]
      generalize (((xs.map fun x => x.2 * layN (O.map fun k => decide (k ∈ S)) x.1).sum : Int) : Rat) = A at *
      generalize (((xs.map Prod.snd).sum : Int) : Rat) = B at *
      generalize ((layN (O.map fun k => decide (k ∈ S)) x.1 : Int) : Rat) = C at *
      rw [Rat.div_def] at i2 l2 ⊢
      generalize ((((O.length : Nat) : Int) : Rat))⁻¹ = I at *
      grind
  have h4 := key xs hx
  have h5 := Rat.mul_le_mul_of_nonneg_right (cast_le.mpr hw) D0
  have h6 := Rat.le_of_mul_le_mul_left (Rat.le_trans h4 h5) hW'
  grind
end WS
set_option Elab.async false
set_option linter.all false
set_option maxRecDepth 100000
set_option maxHeartbeats 4000000
namespace WS
open PySem PySem.Spec PyProof.Rows L2
/-! ### good moments: within, and all together nought -/
def owF (ss : List Seat) (i : Nat) : Rat := rv (gs ss i).2
structure Good (W : Int) (ss : List Seat) : Prop where
  w : WthF W ss.length (owF ss)
  z : sumF (owF ss) (List.range ss.length) = 0
theorem mostR_mono {W W' : Rat} {n k : Nat} (h : W ≤ W') (hk : k ≤ n) : mostR W n k ≤ mostR W' n k := by
  unfold mostR
  have h1 : (0 : Rat) ≤ (((k : Nat) : Int) : Rat) := cast_nn (by omega)
  have h2 : (0 : Rat) ≤ (((n : Nat) : Int) : Rat) - (((k : Nat) : Int) : Rat) := by
    have : (((k : Nat) : Int) : Rat) ≤ (((n : Nat) : Int) : Rat) := cast_le.mpr (by omega)
    grind
  have h3 := Rat.mul_nonneg h1 h2
  have h4 := Rat.mul_le_mul_of_nonneg_right h h3
  grind
theorem WthF.up {W W' : Rat} {n : Nat} {f : Nat → Rat} (h : WthF W n f) (hw : W ≤ W') : WthF W' n f := fun S hS hn => by
  have hl : S.length ≤ n := by
    have := hS.length_le_of_subset (l₂ := List.range n) fun i hi => List.mem_range.mpr (hn i hi)
    rw [List.length_range] at this
    exact this
  exact Rat.le_trans (h S hS hn) (mostR_mono hw hl)
theorem WthF.congr {W : Rat} {n : Nat} {f g : Nat → Rat} (h : WthF W n f) (e : ∀ i, i < n → f i = g i) : WthF W n g := fun S hS hn => by
  have : sumF g S = sumF f S := by
    unfold sumF
    congr 1
    exact List.map_congr_left fun i hi => (e i (hn i hi)).symm
  rw [this]
  exact h S hS hn
theorem sum_range_gp (ps : List (Int × Int)) : sumF (fun j => rv (gp ps j)) (List.range ps.length) = (ps.map rv).sum := by
  unfold sumF
  congr 1
  refine List.ext_getElem? fun j => ?_
  rw [List.getElem?_map, List.getElem?_map]
  by_cases h : j < ps.length
  · rw [List.getElem?_range h, List.getElem?_eq_getElem h]
    simp [gp, List.getD_eq_getElem?_getD, h]
  · rw [List.getElem?_eq_none (by rw [List.length_range]; omega), List.getElem?_eq_none (by omega)]
    rfl
theorem ow_gp {ss : List Seat} {ps : List (Int × Int)} (h : ss.map Prod.snd = ps) (i : Nat) (hi : i < ss.length) : rv (gp ps i) = owF ss i := by
  subst h
  rw [gp_snd ss hi]
  rfl
theorem good_mk {W : Int} {ss : List Seat} {ps : List (Int × Int)} (h : ss.map Prod.snd = ps) (w : WthF W ps.length fun j => rv (gp ps j)) (z : (ps.map rv).sum = 0) : Good W ss := by
  have hl : ps.length = ss.length := by rw [← h, List.length_map]
  refine ⟨?_, ?_⟩
  · rw [hl] at w
    exact w.congr (ow_gp h)
  · rw [← z, ← sum_range_gp, hl]
    unfold sumF
    congr 1
    exact List.map_congr_left fun i hi => (ow_gp h i (List.mem_range.mp hi)).symm
theorem ranked_desc {ps : List (Int × Int)} {os : List Nat} (h : RankedP ps os) (hp : ∀ q ∈ ps, 0 < q.2) : os.Pairwise fun i j => rv (gp ps j) ≤ rv (gp ps i) := h.2.imp fun {i j} hr => by
  have pi := gp_pos hp i
  have pj := gp_pos hp j
  rcases hr with hr | ⟨hr, _⟩
  · exact Rat.le_of_lt ((lt_rv pj pi).mp hr)
  · refine Rat.not_lt.mp fun z => ?_
    have := (lt_rv pi pj).mpr z
    unfold gp at this
    omega
theorem rkS_desc {ss : List Seat} {os : List Nat} (h : os.Pairwise (rkS ss)) (hp : ∀ s ∈ ss, 0 < s.2.2) : os.Pairwise fun i j => owF ss j ≤ owF ss i := h.imp fun {i j} hr => by
  have pg : ∀ i, 0 < (gs ss i).2.2 := fun i => by
    unfold gs
    rw [List.getD_eq_getElem?_getD]
    cases e : ss[i]? with
    | none => show (0 : Int) < 1; decide
    | some s => exact hp s (List.mem_of_getElem? e)
  rcases hr with hr | ⟨hr, _⟩
  · exact Rat.le_of_lt ((lt_rv (pg j) (pg i)).mp hr)
  · refine Rat.not_lt.mp fun z => ?_
    have := (lt_rv (pg i) (pg j)).mpr z
    omega
/-- half the weight, by whole numbers -/
theorem most_of {a b W : Int} {n k : Nat} (hb : 0 < b) (h : 2 * a ≤ W * (b * (k : Nat) * ((n : Int) - (k : Nat)))) : (a : Rat) / b ≤ mostR W n k := by
  unfold mostR
  refine Rat.not_lt.mp fun z => ?_
  rw [Rat.lt_div_iff (cast_pos hb)] at z
  have h2 := cast_le.mpr h
  rw [cast_mul, cast_mul, cast_mul, cast_mul, cast_sub] at h2
  have : ((2 : Int) : Rat) = 2 := rfl
  rw [this] at h2
  grind
theorem ceil_le {x d W : Int} (hd : 0 < d) (h : (x + d - 1) / d ≤ W) : x ≤ W * d := by
  have h1 : x + d - 1 < ((x + d - 1) / d + 1) * d := Int.lt_mul_of_ediv_lt hd (by omega)
  have h2 : ((x + d - 1) / d) * d ≤ W * d := Int.mul_le_mul_of_nonneg_right h (by omega)
  rw [Int.add_mul, Int.one_mul] at h1
  omega
theorem sumF_gp {ps : List (Int × Int)} (hp : ∀ q ∈ ps, 0 < q.2) (S : List Nat) : sumF (fun j => rv (gp ps j)) S = rv ((S.map (gp ps)).foldl pl (0, 1)) := by
  rw [rv_fold _ _ (by decide) (fun q hq => by obtain ⟨i, _, rfl⟩ := List.mem_map.mp hq; exact gp_pos hp i), rv_nought, Rat.zero_add, List.map_map]
  rfl
theorem zero_half : (0 : Rat) ≤ 0 / 2 := by
  rw [Rat.div_def, Rat.zero_mul]
  exact Rat.le_refl
theorem most_zero (W : Rat) (n : Nat) (f : Nat → Rat) (O : List Nat) : sumF f (O.take 0) ≤ mostR W n 0 := by
  unfold sumF mostR
  show (0 : Rat) ≤ W * (0 : Rat) * _ / 2
  rw [Rat.mul_zero, Rat.zero_mul]
  exact zero_half
theorem most_full (W : Rat) (n : Nat) : (0 : Rat) ≤ mostR W n n := by
  unfold mostR
  have : (((n : Nat) : Int) : Rat) - (((n : Nat) : Int) : Rat) = 0 := by grind
  rw [this, Rat.mul_zero]
  exact zero_half
end WS
set_option Elab.async false
set_option linter.all false
set_option maxRecDepth 100000
set_option maxHeartbeats 4000000
namespace WS
open PySem PySem.Spec PyProof.Rows L2
theorem sumF_owed (ss : List Seat) (S : List Nat) : sumF (owF ss) S = ((owedAt ss S).map rv).sum := by
  unfold sumF owedAt owF
  rw [List.map_map]
  rfl
/-- a good moment stays good by an evening -/
theorem good_behS {W : Int} {ss : List Seat} {zs : List Str} {O : List Nat} {ns : List Int} (hW : 1 ≤ W) (g : Good W ss) (hp : ∀ s ∈ ss, 0 < s.2.2) (hz : 2 ≤ zs.length) (nd : (names ss).Nodup) (hin : ∀ z ∈ zs, z ∈ names ss) (po : O.Perm (placesOf ss zs)) (wo : O.Pairwise (rkS ss)) (hOz : (O.map fun k => (gs ss k).1).Perm zs) (hd : ns.length ≤ zs.length) (hn : ∀ n ∈ ns, 1 ≤ n ∧ n ≤ W) :
    Good W (behS ss zs (O.map fun k => (gs ss k).1) (down ns)) := by
  have hO : ∀ i ∈ O, i ∈ placesOf ss zs := fun i hi => po.mem_iff.mp hi
  have ond : O.Nodup := po.nodup_iff.mpr (places_nodup ss zs)
  have hOn : ∀ i ∈ O, i < ss.length := fun i hi => (places_lt (hO i hi)).1
  have ol : O.length = zs.length := by rw [← hOz.length_eq, List.length_map]
  have dl := down_len ns
  have dnn : ∀ n ∈ down ns, 0 ≤ n := fun n h => by have := hn n ((down_perm ns).mem_iff.mp h); omega
  have hd2 : (down ns).length ≤ O.length := by omega
  have hL : (0 : Int) < ((O.length : Nat) : Int) := by omega
  have hne := cast_ne hL
  have each : ∀ S : List Nat, S.Nodup → (∀ i ∈ S, i < ss.length) → sumF (owF (behS ss zs (O.map fun k => (gs ss k).1) (down ns))) S = sumF (owF ss) S + ((((lays (down ns) (down ns).length).map fun x => x.2 * layN (O.map fun k => decide (k ∈ S)) x.1).sum : Int) : Rat) / (((O.length : Nat) : Int) : Rat) := fun S hS hl => by
    rw [sumF_owed, sumF_owed, owed_behS hp (by omega) nd hin hO ond hOz hd2 hS hl, lays_layN (down_sorted ns) dnn hd2, cast_sub, cast_mul, cast_mul, ← ol]
    grind
  refine ⟨fun S hS hl => ?_, ?_⟩
  · rw [behS_len] at hl ⊢
    rw [each S hS hl]
    refine eve_within (by omega) g.w ond hOn (rkS_desc wo hp) hS hl (by omega) (fun x hx => ?_) ?_
    · have := lays_mem hx
      exact ⟨by omega, by omega⟩
    · rw [lays_weigh (down_sorted ns) dnn]
      have g0 : (down ns).getD (down ns).length 0 = 0 := by
        rw [List.getD_eq_getElem?_getD, List.getElem?_eq_none (Nat.le_refl _)]
        rfl
      have g1 : (down ns).getD 0 0 ≤ W := by
        rw [List.getD_eq_getElem?_getD]
        cases e : (down ns)[0]? with
        | none => show (0 : Int) ≤ W; omega
        | some n => exact (hn n ((down_perm ns).mem_iff.mp (List.mem_of_getElem? e))).2
      omega
  · rw [behS_len, sumF_owed, owed_behS hp (by omega) nd hin hO ond hOz hd2 List.nodup_range (fun i hi => List.mem_range.mp hi), ← sumF_owed, g.z, Rat.zero_add]
    have e1 : (O.filter fun j => decide (j ∈ List.range ss.length)) = O := by
      rw [List.filter_eq_self]
      exact fun i hi => decide_eq_true (List.mem_range.mpr (hOn i hi))
    have e2 : ((List.range (down ns).length).map fun i => (down ns).getD i 0 * (if O.getD i 0 ∈ List.range ss.length then 1 else 0)) = (List.range (down ns).length).map fun i => (down ns).getD i 0 := by
      refine List.map_congr_left fun i hi => ?_
      have hi2 := List.mem_range.mp hi
      rw [if_pos, Int.mul_one]
      rw [List.getD_eq_getElem?_getD, List.getElem?_eq_getElem (show i < O.length by omega)]
      exact List.mem_range.mpr (hOn _ (List.getElem_mem _))
    rw [e1, e2, range_sum, ← ol]
    grind
theorem owF_rat (ss : List Seat) {i : Nat} : owF ss i = ((gs ss i).2.1 : Rat) / (gs ss i).2.2 := rfl
/-- what a seat of a good moment owes has few signs -/
theorem good_bits {W : Int} {ss : List Seat} {D B : Nat} (hW : 1 ≤ W) (g : Good W ss) (bW : Bt B W) (hl : ss.length ≤ 15) (hp : ∀ s ∈ ss, 0 < s.2.2 ∧ Bt D s.2.2) : ∀ s ∈ ss, Ok2 (B + 4 + D) D s.2 := fun s hs => by
  obtain ⟨h0, hd⟩ := hp s hs
  obtain ⟨i, hi⟩ := List.getElem?_of_mem hs
  have il := (List.getElem?_eq_some_iff.mp hi).1
  have e := gs_at hi
  refine ⟨h0, ?_, hd⟩
  have n1 : (1 : Int) ≤ ss.length := by omega
  have u1 := g.w [i] (by simp) (fun j hj => by rw [List.mem_singleton.mp hj]; exact il)
  have fp := filter_perm List.nodup_range (List.mem_range.mpr il)
  have u2 := g.w ((List.range ss.length).filter fun k => !decide (k = i)) (List.nodup_range.filter _) (fun j hj => List.mem_range.mp (List.mem_filter.mp hj).1)
  have ln := fp.length_eq
  rw [List.length_cons, List.length_range] at ln
  have sm := sumF_perm (f := owF ss) fp
  rw [g.z] at sm
  have s1 : sumF (owF ss) [i] = owF ss i := by
    unfold sumF
    simp [Rat.add_zero]
  have s2 : sumF (owF ss) (i :: (List.range ss.length).filter fun k => !decide (k = i)) = owF ss i + sumF (owF ss) ((List.range ss.length).filter fun k => !decide (k = i)) := by
    unfold sumF
    rw [List.map_cons, List.sum_cons]
  rw [s1] at u1
  rw [s2] at sm
  unfold mostR at u1 u2
  have el : ((((List.range ss.length).filter fun k => !decide (k = i)).length : Nat) : Int) = ((ss.length : Nat) : Int) - 1 := by omega
  rw [el, cast_sub] at u2
  have o1 : ((1 : Int) : Rat) = 1 := rfl
  have o2 : ((([i] : List Nat).length : Nat) : Int) = 1 := rfl
  rw [o2] at u1
  rw [o1] at u1 u2
  rw [owF_rat, e] at u1 sm
  have hb := cast_pos h0
  have hbn := cast_ne h0
  have hWn : (0 : Rat) ≤ (W : Rat) := cast_nn (by omega)
  have k1 : (s.2.1 : Rat) * 2 ≤ (W : Rat) * ((((ss.length : Nat) : Int) : Rat) - 1) * s.2.2 := by
    have : (s.2.1 : Rat) / s.2.2 * s.2.2 = s.2.1 := by grind
    have := Rat.mul_le_mul_of_nonneg_right u1 (Rat.le_of_lt hb)
    grind
  have k2 : -(s.2.1 : Rat) * 2 ≤ (W : Rat) * ((((ss.length : Nat) : Int) : Rat) - 1) * s.2.2 := by
    have : (s.2.1 : Rat) / s.2.2 * s.2.2 = s.2.1 := by grind
    have h3 : -((s.2.1 : Rat) / s.2.2) ≤ (W : Rat) * ((((ss.length : Nat) : Int) : Rat) - 1) * 1 / 2 := by grind
    have := Rat.mul_le_mul_of_nonneg_right h3 (Rat.le_of_lt hb)
    grind
  have i1 : s.2.1 * 2 ≤ W * (((ss.length : Nat) : Int) - 1) * s.2.2 := by
    refine cast_le.mp ?_
    rw [cast_mul, cast_mul, cast_mul, cast_sub]
    exact k1
  have i2 : (0 - s.2.1) * 2 ≤ W * (((ss.length : Nat) : Int) - 1) * s.2.2 := by
    refine cast_le.mp ?_
    rw [cast_mul, cast_mul, cast_mul, cast_sub, cast_sub]
    have : ((0 : Int) : Rat) = 0 := rfl
    rw [this]
    have e2 : ((2 : Int) : Rat) = 2 := rfl
    rw [e2, o1]
    grind
  have bn : Bt 4 (((ss.length : Nat) : Int) - 1) := Bt.of_lt (by omega) (by omega)
  have bb := (bW.mul bn).mul hd
  refine bb.of_le ?_
  omega
theorem behS_den {ss : List Seat} {zs os : List Str} {dn : List Int} {D : Nat} (hp : ∀ s ∈ ss, 0 < s.2.2 ∧ Bt D s.2.2) (hz : 0 < zs.length) (z15 : zs.length ≤ 15) (hd : dn.length ≤ os.length) : ∀ s ∈ behS ss zs os dn, 0 < s.2.2 ∧ Bt (D + 4) s.2.2 := fun s hs => by
  obtain ⟨i, hi⟩ := List.getElem?_of_mem hs
  have hl : i < ss.length := by
    have := (List.getElem?_eq_some_iff.mp hi).1
    rw [behS_len] at this
    exact this
  have e : s.2 = gp (rowE (ss.map Prod.snd) (zs.map (idx ss)) (byS ss os dn)) i := by
    rw [← gs_at hi]
    unfold behS
    rw [gs_setRow hl (by rw [rowE_len, List.length_map])]
  have e0 := hp _ (gs_mem hl)
  rw [e, rowE_at (by rw [List.length_map]; exact hl), byS_snd hd, List.length_map]
  have bz : Bt 4 ((zs.length : Nat) : Int) := Bt.of_lt (by omega) (by omega)
  have oF : 0 < (rowF (ss.map Prod.snd) (zs.map (idx ss)) (lo dn.sum (zs.length : Nat)) i).2 ∧ Bt (D + 4) (rowF (ss.map Prod.snd) (zs.map (idx ss)) (lo dn.sum (zs.length : Nat)) i).2 := by
    unfold rowF
    rw [gp_snd ss hl]
    have pz := lo_lowest (a := dn.sum) (b := ((zs.length : Nat) : Int)) (by omega)
    split
    · exact ⟨(lo_lowest (Int.mul_pos e0.1 pz.1)).1, Bt.lo2 (e0.2.mul bz.lo2)⟩
    · exact ⟨e0.1, e0.2.mono (by omega)⟩
  unfold rowG
  split
  · rename_i d _
    rw [low_one]
    exact ⟨(lo_lowest (Int.mul_pos oF.1 (by show (0 : Int) < 1; decide))).1, Bt.lo2 (by show Bt _ (_ * (1 : Int)); rw [Int.mul_one]; exact oF.2)⟩
  · exact oF
theorem behS_names {ss : List Seat} {zs os : List Str} {dn : List Int} : (behS ss zs os dn).map Prod.fst = ss.map Prod.fst := by
  refine List.ext_getElem? fun i => ?_
  rw [List.getElem?_map, List.getElem?_map]
  by_cases h : i < ss.length
  · rw [at_gs h, at_gs (by rw [behS_len]; exact h)]
    unfold behS
    rw [gs_setRow h (by rw [rowE_len, List.length_map])]
    rfl
  · rw [List.getElem?_eq_none (by rw [behS_len]; omega), List.getElem?_eq_none (by omega)]
theorem names_behS {ss : List Seat} {zs os : List Str} {dn : List Int} : names (behS ss zs os dn) = names ss := by
  unfold names
  rw [behS_names]
/-- new seats that owe nought -/
theorem good_zeros {W : Int} {ss : List Seat} (hW : 0 ≤ W) (g : Good W ss) (us : List Str) : Good W (ss ++ us.map fun z => ((z, (0, 1)) : Seat)) := by
  have hl : (ss ++ us.map fun z => ((z, (0, 1)) : Seat)).length = ss.length + us.length := by rw [List.length_append, List.length_map]
  have f1 : ∀ i, i < ss.length → owF (ss ++ us.map fun z => ((z, (0, 1)) : Seat)) i = owF ss i := fun i hi => by
    unfold owF gs
    rw [List.getD_eq_getElem?_getD, List.getD_eq_getElem?_getD, List.getElem?_append_left hi]
  have f2 : ∀ i, ss.length ≤ i → owF (ss ++ us.map fun z => ((z, (0, 1)) : Seat)) i = 0 := fun i hi => by
    unfold owF gs
    rw [List.getD_eq_getElem?_getD, List.getElem?_append_right hi, List.getElem?_map]
    cases us[i - ss.length]? with
    | none => exact rv_nought
    | some z => exact rv_nought
  have spl : ∀ S : List Nat, sumF (owF (ss ++ us.map fun z => ((z, (0, 1)) : Seat))) S = sumF (owF ss) (S.filter fun i => decide (i < ss.length)) := fun S => by
    unfold sumF
    rw [← sum_ifR]
    congr 1
    refine List.map_congr_left fun i _ => ?_
    by_cases h : i < ss.length
    · rw [f1 i h, decide_eq_true h, if_pos rfl]
    · rw [f2 i (by omega), decide_eq_false h]
      rfl
  refine ⟨fun S hS hn => ?_, ?_⟩
  · rw [spl]
    have h1 := g.w _ (hS.filter fun i => decide (i < ss.length)) (fun i hi => of_decide_eq_true (List.mem_filter.mp hi).2)
    refine Rat.le_trans h1 ?_
    rw [hl] at hn ⊢
    have a1 : (S.filter fun i => decide (i < ss.length)).length ≤ S.length := List.length_filter_le _ _
    have a2 : (S.filter fun i => decide (i < ss.length)).length ≤ ss.length := by
      have := (show (S.filter fun i => decide (i < ss.length)).Nodup from hS.filter _).length_le_of_subset (l₂ := List.range ss.length) fun i hi => List.mem_range.mpr (of_decide_eq_true (List.mem_filter.mp hi).2)
      rw [List.length_range] at this
      exact this
    have a3 : S.length ≤ (S.filter fun i => decide (i < ss.length)).length + us.length := by
      have h2 := (show (S.filter fun i => !decide (i < ss.length)).Nodup from hS.filter _).length_le_of_subset (l₂ := (List.range us.length).map fun j => ss.length + j) fun i hi => by
        obtain ⟨hi1, hi2⟩ := List.mem_filter.mp hi
        have hi3 : ¬ i < ss.length := by simpa using hi2
        have := hn i hi1
        exact List.mem_map.mpr ⟨i - ss.length, List.mem_range.mpr (by omega), by omega⟩
      rw [List.length_map, List.length_range] at h2
      have h3 : (S.filter fun i => decide (i < ss.length)).length + (S.filter fun i => !decide (i < ss.length)).length = S.length := by
        clear h1 h2 a1 a2 hn hS
        induction S with
        | nil => rfl
        | cons a S ih =>
          rw [List.filter_cons, List.filter_cons]
          cases decide (a < ss.length) <;> simp <;> omega
      omega
    generalize (S.filter fun i => decide (i < ss.length)).length = k' at *
    generalize S.length = k at *
    unfold mostR
    have b1 : (((k' : Nat) : Int) : Rat) ≤ (((k : Nat) : Int) : Rat) := cast_le.mpr (by omega)
    have b0 : (0 : Rat) ≤ (((k' : Nat) : Int) : Rat) := cast_nn (by omega)
    have b2 : (0 : Rat) ≤ (((ss.length : Nat) : Int) : Rat) - (((k' : Nat) : Int) : Rat) := by
      have : (((k' : Nat) : Int) : Rat) ≤ (((ss.length : Nat) : Int) : Rat) := cast_le.mpr (by omega)
      grind
    have b3 : (((ss.length : Nat) : Int) : Rat) - (((k' : Nat) : Int) : Rat) ≤ (((ss.length + us.length : Nat) : Int) : Rat) - (((k : Nat) : Int) : Rat) := by
      have : (((ss.length : Nat) : Int) : Rat) + (((k : Nat) : Int) : Rat) ≤ (((ss.length + us.length : Nat) : Int) : Rat) + (((k' : Nat) : Int) : Rat) := by
        rw [← cast_add, ← cast_add]
        exact cast_le.mpr (by omega)
      grind
    have c1 := Rat.mul_le_mul_of_nonneg_right b1 b2
    have c2 := Rat.mul_le_mul_of_nonneg_left b3 (Rat.le_trans b0 b1)
    have c3 := Rat.mul_le_mul_of_nonneg_left (Rat.le_trans c1 c2) (cast_nn hW)
    grind
  · rw [spl, hl, ← g.z]
    congr 1
    rw [List.range_eq_range', List.range_eq_range']
    rw [show List.range' 0 (ss.length + us.length) = List.range' 0 ss.length ++ List.range' ss.length us.length from by
      have := List.range'_append_1 (s := 0) (m := ss.length) (n := us.length)
      simpa using this.symm]
    rw [List.filter_append]
    have e1 : (List.range' 0 ss.length).filter (fun i => decide (i < ss.length)) = List.range' 0 ss.length := by
      rw [List.filter_eq_self]
      intro i hi
      have := List.mem_range'_1.mp hi
      exact decide_eq_true (by omega)
    have e2 : (List.range' ss.length us.length).filter (fun i => decide (i < ss.length)) = [] := by
      rw [List.filter_eq_nil_iff]
      intro i hi
      have := List.mem_range'_1.mp hi
      simp
      omega
    rw [e1, e2, List.append_nil]
end WS
set_option Elab.async false
set_option linter.all false
set_option maxRecDepth 100000
set_option maxHeartbeats 4000000
namespace WS
open PySem PySem.Spec PyProof.Rows L2
/-! ### rows of seats that change in place -/
def RowsN (K : PySem.W.Frag) (H : Hp) (L : Addr) (rs : List V) (n : Nat) (nm : Nat → Str) (f : Nat → Int × Int) : Prop :=
  H L = some (.lst rs) ∧ rs.length = n ∧ rs.Nodup ∧ ∀ i v, rs[i]? = some v → ∃ r x, v = .ref r ∧ r ≠ L ∧ H r = some (.lst [.str (nm i), x]) ∧ Dp K H x (pdP (f i))
def RowsM (K : PySem.W.Frag) (H : Hp) (L : Addr) (rs : List V) (ss : List Seat) : Prop := RowsN K H L rs ss.length (fun i => (gs ss i).1) (fun i => (gs ss i).2)
/-- all but the rows is as it was -/
def SameR (rs : List V) (H H' : Hp) : Prop := ∀ b o, H b = some o → V.ref b ∉ rs → H' b = some o
theorem SameR.refl (rs : List V) (H : Hp) : SameR rs H H := fun _ _ h _ => h
theorem SameR.trans {rs : List V} {H H1 H2 : Hp} (a : SameR rs H H1) (b : SameR rs H1 H2) : SameR rs H H2 := fun c o h n => b c o (a c o h n) n
theorem SameR.of {rs : List V} {H H1 : Hp} (a : Same H H1) : SameR rs H H1 := fun c o h _ => a c o h
section
variable {K : PySem.W.Frag} {H H' : Hp} {L : Addr} {rs : List V} {n : Nat} {nm : Nat → Str} {f : Nat → Int × Int}
theorem RowsN.row (h : RowsN K H L rs n nm f) {i : Nat} (hi : i < n) : ∃ r x, rs[i]? = some (.ref r) ∧ r ≠ L ∧ H r = some (.lst [.str (nm i), x]) ∧ Dp K H x (pdP (f i)) := by
  obtain ⟨v, hv⟩ : ∃ v, rs[i]? = some v := ⟨_, List.getElem?_eq_getElem (by rw [h.2.1]; exact hi)⟩
  obtain ⟨r, x, rfl, h1, h2, h3⟩ := h.2.2.2 i v hv
  exact ⟨r, x, hv, h1, h2, h3⟩
theorem RowsN.keep (h : RowsN K H L rs n nm f) (hL : ∀ o, H L = some (.lst o) → H' L = some (.lst o)) (hr : ∀ r o, V.ref r ∈ rs → H r = some (.lst o) → H' r = some (.lst o)) (k : KT H H') : RowsN K H' L rs n nm f := by
  refine ⟨hL _ h.1, h.2.1, h.2.2.1, fun i v e => ?_⟩
  obtain ⟨r, x, rfl, h1, h2, h3⟩ := h.2.2.2 i v e
  exact ⟨r, x, rfl, h1, hr r _ (List.mem_of_getElem? e) h2, h3.kt k rfl⟩
theorem RowsN.sm (h : RowsN K H L rs n nm f) (s : Same H H') : RowsN K H' L rs n nm f := h.keep (fun _ e => s _ _ e) (fun _ _ _ e => s _ _ e) (kt_same s)
theorem RowsN.ne (h : RowsN K H L rs n nm f) {p : Addr} (np : H p = none) : L ≠ p ∧ V.ref p ∉ rs := by
  refine ⟨ne_of_none h.1 np, fun hm => ?_⟩
  obtain ⟨i, hi⟩ := List.getElem?_of_mem hm
  obtain ⟨r, x, e, _, h2, _⟩ := h.2.2.2 i _ hi
  cases e
  rw [np] at h2
  cases h2
theorem RowsN.set (h : RowsN K H L rs n nm f) {k : Nat} {r : Addr} {x w : V} {p : Int × Int} (hk : rs[k]? = some (.ref r)) (hr : H r = some (.lst [.str (nm k), x])) (nL : r ≠ L) (hw : Dp K H w (pdP p)) : RowsN K (upd H r (.lst [.str (nm k), w])) L rs n nm fun j => if j = k then p else f j := by
  have kt : KT H (upd H r (.lst [.str (nm k), w])) := kt_set hr
  refine ⟨by rw [upd_ne nL.symm]; exact h.1, h.2.1, h.2.2.1, fun i v e => ?_⟩
  obtain ⟨r2, x2, rfl, h1, h2, h3⟩ := h.2.2.2 i v e
  by_cases hi : i = k
  · subst hi
    rw [hk] at e
    obtain rfl := V.ref.inj (Option.some.inj e)
    exact ⟨r, w, rfl, h1, upd_same, by show Dp K _ w (pdP (if i = i then p else f i)); rw [if_pos rfl]; exact hw.kt kt rfl⟩
  · have ne : r2 ≠ r := fun z => by
      subst z
      have hi1 := (List.getElem?_eq_some_iff.mp e)
      have hk1 := (List.getElem?_eq_some_iff.mp hk)
      exact hi ((List.getElem_inj h.2.2.1).mp (hi1.2.trans hk1.2.symm))
    exact ⟨r2, x2, rfl, h1, by rw [upd_ne ne]; exact h2, by show Dp K _ x2 (pdP (if i = k then p else f i)); rw [if_neg hi]; exact h3.kt kt rfl⟩
theorem RowsN.congr {nm' : Nat → Str} {f' : Nat → Int × Int} (h : RowsN K H L rs n nm f) (e1 : ∀ i, i < n → nm i = nm' i) (e2 : ∀ i, i < n → f i = f' i) : RowsN K H L rs n nm' f' := by
  refine ⟨h.1, h.2.1, h.2.2.1, fun i v e => ?_⟩
  have hi : i < n := by
    have := (List.getElem?_eq_some_iff.mp e).1
    rw [h.2.1] at this
    exact this
  rw [← e1 i hi, ← e2 i hi]
  exact h.2.2.2 i v e
theorem SameR.set {rs : List V} {H H1 : Hp} {r : Addr} {o : HO} (a : SameR rs H H1) (hr : V.ref r ∈ rs) : SameR rs H (upd H1 r o) := fun b x h nb => by
  rw [upd_ne (fun z => nb (by rw [z]; exact hr))]
  exact a b x h nb
theorem SameR.new {rs : List V} {H H1 : Hp} {F : Addr} {o : HO} (a : SameR rs H H1) (nF : H F = none) : SameR rs H (upd H1 F o) := fun b x h nb => by
  rw [upd_ne (ne_of_none h nF)]
  exact a b x h nb
end
end WS
set_option Elab.async false
set_option linter.all false
set_option maxRecDepth 100000
set_option maxHeartbeats 4000000
namespace WS
open PySem PySem.Spec PyProof.Rows L2
theorem good_row {W : Int} {ss : List Seat} (g : Good W ss) : WthF W (ss.map Prod.snd).length (fun j => rv (gp (ss.map Prod.snd) j)) := by
  rw [List.length_map]
  exact g.w.congr fun i hi => (ow_gp rfl i hi).symm
end WS
set_option Elab.async false
set_option linter.all false
set_option maxRecDepth 100000
set_option maxHeartbeats 4000000
namespace WS
open PySem PySem.Spec PyProof.Rows L2
section
variable {K : PySem.W.Frag} {H H' : Hp} {L : Addr} {rs : List V} {n : Nat} {nm : Nat → Str} {f : Nat → Int × Int}
theorem RowsN.isl (h : RowsN K H L rs n nm f) {b : Addr} (hb : V.ref b ∈ rs) : ∃ xs, H b = some (.lst xs) := by
  obtain ⟨i, hi⟩ := List.getElem?_of_mem hb
  obtain ⟨r, x, e, _, h2, _⟩ := h.2.2.2 i _ hi
  cases e
  exact ⟨_, h2⟩
theorem SameR.kt (s : SameR rs H H') (h : RowsN K H L rs n nm f) : KT H H' := by
  refine ⟨fun a xs e => s _ _ e fun z => ?_, fun a o xs e => s _ _ e fun z => ?_⟩
  · obtain ⟨ys, e2⟩ := h.isl z
    rw [e] at e2
    cases e2
  · obtain ⟨ys, e2⟩ := h.isl z
    rw [e] at e2
    cases e2
theorem RowsN.en (h : RowsN K H L rs n nm f) (s : LamX.ExtN H H') : RowsN K H' L rs n nm f := h.keep (fun _ e => s _ _ e (fun _ z => by cases z)) (fun _ _ _ e => s _ _ e (fun _ z => by cases z)) (ExtN.kt s)
theorem RowsN.x (h : RowsN K H L rs n nm f) {p : Addr} (s : SameX p H H') (hp : PotAt H p) (n1 : L ≠ p) (n2 : V.ref p ∉ rs) : RowsN K H' L rs n nm f := h.keep (fun _ e => s _ _ n1 e) (fun r _ hm e => s _ _ (fun z => n2 (by rw [← z]; exact hm)) e) (kt_x s hp)
end
end WS
set_option Elab.async false
set_option linter.all false
set_option maxRecDepth 100000
set_option maxHeartbeats 4000000
namespace WS
open PySem PySem.Spec PyProof.Rows L2
/-! ### walks over a list or a tuple; vouchers of evenings -/
theorem pi_or {X : Cx} {tg iter : Expr} {w1 w2 : TI} (h1 : PI X tg iter w1) (h2 : PI X tg iter w2) : PI X tg iter (fun σ H R => w1 σ H R ∨ w2 σ H R) := ⟨fun pins s σ H R I h => h.elim (fun h => h1.run pins s σ H R I h) (fun h => h2.run pins s σ H R I h)⟩
def Okv2 (p : Int × Int) : Prop := Lowest p.1 p.2 ∧ Okq 1300 1090 p
theorem Okv2.okp {m : Nat} {p : Int × Int} (h : Okv2 p) (hm : 1300 ≤ m) : Okp m p := h.2.okp hm (by omega)
/-! as data -/
/-! by seats -/
end WS
set_option Elab.async false
set_option linter.all false
set_option maxRecDepth 100000
set_option maxHeartbeats 4000000
namespace WS
open PySem PySem.Spec PyProof.Rows L2
/-! promises -/
/-- what a voucher is made of -/
structure VIn (K : PySem.W.Frag) (H : Hp) (v : V) (r g : Addr) (W : Int) (ss : List Seat) (zs : List Str) (O S : List Nat) : Prop where
  m : Dp K H v (momD W ss)
  l : ss.length ≤ 12
  nd : (names ss).Nodup
  ok : ∀ s ∈ ss, Okq 190 90 s.2
  z : SqT K H r (zs.map V.str)
  th : There ss zs
  po : O.Perm (placesOf ss zs)
  wo : O.Pairwise (rkS ss)
  g : SqT K H g (S.map fun j : Nat => V.int j)
  sn : S.Nodup
  sl : ∀ i ∈ S, i < ss.length
theorem VIn.k {K : PySem.W.Frag} {H H' : Hp} {v : V} {r g : Addr} {W : Int} {ss : List Seat} {zs : List Str} {O S : List Nat} (h : VIn K H v r g W ss zs O S) (e : KT H H') : VIn K H' v r g W ss zs O S := ⟨h.m.kt e (mom_imm _ _), h.l, h.nd, h.ok, e.sqt h.z, h.th, h.po, h.wo, e.sqt h.g, h.sn, h.sl⟩
end WS
set_option Elab.async false
set_option linter.all false
set_option maxRecDepth 100000
set_option maxHeartbeats 4000000
namespace WS
open PySem PySem.Spec PyProof.Rows L2
/-! ### how far what is owed goes -/
def Bd (n : Nat) (x : Rat) : Prop := -(((2 ^ n : Nat) : Int) : Rat) ≤ x ∧ x ≤ (((2 ^ n : Nat) : Int) : Rat)
theorem sum_bd {n : Nat} : ∀ (l : List Rat), (∀ x ∈ l, Bd n x) → -((((l.length : Nat) : Int) : Rat) * (((2 ^ n : Nat) : Int) : Rat)) ≤ l.sum ∧ l.sum ≤ (((l.length : Nat) : Int) : Rat) * (((2 ^ n : Nat) : Int) : Rat)
  | [], _ => by
    simp only [List.length_nil, List.sum_nil]
    show -((0 : Rat) * _) ≤ 0 ∧ 0 ≤ (0 : Rat) * _
    rw [Rat.zero_mul]
    exact ⟨by grind, Rat.le_refl⟩
  | x :: l, h => by
    obtain ⟨h1, h2⟩ := sum_bd l fun y hy => h y (List.mem_cons_of_mem _ hy)
    obtain ⟨b1, b2⟩ := h x List.mem_cons_self
    rw [List.sum_cons]
    have e : (((x :: l).length : Nat) : Int) = ((l.length : Nat) : Int) + 1 := by simp
    have e1 : ((1 : Int) : Rat) = 1 := rfl
    rw [e, cast_add, e1]
    constructor <;> grind
theorem Bd.add {n : Nat} {x y : Rat} (h : Bd n x) (k : Bd n y) : Bd (n + 1) (x + y) := by
  unfold Bd at *
  have e : (((2 ^ (n + 1) : Nat) : Int) : Rat) = (((2 ^ n : Nat) : Int) : Rat) + (((2 ^ n : Nat) : Int) : Rat) := by
    rw [Nat.pow_succ, show ((2 ^ n * 2 : Nat) : Int) = ((2 ^ n : Nat) : Int) + ((2 ^ n : Nat) : Int) by omega, cast_add]
  rw [e]
  constructor <;> grind
/-- a weight that is asked is not far -/
theorem weigh_bd {a b by_ : Int} {n : Nat} (hb : 0 < b) (hby : b ≤ by_) (h : (a : Rat) / b ≤ (((2 ^ n : Nat) : Int) : Rat)) : (2 * a + by_ - 1) / by_ ≤ 2 * ((2 ^ n : Nat) : Int) := by
  have h1 : a ≤ ((2 ^ n : Nat) : Int) * b := by
    refine cast_le.mp ?_
    rw [cast_mul]
    refine Rat.not_lt.mp fun z => ?_
    have := (Rat.lt_div_iff (cast_pos hb)).mpr z
    grind
  have h0 : (0 : Int) ≤ ((2 ^ n : Nat) : Int) := Int.natCast_nonneg _
  have h2 : ((2 ^ n : Nat) : Int) * b ≤ ((2 ^ n : Nat) : Int) * by_ := Int.mul_le_mul_of_nonneg_left hby h0
  have hbp : 0 < by_ := by omega
  refine Int.le_of_lt_add_one ?_
  refine Int.ediv_lt_of_lt_mul hbp ?_
  rw [Int.add_mul, Int.mul_assoc, Int.one_mul]
  omega
end WS
set_option Elab.async false
set_option linter.all false
set_option maxRecDepth 100000
set_option maxHeartbeats 4000000
set_option Elab.async false
set_option linter.all false
set_option maxRecDepth 100000
set_option maxHeartbeats 4000000
set_option Elab.async false
set_option linter.all false
set_option maxRecDepth 100000
set_option maxHeartbeats 4000000
namespace WS
open PySem PySem.Spec PyProof.Rows L2
/-! ### the order, by places -/
theorem gs_idx {ss : List Seat} {z : Str} (h : z ∈ names ss) : (gs ss (idx ss z)).1 = z := by
  obtain ⟨_, s, hs, rfl⟩ := names_mem.mp h
  have hl := List.idxOf_lt_length_of_mem (List.mem_map_of_mem (f := Prod.fst) hs)
  have e : ((ss.map Prod.fst)[idx ss s.1]?) = some s.1 := by
    unfold idx
    rw [List.getElem?_eq_getElem hl, List.getElem_idxOf]
  rw [List.getElem?_map, at_gs (idx_lt h)] at e
  exact Option.some.inj e
theorem order_O {ss : List Seat} {zs os : List Str} (hin : ∀ z ∈ zs, z ∈ names ss) (hz : zs.Nodup) (nd : (names ss).Nodup) (h : OrderOf ss zs os) : (os.map (idx ss)).Perm (placesOf ss zs) ∧ (os.map (idx ss)).Pairwise (rkS ss) ∧ ((os.map (idx ss)).map fun k => (gs ss k).1) = os := by
  have oin : ∀ z ∈ os, z ∈ names ss := fun z hz => hin z (h.1.mem_iff.mp hz)
  have ond : os.Nodup := h.1.nodup_iff.mpr hz
  refine ⟨?_, ?_, ?_⟩
  · refine (List.perm_ext_iff_of_nodup (idxs_nodup ond oin) (places_nodup ss zs)).mpr fun i => ?_
    rw [List.mem_map]
    constructor
    · rintro ⟨z, hz, rfl⟩
      unfold placesOf
      rw [List.mem_filter, List.mem_range]
      exact ⟨idx_lt (oin z hz), by rw [gs_idx (oin z hz)]; exact decide_eq_true (h.1.mem_iff.mp hz)⟩
    · intro hi
      exact ⟨(gs ss i).1, h.1.mem_iff.mpr (places_lt hi).2, idx_name nd hin hi⟩
  · rw [List.pairwise_map]
    refine h.2.imp fun {a b} hab => ?_
    unfold ahead ltp at hab
    unfold rkS
    rcases hab with h1 | ⟨h1, h2, h3⟩
    · exact .inl (of_decide_eq_true h1)
    · have h1 := of_decide_eq_false h1
      have h2 := of_decide_eq_false h2
      exact .inr ⟨by omega, h3⟩
  · rw [List.map_map]
    conv => rhs; rw [← List.map_id os]
    exact List.map_congr_left fun z hz => gs_idx (oin z hz)
/-! a dict of persons and their seats -/
end WS
set_option Elab.async false
set_option linter.all false
set_option maxRecDepth 100000
set_option maxHeartbeats 4000000
namespace WS
open PySem PySem.Spec PyProof.Rows L2
/-! ### sum(tuple of numbers) -/
/-! ### tuple(zip(a, b)), and what it is made of -/
def Froz (H : Hp) (a : Addr) (xs : List V) : Prop := ∃ o : Obj, H a = some (.frz o (.tup xs)) ∧ o.dict = none
theorem Froz.sqt {K : PySem.W.Frag} {H : Hp} {a : Addr} {xs : List V} (h : Froz H a xs) : SqT K H a xs := by
  obtain ⟨o, e, _⟩ := h
  exact .inl (.inr ⟨o, e⟩)
end WS
set_option Elab.async false
set_option linter.all false
set_option maxRecDepth 100000
set_option maxHeartbeats 4000000
set_option Elab.async false
set_option linter.all false
set_option maxRecDepth 100000
set_option maxHeartbeats 4000000
set_option Elab.async false
set_option linter.all false
set_option maxRecDepth 100000
set_option maxHeartbeats 4000000
set_option Elab.async false
set_option linter.all false
set_option maxRecDepth 100000
set_option maxHeartbeats 4000000
namespace WS
open PySem PySem.Spec PyProof.Rows L2
/-! ### other names -/
section
variable {f : Str → Str} {ss : List Seat}
theorem rowE_perm {ps : List (Int × Int)} {is js : List Nat} {ds : List (Nat × Int)} (p : is.Perm js) : rowE ps is ds = rowE ps js ds := by
  unfold rowE
  rw [p.length_eq]
  refine congrArg (fun g => (List.range ps.length).map (rowG g ds)) ?_
  funext j
  unfold rowF
  by_cases c : j ∈ is
  · rw [if_pos c, if_pos (p.mem_iff.mp c)]
  · rw [if_neg c, if_neg fun z => c (p.mem_iff.mpr z)]
end
end WS
set_option Elab.async false
set_option linter.all false
set_option maxRecDepth 100000
set_option maxHeartbeats 4000000
set_option Elab.async false
set_option linter.all false
set_option maxRecDepth 100000
set_option maxHeartbeats 4000000
set_option Elab.async false
set_option linter.all false
set_option maxRecDepth 100000
set_option maxHeartbeats 4000000
set_option Elab.async false
set_option linter.all false
set_option maxRecDepth 100000
set_option maxHeartbeats 4000000
namespace WS
open PySem PySem.Spec PyProof.Rows L2
/-! ### data that is numbers, texts, tuples, lists: one just where it is equal -/
mutual
def pln : PyData → Bool
  | .int _ => true
  | .str _ => true
  | .tuple ds => plnAll ds
  | .list ds => plnAll ds
  | _ => false
def plnAll : List PyData → Bool
  | [] => true
  | d :: ds => pln d && plnAll ds
end
mutual
theorem eqv_pln : ∀ (d e : PyData), pln d = true → pln e = true → (PyData.eqv d e = true ↔ d = e)
  | .int i, e, _, k => by cases e <;> simp_all [pln, PyData.eqv]
  | .str i, e, _, k => by cases e <;> simp_all [pln, PyData.eqv]
  | .tuple xs, e, h, k => by
    cases e with
    | tuple ys =>
      have := eqv_plnAll xs ys (by simpa [pln] using h) (by simpa [pln] using k)
      simp only [PyData.eqv]
      rw [this]
      exact ⟨fun e => by rw [e], fun e => by injection e⟩
    | _ => simp_all [pln, PyData.eqv]
  | .list xs, e, h, k => by
    cases e with
    | list ys =>
      have := eqv_plnAll xs ys (by simpa [pln] using h) (by simpa [pln] using k)
      simp only [PyData.eqv]
      rw [this]
      exact ⟨fun e => by rw [e], fun e => by injection e⟩
    | _ => simp_all [pln, PyData.eqv]
  | .none, e, h, k => by simp [pln] at h
  | .bool _, e, h, k => by simp [pln] at h
  | .dict _, e, h, k => by simp [pln] at h
theorem eqv_plnAll : ∀ (d e : List PyData), plnAll d = true → plnAll e = true → (PyData.eqvAll d e = true ↔ d = e)
  | [], [], _, _ => by simp [PyData.eqvAll]
  | [], _ :: _, _, _ => by simp [PyData.eqvAll]
  | _ :: _, [], _, _ => by simp [PyData.eqvAll]
  | x :: xs, y :: ys, h, k => by
    simp only [plnAll, Bool.and_eq_true] at h k
    have h1 := eqv_pln x y h.1 k.1
    have h2 := eqv_plnAll xs ys h.2 k.2
    simp only [PyData.eqvAll, Bool.and_eq_true, h1, h2]
    exact ⟨fun ⟨a, b⟩ => by rw [a, b], fun e => by injection e with a b; exact ⟨a, b⟩⟩
end
theorem plnAll_map {α : Type} {f : α → PyData} (h : ∀ x, pln (f x) = true) : ∀ l : List α, plnAll (l.map f) = true
  | [] => rfl
  | x :: l => by
    show (pln (f x) && plnAll (l.map f)) = true
    rw [h x, plnAll_map h l]
    rfl
theorem eqv_lst {xs ys : List PyData} (h : plnAll xs = true) (k : plnAll ys = true) : PyData.eqv (.list xs) (.list ys) = true ↔ xs = ys :=
  (eqv_pln (.list xs) (.list ys) h k).trans ⟨fun e => by injection e, fun e => by rw [e]⟩
/-! ### a dict comprehension over what is walked -/
/-! ### sums ahead, falls, within, with several tables -/
open LamX in
theorem Tabs.lx {TT : List (Addr × Str)} {D : Addr} {H H' : Hp} {xs : List V} (t : Tabs TT H) (s : SameX D H H') (h : H D = some (.lst xs)) : Tabs TT H' := fun q hq => by
  obtain ⟨tp, h1, h2, h3⟩ := t q hq
  refine ⟨tp, s _ _ (fun z => by rw [z, h] at h1; cases h1) h1, h2, fun pos cv hc => ?_⟩
  obtain ⟨c, e1, e2⟩ := h3 pos cv hc
  exact ⟨c, e1, s _ _ (fun z => by rw [z, h] at e2; unfold CodeO at e2; cases e2) e2⟩
theorem fallsAt_no {w : Int} {ps : List (Int × Int)} {ord : List Nat} (hp : ∀ q ∈ ps, 0 < q.2) (k : Nat) : fallsAt w ps ord k = false ↔ sumF (fun j => rv (gp ps j)) (ord.take k) ≤ mostR w ps.length k := by
  have e1 : fallsAt w ps ord k = ltp (mo w ps.length k) (sumK ps ord k) := rfl
  have h2 : 0 < (sumK ps ord k).2 := fold_pos _ _ (by decide) fun q hq => by
    obtain ⟨i, hi, rfl⟩ := List.mem_map.mp hq
    exact gp_pos hp i
  have h1 : 0 < (mo w ps.length k).2 := (lo_lowest (by decide)).1
  rw [e1, ltp_no h1 h2, sumF_gp hp, rv_mo]
  exact Iff.rfl
theorem fallV_wth {w : Int} {ps : List (Int × Int)} {ord : List Nat} (h : RankedP ps ord) (hp : ∀ q ∈ ps, 0 < q.2) : fallV w ps ord = .non ↔ WthF w ps.length (fun j => rv (gp ps j)) := by
  unfold fallV
  cases z : (List.range (ps.length + 1)).find? (fallsAt w ps ord) with
  | none =>
    refine ⟨fun _ => wth_of h.1 (ranked_desc h hp) fun k hk => ?_, fun _ => rfl⟩
    have := List.find?_eq_none.mp z k (List.mem_range.mpr (by omega))
    exact (fallsAt_no hp k).mp (Bool.eq_false_iff.mpr this)
  | some k =>
    refine ⟨fun e => (by cases e), fun f => ?_⟩
    have h1 := List.find?_some z
    have h2 := List.mem_range.mp (List.mem_of_find?_eq_some z)
    have nd : ord.Nodup := h.1.nodup_iff.mpr List.nodup_range
    have := f (ord.take k) (nd.sublist (List.take_sublist _ _)) fun i hi => h.lt.2 i (List.mem_of_mem_take hi)
    rw [List.length_take, h.lt.1, Nat.min_eq_left (by omega)] at this
    rw [(fallsAt_no hp k).mpr this] at h1
    cases h1
theorem nought_iff {ps : List (Int × Int)} (hp : ∀ q ∈ ps, 0 < q.2) : ps.foldl pl (0, 1) = (0, 1) ↔ (ps.map rv).sum = 0 := by
  have e : rv (ps.foldl pl (0, 1)) = (ps.map rv).sum := by rw [rv_fold _ _ (by decide) hp, rv_nought, Rat.zero_add]
  constructor
  · intro h
    rw [← e, h, rv_nought]
  · intro h
    exact rv_inj (fold_low _ hp) ⟨by decide, by decide⟩ (by rw [e, h, rv_nought])
theorem New.same {H H1 : Hp} {p : Addr} (e : Same H H1) (n : New H1 p) : New H p := fun o z => n o (e _ _ z)
theorem New.ext {H H1 : Hp} {p : Addr} (e : LamX.ExtN H H1) (n : New H1 p) : New H p := fun o z => by
  by_cases ht : ∃ ps, o = .tbl ps
  · exact ht
  · exact n o (e _ _ z (fun tp e => ht ⟨tp, e⟩))
end WS
set_option Elab.async false
set_option linter.all false
set_option maxRecDepth 100000
set_option maxHeartbeats 4000000
namespace WS
open PySem PySem.Spec PyProof.Rows L2
/-! ### papers -/
/-! ### dicts whose keys are unlike -/
/-! ### promises -/
/-- a moment whose paper can be looked at -/
structure PMom (W : Int) (ss : List Seat) : Prop where
  l : ss.length ≤ 15
  w : 1 ≤ W
  b : Bt 1500 W
  ok : ∀ s ∈ ss, Ok2 240 100 s.2 ∧ Lowest s.2.1 s.2.2
  g : Good W ss
theorem Good.up {W W' : Int} {ss : List Seat} (g : Good W ss) (h : W ≤ W') : Good W' ss := ⟨g.w.up (cast_le.mpr h), g.z⟩
theorem good_sum {W : Int} {ss : List Seat} (g : Good W ss) : ((ss.map Prod.snd).map rv).sum = 0 := by
  rw [← sum_range_gp, List.length_map, ← g.z]
  unfold sumF
  congr 1
  exact List.map_congr_left fun i hi => ow_gp rfl i (List.mem_range.mp hi)
theorem PMom.ok250 {W : Int} {ss : List Seat} (h : PMom W ss) : ∀ s ∈ ss, Okp 250 s.2 := fun s hs => ⟨(h.ok s hs).1.1, (h.ok s hs).1.2.1.mono (by decide), (h.ok s hs).1.2.2.mono (by decide)⟩
theorem PMom.row {W : Int} {ss : List Seat} (h : PMom W ss) : ∀ q ∈ ss.map Prod.snd, Okp 250 q ∧ Lowest q.1 q.2 := fun q hq => by
  obtain ⟨s, hs, rfl⟩ := List.mem_map.mp hq
  exact ⟨h.ok250 s hs, (h.ok s hs).2⟩
end WS
set_option Elab.async false
set_option linter.all false
set_option maxRecDepth 100000
set_option maxHeartbeats 4000000
set_option Elab.async false
set_option linter.all false
set_option maxRecDepth 100000
set_option maxHeartbeats 4000000
namespace WS
open PySem PySem.Spec PyProof.Rows L2
/-! ### len(set(x)), x a list of unlike texts -/
section
variable {prog : Program} {w : World} {A : Around} {E : Value → Shared → Prop} {s : Shared}
/-- set(t), t a list of unlike texts -/
theorem call_set_listN {l : Addr} {items : Array Value} {xs : List Str} {Q : Value → Shared → Prop} (hh : A.handled = none) (hl : s.heap.IsList l items) (hi : PyProof.Rows.StrsAre items.toList xs) (hb : xs.length + 1 < scanBound) (hnd : xs.Nodup)
    (h : ∀ (h' : Heap) (tk : Nat), h'.SetOf (PySem.strKind prog w) s.heap.objs.size (fun k' => (xs.take items.size).any (· == k')) items.size → (∀ b o, b < s.heap.objs.size → s.heap.get? b = some o → h'.get? b = some o) → Q (.ref s.heap.objs.size) { s with heap := h', toks := tk }) :
    wpAny (model prog w) A (call (.type "set") [.ref l]) Q E s := by
  refine call_set_fill (Q₁ := fun obj s₁ => ∃ led : Bool, obj = .ref s.heap.objs.size ∧ s₁ = { s with heap := s.heap.push { cls := .type "set", dict := none, data := .set #[] 0 (.fresh 0 0 led) } }) (code_set_new_1 (.ref l) fun led => ⟨led, rfl, rfl⟩) fun obj s₁ h₁ => ?_
  obtain ⟨led, rfl, rfl⟩ := h₁
  generalize ho : ({ cls := .type "set", dict := none, data := .set #[] 0 (.fresh 0 0 led) } : Obj) = oS
  have hS : (s.heap.push oS).get? s.heap.objs.size = some oS := Heap.get?_push_size _ (by rw [← ho]; rfl)
  have hlS : l < s.heap.objs.size := by
    obtain ⟨o, e, _⟩ := hl
    exact Heap.lt_size e
  refine ⟨⟨oS, hS, by rw [← ho]⟩, ?_⟩
  obtain ⟨⟨oc, od, odat, osl⟩, e0, ec, nl, ed⟩ := id hl
  simp only at ec ed
  subst ec ed
  have e1 : (s.heap.push oS).get? l = some { cls := .type "list", dict := od, data := .seq items nl, slots := osl } := Heap.get?_push_of_some _ e0
  have hl1 : (s.heap.push oS).IsList l items := ⟨_, e1, rfl, nl, rfl⟩
  have f1 := PySem.F.sub_list_set
  have f2 := PySem.F.sub_list_frozenset
  have f3 : (Value.type "list" == Value.type "dict") = false := by decide
  have hT : Shared.TypeIs { s with heap := s.heap.push oS } (.ref s.heap.objs.size) "set" := ⟨oS, hS, by rw [← ho]⟩
  subst ho
  unfold Builtin.«set.__init__» noKeywords Builtin.Frozenset.updateFrom
  generalize hP : pyIter = PI
  wp_walk
  subst hP
  refine wpAny_pyIter_list hl1 (wpAny_bind (wpAny_runValue ?_))
  generalize ho : ({ cls := .type "set", dict := none, data := .set #[] 0 (.fresh 0 0 led) } : Obj) = oS at hS hl1 hT
  have sz : (s.heap.push oS).objs.size = s.heap.objs.size + 1 := Heap.size_push ..
  have el : xs.length = items.size := by rw [← PyProof.Rows.StrsAre.len_eq hi, Array.length_toList]
  have n1 : l ≠ (s.heap.push oS).objs.size := by rw [sz]; exact Nat.ne_of_lt (Nat.lt_succ_of_lt hlS)
  have h3 : A.in1.in1.in1.handled = none := hh
  refine loopStrN ((Walks.list h3 _ l n1 items).toS) s.heap.objs.size (by simp [sz]; exact Nat.ne_of_gt hlS) xs el (by omega) hnd (fun i v hv => SS.strs_at hi i v (by rw [Array.getElem?_toList]; exact hv)) items.size 0 _ (by omega) (Nat.zero_le _) ⟨⟨_, Heap.get?_push_size _ rfl, rfl, rfl⟩, hl1.push _⟩ ?_ fun s' hm hS' => ?_
  · exact PyProof.Rows.SetOf_congr ((PyProof.Rows.setObjOf_fresh (knd := PySem.strKind prog w) led).setOf (by rw [ho]; exact Heap.get?_push_of_some _ hS) (by unfold scanBound; omega)) (fun _ => rfl) rfl
  · obtain ⟨h', g', d', tk', os'⟩ := s'
    obtain rfl : g' = s.gens := hm.gens
    obtain rfl : d' = s.drawn := hm.drawn
    obtain rfl : os' = s.os := hm.os
    refine wpAny_pure (wpAny_pure ⟨rfl, h h' tk' hS' fun b o hb e => ?_⟩)
    exact hm.heap b o (by simp [sz]; exact ⟨Nat.ne_of_lt hb, Nat.ne_of_lt (Nat.lt_succ_of_lt hb)⟩) (Heap.get?_push_of_some _ (Heap.get?_push_of_some _ e))
end
def tLenSetL (K : PySem.W.Frag) (ta : TE) : TE := fun σ H Q => ta σ H fun x H1 => ∃ (l : Addr) (xs : List Str), x = .ref l ∧ SqL K H1 l (xs.map V.str) ∧ xs.Nodup ∧ xs.length ≤ 1000 ∧ Q (.int (xs.length : Nat)) H1
theorem pe_lenSetL {X : Cx} {a : Expr} {ta : TE} {p p2 q pos : Pos} (hc : X.calm = true) (hg : Gl X "len") (hm : X.mg "len" = none) (hg2 : Gl X "set") (hm2 : X.mg "set" = none) (ha : PE X a ta)
    (na : starEach [a] X.env = (false, eval a X.env) :: starEach [] X.env := by rfl) : PE X (.Call (.Name "len" p) [.Call (.Name "set" p2) [a] [] q] [] pos) (tLenSetL X.K ta) := by
  refine ⟨fun pins s σ H Q I h => ?_⟩
  refine Call_ (ld_blt I hg hm boot_len ?_)
  refine PyProof.Rows.callWith_builtin1 (PyProof.Rows.args_cons ?_ rfl) rfl rfl
  refine Call_ (ld_blt I hg2 hm2 boot_set ?_)
  refine PyProof.Rows.callWith_type1 (PyProof.Rows.args_cons (thn (ha.run pins s σ H _ I h) fun v s1 ⟨x, H1, I1, r1, q1⟩ => PyProof.Rows.args_nil ?_) na) na rfl
  obtain ⟨l, xs, rfl, hq, hnd, h1, q1⟩ := q1
  cases r1
  obtain ⟨its, r, pl, hz⟩ := I1.list hq
  have hl : its.toArray.size = xs.length := by rw [List.size_toArray, ← r.length, List.length_map]
  refine call_set_listN (I1.ok.hd hc) pl.isList (by simpa using strsAre_of r) (by unfold scanBound; omega) hnd fun h' tk hS hk => ?_
  refine PyProof.Rows.args_nil ?_
  rw [hl] at hS
  obtain ⟨o, es, ep, t, ho, hex, hd, _, _, _, hf, hn⟩ := hS
  have I2 : Inv X pins σ H1 { s1 with heap := h', toks := tk } := I1.kept fun b o e => hk b o (Heap.lt_size e) e
  exact call_len_set ho hex hd hf (by rw [hn]; omega) ⟨.int xs.length, H1, I2.tok _, ⟨_, by rw [hn]⟩, q1⟩
/-! repr in a comprehension -/
end WS
set_option Elab.async false
set_option linter.all false
set_option maxRecDepth 100000
set_option maxHeartbeats 4000000
namespace WS
open PySem PySem.Spec PyProof.Rows L2
/-! ### moments made of two -/
theorem filterMap_len {α β : Type} (a : α → Option β) : ∀ l : List α, (l.filterMap a).length ≤ l.length := fun l => List.length_filterMap_le _ _
theorem split_in (S : List Nat) (n : Nat) (hS : S.Nodup) (hn : ∀ i ∈ S, i < n) : (S ++ (List.range n).filter fun i => !decide (i ∈ S)).Perm (List.range n) := by
  have h := split_perm (List.range n) S
  refine List.Perm.trans (List.Perm.append_right _ ?_) h
  exact (sub_perm List.nodup_range hS fun i hi => List.mem_range.mpr (hn i hi)).symm
theorem cov_len {S : List Nat} {n m : Nat} {a : Nat → Option Nat} (hp : ((List.range n).filterMap a).Perm (List.range m)) (hS : S.Nodup) (hn : ∀ i ∈ S, i < n) : (S.filterMap a).Nodup ∧ (∀ j ∈ S.filterMap a, j < m) ∧ (S.filterMap a).length ≤ S.length ∧ m + S.length ≤ n + (S.filterMap a).length ∧ (S.filterMap a).length ≤ m := by
  have h1 := (split_in S n hS hn).filterMap a
  rw [List.filterMap_append] at h1
  have h2 := h1.trans hp
  have l1 := h2.length_eq
  have l2 := (split_in S n hS hn).length_eq
  rw [List.length_append, List.length_range] at l1 l2
  have nd := h2.nodup_iff.mpr List.nodup_range
  have l3 := filterMap_len a ((List.range n).filter fun i => !decide (i ∈ S))
  refine ⟨(List.nodup_append.mp nd).1, fun j hj => List.mem_range.mp (h2.mem_iff.mp (List.mem_append_left _ hj)), filterMap_len _ _, by omega, by omega⟩
theorem sum_fm (a : Nat → Option Nat) (g : Nat → Rat) : ∀ S : List Nat, sumF g (S.filterMap a) = (S.map fun i => (a i).elim 0 g).sum
  | [] => rfl
  | i :: S => by
    have ih := sum_fm a g S
    unfold sumF at *
    rw [List.filterMap_cons, List.map_cons, List.sum_cons]
    cases h : a i with
    | none =>
      simp only [Option.elim_none]
      rw [ih, Rat.zero_add]
    | some j =>
      simp only [Option.elim_some, List.map_cons, List.sum_cons]
      rw [ih]
theorem sum_two {f g h : Nat → Rat} {a b : Nat → Option Nat} (S : List Nat) (e : ∀ i ∈ S, f i = (a i).elim 0 g + (b i).elim 0 h) : sumF f S = sumF g (S.filterMap a) + sumF h (S.filterMap b) := by
  rw [sum_fm, sum_fm, ← sum_addR]
  unfold sumF
  congr 1
  exact List.map_congr_left fun i hi => e i hi
/-- side by side -/
theorem range_app (n m : Nat) : List.range (n + m) = List.range n ++ (List.range m).map fun j => n + j := List.range_add
theorem app_l (n m : Nat) : (List.range (n + m)).filterMap (fun i => if i < n then some i else none) = List.range n := by
  rw [range_app, List.filterMap_append]
  have e1 : (List.range n).filterMap (fun i => if i < n then some i else none) = List.range n := by
    refine (fm_congr fun i hi => ?_).trans List.filterMap_some
    rw [if_pos (List.mem_range.mp hi)]
  have e2 : ((List.range m).map fun j => n + j).filterMap (fun i => if i < n then some i else none) = [] := by
    rw [List.filterMap_eq_nil_iff]
    intro i hi
    obtain ⟨j, _, rfl⟩ := List.mem_map.mp hi
    rw [if_neg (by omega)]
  rw [e1, e2, List.append_nil]
theorem app_r (n m : Nat) : (List.range (n + m)).filterMap (fun i => if i < n then none else some (i - n)) = List.range m := by
  rw [range_app, List.filterMap_append]
  have e1 : (List.range n).filterMap (fun i => if i < n then none else some (i - n)) = [] := by
    rw [List.filterMap_eq_nil_iff]
    intro i hi
    rw [if_pos (List.mem_range.mp hi)]
  have e2 : ((List.range m).map fun j => n + j).filterMap (fun i => if i < n then none else some (i - n)) = List.range m := by
    rw [List.filterMap_map]
    refine (fm_congr fun i hi => ?_).trans List.filterMap_some
    show (if n + i < n then none else some (n + i - n)) = some i
    rw [if_neg (by omega), Nat.add_sub_cancel_left]
  rw [e1, e2, List.nil_append]
theorem gs_app_l {ss tt : List Seat} {i : Nat} (h : i < ss.length) : gs (ss ++ tt) i = gs ss i := by
  unfold gs
  rw [List.getD_eq_getElem?_getD, List.getD_eq_getElem?_getD, List.getElem?_append_left h]
theorem gs_app_r {ss tt : List Seat} {i : Nat} (h : ss.length ≤ i) : gs (ss ++ tt) i = gs tt (i - ss.length) := by
  unfold gs
  rw [List.getD_eq_getElem?_getD, List.getD_eq_getElem?_getD, List.getElem?_append_right h]
theorem both_len (n : Nat) : ∀ S : List Nat, (S.filterMap fun i => if i < n then some i else none).length + (S.filterMap fun i => if i < n then none else some (i - n)).length = S.length
  | [] => rfl
  | i :: S => by
    have ih := both_len n S
    rw [List.filterMap_cons, List.filterMap_cons]
    by_cases h : i < n
    · simp only [if_pos h, List.length_cons]
      omega
    · simp only [if_neg h, List.length_cons]
      omega
theorem mostR_app {W : Rat} {n m k l : Nat} (hW : 0 ≤ W) (h1 : k ≤ n) (h2 : l ≤ m) : mostR W n k + mostR W m l ≤ mostR W (n + m) (k + l) := by
  unfold mostR
  have e1 : (((n + m : Nat) : Int) : Rat) = (((n : Nat) : Int) : Rat) + (((m : Nat) : Int) : Rat) := by rw [← cast_add]; rfl
  have e2 : (((k + l : Nat) : Int) : Rat) = (((k : Nat) : Int) : Rat) + (((l : Nat) : Int) : Rat) := by rw [← cast_add]; rfl
  rw [e1, e2]
  have b1 : (((k : Nat) : Int) : Rat) ≤ (((n : Nat) : Int) : Rat) := cast_le.mpr (by omega)
  have b2 : (((l : Nat) : Int) : Rat) ≤ (((m : Nat) : Int) : Rat) := cast_le.mpr (by omega)
  have b3 : (0 : Rat) ≤ (((k : Nat) : Int) : Rat) := cast_nn (by omega)
  have b4 : (0 : Rat) ≤ (((l : Nat) : Int) : Rat) := cast_nn (by omega)
  generalize (((l : Nat) : Int) : Rat) = y at *
  generalize (((k : Nat) : Int) : Rat) = x at *
  generalize (((m : Nat) : Int) : Rat) = v at *
  generalize (((n : Nat) : Int) : Rat) = u at *
  have c1 := Rat.mul_nonneg b3 (show (0 : Rat) ≤ v - y by grind)
  have c2 := Rat.mul_nonneg b4 (show (0 : Rat) ≤ u - x by grind)
  have c3 := Rat.mul_nonneg hW c1
  have c4 := Rat.mul_nonneg hW c2
  have e : W * (x + y) * (u + v - (x + y)) = W * x * (u - x) + W * y * (v - y) + W * (x * (v - y)) + W * (y * (u - x)) := by grind
  rw [e]
  grind
theorem owF_app (ss tt : List Seat) (i : Nat) : owF (ss ++ tt) i = (if i < ss.length then some i else none).elim 0 (owF ss) + (if i < ss.length then none else some (i - ss.length)).elim 0 (owF tt) := by
  unfold owF
  by_cases h : i < ss.length
  · rw [if_pos h, if_pos h, gs_app_l h]
    simp [Rat.add_zero]
  · rw [if_neg h, if_neg h, gs_app_r (by omega)]
    simp [Rat.zero_add]
theorem good_app {W : Int} {ss tt : List Seat} (hW : 0 ≤ W) (g1 : Good W ss) (g2 : Good W tt) : Good W (ss ++ tt) := by
  refine ⟨fun S hS hn => ?_, ?_⟩
  · rw [List.length_append] at hn ⊢
    rw [sum_two S fun i _ => owF_app ss tt i]
    have ha : ((List.range (ss.length + tt.length)).filterMap (fun i => if i < ss.length then some i else none)).Perm (List.range ss.length) := by rw [app_l]
    have hb : ((List.range (ss.length + tt.length)).filterMap (fun i => if i < ss.length then none else some (i - ss.length))).Perm (List.range tt.length) := by rw [app_r]
    obtain ⟨n1, m1, l1, q1, r1⟩ := cov_len ha hS hn
    obtain ⟨n2, m2, l2, q2, r2⟩ := cov_len hb hS hn
    have w1 := g1.w _ n1 m1
    have w2 := g2.w _ n2 m2
    have := mostR_app (W := (W : Rat)) (cast_nn hW) r1 r2
    rw [both_len] at this
    grind
  · rw [List.length_append, sum_two _ fun i _ => owF_app ss tt i, app_l, app_r, g1.z, g2.z]
    grind
end WS
set_option Elab.async false
set_option linter.all false
set_option maxRecDepth 100000
set_option maxHeartbeats 4000000
namespace WS
open PySem PySem.Spec PyProof.Rows L2
/-! ### moments joined and parted -/
def spPair2 (K : PySem.W.Frag) : Sp := fun vs H Q _ => ∃ (a : Addr) (x y : V), vs = [.ref a] ∧ SqT K H a [x, y] ∧ ∀ H', Same H H' → Q (.bl true) H'
def spSeatOk (K : PySem.W.Frag) : Sp := fun vs H Q _ => ∃ (v : V) (s : Seat), vs = [v] ∧ Dp K H v (seatD s) ∧ Nm0 s.1 ∧ Lowest s.2.1 s.2.2 ∧ ∀ H', Same H H' → Q (.bl true) H'
theorem own_within {W : Int} {ss : List Seat} (w : WthF W ss.length (owF ss)) : WthF W (ss.map Prod.snd).length (fun j => rv (gp (ss.map Prod.snd) j)) := by
  rw [List.length_map]
  exact w.congr fun i hi => (ow_gp rfl i hi).symm
end WS
set_option Elab.async false
set_option linter.all false
set_option maxRecDepth 100000
set_option maxHeartbeats 4000000
namespace WS
open PySem PySem.Spec PyProof.Rows L2
/-! ### poured together -/
theorem pl_comm (p q : Int × Int) : pl p q = pl q p := by
  unfold pl
  rw [Int.add_comm, Int.mul_comm p.2 q.2]
end WS
set_option Elab.async false
set_option linter.all false
set_option maxRecDepth 100000
set_option maxHeartbeats 4000000
namespace WS
open PySem PySem.Spec PyProof.Rows L2
/-! ### poured: promises -/
theorem seat_pln (ss : List Seat) : plnAll (ss.map seatD) = true := plnAll_map (fun _ => rfl) ss
/-! sorted values as data -/
theorem seats_lay : ∀ xs : List PyData, (∀ x ∈ xs, ∃ s : Seat, x = seatD s ∧ Nm0 s.1) → PyData.canLayAll0 xs = true ∧ PyData.depthAll xs ≤ 8
  | [], _ => ⟨by simp [PyData.canLayAll0], by simp [PyData.depthAll]⟩
  | n :: ns, h => by
    obtain ⟨a, b⟩ := seats_lay ns fun x hx => h x (List.mem_cons_of_mem _ hx)
    obtain ⟨s, rfl, hz⟩ := h n List.mem_cons_self
    refine ⟨by simp [PyData.canLayAll0, PyData.canLay0, seatD, pdP, pd, a, strok_nm hz], ?_⟩
    simp only [PyData.depthAll, PyData.depth, seatD, pdP, pd]
    omega
theorem shaped_mom (W : Int) {ss : List Seat} (hz : ∀ s ∈ ss, Nm0 s.1) : SeqAt.shaped (momD W ss) = true := by
  obtain ⟨a, b⟩ := seats_lay (ss.map seatD) fun x hx => by obtain ⟨s, hs, rfl⟩ := List.mem_map.mp hx; exact ⟨s, rfl, hz s hs⟩
  unfold SeqAt.shaped momD
  rw [show (PyData.tuple [.int W, .tuple (ss.map seatD)]).canLay0 = true from by simp [PyData.canLay0, PyData.canLayAll0, a], Bool.true_and, decide_eq_true_eq]
  simp only [PyData.depth, PyData.depthAll]
  omega
theorem pln_momD (W : Int) (ss : List Seat) : pln (momD W ss) = true := by
  show (true && (plnAll (ss.map seatD) && true)) = true
  rw [seat_pln]
  rfl
/-! rows that change, row by row -/
end WS
set_option Elab.async false
set_option linter.all false
set_option maxRecDepth 100000
set_option maxHeartbeats 4000000
namespace WS
open PySem PySem.Spec PyProof.Rows L2
/-! ### poured, as the law does it: one person after the other -/
/-! a row more -/
theorem RowsN.push {K : PySem.W.Frag} {H H' : Hp} {L r : Addr} {rs : List V} {ls : List Seat} {s : Seat} {x : V} (h : RowsM K H L rs ls) (nr : H r = none) (hx : Dp K H x (pdP s.2)) (e : H' = upd (upd H r (.lst [.str s.1, x])) L (.lst (rs ++ [.ref r]))) : RowsM K H' L (rs ++ [.ref r]) (ls ++ [s]) := by
  have hL := h.1
  have nLr : L ≠ r := ne_of_none hL nr
  have e1 := same_new (o := .lst [.str s.1, x]) nr
  have k1 : KT H H' := by
    rw [e]
    exact (kt_same e1).trans (kt_set (e1 _ _ hL))
  refine ⟨by rw [e, upd_same], by simp [h.2.1], ?_, fun i v ev => ?_⟩
  · rw [List.nodup_append]
    refine ⟨h.2.2.1, by simp, fun c hc d hd ec => ?_⟩
    rw [List.mem_singleton.mp hd] at ec
    obtain ⟨i, hi⟩ := List.getElem?_of_mem hc
    obtain ⟨r2, x2, ev, _, h2, _⟩ := h.2.2.2 i c hi
    rw [ev] at ec
    cases ec
    rw [nr] at h2
    cases h2
  · have hl : rs.length = ls.length := h.2.1
    by_cases hi : i < rs.length
    · rw [List.getElem?_append_left hi] at ev
      obtain ⟨r2, x2, rfl, h1, h2, h3⟩ := h.2.2.2 i v ev
      have eg : gs (ls ++ [s]) i = gs ls i := gs_app_l (by omega)
      refine ⟨r2, x2, rfl, h1, ?_, ?_⟩
      · show H' r2 = some (.lst [.str (gs (ls ++ [s]) i).1, x2])
        rw [eg, e, upd_ne h1]
        exact e1 _ _ h2
      · show Dp K H' x2 (pdP (gs (ls ++ [s]) i).2)
        rw [eg]
        exact h3.kt k1 rfl
    · have hi2 : i = rs.length := by
        have := (List.getElem?_eq_some_iff.mp ev).1
        simp at this
        omega
      subst hi2
      rw [List.getElem?_append_right (Nat.le_refl _)] at ev
      obtain rfl : V.ref r = v := by simpa using ev
      have eg : gs (ls ++ [s]) rs.length = s := by
        rw [gs_app_r (by omega), hl, Nat.sub_self]
        rfl
      refine ⟨r, x, rfl, nLr.symm, ?_, ?_⟩
      · show H' r = some (.lst [.str (gs (ls ++ [s]) rs.length).1, x])
        rw [eg, e, upd_ne nLr.symm, upd_same]
      · show Dp K H' x (pdP (gs (ls ++ [s]) rs.length).2)
        rw [eg]
        exact hx.kt k1 rfl
end WS
set_option Elab.async false
set_option linter.all false
set_option maxRecDepth 100000
set_option maxHeartbeats 4000000
namespace WS
open PySem PySem.Spec PyProof.Rows L2
/-! ### the kitty, step by step -/
def kit (ss : List Seat) : Int × Int := (kittyL ss).foldl pl (0, 1)
structure KM (D : Nat) (W : Int) (ss : List Seat) : Prop where
  l : ss.length ≤ 12
  w : 1 ≤ W
  b : Bt 100 W
  nd : (names ss).Nodup
  nm : ∀ s ∈ ss, Nm0 s.1
  low : ∀ s ∈ ss, Lowest s.2.1 s.2.2 ∧ Bt D s.2.2
  g : Good W ss
theorem KM.pos {D : Nat} {W : Int} {ss : List Seat} (h : KM D W ss) : ∀ s ∈ ss, 0 < s.2.2 := fun s hs => (h.low s hs).1.1
theorem KM.ok2 {D : Nat} {W : Int} {ss : List Seat} (h : KM D W ss) : ∀ s ∈ ss, Ok2 (100 + 4 + D) D s.2 :=
  good_bits h.w h.g h.b (by have := h.l; omega) fun s hs => ⟨h.pos s hs, (h.low s hs).2⟩
theorem KM.mono {D D' : Nat} {W : Int} {ss : List Seat} (h : KM D W ss) (k : D ≤ D') : KM D' W ss :=
  ⟨h.l, h.w, h.b, h.nd, h.nm, fun s hs => ⟨(h.low s hs).1, (h.low s hs).2.mono k⟩, h.g⟩
theorem sumF_congr {f g : Nat → Rat} {S : List Nat} (h : ∀ i ∈ S, f i = g i) : sumF f S = sumF g S := by
  unfold sumF
  rw [List.map_congr_left h]
theorem sumF_add (f g : Nat → Rat) (S : List Nat) : sumF (fun k => f k + g k) S = sumF f S + sumF g S := sum_addR f g S
theorem sumF_ind (c : Rat) (i : Nat) : ∀ S : List Nat, S.Nodup → sumF (fun k => if k = i then c else 0) S = if i ∈ S then c else 0
  | [], _ => rfl
  | k :: S, h => by
    rw [List.nodup_cons] at h
    have ih := sumF_ind c i S h.2
    unfold sumF at *
    rw [List.map_cons, List.sum_cons, ih]
    by_cases e : k = i
    · subst e
      rw [if_pos rfl, if_neg h.1, if_pos List.mem_cons_self, Rat.add_zero]
    · rw [if_neg e, Rat.zero_add]
      by_cases m : i ∈ S
      · rw [if_pos m, if_pos (List.mem_cons_of_mem _ m)]
      · rw [if_neg m, if_neg (fun z => (List.mem_cons.mp z).elim (fun z => e z.symm) m)]
/-! a seat taken or left -/
theorem put_set {ss : List Seat} {i : Nat} {z : Str} (h : i < ss.length) : put ss i z = ss.set i (z, (gs ss i).2) := by
  unfold put
  rw [List.set_eq_take_append_cons_drop, if_pos h]
  simp
theorem gs_put {ss : List Seat} {i : Nat} {z : Str} (h : i < ss.length) (k : Nat) : gs (put ss i z) k = if k = i then (z, (gs ss i).2) else gs ss k := by
  rw [put_set h]
  generalize (gs ss i).2 = q
  unfold gs
  rw [List.getD_eq_getElem?_getD, List.getD_eq_getElem?_getD, List.getElem?_set]
  by_cases e : i = k
  · subst e
    rw [if_pos rfl, if_pos h, if_pos rfl]
    rfl
  · rw [if_neg e, if_neg (fun z => e z.symm)]
theorem owF_put {ss : List Seat} {i : Nat} {z : Str} (h : i < ss.length) (k : Nat) : owF (put ss i z) k = owF ss k := by
  unfold owF
  rw [gs_put h]
  by_cases e : k = i
  · rw [if_pos e, e]
  · rw [if_neg e]
theorem put_end (ss : List Seat) (z : Str) : put ss ss.length z = ss ++ [(z, (0, 1))] := by
  unfold put
  rw [List.take_length, List.drop_eq_nil_of_le (by omega), List.append_nil]
  have : gs ss ss.length = (("", (0, 1)) : Seat) := by
    unfold gs
    rw [List.getD_eq_getElem?_getD, List.getElem?_eq_none (by omega)]
    rfl
  rw [this]
theorem Good.put {W : Int} {ss : List Seat} {i : Nat} {z : Str} (g : Good W ss) (h : i < ss.length) : Good W (put ss i z) := by
  have el : (WS.put ss i z).length = ss.length := by rw [put_len ss i z (by omega), if_pos h]
  refine ⟨?_, ?_⟩
  · rw [el]
    exact g.w.congr fun k _ => (owF_put h k).symm
  · rw [el, ← g.z]
    exact sumF_congr fun k _ => owF_put h k
theorem gs_low {D : Nat} {W : Int} {ss : List Seat} (h : KM D W ss) (hD : 1 ≤ D) (i : Nat) : Lowest (gs ss i).2.1 (gs ss i).2.2 ∧ Bt D (gs ss i).2.2 := by
  by_cases c : i < ss.length
  · exact h.low _ (gs_mem c)
  · have : gs ss i = (("", (0, 1)) : Seat) := by
      unfold gs
      rw [List.getD_eq_getElem?_getD, List.getElem?_eq_none (by omega)]
      rfl
    rw [this]
    exact ⟨⟨by decide, by decide⟩, (show Bt 1 1 by unfold Bt; decide).mono hD⟩
theorem KM.come {D : Nat} {W : Int} {ss : List Seat} {z : Str} (h : KM D W ss) (hD : 1 ≤ D) (hz : Nm z) (hn : z ∉ names ss) (hl : room ss = ss.length → ss.length < 12) : KM D W (put ss (room ss) z) := by
  have hr := room_le ss
  have h12 := h.l
  refine ⟨?_, h.w, h.b, nd_come h.nd hz hn, fun s hs => ?_, fun s hs => ?_, ?_⟩
  · rw [put_len ss _ z hr]
    by_cases c : room ss < ss.length
    · rw [if_pos c]
      exact h12
    · rw [if_neg c]
      have := hl (by omega)
      omega
  · rcases put_mem hs with hs | rfl
    · exact h.nm s hs
    · exact .inr hz
  · rcases put_mem hs with hs | rfl
    · exact h.low s hs
    · exact gs_low h hD _
  · by_cases c : room ss < ss.length
    · exact h.g.put c
    · have e : room ss = ss.length := by omega
      rw [e, put_end]
      exact good_zeros (by have := h.w; omega) h.g [z]
theorem KM.leave {D : Nat} {W : Int} {ss : List Seat} {i : Nat} (h : KM D W ss) (hD : 1 ≤ D) (hi : i < ss.length) : KM D W (put ss i "") := by
  refine ⟨?_, h.w, h.b, nd_leave h.nd hi, fun s hs => ?_, fun s hs => ?_, h.g.put hi⟩
  · rw [put_len ss _ _ (by omega), if_pos hi]
    exact h.l
  · rcases put_mem hs with hs | rfl
    · exact h.nm s hs
    · exact .inl rfl
  · rcases put_mem hs with hs | rfl
    · exact h.low s hs
    · exact gs_low h hD _
def ng (p : Int × Int) : Int × Int := (0 - p.1, p.2)
theorem rv_ng (p : Int × Int) : rv (ng p) = - rv p := by
  unfold rv ng
  show ((0 - p.1 : Int) : Rat) / (p.2 : Rat) = _
  rw [cast_sub]
  simp only [Rat.div_def]
  show ((0 : Rat) - _) * _ = _
  grind
theorem pl_low {p q : Int × Int} (hp : 0 < p.2) (hq : 0 < q.2) : Lowest (pl p q).1 (pl p q).2 := lo_lowest (Int.mul_pos hp hq)
/-! a gift -/
def giftR (ps : List (Int × Int)) (i j : Nat) (q : Int × Int) : List (Int × Int) := (ps.set i (mi (gp ps i) q)).set j (pl (gp (ps.set i (mi (gp ps i) q)) j) q)
def giftS (ss : List Seat) (i j : Nat) (q : Int × Int) : List Seat := setRow ss (giftR (ss.map Prod.snd) i j q)
theorem giftR_len (ps : List (Int × Int)) (i j : Nat) (q : Int × Int) : (giftR ps i j q).length = ps.length := by
  unfold giftR
  rw [List.length_set, List.length_set]
theorem gp_set {ps : List (Int × Int)} {i k : Nat} {p : Int × Int} (h : i < ps.length) : gp (ps.set i p) k = if k = i then p else gp ps k := by
  unfold gp
  rw [List.getD_eq_getElem?_getD, List.getD_eq_getElem?_getD, List.getElem?_set]
  by_cases e : i = k
  · subst e
    rw [if_pos rfl, if_pos h, if_pos rfl]
    rfl
  · rw [if_neg e, if_neg (fun z => e z.symm)]
theorem giftR_at {ps : List (Int × Int)} {i j k : Nat} {q : Int × Int} (hi : i < ps.length) (hj : j < ps.length) (ne : i ≠ j) : gp (giftR ps i j q) k = if k = j then pl (gp ps j) q else if k = i then mi (gp ps i) q else gp ps k := by
  have e1 : gp (ps.set i (mi (gp ps i) q)) j = gp ps j := by rw [gp_set hi, if_neg (fun z => ne z.symm)]
  unfold giftR
  rw [e1, gp_set (by rw [List.length_set]; exact hj), gp_set hi]
theorem setRow_fst {ss : List Seat} {ps : List (Int × Int)} (h : ps.length = ss.length) : (setRow ss ps).map Prod.fst = ss.map Prod.fst := by
  unfold setRow
  rw [List.map_map]
  have : (Prod.fst ∘ fun x : Seat × (Int × Int) => (x.1.1, x.2)) = (Prod.fst : Seat → Str) ∘ (Prod.fst : Seat × (Int × Int) → Seat) := rfl
  rw [this, ← List.map_map, List.map_fst_zip (by omega)]
theorem setRow_mem {ss : List Seat} {ps : List (Int × Int)} {s : Seat} (h : s ∈ setRow ss ps) : (∃ t ∈ ss, s.1 = t.1) ∧ s.2 ∈ ps := by
  unfold setRow at h
  obtain ⟨x, hx, rfl⟩ := List.mem_map.mp h
  exact ⟨⟨x.1, (List.of_mem_zip hx).1, rfl⟩, (List.of_mem_zip hx).2⟩
theorem giftR_mem {ps : List (Int × Int)} {i j : Nat} {q p : Int × Int} (hi : i < ps.length) (hj : j < ps.length) (h : p ∈ giftR ps i j q) : p ∈ ps ∨ (∃ r ∈ ps, p = mi r q) ∨ (∃ r ∈ ps, p = pl r q) ∨ ∃ r ∈ ps, p = pl (mi r q) q := by
  have gm : ∀ k, k < ps.length → gp ps k ∈ ps := fun k hk => by
    unfold gp
    rw [List.getD_eq_getElem?_getD, List.getElem?_eq_getElem hk]
    exact List.getElem_mem hk
  unfold giftR at h
  rcases List.mem_or_eq_of_mem_set h with h | rfl
  · rcases List.mem_or_eq_of_mem_set h with h | rfl
    · exact .inl h
    · exact .inr (.inl ⟨_, gm i hi, rfl⟩)
  · rw [gp_set hi]
    by_cases c : j = i
    · rw [if_pos c]
      exact .inr (.inr (.inr ⟨_, gm i hi, rfl⟩))
    · rw [if_neg c]
      exact .inr (.inr (.inl ⟨_, gm j hj, rfl⟩))
theorem den_one {D : Nat} {p : Int × Int} {g : Int} (hp : 0 < p.2) (hd : Bt D p.2) : (Lowest (pl p (g, 1)).1 (pl p (g, 1)).2 ∧ Bt D (pl p (g, 1)).2) ∧ Lowest (mi p (g, 1)).1 (mi p (g, 1)).2 ∧ Bt D (mi p (g, 1)).2 := by
  have any : ∀ a : Int, Bt a.natAbs a := fun a => Nat.lt_two_pow_self
  have h1 : 0 < p.2 * 1 := by omega
  have h2 : Bt D (p.2 * 1) := by rw [Int.mul_one]; exact hd
  exact ⟨⟨lo_lowest h1, (ok2_lo h1 (any _) h2).2.2⟩, lo_lowest h1, (ok2_lo h1 (any _) h2).2.2⟩
theorem owF_gift {ss : List Seat} {i j k : Nat} {q : Int × Int} (hp : ∀ s ∈ ss, 0 < s.2.2) (hq : 0 < q.2) (hi : i < ss.length) (hj : j < ss.length) (ne : i ≠ j) (hk : k < ss.length) : owF (giftS ss i j q) k = owF ss k + ((if k = j then rv q else 0) + if k = i then - rv q else 0) := by
  have el : (giftR (ss.map Prod.snd) i j q).length = ss.length := by rw [giftR_len, List.length_map]
  have pi : 0 < (gs ss i).2.2 := hp _ (gs_mem hi)
  have pj : 0 < (gs ss j).2.2 := hp _ (gs_mem hj)
  unfold owF giftS
  rw [gs_setRow hk el]
  show rv (gp _ k) = _
  rw [giftR_at (by rw [List.length_map]; exact hi) (by rw [List.length_map]; exact hj) ne, gp_snd ss hi, gp_snd ss hj, gp_snd ss hk]
  by_cases a : k = j
  · subst a
    rw [if_pos rfl, if_pos rfl, if_neg (fun z => ne z.symm), rv_pl pj hq, Rat.add_zero]
  · rw [if_neg a, if_neg a]
    by_cases b : k = i
    · subst b
      rw [if_pos rfl, if_pos rfl, rv_mi pi hq]
      grind
    · rw [if_neg b, if_neg b, Rat.add_zero, Rat.add_zero]
theorem sum_gift {ss : List Seat} {i j : Nat} {q : Int × Int} (hp : ∀ s ∈ ss, 0 < s.2.2) (hq : 0 < q.2) (hi : i < ss.length) (hj : j < ss.length) (ne : i ≠ j) {S : List Nat} (hS : S.Nodup) (hl : ∀ k ∈ S, k < ss.length) : sumF (owF (giftS ss i j q)) S = sumF (owF ss) S + ((if j ∈ S then rv q else 0) + if i ∈ S then - rv q else 0) := by
  rw [sumF_congr fun k hk => owF_gift hp hq hi hj ne (hl k hk), sumF_add, sumF_add, sumF_ind _ _ _ hS, sumF_ind _ _ _ hS]
/-- a gift from one that owes more keeps within -/
theorem good_gift {W : Int} {ss : List Seat} {i j : Nat} {q : Int × Int} (g : Good W ss) (hp : ∀ s ∈ ss, 0 < s.2.2) (hq : 0 < q.2) (hi : i < ss.length) (hj : j < ss.length) (ne : i ≠ j) (h0 : 0 ≤ rv q) (h1 : rv q ≤ owF ss i - owF ss j) : Good W (giftS ss i j q) := by
  have el : (giftS ss i j q).length = ss.length := by
    unfold giftS
    rw [setRow_len (by rw [giftR_len, List.length_map])]
  refine ⟨?_, ?_⟩
  · rw [el]
    intro S hS hl
    rw [sum_gift hp hq hi hj ne hS hl]
    have w1 := g.w S hS hl
    by_cases a : j ∈ S
    · by_cases b : i ∈ S
      · rw [if_pos a, if_pos b]
        grind
      · rw [if_pos a, if_neg b]
        have e1 := sumF_perm (f := owF ss) (List.perm_cons_erase a)
        have w2 := g.w (i :: S.erase j) (List.nodup_cons.mpr ⟨fun z => b (List.mem_of_mem_erase z), hS.sublist List.erase_sublist⟩) (fun k hk => (List.mem_cons.mp hk).elim (fun z => z ▸ hi) fun z => hl k (List.mem_of_mem_erase z))
        have e2 : (i :: S.erase j).length = S.length := (List.perm_cons_erase a).length_eq.symm
        rw [e2] at w2
        have c : ∀ (x : Nat) (T : List Nat), sumF (owF ss) (x :: T) = owF ss x + sumF (owF ss) T := fun _ _ => rfl
        rw [c] at e1 w2
        generalize sumF (owF ss) (S.erase j) = x at e1 w2
        generalize mostR _ _ _ = y at w1 w2 ⊢
        grind
    · rw [if_neg a]
      by_cases b : i ∈ S
      · rw [if_pos b]
        grind
      · rw [if_neg b]
        grind
  · rw [el, sum_gift hp hq hi hj ne List.nodup_range (fun k hk => List.mem_range.mp hk), g.z, if_pos (List.mem_range.mpr hj), if_pos (List.mem_range.mpr hi)]
    grind
theorem names_of {ss tt : List Seat} (h : tt.map Prod.fst = ss.map Prod.fst) : names tt = names ss := by
  unfold names
  rw [h]
theorem KM.gift {D : Nat} {W : Int} {ss : List Seat} {i j : Nat} {g : Int} (h : KM D W ss) (hi : i < ss.length) (hj : j < ss.length) (ne : i ≠ j) (h0 : 0 ≤ g) (h1 : (g : Rat) ≤ owF ss i - owF ss j) : KM D W (giftS ss i j (g, 1)) ∧ names (giftS ss i j (g, 1)) = names ss := by
  have rl : (giftR (ss.map Prod.snd) i j (g, 1)).length = ss.length := by rw [giftR_len, List.length_map]
  have nm : names (giftS ss i j (g, 1)) = names ss := names_of (setRow_fst rl)
  have rg : rv (g, 1) = (g : Rat) := by
    show (g : Rat) / ((1 : Int) : Rat) = _
    rw [Rat.div_def]
    show (g : Rat) * (1 : Rat)⁻¹ = _
    grind
  refine ⟨⟨?_, h.w, h.b, by rw [nm]; exact h.nd, fun s hs => ?_, fun s hs => ?_, ?_⟩, nm⟩
  · unfold giftS
    rw [setRow_len rl]
    exact h.l
  · obtain ⟨⟨t, ht, e⟩, _⟩ := setRow_mem hs
    rw [e]
    exact h.nm t ht
  · have hm := (setRow_mem hs).2
    have all : ∀ r ∈ ss.map Prod.snd, Lowest r.1 r.2 ∧ Bt D r.2 := fun r hr => by
      obtain ⟨s, hs, rfl⟩ := List.mem_map.mp hr
      exact h.low s hs
    rcases giftR_mem (by rw [List.length_map]; exact hi) (by rw [List.length_map]; exact hj) hm with hm | ⟨r, hr, e⟩ | ⟨r, hr, e⟩ | ⟨r, hr, e⟩
    · exact all _ hm
    · rw [e]
      exact (den_one (all r hr).1.1 (all r hr).2).2
    · rw [e]
      exact (den_one (all r hr).1.1 (all r hr).2).1
    · rw [e]
      have m := (den_one (g := g) (all r hr).1.1 (all r hr).2).2
      exact (den_one m.1.1 m.2).1
  · refine good_gift (q := (g, 1)) h.g h.pos (show (0 : Int) < 1 by decide) hi hj ne ?_ ?_
    · rw [rg]
      exact cast_nn h0
    · rw [rg]
      exact h1
/-! the kitty within the most -/
end WS
set_option Elab.async false
set_option linter.all false
set_option maxRecDepth 100000
set_option maxHeartbeats 4000000
namespace WS
open PySem PySem.Spec PyProof.Rows L2
/-! ### promises of the kitty's law -/
def ExtY (p L : Addr) (H H' : Hp) : Prop := ∀ b o, b ≠ p → b ≠ L → H b = some o → (∀ ps, o ≠ .tbl ps) → H' b = some o
theorem ExtY.refl (p L : Addr) (H : Hp) : ExtY p L H H := fun _ _ _ _ h _ => h
theorem ExtY.trans {p L : Addr} {H H1 H2 : Hp} (a : ExtY p L H H1) (b : ExtY p L H1 H2) : ExtY p L H H2 := fun c o n m h t => b c o n m (a c o n m h t) t
theorem ExtY.x {p L : Addr} {H H1 : Hp} (e : ExtX p H H1) : ExtY p L H H1 := fun b o n _ h t => e b o n h t
theorem ExtY.l {p L : Addr} {H : Hp} {o' : HO} : ExtY p L H (upd H L o') := fun b o _ m h _ => by
  rw [upd_ne m]
  exact h
theorem ExtX.kt {p : Addr} {H H1 : Hp} (e : ExtX p H H1) (hp : PotAt H p) : KT H H1 := by
  obtain ⟨x, y, hp, _⟩ := hp
  exact ⟨fun a xs h => e _ _ (ne_of h hp (by intro z; cases z)) h (fun _ z => by cases z), fun a o xs h => e _ _ (ne_of h hp (by intro z; cases z)) h (fun _ z => by cases z)⟩
theorem ExtY.kt {p L : Addr} {H H1 : Hp} {ys : List V} (e : ExtY p L H H1) (hp : PotAt H p) (hL : H L = some (.lst ys)) : KT H H1 := by
  obtain ⟨x, y, hp, _⟩ := hp
  exact ⟨fun a xs h => e _ _ (ne_of h hp (by intro z; cases z)) (ne_of h hL (by intro z; cases z)) h (fun _ z => by cases z), fun a o xs h => e _ _ (ne_of h hp (by intro z; cases z)) (ne_of h hL (by intro z; cases z)) h (fun _ z => by cases z)⟩
theorem ExtX.lst {p L : Addr} {H H1 : Hp} {ys : List V} (e : ExtX p H H1) (n : L ≠ p) (h : H L = some (.lst ys)) : H1 L = some (.lst ys) := e _ _ n h (fun _ z => by cases z)
/-- the names that sit, and those that are left -/
structure KS (ss : List Seat) (left : List Str) : Prop where
  nd : (names ss ++ left).Nodup
  nm : ∀ z ∈ left, Nm z
  n : (names ss).length + left.length = 12
theorem names_come {ss : List Seat} {z : Str} (hz : z ≠ "") : (names (put ss (room ss) z)).Perm (z :: names ss) := by
  have hr := room_le ss
  by_cases c : room ss < ss.length
  · have e : names [gs ss (room ss)] = [] := by
      unfold names
      simp [room_free c]
    rw [names_put, if_neg hz, names_split ss (room ss) c, e, List.append_nil, List.append_assoc, List.singleton_append]
    exact List.perm_middle
  · have e : room ss = ss.length := by omega
    have e1 : names [((z, (0, 1)) : Seat)] = [z] := by
      unfold names
      simp [hz]
    rw [e, put_end, names_app, e1]
    exact List.perm_append_singleton z (names ss)
theorem names_leave {ss : List Seat} {i : Nat} (h : i < ss.length) (hz : (gs ss i).1 ≠ "") : (names ss).Perm ((gs ss i).1 :: names (put ss i "")) := by
  have e : names [gs ss i] = [(gs ss i).1] := by
    unfold names
    simp [hz]
  rw [names_put, if_pos rfl, List.append_nil, names_split ss i h, e, List.append_assoc, List.singleton_append]
  exact List.perm_middle
theorem cons_erase {α : Type} : ∀ {l : List α} {i : Nat} (h : i < l.length), (l[i] :: l.eraseIdx i).Perm l
  | [], i, h => absurd h (Nat.not_lt_zero _)
  | a :: l, 0, _ => List.Perm.refl _
  | a :: l, i + 1, h => by
    have hi : i < l.length := by simpa using h
    exact (List.Perm.swap a (l[i]'hi) (l.eraseIdx i)).trans ((cons_erase hi).cons a)
theorem KS.come {ss : List Seat} {left : List Str} {i : Nat} {z : Str} (h : KS ss left) (hi : left[i]? = some z) : KS (put ss (room ss) z) (left.eraseIdx i) ∧ z ≠ "" ∧ Nm z ∧ z ∉ names ss := by
  obtain ⟨il, e⟩ := List.getElem?_eq_some_iff.mp hi
  have mz : z ∈ left := List.mem_of_getElem? hi
  have n0 := h.nm z mz
  have zn : z ≠ "" := nm_ne n0
  have pl : (z :: left.eraseIdx i).Perm left := by
    rw [← e]
    exact cons_erase il
  have pn := names_come (ss := ss) zn
  have pp : (names (put ss (room ss) z) ++ left.eraseIdx i).Perm (names ss ++ left) := by
    refine (pn.append_right _).trans ?_
    rw [List.cons_append]
    exact (List.perm_middle.symm).trans (pl.append_left _)
  refine ⟨⟨pp.nodup_iff.mpr h.nd, fun y hy => h.nm y (pl.subset (List.mem_cons_of_mem _ hy)), ?_⟩, zn, n0, fun hm => (List.nodup_append.mp h.nd).2.2 z hm z mz rfl⟩
  have a := pp.length_eq
  have b := h.n
  rw [List.length_append, List.length_append] at a
  omega
theorem KS.leave {ss : List Seat} {left : List Str} {i : Nat} (h : KS ss left) (hi : i < ss.length) (hz : (gs ss i).1 ≠ "") (hn : Nm (gs ss i).1) : KS (put ss i "") (left ++ [(gs ss i).1]) := by
  have pn := names_leave hi hz
  have pp : (names (put ss i "") ++ (left ++ [(gs ss i).1])).Perm (names ss ++ left) := by
    refine List.Perm.trans ?_ (pn.symm.append_right left)
    rw [← List.append_assoc]
    exact List.perm_append_singleton _ _
  refine ⟨pp.nodup_iff.mpr h.nd, fun y hy => ?_, ?_⟩
  · rcases List.mem_append.mp hy with hy | hy
    · exact h.nm y hy
    · rw [List.mem_singleton.mp hy]
      exact hn
  · have a := pp.length_eq
    have b := h.n
    rw [List.length_append, List.length_append (as := names ss)] at a
    omega
theorem KM.okp {D : Nat} {W : Int} {ss : List Seat} (h : KM D W ss) (hD : D ≤ 104) : ∀ s ∈ ss, Okp 240 s.2 := fun s hs => by
  have o := h.ok2 s hs
  exact ⟨o.1, o.2.1.mono (by omega), o.2.2.mono (by omega)⟩
theorem okp_nought {n : Nat} (h : 1 ≤ n) : Okp n ((0, 1) : Int × Int) := ⟨by decide, (show Bt 1 0 by unfold Bt; decide).mono h, (show Bt 1 1 by unfold Bt; decide).mono h⟩
theorem Bt.ng {n : Nat} {a : Int} (h : Bt n a) : Bt n (0 - a) := by
  unfold Bt at *
  omega
theorem Okp.ng {n : Nat} {p : Int × Int} (h : Okp n p) : Okp n (ng p) := ⟨h.1, h.2.1.ng, h.2.2⟩
theorem KM.start {W : Int} (h : 1 ≤ W) (hb : Bt 100 W) : KM 1 W [] :=
  ⟨by decide, h, hb, by simp [names], fun s hs => by simp at hs, fun s hs => by simp at hs, ⟨fun S hS hl => by
    have : S = [] := List.eq_nil_iff_forall_not_mem.mpr fun i hi => absurd (hl i hi) (Nat.not_lt_zero _)
    rw [this]
    show (0 : Rat) ≤ (W : Rat) * ((0 : Int) : Rat) * (((0 : Int) : Rat) - ((0 : Int) : Rat)) / 2
    rw [show ((0 : Int) : Rat) = 0 from rfl]
    grind, rfl⟩⟩
def spMinusL (K : PySem.W.Frag) : Sp := fun vs H Q _ => ∃ (u v : V) (p q : Int × Int), vs = [u, v] ∧ TupI K H u p.1 p.2 ∧ TupI K H v q.1 q.2 ∧ Okp 1000 p ∧ Okp 1000 q ∧ ∀ v' H', Same H H' → TupI K H' v' (mi p q).1 (mi p q).2 → Q v' H'
theorem ExtX.y {p L : Addr} {H H1 H2 : Hp} (e : ExtX p H H1) (y : ExtY p L H1 H2) (n : H L = none) : ExtX p H H2 := fun b o nb h t =>
  y b o nb (fun z => by rw [z, n] at h; cases h) (e b o nb h t) t
/-- what stays between the steps -/
def KI (K : PySem.W.Frag) (TT : List (Addr × Str)) (H0 : Hp) (p L : Addr) (W : Int) (i : Nat) (v u : V) (te : Addr) (H : Hp) : Prop := ∃ ss left es ev eu, PotAt H p ∧ H L = some (.lst (left.map V.str)) ∧ Dp K H v (momD W ss) ∧ KM (1 + 4 * i) W ss ∧ KS ss left ∧ TupI K H u (kit ss).1 (kit ss).2 ∧ SqT K H te [ev, eu] ∧ Dp K H ev (momD W es) ∧ KM 104 W es ∧ TupI K H eu (kit es).1 (kit es).2 ∧ LamX.Tabs TT H ∧ ExtX p H0 H
theorem KI.x {K : PySem.W.Frag} {TT : List (Addr × Str)} {H0 H H' : Hp} {p L : Addr} {W : Int} {i : Nat} {v u : V} {te : Addr} (h : KI K TT H0 p L W i v u te H) (s : SameX p H H') (hp : PotAt H' p) : KI K TT H0 p L W i v u te H' := by
  obtain ⟨ss, left, es, ev, eu, a, b, c, d, e, f, g, h, j, k, l, m⟩ := h
  have kk := kt_x s a
  exact ⟨ss, left, es, ev, eu, hp, s _ _ (nSp b a) b, c.kt kk (mom_imm _ _), d, e, f.k kk, kk.sqt g, h.kt kk (mom_imm _ _), j, k.k kk, Tabs.x l s a, m.trans (ExtX.x s)⟩
end WS
set_option Elab.async false
set_option linter.all false
set_option maxRecDepth 100000
set_option maxHeartbeats 4000000
namespace WS
open PySem PySem.Spec PyProof.Rows L2
/-! ### things of any shape -/
inductive Tg where
  | non
  | bl (b : Bool)
  | int (i : Int)
  | str (z : Str)
  | tup (ts : List Tg)
  | lst (ts : List Tg)
  | dct
mutual
inductive Th (p : Addr) (K : PySem.W.Frag) (H : Hp) : V → Tg → Prop
  | non : Th p K H .non .non
  | bl (b : Bool) : Th p K H (.bl b) (.bl b)
  | int (i : Int) : Th p K H (.int i) (.int i)
  | str (z : Str) : Th p K H (.str z) (.str z)
  | tup {a : Addr} {xs : List V} {ts : List Tg} : SqT K H a xs → ThAll p K H xs ts → Th p K H (.ref a) (.tup ts)
  | lst {a : Addr} {xs : List V} {ts : List Tg} : a ≠ p → H a = some (.lst xs) → ThAll p K H xs ts → Th p K H (.ref a) (.lst ts)
  | dct {a : Addr} : a ≠ p → H a = some (.dK []) → Th p K H (.ref a) .dct
inductive ThAll (p : Addr) (K : PySem.W.Frag) (H : Hp) : List V → List Tg → Prop
  | nil : ThAll p K H [] []
  | cons {v : V} {vs : List V} {t : Tg} {ts : List Tg} : Th p K H v t → ThAll p K H vs ts → ThAll p K H (v :: vs) (t :: ts)
end
section
variable {p : Addr} {K : PySem.W.Frag} {H H' : Hp}
mutual
theorem th_ext (k : KT H H') (e : ∀ b o, b ≠ p → H b = some o → (∀ ps, o ≠ .tbl ps) → H' b = some o) : ∀ (t : Tg) (v : V), Th p K H v t → Th p K H' v t
  | .non, _, h => by cases h; exact .non
  | .bl b, _, h => by cases h; exact .bl b
  | .int i, _, h => by cases h; exact .int i
  | .str z, _, h => by cases h; exact .str z
  | .tup ts, _, h => by
    cases h with
    | tup h0 h1 => exact .tup (k.sqt h0) (thall_ext k e ts _ h1)
  | .lst ts, _, h => by
    cases h with
    | lst n h0 h1 => exact .lst n (e _ _ n h0 (fun _ z => by cases z)) (thall_ext k e ts _ h1)
  | .dct, _, h => by
    cases h with
    | dct n h0 => exact .dct n (e _ _ n h0 (fun _ z => by cases z))
theorem thall_ext (k : KT H H') (e : ∀ b o, b ≠ p → H b = some o → (∀ ps, o ≠ .tbl ps) → H' b = some o) : ∀ (ts : List Tg) (vs : List V), ThAll p K H vs ts → ThAll p K H' vs ts
  | [], _, h => by cases h; exact .nil
  | t :: ts, _, h => by
    cases h with
    | cons h0 h1 => exact .cons (th_ext k e t _ h0) (thall_ext k e ts _ h1)
end
theorem Th.x {v : V} {t : Tg} (h : Th p K H v t) (e : ExtX p H H') (hp : PotAt H p) : Th p K H' v t := th_ext (ExtX.kt e hp) e t v h
theorem Th.sx {v : V} {t : Tg} (h : Th p K H v t) (s : SameX p H H') (hp : PotAt H p) : Th p K H' v t := h.x (ExtX.x s) hp
theorem Th.sm {v : V} {t : Tg} (h : Th p K H v t) (s : Same H H') : Th p K H' v t := th_ext (kt_same s) (fun b o _ e _ => s b o e) t v h
theorem Th.n {v : V} {t : Tg} (h : Th p K H v t) (s : LamX.ExtN H H') : Th p K H' v t := th_ext (ExtN.kt s) (fun b o _ e n => s b o e n) t v h
theorem ThAll.x {vs : List V} {ts : List Tg} (h : ThAll p K H vs ts) (e : ExtX p H H') (hp : PotAt H p) : ThAll p K H' vs ts := thall_ext (ExtX.kt e hp) e ts vs h
theorem ThAll.sx {vs : List V} {ts : List Tg} (h : ThAll p K H vs ts) (s : SameX p H H') (hp : PotAt H p) : ThAll p K H' vs ts := h.x (ExtX.x s) hp
theorem ThAll.sm {vs : List V} {ts : List Tg} (h : ThAll p K H vs ts) (s : Same H H') : ThAll p K H' vs ts := thall_ext (kt_same s) (fun b o _ e _ => s b o e) ts vs h
theorem ThAll.n {vs : List V} {ts : List Tg} (h : ThAll p K H vs ts) (s : LamX.ExtN H H') : ThAll p K H' vs ts := thall_ext (ExtN.kt s) (fun b o _ e n => s b o e n) ts vs h
theorem ThAll.len : ∀ {vs : List V} {ts : List Tg}, ThAll p K H vs ts → vs.length = ts.length
  | _, [], h => by cases h; rfl
  | _, _ :: _, h => by
    cases h with
    | cons a b => simp [ThAll.len b]
theorem ThAll.at : ∀ {vs : List V} {ts : List Tg} {i : Nat} {v : V}, ThAll p K H vs ts → vs[i]? = some v → ∃ t, ts[i]? = some t ∧ Th p K H v t
  | _, [], i, v, h, e => by cases h; simp at e
  | _, t :: ts, 0, v, h, e => by
    cases h with
    | cons a b =>
      simp only [List.getElem?_cons_zero, Option.some.injEq] at e
      subst e
      exact ⟨t, rfl, a⟩
  | _, t :: ts, i + 1, v, h, e => by
    cases h with
    | cons a b =>
      rw [List.getElem?_cons_succ] at e
      obtain ⟨t', e', h'⟩ := ThAll.at b e
      exact ⟨t', by rw [List.getElem?_cons_succ]; exact e', h'⟩
theorem ThAll.take : ∀ {vs : List V} {ts : List Tg} (n : Nat), ThAll p K H vs ts → ThAll p K H (vs.take n) (ts.take n)
  | _, _, 0, h => by simp only [List.take_zero]; exact .nil
  | _, [], n + 1, h => by cases h; exact .nil
  | _, t :: ts, n + 1, h => by
    cases h with
    | cons a b => exact .cons a (ThAll.take n b)
theorem ThAll.drop : ∀ {vs : List V} {ts : List Tg} (n : Nat), ThAll p K H vs ts → ThAll p K H (vs.drop n) (ts.drop n)
  | _, _, 0, h => h
  | _, [], n + 1, h => by cases h; exact .nil
  | _, t :: ts, n + 1, h => by
    cases h with
    | cons a b => exact ThAll.drop n b
end
/-! data as things -/
mutual
def tgD : PyData → Tg
  | .none => .non
  | .bool b => .bl b
  | .int i => .int i
  | .str z => .str z
  | .list xs => .lst (tgDs xs)
  | .tuple xs => .tup (tgDs xs)
  | .dict _ => .dct
def tgDs : List PyData → List Tg
  | [] => []
  | d :: ds => tgD d :: tgDs ds
end
/-! kinds of things -/
def Tg.ty : Tg → Value
  | .non => .type "NoneType"
  | .bl _ => .type "bool"
  | .int _ => .type "int"
  | .str _ => .type "str"
  | .tup _ => .type "tuple"
  | .lst _ => .type "list"
  | .dct => .type "dict"
theorem Th.ty {p : Addr} {K : PySem.W.Frag} {H : Hp} {v : V} {t : Tg} (h : Th p K H v t) : TyX K H v t.ty := by
  cases h with
  | non => exact .base .non
  | bl b => exact .base (.bl b)
  | int i => exact .base (.int i)
  | str z => exact .base (.str z)
  | tup h0 _ => exact sqt_ty h0
  | lst _ h0 _ => exact .base (.lst h0)
  | dct _ h0 => exact .base (.dK h0)
def Tg.isW : Tg → Bool
  | .int _ => true
  | _ => false
def Tg.isT : Tg → Bool
  | .tup _ => true
  | _ => false
def Tg.isS : Tg → Bool
  | .str _ => true
  | _ => false
theorem Th.whole {p : Addr} {K : PySem.W.Frag} {H : Hp} {v : V} {t : Tg} (h : Th p K H v t) : WholeIs K H v t.isW := by
  cases h with
  | non => exact whole_non
  | bl b => exact whole_bl
  | int i => exact whole_int
  | str z => exact whole_str
  | tup h0 _ => exact whole_tup h0
  | lst _ h0 _ => exact whole_lst h0
  | dct _ h0 => exact whole_dct h0
theorem Tg.kitS (K : PySem.W.Frag) (t : Tg) : PySem.W.kitOne K t.ty (.type "str") = some t.isS := by
  cases t with
  | non => exact (kit_ty (r := false) (by decide +kernel))
  | bl _ => exact (kit_ty (r := false) (by decide +kernel))
  | int _ => exact (kit_ty (r := false) (by decide +kernel))
  | str _ => exact (kit_ty (r := true) (by decide +kernel))
  | tup _ => exact (kit_ty (r := false) (by decide +kernel))
  | lst _ => exact (kit_ty (r := false) (by decide +kernel))
  | dct => exact (kit_ty (r := false) (by decide +kernel))
/-- what is a part -/
def Tg.part : Tg → Option (Int × Int)
  | .tup [.int a, .int b] => if (decide (0 < b) && decide ((Int.gcd a b : Int) = 1)) = true then some (a, b) else none
  | _ => none
end WS
set_option Elab.async false
set_option linter.all false
set_option maxRecDepth 100000
set_option maxHeartbeats 4000000
namespace WS
open PySem PySem.Spec PyProof.Rows L2
/-! ### repr of things -/
mutual
def Tg.py : Tg → PyData
  | .non => .none
  | .bl b => .bool b
  | .int i => .int i
  | .str z => .str z
  | .tup ts => .tuple (Tg.pys ts)
  | .lst ts => .list (Tg.pys ts)
  | .dct => .dict []
def Tg.pys : List Tg → List PyData
  | [] => []
  | t :: ts => t.py :: Tg.pys ts
end
end WS
set_option Elab.async false
set_option linter.all false
set_option maxRecDepth 100000
set_option maxHeartbeats 4000000
namespace WS
open PySem PySem.Spec PyProof.Rows L2
/-! ### sizes of things -/
def ShT (n k : Nat) (t : Tg) : Prop := t.py.showable = true ∧ t.py.depth ≤ k ∧ t.py.shown.length ≤ n
theorem ShT.mono {n k m l : Nat} {t : Tg} (h : ShT n k t) (a : n ≤ m) (b : k ≤ l) : ShT m l t := ⟨h.1, Nat.le_trans h.2.1 b, Nat.le_trans h.2.2 a⟩
theorem ShT.of {n k : Nat} {t : Tg} (h : Sh n k t.py) : ShT n k t := ⟨h.1, h.2.2.1, h.2.2.2⟩
theorem ShT.non : ShT 4 1 .non := ⟨rfl, by decide +kernel, by decide +kernel⟩
theorem ShT.bl (b : Bool) : ShT 5 1 (.bl b) := by cases b <;> exact ⟨rfl, by decide +kernel, by decide +kernel⟩
theorem ShT.dct : ShT 2 1 .dct := ⟨rfl, by decide +kernel, by decide +kernel⟩
theorem ShT.int {m : Nat} {i : Int} (h0 : 0 < m) (h1 : m ≤ 1900) (h : Bt m i) : ShT (m + 1) 1 (.int i) := .of (Sh.int h0 h1 h)
theorem ShT.str {z : Str} (hz : ∀ c ∈ z.cps.toList, c < 16 ^ 8) : ShT (10 * z.length + 2) 1 (.str z) := .of (Sh.str hz)
theorem sht_all {n k : Nat} : ∀ (ts : List Tg), (∀ t ∈ ts, ShT n k t) → PyData.showableAll (Tg.pys ts) = true ∧ PyData.depthAll (Tg.pys ts) ≤ k ∧ piled (PyData.shownAll (Tg.pys ts)) ≤ ts.length * (n + 2)
  | [], _ => ⟨rfl, Nat.zero_le _, by simp [Tg.pys, PyData.shownAll, piled]⟩
  | t :: ts, h => by
    obtain ⟨a, c, e⟩ := sht_all ts (fun x hx => h x (List.mem_cons_of_mem _ hx))
    obtain ⟨a', c', e'⟩ := h t List.mem_cons_self
    refine ⟨?_, ?_, ?_⟩
    · simp [Tg.pys, PyData.showableAll, a, a']
    · simp only [Tg.pys, PyData.depthAll]
      omega
    · simp only [Tg.pys, PyData.shownAll, piled, List.length_cons, Nat.add_mul, List.map_cons, List.sum_cons] at e ⊢
      omega
theorem ShT.tup {n k m : Nat} {ts : List Tg} (h : ∀ t ∈ ts, ShT n k t) (hl : ts.length ≤ m) : ShT (m * (n + 2) + 2) (k + 1) (.tup ts) := by
  obtain ⟨a, c, e⟩ := sht_all ts h
  have y := shown_tup_len (Tg.pys ts)
  have z := Nat.mul_le_mul_right (n + 2) hl
  refine ⟨?_, ?_, ?_⟩
  · unfold Tg.py
    exact a
  · unfold Tg.py
    simp only [PyData.depth]
    omega
  · unfold Tg.py
    omega
theorem ShT.lst {n k m : Nat} {ts : List Tg} (h : ∀ t ∈ ts, ShT n k t) (hl : ts.length ≤ m) : ShT (m * (n + 2) + 2) (k + 1) (.lst ts) := by
  obtain ⟨a, c, e⟩ := sht_all ts h
  have y := shown_lst_len (Tg.pys ts)
  have z := Nat.mul_le_mul_right (n + 2) hl
  refine ⟨?_, ?_, ?_⟩
  · unfold Tg.py
    exact a
  · unfold Tg.py
    simp only [PyData.depth]
    omega
  · unfold Tg.py
    omega
theorem ShT.ok {n k : Nat} {t : Tg} (h : ShT n k t) (hn : n ≤ 1000000) (hk : k ≤ 60) : t.py.showable = true ∧ t.py.depth ≤ 60 ∧ t.py.shown.length ≤ sizeLine := ⟨h.1, by have := h.2.1; omega, by have := h.2.2; rw [sizeLine_eq]; omega⟩
mutual
theorem tg_py : ∀ d : PyData, imm d = true → d.hasDict = false → (tgD d).py = d
  | .none, _, _ => rfl
  | .bool _, _, _ => rfl
  | .int _, _, _ => rfl
  | .str _, _, _ => rfl
  | .list xs, e, _ => by unfold imm at e; cases e
  | .dict xs, e, _ => by unfold imm at e; cases e
  | .tuple xs, e, h => by
    unfold imm at e
    unfold tgD Tg.py
    rw [tgs_py xs e (by simpa [PyData.hasDict] using h)]
theorem tgs_py : ∀ ds : List PyData, immAll ds = true → PyData.hasDictAll ds = false → Tg.pys (tgDs ds) = ds
  | [], _, _ => rfl
  | d :: ds, e, h => by
    unfold immAll at e
    rw [Bool.and_eq_true] at e
    have h' : d.hasDict = false ∧ PyData.hasDictAll ds = false := by simpa [PyData.hasDictAll] using h
    unfold tgDs Tg.pys
    rw [tg_py d e.1 h'.1, tgs_py ds e.2 h'.2]
end
theorem ShT.d {n k : Nat} {d : PyData} (h : Sh n k d) (i : imm d = true) : ShT n k (tgD d) := .of (by rw [tg_py d i h.2.1]; exact h)
/-! ### caught exceptions -/
def DictIs (d : Option Addr) (H : Hp) : Prop := d = none ∨ ∃ dd fs, d = some dd ∧ H dd = some (.xd fs)
end WS
set_option Elab.async false
set_option linter.all false
set_option maxRecDepth 100000
set_option maxHeartbeats 4000000
namespace WS
open PySem PySem.Spec PyProof.Rows L2
/-! ### rows that come to nought by one place -/
theorem sum_setR {α : Type} (f : α → Rat) : ∀ (l : List α) (i : Nat) (h : i < l.length) (x : α), ((l.set i x).map f).sum = (l.map f).sum - f (l[i]'h) + f x
  | [], i, h, _ => absurd h (Nat.not_lt_zero _)
  | a :: l, 0, _, x => by
    simp only [List.set_cons_zero, List.map_cons, List.sum_cons, List.getElem_cons_zero]
    grind
  | a :: l, i + 1, h, x => by
    have ih := sum_setR f l i (by simpa using h) x
    simp only [List.set_cons_succ, List.map_cons, List.sum_cons, List.getElem_cons_succ]
    rw [ih]
    grind
theorem parts_set {K : PySem.W.Frag} {H : Hp} {rs : List V} {ps : List (Int × Int)} {i : Nat} {v : V} {q : Int × Int} (h : Parts K H rs ps) (hv : TupI K H v q.1 q.2) : Parts K H (rs.set i v) (ps.set i q) := by
  refine ⟨by rw [List.length_set, List.length_set]; exact h.1, fun j x hx => ?_⟩
  rw [List.getElem?_set] at hx
  by_cases e : i = j
  · subst e
    rw [if_pos rfl] at hx
    by_cases c : i < rs.length
    · rw [if_pos c] at hx
      obtain rfl := Option.some.inj hx
      refine ⟨q, ?_, hv⟩
      rw [List.getElem?_set, if_pos rfl, if_pos (by rw [← h.1]; exact c)]
    · rw [if_neg c] at hx
      cases hx
  · rw [if_neg e] at hx
    obtain ⟨p, hp, tp⟩ := h.2 j x hx
    refine ⟨p, ?_, tp⟩
    rw [List.getElem?_set, if_neg e]
    exact hp
end WS
set_option Elab.async false
set_option linter.all false
set_option maxRecDepth 100000
set_option maxHeartbeats 4000000
namespace WS
open PySem PySem.Spec PyProof.Rows L2
/-! ### the least weight of a row, exactly -/
theorem rv_sumK {ps : List (Int × Int)} {os : List Nat} (hp : ∀ q ∈ ps, 0 < q.2) (k : Nat) : rv (sumK ps os k) = sumF (fun j => rv (gp ps j)) (os.take k) := by
  rw [sumF_gp hp]
  rfl
/-! ### a gift never widens -/
theorem gift_dom {ss : List Seat} {i j : Nat} {q : Int × Int} (hp : ∀ s ∈ ss, 0 < s.2.2) (hq : 0 < q.2) (hi : i < ss.length) (hj : j < ss.length) (ne : i ≠ j) (h0 : 0 ≤ rv q) (h1 : rv q ≤ owF ss i - owF ss j) {S : List Nat} (hS : S.Nodup) (hl : ∀ k ∈ S, k < ss.length) : ∃ S' : List Nat, S'.Nodup ∧ (∀ k ∈ S', k < ss.length) ∧ S'.length = S.length ∧ sumF (owF (giftS ss i j q)) S ≤ sumF (owF ss) S' := by
  by_cases a : j ∈ S ∧ i ∉ S
  · obtain ⟨a, b⟩ := a
    refine ⟨i :: S.erase j, List.nodup_cons.mpr ⟨fun z => b (List.mem_of_mem_erase z), hS.sublist List.erase_sublist⟩, fun k hk => (List.mem_cons.mp hk).elim (fun z => z ▸ hi) fun z => hl k (List.mem_of_mem_erase z), (List.perm_cons_erase a).length_eq.symm, ?_⟩
    rw [sum_gift hp hq hi hj ne hS hl, if_pos a, if_neg b]
    have e1 := sumF_perm (f := owF ss) (List.perm_cons_erase a)
    have c : ∀ (x : Nat) (T : List Nat), sumF (owF ss) (x :: T) = owF ss x + sumF (owF ss) T := fun _ _ => rfl
    rw [c] at e1 ⊢
    generalize sumF (owF ss) (S.erase j) = x at e1 ⊢
    grind
  · refine ⟨S, hS, hl, rfl, ?_⟩
    rw [sum_gift hp hq hi hj ne hS hl]
    by_cases b : j ∈ S
    · have c : i ∈ S := by
        by_cases c : i ∈ S
        · exact c
        · exact absurd ⟨b, c⟩ a
      rw [if_pos b, if_pos c]
      grind
    · rw [if_neg b]
      by_cases c : i ∈ S
      · rw [if_pos c]
        grind
      · rw [if_neg c]
        grind
end WS
set_option Elab.async false
set_option linter.all false
set_option maxRecDepth 100000
set_option maxHeartbeats 4000000
namespace WS
open PySem PySem.Spec PyProof.Rows L2
/-! ### no wider than -/
def Dom (ss tt : List Seat) : Prop := tt.length = ss.length ∧ ∀ S : List Nat, S.Nodup → (∀ k ∈ S, k < ss.length) → ∃ S' : List Nat, S'.Nodup ∧ (∀ k ∈ S', k < ss.length) ∧ S'.length = S.length ∧ sumF (owF tt) S ≤ sumF (owF ss) S'
theorem Dom.refl (ss : List Seat) : Dom ss ss := ⟨rfl, fun S hS hl => ⟨S, hS, hl, rfl, Rat.le_refl⟩⟩
theorem Dom.trans {ss tt uu : List Seat} (a : Dom ss tt) (b : Dom tt uu) : Dom ss uu := ⟨b.1.trans a.1, fun S hS hl => by
  obtain ⟨S1, n1, l1, e1, h1⟩ := b.2 S hS (fun k hk => by rw [a.1]; exact hl k hk)
  obtain ⟨S2, n2, l2, e2, h2⟩ := a.2 S1 n1 (fun k hk => by rw [← a.1]; exact l1 k hk)
  exact ⟨S2, n2, l2, e2.trans e1, Rat.le_trans h1 h2⟩⟩
theorem Dom.gift {ss : List Seat} {i j : Nat} {q : Int × Int} (hp : ∀ s ∈ ss, 0 < s.2.2) (hq : 0 < q.2) (hi : i < ss.length) (hj : j < ss.length) (ne : i ≠ j) (h0 : 0 ≤ rv q) (h1 : rv q ≤ owF ss i - owF ss j) : Dom ss (giftS ss i j q) :=
  ⟨by unfold giftS; rw [setRow_len (by rw [giftR_len, List.length_map])], fun _ hS hl => gift_dom hp hq hi hj ne h0 h1 hS hl⟩
theorem ow_sum {ss : List Seat} {S : List Nat} (hl : ∀ k ∈ S, k < ss.length) : sumF (fun j => rv (gp (ss.map Prod.snd) j)) S = sumF (owF ss) S := sumF_congr fun k hk => ow_gp rfl k (hl k hk)
theorem rk_in {ss : List Seat} {os : List Nat} (rk : RankedP (ss.map Prod.snd) os) : os.Nodup ∧ (∀ k ∈ os, k < ss.length) ∧ os.length = ss.length := by
  have p := rk.1
  rw [List.length_map] at p
  exact ⟨p.nodup_iff.mpr List.nodup_range, fun k hk => List.mem_range.mp (p.mem_iff.mp hk), by rw [p.length_eq, List.length_range]⟩
theorem top_ow {ss : List Seat} {os : List Nat} (hp : ∀ s ∈ ss, 0 < s.2.2) (rk : RankedP (ss.map Prod.snd) os) (k : Nat) : rv (sumK (ss.map Prod.snd) os k) = sumF (owF ss) (os.take k) := by
  rw [rv_sumK fun q hq => by
    obtain ⟨s, hs, rfl⟩ := List.mem_map.mp hq
    exact hp s hs]
  exact ow_sum fun i hi => (rk_in rk).2.1 i (List.mem_of_mem_take hi)
theorem dom_top {ss tt : List Seat} {os ot : List Nat} (d : Dom ss tt) (hp : ∀ s ∈ ss, 0 < s.2.2) (ht : ∀ s ∈ tt, 0 < s.2.2) (rk : RankedP (ss.map Prod.snd) os) (rt : RankedP (tt.map Prod.snd) ot) (k : Nat) : sumF (owF tt) (ot.take k) ≤ sumF (owF ss) (os.take k) := by
  obtain ⟨o1, o2, o3⟩ := rk_in rk
  obtain ⟨t1, t2, t3⟩ := rk_in rt
  obtain ⟨S', n', l', e', h'⟩ := d.2 (ot.take k) (t1.sublist (List.take_sublist _ _)) fun i hi => by rw [← d.1]; exact t2 i (List.mem_of_mem_take hi)
  have hs : os.Pairwise fun i j => owF ss j ≤ owF ss i := (ranked_desc rk fun q hq => by
    obtain ⟨s, hs, rfl⟩ := List.mem_map.mp hq
    exact hp s hs).imp_of_mem fun {i j} hi hj h => by
      rw [ow_gp rfl i (o2 i hi), ow_gp rfl j (o2 j hj)] at h
      exact h
  have hin : ∀ i ∈ S', i ∈ os := fun i hi => by
    have p := rk.1
    rw [List.length_map] at p
    exact p.mem_iff.mpr (List.mem_range.mpr (l' i hi))
  have tm := top_most o1 hs n' hin
  have el : os.take S'.length = os.take k := by
    rw [e', List.length_take, t3, d.1, ← o3]
    by_cases c : k ≤ os.length
    · rw [Nat.min_eq_left c]
    · rw [Nat.min_eq_right (by omega), List.take_length, List.take_of_length_le (by omega)]
  rw [el] at tm
  exact Rat.le_trans h' tm
end WS
set_option Elab.async false
set_option linter.all false
set_option maxRecDepth 100000
set_option maxHeartbeats 4000000
namespace WS
open PySem PySem.Spec PyProof.Rows L2
/-! ### gifts of any part -/
def spMayGiveQ (K : PySem.W.Frag) : Sp := fun vs H Q _ => ∃ (u v : V) (g p : Int × Int), vs = [u, v] ∧ TupI K H u g.1 g.2 ∧ TupI K H v p.1 p.2 ∧ Lowest g.1 g.2 ∧ 0 < g.1 ∧ 0 < p.2 ∧ rv g ≤ rv p ∧ Ok2 4000 4000 g ∧ Ok2 4000 4000 p ∧ ∀ H', Same H H' → Q (.bl true) H'
def spRowGiftQ (K : PySem.W.Frag) : Sp := fun vs H Q _ => ∃ (u x : V) (ps : List (Int × Int)) (i j : Nat) (g : Int × Int), vs = [u, .int (i : Nat), .int (j : Nat), x] ∧ Dp K H u (.tuple (ps.map pdP)) ∧ TupI K H x g.1 g.2 ∧ i < ps.length ∧ j < ps.length ∧ ps.length ≤ 100 ∧ (∀ q ∈ ps, Okp 1000 q) ∧ Okp 1000 g ∧ ∀ v' H', Same H H' → Dp K H' v' (.tuple ((giftR ps i j g).map pdP)) → Q v' H'
def spWithGiftQ (K : PySem.W.Frag) : Sp := fun vs H Q _ => ∃ (v x : V) (W : Int) (ss : List Seat) (y z : Str) (g : Int × Int), vs = [v, .str y, .str z, x] ∧ Dp K H v (momD W ss) ∧ ss.length ≤ 100 ∧ y ∈ names ss ∧ z ∈ names ss ∧ TupI K H x g.1 g.2 ∧ Lowest g.1 g.2 ∧ 0 < g.1 ∧ rv g ≤ owF ss (idx ss y) - owF ss (idx ss z) ∧ (∀ s ∈ ss, Okp 1000 s.2) ∧ Okp 1000 g ∧ ∀ v' H', Same H H' → Dp K H' v' (momD W (giftS ss (idx ss y) (idx ss z) g)) → Q v' H'
theorem lowest_b {g : Int × Int} (h : Lowest g.1 g.2) : (decide (0 < g.2) && decide ((Int.gcd g.1 g.2 : Int) = 1)) = true := by
  rw [decide_eq_true h.1, h.2]
  rfl
/-- rows whose sums are looked at -/
structure KN (ss : List Seat) : Prop where
  l : ss.length ≤ 10
  ok : ∀ s ∈ ss, Ok2 300 105 s.2
theorem KN.row {ss : List Seat} (h : KN ss) : ∀ q ∈ ss.map Prod.snd, Ok2 300 105 q := fun q hq => by
  obtain ⟨s, hs, rfl⟩ := List.mem_map.mp hq
  exact h.ok s hs
theorem KN.pos {ss : List Seat} (h : KN ss) : ∀ s ∈ ss, 0 < s.2.2 := fun s hs => (h.ok s hs).1
theorem ext_gs {ss tt : List Seat} (hl : tt.length = ss.length) (h : ∀ k, k < ss.length → gs tt k = gs ss k) : tt = ss := by
  refine List.ext_getElem? fun k => ?_
  by_cases c : k < ss.length
  · rw [at_gs c, at_gs (by omega), h k c]
  · rw [List.getElem?_eq_none (by omega), List.getElem?_eq_none (by omega)]
def GiftIs (ss : List Seat) (a b : Nat) : Prop := a < ss.length ∧ b < ss.length ∧ (gs ss a).1 ≠ "" ∧ (gs ss b).1 ≠ "" ∧ rv (gs ss b).2 < rv (gs ss a).2
def PairsK (K : PySem.W.Frag) (H : Hp) (us : List V) (ss : List Seat) : Prop := ∀ v ∈ us, ∃ r a b, v = .ref r ∧ SqT K H r [.int ((a : Nat) : Int), .int ((b : Nat) : Int)] ∧ GiftIs ss a b
theorem PairsK.k {K : PySem.W.Frag} {H H' : Hp} {us : List V} {ss : List Seat} (h : PairsK K H us ss) (k : KT H H') : PairsK K H' us ss := fun v hv => by
  obtain ⟨r, a, b, e, s, g⟩ := h v hv
  exact ⟨r, a, b, e, k.sqt s, g⟩
end WS
set_option Elab.async false
set_option linter.all false
set_option maxRecDepth 100000
set_option maxHeartbeats 4000000
namespace WS
open PySem PySem.Spec PyProof.Rows L2
/-! ### promises about things: who sits, what is given -/
def BdT (n : Nat) (t : Tg) : Prop := ∀ a b, t = .tup [.int a, .int b] → Bt n a ∧ Bt n b
end WS
set_option Elab.async false
set_option linter.all false
set_option maxRecDepth 100000
set_option maxHeartbeats 4000000
namespace WS
open PySem PySem.Spec PyProof.Rows L2
/-! ### tops: what the seats owe, in sixtieths -/
def pairS (us : List Str) (ts : List Int) (u : Int) : List Seat := (us.zip ts).map fun x => (x.1, lo x.2 u)
theorem pairS_len {us : List Str} {ts : List Int} {u : Int} (h : us.length = ts.length) : (pairS us ts u).length = ts.length := by
  unfold pairS
  rw [List.length_map, List.length_zip]
  omega
end WS
set_option Elab.async false
set_option linter.all false
set_option maxRecDepth 100000
set_option maxHeartbeats 4000000
namespace WS
open PySem PySem.Spec PyProof.Rows L2
/-! ### texts of any signs -/
def Cs (z : Str) : Prop := ∀ c ∈ z.cps.toList, c < 16 ^ 8
theorem Cs.nm {z : Str} (h : Nm z) : Cs z := fun c hc => by
  have := (h.2.2 c hc).2
  have : 122 < 16 ^ 8 := by decide
  omega
/-- a thing that is drawn -/
def ThOk (p : Addr) (K : PySem.W.Frag) (H : Hp) (v : V) : Prop := ∃ t, Th p K H v t ∧ ShT 5000 3 t ∧ BdT 120 t
theorem ThOk.sx {p : Addr} {K : PySem.W.Frag} {H H' : Hp} {v : V} (h : ThOk p K H v) (s : SameX p H H') (hp : PotAt H p) : ThOk p K H' v := by
  obtain ⟨t, a, b⟩ := h
  exact ⟨t, a.sx s hp, b⟩
theorem ThOk.sm {p : Addr} {K : PySem.W.Frag} {H H' : Hp} {v : V} (h : ThOk p K H v) (s : Same H H') : ThOk p K H' v := by
  obtain ⟨t, a, b⟩ := h
  exact ⟨t, a.sm s, b⟩
theorem BdT.no {n : Nat} {t : Tg} (h : ∀ a b, t ≠ .tup [.int a, .int b]) : BdT n t := fun a b e => absurd e (h a b)
theorem Th.two {p : Addr} {K : PySem.W.Frag} {H : Hp} {v : V} {t1 t2 : Tg} (h : Th p K H v (.tup [t1, t2])) : ∃ a x y, v = .ref a ∧ SqT K H a [x, y] ∧ Th p K H x t1 ∧ Th p K H y t2 := by
  cases h with
  | tup h0 h1 =>
    cases h1 with
    | cons x y =>
      cases y with
      | cons y z =>
        cases z
        exact ⟨_, _, _, rfl, h0, x, y⟩
end WS
set_option Elab.async false
set_option linter.all false
set_option maxRecDepth 100000
set_option maxHeartbeats 4000000
namespace WS
open PySem PySem.Spec PyProof.Rows L2
/-! ### a gift, by whole numbers -/
theorem pairS_gs {us : List Str} {ts : List Int} {u : Int} (h : us.length = ts.length) {k : Nat} (hk : k < ts.length) : gs (pairS us ts u) k = (us[k]'(by omega), lo ts[k] u) := by
  refine gs_at ?_
  unfold pairS
  rw [List.getElem?_map, List.getElem?_eq_getElem (by rw [List.length_zip]; omega), List.getElem_zip]
  rfl
theorem pairS_fst {us : List Str} {ts : List Int} {u : Int} (h : us.length = ts.length) : (pairS us ts u).map Prod.fst = us := by
  refine List.ext_getElem? fun k => ?_
  by_cases c : k < ts.length
  · rw [List.getElem?_map, at_gs (by rw [pairS_len h]; exact c), pairS_gs h c]
    exact (List.getElem?_eq_getElem (by omega)).symm
  · rw [List.getElem?_eq_none (by rw [List.length_map, pairS_len h]; omega), List.getElem?_eq_none (by omega)]
theorem pairS_names {us : List Str} {ts : List Int} {u : Int} (h : us.length = ts.length) : names (pairS us ts u) = us.filter fun z => !decide (z = ("" : Str)) := by
  unfold names
  rw [pairS_fst h]
end WS
set_option Elab.async false
set_option linter.all false
set_option maxRecDepth 100000
set_option maxHeartbeats 4000000
namespace WS
open PySem PySem.Spec PyProof.Rows L2
/-! ### exceptions with fields -/
/-! ### the places beyond -/
def fallK (w : Int) (ps : List (Int × Int)) (ord : List Nat) : Option Nat := (List.range (ps.length + 1)).find? (fallsAt w ps ord)
def beyL (w : Int) (ps : List (Int × Int)) (ord : List Nat) : List Nat := match fallK w ps ord with
  | some k => ord.take k
  | none => []
def wOk : Tg → Bool
  | .int i => decide (i ≥ 1)
  | _ => false
theorem fallK_pos {w : Int} {ps : List (Int × Int)} {ord : List Nat} {k : Nat} (h : fallK w ps ord = some k) : 0 < k ∧ k ≤ ps.length := by
  unfold fallK at h
  rw [List.find?_range_eq_some] at h
  obtain ⟨h1, h2, _⟩ := h
  have h2 := List.mem_range.mp h2
  refine ⟨?_, by omega⟩
  by_cases c : k = 0
  · subst c
    unfold fallsAt at h1
    have h1 := of_decide_eq_true h1
    have e : sumK ps ord 0 = (0, 1) := by
      unfold sumK
      rfl
    rw [e] at h1
    have : (lo (w * ((0 : Nat) : Int) * ((ps.length : Int) - ((0 : Nat) : Int))) 2).1 = 0 := by
      rw [show (((0 : Nat) : Int)) = 0 from rfl, Int.mul_zero, Int.zero_mul]
      rfl
    rw [this] at h1
    omega
  · omega
theorem beyL_nil {w : Int} {ps : List (Int × Int)} {ord : List Nat} (rk : RankedP ps ord) : beyL w ps ord = [] ↔ fallK w ps ord = none := by
  unfold beyL
  cases h : fallK w ps ord with
  | none => simp
  | some k =>
    have := fallK_pos h
    have ol : ord.length = ps.length := by rw [rk.1.length_eq, List.length_range]
    constructor
    · intro e
      have : (ord.take k).length = 0 := by
        have e : ord.take k = [] := e
        rw [e]
        rfl
      rw [List.length_take] at this
      omega
    · intro e
      cases e
theorem fallV_K (w : Int) (ps : List (Int × Int)) (ord : List Nat) : fallV w ps ord = (match fallK w ps ord with | some k => V.int (k : Nat) | none => V.non) := rfl
theorem fallK_wth {w : Int} {ps : List (Int × Int)} {ord : List Nat} (h : RankedP ps ord) (hp : ∀ q ∈ ps, 0 < q.2) : fallK w ps ord = none ↔ WthF w ps.length (fun j => rv (gp ps j)) := by
  rw [← fallV_wth h hp, fallV_K]
  cases fallK w ps ord with
  | none => simp
  | some k => simp
def spWtT (K : PySem.W.Frag) : Sp := fun vs H Q _ => ∃ (p : Addr) (v : V) (t : Tg), vs = [v] ∧ Th p K H v t ∧ Q (.bl (wOk t)) H
end WS
set_option Elab.async false
set_option linter.all false
set_option maxRecDepth 100000
set_option maxHeartbeats 4000000
namespace WS
open PySem PySem.Spec PyProof.Rows L2
/-! ### weighed moments (k56) -/
structure Mw (W : Int) (ss : List Seat) : Prop where
  l : ss.length ≤ 12
  w : 1 ≤ W
  b : Bt 110 W
  nm : ∀ s ∈ ss, Nm0 s.1
  nd : (names ss).Nodup
  low : ∀ s ∈ ss, Lowest s.2.1 s.2.2
  ok : ∀ s ∈ ss, Okq 190 90 s.2
  bd : ∀ s ∈ ss, Bd 98 (rv s.2)
  z : ((ss.map Prod.snd).map rv).sum = 0
  g : Good W ss
theorem Mw.ok2 {W : Int} {ss : List Seat} (h : Mw W ss) : ∀ q ∈ ss.map Prod.snd, Ok2 1900 200 q := fun q hq => by
  obtain ⟨s, hs, rfl⟩ := List.mem_map.mp hq
  have o := h.ok s hs
  exact ⟨o.1, o.2.1.mono (by decide), o.2.2.mono (by decide)⟩
theorem Mw.okp {W : Int} {ss : List Seat} (h : Mw W ss) : ∀ s ∈ ss, Okp 300 s.2 := fun s hs => (h.ok s hs).okp (by decide) (by decide)
def dWt : PyData := .tuple [.str "weight", .none]
def dBd (ks : List Int) : PyData := .tuple [.str "beyond", .tuple [.int (ks.length : Nat), .tuple (ks.map PyData.int)]]
def dTo (i : Int) (ss : List Seat) : PyData := .tuple [.str "told", momD i ss]
def dBy (i : Int) (ss : List Seat) (ord : List Nat) : PyData := if beyL i (ss.map Prod.snd) ord = [] then dTo i ss else dBd ((beyL i (ss.map Prod.snd) ord).map fun j : Nat => (j : Int))
theorem sh_dWt : Sh 1000000 60 dWt :=
  (Sh.tup (n := 1000) (k := 6) (m := 2) (fun d hd => by
    simp only [List.mem_cons, List.not_mem_nil, or_false] at hd
    rcases hd with rfl | rfl
    · exact (Sh.str (fun c hc => by revert c hc; decide +kernel)).mono (by decide) (by decide)
    · exact ⟨rfl, rfl, by decide +kernel, by decide +kernel⟩) (Nat.le_refl _)).mono (by decide) (by decide)
theorem sh_dTo {i : Int} {ss : List Seat} (bi : Bt 110 i) {W : Int} (m : Mw W ss) : Sh 1000000 60 (dTo i ss) :=
  (Sh.tup (n := 20000) (k := 6) (m := 2) (fun d hd => by
    simp only [List.mem_cons, List.not_mem_nil, or_false] at hd
    rcases hd with rfl | rfl
    · exact (Sh.str (fun c hc => by revert c hc; decide +kernel)).mono (by decide) (by decide)
    · exact (mom_shL (bi.mono (by decide)) m.l fun s hs => ⟨(m.ok s hs).okp (by decide) (by decide), m.nm s hs⟩).mono (by decide) (by decide)) (Nat.le_refl _)).mono (by decide) (by decide)
theorem sh_dBd {ks : List Int} (hk : ks.length ≤ 12) (b : ∀ k ∈ ks, Bt 10 k) : Sh 1000000 60 (dBd ks) :=
  (Sh.tup (n := 2000) (k := 6) (m := 2) (fun d hd => by
    simp only [List.mem_cons, List.not_mem_nil, or_false] at hd
    rcases hd with rfl | rfl
    · exact (Sh.str (fun c hc => by revert c hc; decide +kernel)).mono (by decide) (by decide)
    · refine (Sh.tup (n := 200) (k := 3) (m := 2) (fun d hd => ?_) (Nat.le_refl _)).mono (by decide) (by decide)
      simp only [List.mem_cons, List.not_mem_nil, or_false] at hd
      rcases hd with rfl | rfl
      · exact (Sh.int (m := 10) (by decide) (by decide) (Bt.of_lt (by omega) (by omega))).mono (by decide) (by decide)
      · refine (Sh.tup (n := 11) (k := 1) (m := 12) (fun d hd => ?_) (by rw [List.length_map]; exact hk)).mono (by decide) (by decide)
        obtain ⟨k, hk, rfl⟩ := List.mem_map.mp hd
        exact Sh.int (by decide) (by decide) (b k hk)) (Nat.le_refl _)).mono (by decide) (by decide)
theorem beyL_le {w : Int} {ps : List (Int × Int)} {ord : List Nat} (rk : RankedP ps ord) : (beyL w ps ord).length ≤ ps.length ∧ ∀ j ∈ beyL w ps ord, j < ps.length := by
  have ol : ord.length = ps.length := by rw [rk.1.length_eq, List.length_range]
  unfold beyL
  cases fallK w ps ord with
  | none => exact ⟨Nat.zero_le _, fun j hj => by cases hj⟩
  | some k => exact ⟨by show (ord.take k).length ≤ _; rw [List.length_take]; omega, fun j hj => List.mem_range.mp (rk.1.mem_iff.mp (List.mem_of_mem_take hj))⟩
theorem sh_dBy {i W : Int} {ss : List Seat} {ord : List Nat} (bi : Bt 110 i) (m : Mw W ss) (rk : RankedP (ss.map Prod.snd) ord) : Sh 1000000 60 (dBy i ss ord) := by
  unfold dBy
  have l := m.l
  obtain ⟨h1, h2⟩ := beyL_le (w := i) rk
  rw [List.length_map] at h1 h2
  split
  · exact sh_dTo bi m
  · refine sh_dBd (by rw [List.length_map]; omega) fun k hk => ?_
    obtain ⟨j, hj, rfl⟩ := List.mem_map.mp hk
    have := h2 j hj
    exact Bt.of_lt (by omega) (by omega)
def OutD (t : Tg) (ss : List Seat) (D : PyData) : Prop := (wOk t = false ∧ D = dWt) ∨ ∃ i ord, t = .int i ∧ 1 ≤ i ∧ RankedP (ss.map Prod.snd) ord ∧ D = dBy i ss ord
theorem OutD.one {t : Tg} {ss : List Seat} {D E : PyData} (h : OutD t ss D) (k : OutD t ss E) : E = D := by
  rcases h with ⟨w, rfl⟩ | ⟨i, o, rfl, i1, r, rfl⟩
  · rcases k with ⟨_, e⟩ | ⟨j, o, rfl, j1, _⟩
    · exact e
    · have : wOk (.int j) = true := decide_eq_true j1
      rw [w] at this
      cases this
  · rcases k with ⟨w, _⟩ | ⟨j, o', e, j1, r', e'⟩
    · have : wOk (.int i) = true := decide_eq_true i1
      rw [w] at this
      cases this
    · cases e
      rw [e', rankedP_one r' r]
theorem OutD.sh {t : Tg} {ss : List Seat} {D : PyData} {W : Int} (h : OutD t ss D) (m : Mw W ss) (hb : ∀ i, t = .int i → Bt 110 i) : Sh 1000000 60 D := by
  rcases h with ⟨w, rfl⟩ | ⟨i, o, e, i1, r, rfl⟩
  · exact sh_dWt
  · exact sh_dBy (hb i e) m r
theorem OutD.cases {t : Tg} {ss : List Seat} {D : PyData} {W : Int} (h : OutD t ss D) (m : Mw W ss) (hb : ∀ i, t = .int i → Bt 110 i) : (∃ i, D = dTo i ss ∧ Mw i ss) ∨ ∃ z y, D = .tuple [.str z, y] ∧ z ≠ "told" := by
  have hp : ∀ q ∈ ss.map Prod.snd, 0 < q.2 := fun q hq => (m.ok2 q hq).1
  rcases h with ⟨w, rfl⟩ | ⟨i, o, e, i1, r, rfl⟩
  · exact .inr ⟨_, _, rfl, by decide +kernel⟩
  · unfold dBy
    split
    · rename_i e0
      have w := (fallK_wth r hp).mp ((beyL_nil r).mp e0)
      exact .inl ⟨i, rfl, ⟨m.l, i1, hb i e, m.nm, m.nd, m.low, m.ok, m.bd, m.z, good_mk rfl w m.z⟩⟩
    · exact .inr ⟨_, _, rfl, by decide +kernel⟩
theorem Mw.nil {W : Int} {ss : List Seat} {ord : List Nat} (m : Mw W ss) (r : RankedP (ss.map Prod.snd) ord) : beyL W (ss.map Prod.snd) ord = [] :=
  (beyL_nil r).mpr ((fallK_wth r fun q hq => (m.ok2 q hq).1).mpr (good_row m.g))
theorem Mw.sh {W : Int} {ss : List Seat} (m : Mw W ss) : Sh 1000000 60 (momD W ss) :=
  (mom_shL (m.b.mono (by decide)) m.l fun s hs => ⟨(m.ok s hs).okp (by decide) (by decide), m.nm s hs⟩).mono (by decide) (by decide)
end WS
set_option Elab.async false
set_option linter.all false
set_option maxRecDepth 100000
set_option maxHeartbeats 4000000
set_option Elab.async false
set_option linter.all false
set_option maxRecDepth 100000
set_option maxHeartbeats 4000000
namespace WS
open PySem PySem.Spec PyProof.Rows L2
/-! ### numbers of seats, of any thing (k54) -/
def intsT : List Tg → Option (List Int)
  | [] => some []
  | .int i :: ts => (intsT ts).map (i :: ·)
  | _ :: _ => none
def seatsL (n : Nat) (ts : List Tg) : Option (List Nat) := match intsT ts with
  | some ns => if ns.Nodup ∧ ∀ i ∈ ns, 0 ≤ i ∧ i < (n : Int) then some (ns.map Int.toNat) else none
  | none => none
def seatsT (n : Nat) : Tg → Option (List Nat)
  | .tup ts => seatsL n ts
  | _ => none
theorem intsT_some : ∀ {ts : List Tg} {ns : List Int}, intsT ts = some ns → ts = ns.map Tg.int
  | [], ns, h => by cases h; rfl
  | t :: ts, ns, h => by
    cases t with
    | int i =>
      unfold intsT at h
      cases e : intsT ts with
      | none => rw [e] at h; cases h
      | some ms =>
        rw [e] at h
        cases h
        rw [List.map_cons, intsT_some e]
    | _ => cases h
theorem seatsT_some {n : Nat} {t : Tg} {is : List Nat} (h : seatsT n t = some is) : t = .tup (is.map fun j : Nat => Tg.int (j : Int)) ∧ is.Nodup ∧ ∀ i ∈ is, i < n := by
  cases t with
  | tup ts =>
    have h : seatsL n ts = some is := h
    unfold seatsL at h
    cases e : intsT ts with
    | none => rw [e] at h; cases h
    | some ns =>
      rw [e] at h
      by_cases c : ns.Nodup ∧ ∀ i ∈ ns, 0 ≤ i ∧ i < (n : Int)
      · have h : (if ns.Nodup ∧ ∀ i ∈ ns, 0 ≤ i ∧ i < (n : Int) then some (ns.map Int.toNat) else none) = some is := h
        rw [if_pos c] at h
        cases h
        refine ⟨?_, ?_, fun i hi => ?_⟩
        · rw [intsT_some e, List.map_map]
          congr 1
          refine List.map_congr_left fun a ha => ?_
          have := c.2 a ha
          show Tg.int a = Tg.int ((a.toNat : Nat) : Int)
          congr 1
          omega
        · exact map_nodup c.1 fun a ha b hb e => by have := c.2 a ha; have := c.2 b hb; omega
        · obtain ⟨a, ha, rfl⟩ := List.mem_map.mp hi
          have := c.2 a ha
          omega
      · have h : (if ns.Nodup ∧ ∀ i ∈ ns, 0 ≤ i ∧ i < (n : Int) then some (ns.map Int.toNat) else none) = some is := h
        rw [if_neg c] at h
        cases h
  | _ => cases h
end WS
set_option Elab.async false
set_option linter.all false
set_option maxRecDepth 100000
set_option maxHeartbeats 4000000
namespace WS
open PySem PySem.Spec PyProof.Rows L2
def iInt (is : List Nat) : List Int := is.map fun j : Nat => (j : Int)
def rowOf (ss : List Seat) (is : List Nat) : List (Int × Int) := (is.map (gs ss)).map Prod.snd
def owedP (ss : List Seat) (is : List Nat) : Int × Int := (is.map fun i => (gs ss i).2).foldl pl (0, 1)
end WS
set_option Elab.async false
set_option linter.all false
set_option maxRecDepth 100000
set_option maxHeartbeats 4000000
set_option Elab.async false
set_option linter.all false
set_option maxRecDepth 100000
set_option maxHeartbeats 4000000
namespace WS
open PySem PySem.Spec PyProof.Rows L2
theorem DictIs.sm {d : Option Addr} {H H' : Hp} (h : DictIs d H) (s : Same H H') : DictIs d H' := by
  rcases h with rfl | ⟨dd, fs, rfl, e⟩
  · exact .inl rfl
  · exact .inr ⟨dd, fs, rfl, s _ _ e⟩
def inF (ns : List Int) (n : Nat) : List Nat := (List.range n).filter fun k => decide (((k : Nat) : Int) ∈ ns)
end WS
set_option Elab.async false
set_option linter.all false
set_option maxRecDepth 100000
set_option maxHeartbeats 4000000
namespace WS
open PySem PySem.Spec PyProof.Rows L2
def dBe (ks : List Int) : PyData := .tuple [.str "Beyond", .int (ks.length : Nat), .tuple (ks.map PyData.int)]
end WS
set_option Elab.async false
set_option linter.all false
set_option maxRecDepth 100000
set_option maxHeartbeats 4000000
namespace WS
open PySem PySem.Spec PyProof.Rows L2
def sortN (is : List Nat) : List Nat := is.mergeSort fun a b => decide (a ≤ b)
theorem sortN_ok {is : List Nat} (nd : is.Nodup) : is.Perm (sortN is) ∧ (sortN is).Pairwise (· < ·) := by
  refine ⟨(List.mergeSort_perm _ _).symm, ?_⟩
  have h1 := List.pairwise_mergeSort (le := fun a b : Nat => decide (a ≤ b)) (fun a b c h1 h2 => by simp at *; omega) (fun a b => by simp; omega) is
  have h2 : (is.mergeSort (fun a b => decide (a ≤ b))).Nodup := (List.mergeSort_perm _ _).nodup_iff.mpr nd
  refine (List.Pairwise.and h1 h2).imp fun h => ?_
  have := of_decide_eq_true h.1
  have := h.2
  omega
def othN (n : Nat) (is : List Nat) : List Nat := (List.range n).filter fun i => !decide (i ∈ is)
def dNo : PyData := .tuple [.str "NoSeat"]
def dUn (q : Int × Int) : PyData := .tuple [.str "Unbalanced", pdP q]
def dTw (W : Int) (ss : List Seat) (S O : List Nat) : PyData := .tuple [.str "told", .tuple [momD W (S.map (gs ss)), momD W (O.map (gs ss))]]
def numsOf (W : Int) (ss : List Seat) (is ord : List Nat) : List Int := (beyL W (rowOf ss is) ord).map fun i => (iInt is).getD i 0
def OutQ (W : Int) (ss : List Seat) (S O : List Nat) (D : PyData) : Prop := ∃ oS, RankedP (rowOf ss S) oS ∧ ((beyL W (rowOf ss S) oS ≠ [] ∧ D = dBe (numsOf W ss S oS)) ∨
  (beyL W (rowOf ss S) oS = [] ∧ ∃ oO, RankedP (rowOf ss O) oO ∧ ((beyL W (rowOf ss O) oO ≠ [] ∧ D = dBe (numsOf W ss O oO)) ∨ (beyL W (rowOf ss O) oO = [] ∧ D = dTw W ss S O))))
theorem OutQ.one {W : Int} {ss : List Seat} {S O : List Nat} {D E : PyData} (h : OutQ W ss S O D) (k : OutQ W ss S O E) : E = D := by
  obtain ⟨o, r, h⟩ := h
  obtain ⟨o', r', k⟩ := k
  have e := rankedP_one r' r
  subst e
  rcases h with ⟨n, rfl⟩ | ⟨n, u, ru, h⟩
  · rcases k with ⟨_, e⟩ | ⟨m, _⟩
    · exact e
    · exact absurd m n
  · rcases k with ⟨m, _⟩ | ⟨_, u', ru', k⟩
    · exact absurd n m
    · have e := rankedP_one ru' ru
      subst e
      rcases h with ⟨a, rfl⟩ | ⟨a, rfl⟩
      · rcases k with ⟨_, e⟩ | ⟨b, _⟩
        · exact e
        · exact absurd b a
      · rcases k with ⟨b, _⟩ | ⟨_, e⟩
        · exact absurd a b
        · exact e
def OutP (W : Int) (ss : List Seat) (t : Tg) (D : PyData) : Prop := (seatsT ss.length t = none ∧ D = dNo) ∨ ∃ is, seatsT ss.length t = some is ∧
  ((owedP ss is ≠ (0, 1) ∧ D = dUn (owedP ss is)) ∨ (owedP ss is = (0, 1) ∧ OutQ W ss (sortN is) (othN ss.length is) D))
theorem OutP.one {W : Int} {ss : List Seat} {t : Tg} {D E : PyData} (h : OutP W ss t D) (k : OutP W ss t E) : E = D := by
  rcases h with ⟨n, rfl⟩ | ⟨is, e, h⟩
  · rcases k with ⟨_, e⟩ | ⟨is, e, _⟩
    · exact e
    · rw [n] at e
      cases e
  · rcases k with ⟨n, _⟩ | ⟨is', e', k⟩
    · rw [n] at e
      cases e
    · rw [e] at e'
      cases e'
      rcases h with ⟨a, rfl⟩ | ⟨a, h⟩
      · rcases k with ⟨_, e⟩ | ⟨b, _⟩
        · exact e
        · exact absurd b a
      · rcases k with ⟨b, _⟩ | ⟨_, k⟩
        · exact absurd a b
        · exact h.one k
end WS
set_option Elab.async false
set_option linter.all false
set_option maxRecDepth 100000
set_option maxHeartbeats 4000000
set_option Elab.async false
set_option linter.all false
set_option maxRecDepth 100000
set_option maxHeartbeats 4000000
namespace WS
open PySem PySem.Spec PyProof.Rows L2
/-! ### repr of what comes of a parting (k54) -/
theorem numsOf_ok {W : Int} {ss : List Seat} {is ord : List Nat} (hb : ∀ i ∈ is, i < ss.length) (hl : ss.length ≤ 12) (il : is.length ≤ 12) (rk : RankedP (rowOf ss is) ord) : (numsOf W ss is ord).length ≤ 12 ∧ ∀ k ∈ numsOf W ss is ord, Bt 10 k := by
  obtain ⟨h1, h2⟩ := beyL_le (w := W) rk
  have lr : (rowOf ss is).length = is.length := by unfold rowOf; rw [List.length_map, List.length_map]
  rw [lr] at h1 h2
  unfold numsOf
  refine ⟨by rw [List.length_map]; omega, fun k hk => ?_⟩
  obtain ⟨j, hj, rfl⟩ := List.mem_map.mp hk
  have hj := h2 j hj
  have e : (iInt is).getD j 0 = ((is[j]'hj : Nat) : Int) := by
    unfold iInt
    simp [List.getD_eq_getElem?_getD, List.getElem?_map, List.getElem?_eq_getElem hj]
  rw [e]
  have := hb _ (List.getElem_mem hj)
  exact Bt.of_lt (by omega) (by omega)
theorem sh_dBe {ks : List Int} (hk : ks.length ≤ 12) (b : ∀ k ∈ ks, Bt 10 k) : Sh 1000000 60 (dBe ks) :=
  (Sh.tup (n := 2000) (k := 6) (m := 3) (fun d hd => by
    simp only [List.mem_cons, List.not_mem_nil, or_false] at hd
    rcases hd with rfl | rfl | rfl
    · exact (Sh.str (fun c hc => by revert c hc; decide +kernel)).mono (by decide) (by decide)
    · exact (Sh.int (m := 10) (by decide) (by decide) (Bt.of_lt (by omega) (by omega))).mono (by decide) (by decide)
    · refine (Sh.tup (n := 11) (k := 1) (m := 12) (fun d hd => ?_) (by rw [List.length_map]; exact hk)).mono (by decide) (by decide)
      obtain ⟨k, hk, rfl⟩ := List.mem_map.mp hd
      exact Sh.int (by decide) (by decide) (b k hk)) (Nat.le_refl _)).mono (by decide) (by decide)
theorem sh_dUn {ss : List Seat} {is : List Nat} (il : is.length ≤ 12) (ok : ∀ i ∈ is, Okq 190 90 (gs ss i).2) : Sh 1000000 60 (dUn (owedP ss is)) := by
  have hp : ∀ q ∈ is.map fun i => (gs ss i).2, Ok2 190 90 q := fun q hq => by
    obtain ⟨i, hi, rfl⟩ := List.mem_map.mp hq
    exact ok i hi
  have o := Ok2.fold (N := 190) (D := 90) (is.map fun i => (gs ss i).2) (0, 1) 0 ⟨by decide, (by unfold Bt; decide : Bt 0 (0 : Int)).mono (by omega), (by unfold Bt; decide : Bt 1 (1 : Int)).mono (by omega)⟩ hp
  rw [List.length_map] at o
  have o2 : Ok2 1400 1400 (owedP ss is) := o.mono (by omega) (by omega)
  refine (Sh.tup (n := 4000) (k := 6) (m := 2) (fun d hd => ?_) (Nat.le_refl _)).mono (by decide) (by decide)
  simp only [List.mem_cons, List.not_mem_nil, or_false] at hd
  rcases hd with rfl | rfl
  · exact (Sh.str (fun c hc => by revert c hc; decide +kernel)).mono (by decide) (by decide)
  · exact (Sh.pd (m := 1400) (by decide) (by decide) o2.2.1 o2.2.2).mono (by decide) (by decide)
theorem sh_dTw {W : Int} {ss : List Seat} {S O : List Nat} (hl : ss.length ≤ 12) (bw : Bt 110 W) (ok : ∀ s ∈ ss, Okq 190 90 s.2 ∧ Nm0 s.1) (Sl : S.length ≤ 12) (Ol : O.length ≤ 12) (Sb : ∀ i ∈ S, i < ss.length) (Ob : ∀ i ∈ O, i < ss.length) : Sh 1000000 60 (dTw W ss S O) := by
  have one : ∀ is : List Nat, is.length ≤ 12 → (∀ i ∈ is, i < ss.length) → Sh 20000 5 (momD W (is.map (gs ss))) := fun is il ib => mom_shL (bw.mono (by decide)) (by rw [List.length_map]; exact il) fun s hs => by
    obtain ⟨i, hi, rfl⟩ := List.mem_map.mp hs
    have o := ok _ (gs_mem (ib i hi))
    exact ⟨o.1.okp (by decide) (by decide), o.2⟩
  refine (Sh.tup (n := 50000) (k := 10) (m := 2) (fun d hd => ?_) (Nat.le_refl _)).mono (by decide) (by decide)
  simp only [List.mem_cons, List.not_mem_nil, or_false] at hd
  rcases hd with rfl | rfl
  · exact (Sh.str (fun c hc => by revert c hc; decide +kernel)).mono (by decide) (by decide)
  · refine (Sh.tup (n := 20000) (k := 5) (m := 2) (fun d hd => ?_) (Nat.le_refl _)).mono (by decide) (by decide)
    simp only [List.mem_cons, List.not_mem_nil, or_false] at hd
    rcases hd with rfl | rfl
    · exact one S Sl Sb
    · exact one O Ol Ob
theorem OutP.sh {W : Int} {ss : List Seat} {t : Tg} {D : PyData} (h : OutP W ss t D) (hl : ss.length ≤ 12) (bw : Bt 110 W) (ok : ∀ s ∈ ss, Okq 190 90 s.2 ∧ Nm0 s.1) : Sh 1000000 60 D := by
  rcases h with ⟨_, rfl⟩ | ⟨is, e, h⟩
  · exact (Sh.tup (n := 1000) (k := 6) (m := 1) (fun d hd => by
      rw [List.mem_singleton.mp hd]
      exact (Sh.str (fun c hc => by revert c hc; decide +kernel)).mono (by decide) (by decide)) (Nat.le_refl _)).mono (by decide) (by decide)
  · obtain ⟨_, nd, hin⟩ := seatsT_some e
    have il : is.length ≤ ss.length := by
      have := nd.length_le_of_subset (l₂ := List.range ss.length) fun i hi => List.mem_range.mpr (hin i hi)
      rw [List.length_range] at this
      exact this
    rcases h with ⟨_, rfl⟩ | ⟨_, h⟩
    · exact sh_dUn (by omega) fun i hi => (ok _ (gs_mem (hin i hi))).1
    · obtain ⟨hp, _⟩ := sortN_ok nd
      have Sl : (sortN is).length ≤ 12 := by rw [← hp.length_eq]; omega
      have Sb : ∀ i ∈ sortN is, i < ss.length := fun i hi => hin i (hp.mem_iff.mpr hi)
      have Ol : (othN ss.length is).length ≤ 12 := by
        unfold othN
        have := List.length_filter_le (fun i => !decide (i ∈ is)) (List.range ss.length)
        rw [List.length_range] at this
        omega
      have Ob : ∀ i ∈ othN ss.length is, i < ss.length := fun i hi => by
        unfold othN at hi
        exact List.mem_range.mp (List.mem_filter.mp hi).1
      obtain ⟨oS, rS, h⟩ := h
      rcases h with ⟨_, rfl⟩ | ⟨_, oO, rO, h⟩
      · obtain ⟨a, b⟩ := numsOf_ok (W := W) Sb hl Sl rS
        exact sh_dBe a b
      · rcases h with ⟨_, rfl⟩ | ⟨_, rfl⟩
        · obtain ⟨a, b⟩ := numsOf_ok (W := W) Ob hl Ol rO
          exact sh_dBe a b
        · exact sh_dTw hl bw ok Sl Ol Sb Ob
end WS
set_option Elab.async false
set_option linter.all false
set_option maxRecDepth 100000
set_option maxHeartbeats 4000000
set_option Elab.async false
set_option linter.all false
set_option maxRecDepth 100000
set_option maxHeartbeats 4000000
namespace WS
open PySem PySem.Spec PyProof.Rows L2
/-! ### joined and weighed, refused (k58) -/
def firstIn (s1 s2 : List Seat) : Option Str := (names s1).find? fun z => decide (z ∈ names s2)
def dNw : PyData := .tuple [.str "NoWeight"]
def dBw (i : Int) (ss : List Seat) (ord : List Nat) : PyData := if beyL i (ss.map Prod.snd) ord = [] then dTo i ss else dBe ((beyL i (ss.map Prod.snd) ord).map fun j : Nat => (j : Int))
def OutW (t : Tg) (ss : List Seat) (D : PyData) : Prop := (wOk t = false ∧ D = dNw) ∨ ∃ i ord, t = .int i ∧ 1 ≤ i ∧ RankedP (ss.map Prod.snd) ord ∧ D = dBw i ss ord
theorem OutW.one {t : Tg} {ss : List Seat} {D E : PyData} (h : OutW t ss D) (k : OutW t ss E) : E = D := by
  rcases h with ⟨w, rfl⟩ | ⟨i, o, e, i1, r, rfl⟩
  · rcases k with ⟨_, e⟩ | ⟨i', o', e', i1', _⟩
    · exact e
    · rw [e'] at w
      have : wOk (.int i') = true := decide_eq_true i1'
      rw [w] at this
      cases this
  · rcases k with ⟨w, _⟩ | ⟨i', o', e', i1', r', e''⟩
    · rw [e] at w
      have : wOk (.int i) = true := decide_eq_true i1
      rw [w] at this
      cases this
    · rw [e] at e'
      cases e'
      rw [e'', rankedP_one r' r]
theorem OutW.sh {t : Tg} {ss : List Seat} {D : PyData} {W : Int} (h : OutW t ss D) (m : Mw W ss) (hb : ∀ i, t = .int i → Bt 110 i) : Sh 1000000 60 D := by
  rcases h with ⟨w, rfl⟩ | ⟨i, o, e, i1, r, rfl⟩
  · exact (Sh.tup (n := 1000) (k := 6) (m := 1) (fun d hd => by
      rw [List.mem_singleton.mp hd]
      exact (Sh.str (fun c hc => by revert c hc; decide +kernel)).mono (by decide) (by decide)) (Nat.le_refl _)).mono (by decide) (by decide)
  · unfold dBw
    have l := m.l
    obtain ⟨h1, h2⟩ := beyL_le (w := i) r
    rw [List.length_map] at h1 h2
    split
    · exact sh_dTo (hb i e) m
    · refine sh_dBe (by rw [List.length_map]; omega) fun k hk => ?_
      obtain ⟨j, hj, rfl⟩ := List.mem_map.mp hk
      have := h2 j hj
      exact Bt.of_lt (by omega) (by omega)
end WS
set_option Elab.async false
set_option linter.all false
set_option maxRecDepth 100000
set_option maxHeartbeats 4000000
namespace WS
open PySem PySem.Spec PyProof.Rows L2
/-! ### text * number -/
/-! ### names of things; moments that refuse (k26) -/
instance (z : Str) : Decidable (Nm z) := by
  unfold Nm
  infer_instance
def nmT : Tg → Bool
  | .str z => decide (Nm z)
  | _ => false
def sgn (c : Nat) : Bool := decide (97 ≤ c) && decide (c ≤ 122)
theorem sgn_all (l : List Nat) : (l.map sgn).all id = decide (∀ c ∈ l, 97 ≤ c ∧ c ≤ 122) := by
  rw [List.all_map]
  by_cases h : ∀ c ∈ l, 97 ≤ c ∧ c ≤ 122
  · rw [decide_eq_true h]
    exact List.all_eq_true.mpr fun c hc => by
      have := h c hc
      show (decide (97 ≤ c) && decide (c ≤ 122)) = true
      rw [decide_eq_true this.1, decide_eq_true this.2]
      rfl
  · rw [decide_eq_false h]
    cases e : l.all (id ∘ sgn) with
    | false => rfl
    | true =>
      refine absurd (fun c hc => ?_) h
      have := List.all_eq_true.mp e c hc
      have this : (decide (97 ≤ c) && decide (c ≤ 122)) = true := this
      rw [Bool.and_eq_true] at this
      exact ⟨of_decide_eq_true this.1, of_decide_eq_true this.2⟩
theorem lt_one (a b : Nat) : ([a] < [b]) ↔ a < b := by
  constructor
  · intro h
    cases h with
    | rel h => exact h
    | cons h => cases h
  · exact fun h => .rel h
def spIsNameT (K : PySem.W.Frag) : Sp := fun vs H Q _ => ∃ (p : Addr) (u : V) (t : Tg), vs = [u] ∧ Th p K H u t ∧ (∀ z, t = .str z → z.length ≤ 100) ∧ ∀ H', Same H H' → Q (.bl (nmT t)) H'
/-- plain signs alone -/
def As (z : Str) : Prop := ∀ c ∈ z.cps.toList, c ≤ 127
theorem As.nm {z : Str} (h : Nm z) : As z := fun c hc => by
  have := (h.2.2 c hc).2
  omega
/-- a thing that is drawn, no text too long -/
def ThS (p : Addr) (K : PySem.W.Frag) (H : Hp) (v : V) : Prop := ∃ t, Th p K H v t ∧ ShT 1000 4 t ∧ ∀ z, t = .str z → z.length ≤ 60 ∧ As z
theorem ThS.sx {p : Addr} {K : PySem.W.Frag} {H H' : Hp} {v : V} (h : ThS p K H v) (s : SameX p H H') (hp : PotAt H p) : ThS p K H' v := by
  obtain ⟨t, a, b⟩ := h
  exact ⟨t, a.sx s hp, b⟩
theorem ThS.sm {p : Addr} {K : PySem.W.Frag} {H H' : Hp} {v : V} (h : ThS p K H v) (s : Same H H') : ThS p K H' v := by
  obtain ⟨t, a, b⟩ := h
  exact ⟨t, a.sm s, b⟩
end WS
set_option Elab.async false
set_option linter.all false
set_option maxRecDepth 100000
set_option maxHeartbeats 4000000
set_option Elab.async false
set_option linter.all false
set_option maxRecDepth 100000
set_option maxHeartbeats 4000000
set_option Elab.async false
set_option linter.all false
set_option maxRecDepth 100000
set_option maxHeartbeats 4000000
set_option Elab.async false
set_option linter.all false
set_option maxRecDepth 100000
set_option maxHeartbeats 4000000
namespace WS
open PySem PySem.Spec PyProof.Rows L2
/-- what is told of a moment -/
def toldP (ss : List Seat) : PyData := .list [.tuple ((ss.map Prod.snd).map pdP), .list ((names ss).map PyData.str), .list ((frees ss).map fun j : Nat => PyData.int j), pdP ((kittyL ss).foldl pl (0, 1))]
/-- the list itself, its second and third being lists -/
def TAt (K : PySem.W.Frag) (H : Hp) (L M N : Addr) (ss : List Seat) : Prop := ∃ x y : V, H L = some (.lst [x, .ref M, .ref N, y]) ∧ Dp K H x (.tuple ((ss.map Prod.snd).map pdP)) ∧ H M = some (.lst ((names ss).map V.str)) ∧ H N = some (.lst ((frees ss).map fun j : Nat => V.int j)) ∧ Dp K H y (pdP ((kittyL ss).foldl pl (0, 1)))
theorem TAt.sm {K : PySem.W.Frag} {H H' : Hp} {L M N : Addr} {ss : List Seat} (h : TAt K H L M N ss) (s : Same H H') : TAt K H' L M N ss := by
  obtain ⟨x, y, a, b, c, d, e⟩ := h
  exact ⟨x, y, s _ _ a, b.sm s, s _ _ c, s _ _ d, e.sm s⟩
theorem TAt.dp {K : PySem.W.Frag} {H : Hp} {L M N : Addr} {ss : List Seat} (h : TAt K H L M N ss) : Dp K H (.ref L) (toldP ss) := by
  obtain ⟨x, y, a, b, c, d, e⟩ := h
  exact .lst (.inl (.inl a)) (.cons b (.cons (.lst (.inl (.inl c)) (dpall_strs _)) (.cons (.lst (.inl (.inl d)) (dpall_nats _)) (.cons e .nil))))
end WS
set_option Elab.async false
set_option linter.all false
set_option maxRecDepth 100000
set_option maxHeartbeats 4000000
set_option Elab.async false
set_option linter.all false
set_option maxRecDepth 100000
set_option maxHeartbeats 4000000
namespace WS
open PySem PySem.Spec PyProof.Rows L2
/-! ### rows whose denominators divide one number -/
/-- p is at most N from nought, and its denominator divides D -/
def OkV (D : Int) (N : Nat) (p : Int × Int) : Prop := 0 < p.2 ∧ p.2 ∣ D ∧ p.1.natAbs ≤ N * p.2.natAbs
theorem OkV.mono {D : Int} {N M : Nat} {p : Int × Int} (h : OkV D N p) (k : N ≤ M) : OkV D M p := ⟨h.1, h.2.1, Nat.le_trans h.2.2 (Nat.mul_le_mul_right _ k)⟩
theorem OkV.lo {D : Int} {N : Nat} {a b : Int} (hD : 0 < D) (hb : 0 < b) (hd : ∃ z, a * D = z * b) (hv : a.natAbs ≤ N * b.natAbs) : OkV D N (lo a b) := by
  have low := lo_lowest (a := a) hb
  have g : 0 < Int.gcd a b := gcd_pos (by omega)
  have e1 := lo_fst a b
  have e2 := lo_snd a b
  refine ⟨low.1, ?_, ?_⟩
  · obtain ⟨z, hz⟩ := hd
    have c := lo_cross a b
    have e : (WS.lo a b).1 * D = z * (WS.lo a b).2 := by
      have h1 : (WS.lo a b).1 * D * b = z * (WS.lo a b).2 * b := by
        calc (WS.lo a b).1 * D * b = (WS.lo a b).1 * b * D := by grind
          _ = a * (WS.lo a b).2 * D := by rw [c]
          _ = a * D * (WS.lo a b).2 := by grind
          _ = z * b * (WS.lo a b).2 := by rw [hz]
          _ = z * (WS.lo a b).2 * b := by grind
      exact Int.eq_of_mul_eq_mul_right (by omega) h1
    exact dvd_cop low.2 (by rw [e]; exact Int.dvd_mul_left _ _)
  · have n1 : (WS.lo a b).1.natAbs * Int.gcd a b = a.natAbs := by
      have := congrArg Int.natAbs e1
      rwa [Int.natAbs_mul, Int.natAbs_natCast] at this
    have n2 : (WS.lo a b).2.natAbs * Int.gcd a b = b.natAbs := by
      have := congrArg Int.natAbs e2
      rwa [Int.natAbs_mul, Int.natAbs_natCast] at this
    rw [← n1, ← n2] at hv
    refine Nat.le_of_mul_le_mul_right (c := Int.gcd a b) ?_ g
    rw [Nat.mul_assoc]
    exact hv
theorem OkV.pl {D : Int} {N M : Nat} {p q : Int × Int} (hD : 0 < D) (h : OkV D N p) (k : OkV D M q) : OkV D (N + M) (pl p q) := by
  obtain ⟨h1, ⟨m, hm⟩, h3⟩ := h
  obtain ⟨k1, ⟨n, hn⟩, k3⟩ := k
  refine OkV.lo hD (Int.mul_pos h1 k1) ⟨p.1 * m + q.1 * n, ?_⟩ ?_
  · calc (p.1 * q.2 + q.1 * p.2) * D = p.1 * q.2 * D + q.1 * p.2 * D := by grind
      _ = p.1 * q.2 * (p.2 * m) + q.1 * p.2 * (q.2 * n) := by rw [← hm, ← hn]
      _ = (p.1 * m + q.1 * n) * (p.2 * q.2) := by grind
  · have a1 : (p.1 * q.2).natAbs ≤ N * (p.2 * q.2).natAbs := by
      rw [Int.natAbs_mul, Int.natAbs_mul, ← Nat.mul_assoc]
      exact Nat.mul_le_mul_right _ h3
    have a2 : (q.1 * p.2).natAbs ≤ M * (p.2 * q.2).natAbs := by
      rw [Int.natAbs_mul, Int.natAbs_mul, Nat.mul_comm p.2.natAbs, ← Nat.mul_assoc]
      exact Nat.mul_le_mul_right _ k3
    have := Int.natAbs_add_le (p.1 * q.2) (q.1 * p.2)
    rw [Nat.add_mul]
    omega
theorem OkV.nought (D : Int) : OkV D 0 (0, 1) := ⟨by decide, Int.one_dvd D, by decide⟩
theorem OkV.fold {D : Int} {M : Nat} (hD : 0 < D) : ∀ (ps : List (Int × Int)) (s : Int × Int) (N : Nat), OkV D N s → (∀ q ∈ ps, OkV D M q) → OkV D (N + ps.length * M) (ps.foldl WS.pl s)
  | [], s, N, h, _ => by simpa using h
  | p :: ps, s, N, h, hp => by
    have h1 := h.pl hD (hp p List.mem_cons_self)
    have := OkV.fold hD ps _ _ h1 fun q hq => hp q (List.mem_cons_of_mem _ hq)
    rw [List.foldl_cons, List.length_cons, Nat.add_mul, Nat.one_mul]
    exact this.mono (by omega)
theorem OkV.okp {D : Int} {N d n m : Nat} {p : Int × Int} (h : OkV D N p) (hD : 0 < D) (bD : Bt d D) (bN : N < 2 ^ n) (hm : n + d ≤ m) : Okp m p := by
  obtain ⟨h1, h2, h3⟩ := h
  have le : p.2.natAbs ≤ D.natAbs := by
    have := Int.le_of_dvd hD h2
    omega
  have b2 : Bt d p.2 := Nat.lt_of_le_of_lt le bD
  refine ⟨h1, ?_, b2.mono (by omega)⟩
  have : p.1.natAbs < 2 ^ (n + d) := by
    rw [Nat.pow_add]
    exact Nat.lt_of_le_of_lt h3 (Nat.mul_lt_mul_of_lt_of_le bN (Nat.le_of_lt b2) (Nat.two_pow_pos d))
  exact (show Bt (n + d) p.1 from this).mono hm
/-- a row whose sums stay small -/
structure SaneRow (ps : List (Int × Int)) : Prop where
  l : ps.length ≤ 100
  ok : ∀ q ∈ ps, Okp 4400 q
  sum : ∀ is : List Nat, is.length ≤ ps.length → (∀ i ∈ is, i < ps.length) → Okp 4400 ((is.map (gp ps)).foldl pl (0, 1))
  pre : ∀ i, Okp 4400 ((ps.take i).foldl pl (0, 1))
theorem SaneRow.of {D : Int} {N d n : Nat} {ps : List (Int × Int)} (hl : ps.length ≤ 100) (hD : 0 < D) (bD : Bt d D) (h : ∀ q ∈ ps, OkV D N q) (bN : ps.length * N < 2 ^ n) (bM : N < 2 ^ n) (hn : n + d ≤ 4400) : SaneRow ps := by
  have sm : ∀ qs : List (Int × Int), qs.length ≤ ps.length → (∀ q ∈ qs, OkV D N q) → Okp 4400 (qs.foldl pl (0, 1)) := fun qs ql hq => by
    refine (OkV.fold hD qs (0, 1) 0 (OkV.nought D) hq).okp hD bD ?_ hn
    have := Nat.mul_le_mul_right N ql
    omega
  refine ⟨hl, fun q hq => (h q hq).okp hD bD bM hn, fun is il hi => sm _ (by rw [List.length_map]; exact il) fun q hq => ?_, fun i => sm _ (by rw [List.length_take]; exact Nat.min_le_right _ _) fun q hq => h q (List.mem_of_mem_take hq)⟩
  obtain ⟨j, hj, rfl⟩ := List.mem_map.mp hq
  exact h _ (gp_mem (hi j hj))
theorem SaneRow.sumK {ps : List (Int × Int)} {ord : List Nat} (s : SaneRow ps) (h : RankedP ps ord) (k : Nat) : Okp 4400 (sumK ps ord k) :=
  s.sum _ (by rw [List.length_take, h.lt.1]; exact Nat.min_le_right _ _) fun i hi => h.lt.2 i (List.mem_of_mem_take hi)
def RowS (K : PySem.W.Frag) (H : Hp) (l : Addr) (ps : List (Int × Int)) : Prop := ∃ rs : List V, SqT K H l rs ∧ Parts K H rs ps ∧ SaneRow ps
theorem RowS.k {K : PySem.W.Frag} {H H' : Hp} {l : Addr} {ps : List (Int × Int)} (h : RowS K H l ps) (s : KT H H') : RowS K H' l ps := by
  obtain ⟨rs, a, b, c⟩ := h
  exact ⟨rs, s.sqt a, b.k s, c⟩
def spAheadS (K : PySem.W.Frag) (TT : List (Addr × Str)) : Sp := fun vs H Q _ => ∃ (l : Addr) (ps : List (Int × Int)), vs = [.ref l] ∧ RowS K H l ps ∧ LamX.Tabs TT H ∧
  ∀ H' p ts ord, LamX.ExtN H H' → LamX.Tabs TT H' → New H p → H' p = some (.lst ts) → Parts K H' ts (sumsP ps ord) → RankedP ps ord → Q (.ref p) H'
def spFallS (K : PySem.W.Frag) (TT : List (Addr × Str)) : Sp := fun vs H Q _ => ∃ (w : Int) (l : Addr) (ps : List (Int × Int)), vs = [.int w, .ref l] ∧ Bt 2000 w ∧ RowS K H l ps ∧ LamX.Tabs TT H ∧
  ∀ H' ord, LamX.ExtN H H' → LamX.Tabs TT H' → RankedP ps ord → Q (fallV w ps ord) H'
def spWithinS (K : PySem.W.Frag) (TT : List (Addr × Str)) : Sp := fun vs H Q _ => ∃ (w : Int) (l : Addr) (ps : List (Int × Int)), vs = [.int w, .ref l] ∧ Bt 2000 w ∧ RowS K H l ps ∧ LamX.Tabs TT H ∧
  ∀ H' b, LamX.ExtN H H' → LamX.Tabs TT H' → (b = true ↔ (ps.map rv).sum = 0 ∧ WthF w ps.length (fun j => rv (gp ps j))) → Q (.bl b) H'
def spTotalS (K : PySem.W.Frag) : Sp := fun vs H Q _ => ∃ (l : Addr) (u : V) (a b : Int) (rs : List V) (ps : List (Int × Int)), vs = [.ref l, u] ∧ (SqL K H l rs ∨ SqT K H l rs) ∧ TupI K H u a b ∧ Parts K H rs ps ∧ (∀ q ∈ ps, Okp 4400 q) ∧ (∀ i, Okp 4400 ((ps.take i).foldl pl (a, b))) ∧ ∀ v H', Same H H' → TupI K H' v (ps.foldl pl (a, b)).1 (ps.foldl pl (a, b)).2 → Q v H'
/-- a moment of up to 100 seats whose row is sane -/
structure MOkS (W : Int) (ss : List Seat) : Prop where
  w : 1 ≤ W
  b : Bt 1500 W
  nd : (names ss).Nodup
  nm : ∀ s ∈ ss, Nm0 s.1
  low : ∀ s ∈ ss, Lowest s.2.1 s.2.2
  s : SaneRow (ss.map Prod.snd)
  g : Good W ss
def spIsMomS (K : PySem.W.Frag) (TT : List (Addr × Str)) : Sp := fun vs H Q _ => ∃ (v : V) (W : Int) (ss : List Seat), vs = [v] ∧ Dp K H v (momD W ss) ∧ MOkS W ss ∧ LamX.Tabs TT H ∧ ∀ H', LamX.ExtN H H' → LamX.Tabs TT H' → Q (.bl true) H'
end WS
set_option Elab.async false
set_option linter.all false
set_option maxRecDepth 100000
set_option maxHeartbeats 4000000
set_option Elab.async false
set_option linter.all false
set_option maxRecDepth 100000
set_option maxHeartbeats 4000000
namespace WS
open PySem PySem.Spec PyProof.Rows L2
/-- moments that grow by coming and going: n seats, denominators dividing D -/
structure K23 (D : Int) (n : Nat) (W : Int) (ss : List Seat) : Prop where
  l : ss.length ≤ n
  w : 1 ≤ W
  b : Bt 110 W
  nd : (names ss).Nodup
  nm : ∀ s ∈ ss, Nm0 s.1
  ok : ∀ s ∈ ss, Lowest s.2.1 s.2.2 ∧ Okq 190 90 s.2 ∧ s.2.2 ∣ D
  g : Good W ss
  d0 : 0 < D
  db : Bt 900 D
theorem nought23 (D : Int) : Lowest ((0, 1) : Int × Int).1 ((0, 1) : Int × Int).2 ∧ Okq 190 90 ((0, 1) : Int × Int) ∧ ((0, 1) : Int × Int).2 ∣ D :=
  ⟨⟨by decide, by decide⟩, ⟨by decide, by unfold Bt; decide +kernel, by unfold Bt; decide +kernel⟩, Int.one_dvd D⟩
theorem K23.gs {D : Int} {n : Nat} {W : Int} {ss : List Seat} (h : K23 D n W ss) (i : Nat) : Lowest (gs ss i).2.1 (gs ss i).2.2 ∧ Okq 190 90 (gs ss i).2 ∧ (gs ss i).2.2 ∣ D := by
  by_cases c : i < ss.length
  · exact h.ok _ (gs_mem c)
  · have : WS.gs ss i = (("", (0, 1)) : Seat) := by
      unfold WS.gs
      rw [List.getD_eq_getElem?_getD, List.getElem?_eq_none (by omega)]
      rfl
    rw [this]
    exact nought23 D
theorem K23.come {D : Int} {n : Nat} {W : Int} {ss : List Seat} {z : Str} (h : K23 D n W ss) (hz : Nm z) (hn : z ∉ names ss) : K23 D (n + 1) W (put ss (room ss) z) := by
  have hr := room_le ss
  have h12 := h.l
  refine ⟨?_, h.w, h.b, nd_come h.nd hz hn, fun s hs => ?_, fun s hs => ?_, ?_, h.d0, h.db⟩
  · rw [put_len ss _ z hr]
    split <;> omega
  · rcases put_mem hs with hs | rfl
    · exact h.nm s hs
    · exact .inr hz
  · rcases put_mem hs with hs | rfl
    · exact h.ok s hs
    · exact h.gs _
  · by_cases c : room ss < ss.length
    · exact h.g.put c
    · have e : room ss = ss.length := by omega
      rw [e, put_end]
      exact good_zeros (by have := h.w; omega) h.g [z]
theorem K23.leave {D : Int} {n : Nat} {W : Int} {ss : List Seat} {i : Nat} (h : K23 D n W ss) (hi : i < ss.length) : K23 D n W (put ss i "") := by
  refine ⟨?_, h.w, h.b, nd_leave h.nd hi, fun s hs => ?_, fun s hs => ?_, h.g.put hi, h.d0, h.db⟩
  · rw [put_len ss _ _ (by omega), if_pos hi]
    exact h.l
  · rcases put_mem hs with hs | rfl
    · exact h.nm s hs
    · exact .inl rfl
  · rcases put_mem hs with hs | rfl
    · exact h.ok s hs
    · exact h.gs _
theorem K23.up {D : Int} {n m : Nat} {W : Int} {ss : List Seat} (h : K23 D n W ss) (k : n ≤ m) : K23 D m W ss := ⟨Nat.le_trans h.l k, h.w, h.b, h.nd, h.nm, h.ok, h.g, h.d0, h.db⟩
theorem K23.m {D : Int} {n : Nat} {W : Int} {ss : List Seat} (h : K23 D n W ss) (hn : n ≤ 60) : MOkS W ss := by
  have l := h.l
  refine ⟨h.w, h.b.mono (by decide), h.nd, h.nm, fun s hs => (h.ok s hs).1, SaneRow.of (D := D) (N := 2 ^ 190) (d := 900) (n := 200) (by rw [List.length_map]; omega) h.d0 h.db (fun q hq => ?_) ?_ (by decide +kernel) (by decide), h.g⟩
  · obtain ⟨s, hs, rfl⟩ := List.mem_map.mp hq
    obtain ⟨_, o, d⟩ := h.ok s hs
    refine ⟨o.1, d, ?_⟩
    have h1 : s.2.1.natAbs < 2 ^ 190 := o.2.1
    have h2 : 1 ≤ s.2.2.natAbs := by have := o.1; omega
    exact Nat.le_trans (Nat.le_of_lt h1) (Nat.le_mul_of_pos_right _ h2)
  · rw [List.length_map]
    exact Nat.lt_of_le_of_lt (Nat.mul_le_mul_right _ (show ss.length ≤ 60 by omega)) (by decide +kernel)
theorem mom_shV {W : Int} {ss : List Seat} (hW : Bt 140 W) (hl : ss.length ≤ 60) (ok : ∀ s ∈ ss, Nm0 s.1 ∧ Okq 190 90 s.2) : Sh 110000 5 (momD W ss) := by
  have h1 : Sh 50000 4 (.tuple (ss.map seatD)) := by
    refine (Sh.tup (n := 800) (k := 3) (m := 60) (fun d hd => ?_) (by rw [List.length_map]; exact hl)).mono (by omega) (Nat.le_refl _)
    obtain ⟨s, hs, rfl⟩ := List.mem_map.mp hd
    refine (Sh.tup (n := 388) (k := 2) (m := 2) (ds := [.str s.1, pdP s.2]) (fun d hd => ?_) (Nat.le_refl 2)).mono (by omega) (Nat.le_refl _)
    simp only [List.mem_cons, List.not_mem_nil, or_false] at hd
    rcases hd with rfl | rfl
    · exact (nm_sh (ok s hs).1).mono (by omega) (by omega)
    · exact (Sh.pd (m := 190) (by decide) (by decide) (ok s hs).2.2.1 ((ok s hs).2.2.2.mono (by decide))).mono (by omega) (Nat.le_refl _)
  unfold momD
  refine (Sh.tup (n := 50000) (k := 4) (m := 2) (ds := [.int W, .tuple (ss.map seatD)]) (fun d hd => ?_) (Nat.le_refl 2)).mono (by omega) (Nat.le_refl _)
  simp only [List.mem_cons, List.not_mem_nil, or_false] at hd
  rcases hd with rfl | rfl
  · exact (Sh.int (m := 140) (by decide) (by decide) hW).mono (by omega) (by omega)
  · exact h1
theorem K23.sh {D : Int} {n : Nat} {W : Int} {ss : List Seat} (h : K23 D n W ss) (hn : n ≤ 60) : Sh 110000 5 (momD W ss) := mom_shV (h.b.mono (by decide)) (Nat.le_trans h.l hn) fun s hs => ⟨h.nm s hs, (h.ok s hs).2.1⟩
/-- what a refusal comes to: by a name, taken, by a person -/
inductive Wd | name | taken (z : Str) | person
def Wd.d : Wd → PyData
  | .name => .str "name"
  | .taken z => .tuple [.str "taken", .str z]
  | .person => .str "person"
/-- the exception that says so -/
def Wd.is (cN cT cP : Addr) : Wd → (Value → Option Addr → Hp → Prop)
  | .name => fun c d _ => c = .ref cN ∧ d = none
  | .taken z => fun c d H => c = .ref cT ∧ ∃ a, d = some a ∧ H a = some (.xd [("person", .str z)])
  | .person => fun c d _ => c = .ref cP ∧ d = none
end WS
set_option Elab.async false
set_option linter.all false
set_option maxRecDepth 100000
set_option maxHeartbeats 4000000
namespace WS
open PySem PySem.Spec PyProof.Rows L2
/-- the place chosen among the first j seats -/
def rmJ (ss : List Seat) (j : Nat) : Nat := ((List.range j).filter fun i => decide ((gs ss i).1 = "")).foldl (near ss) ss.length
def DueAtS (K : PySem.W.Frag) (H : Hp) (ss : List Seat) (j : Nat) (y : V) : Prop := (rmJ ss j = ss.length ∧ y = .non) ∨ (rmJ ss j < ss.length ∧ ∃ a n, y = .ref a ∧ SqT K H a [n, .int ((rmJ ss j : Nat) : Int)] ∧ TupI K H n (ab (gs ss (rmJ ss j)).2).1 (ab (gs ss (rmJ ss j)).2).2)
theorem DueAtS.start {K : PySem.W.Frag} {H : Hp} {ss : List Seat} : DueAtS K H ss 0 .non := .inl ⟨rfl, rfl⟩
theorem DueAtS.sm {K : PySem.W.Frag} {H H' : Hp} {ss : List Seat} {j : Nat} {y : V} (h : DueAtS K H ss j y) (s : Same H H') : DueAtS K H' ss j y := by
  rcases h with h | ⟨h, a, n, e, x, t⟩
  · exact .inl h
  · exact .inr ⟨h, a, n, e, Same.tup s x, t.same s⟩
end WS
set_option Elab.async false
set_option linter.all false
set_option maxRecDepth 100000
set_option maxHeartbeats 4000000
set_option Elab.async false
set_option linter.all false
set_option maxRecDepth 100000
set_option maxHeartbeats 4000000
set_option Elab.async false
set_option linter.all false
set_option maxRecDepth 100000
set_option maxHeartbeats 4000000
namespace WS
open PySem PySem.Spec PyProof.Rows L2
/-! ### rows of up to 26 seats, as the laws draw them -/
theorem okV_of {D : Int} {N : Nat} {a b : Int} (hD : 0 < D) (hb : 0 < b) (hd : b ∣ D) (ha : a.natAbs ≤ N) : OkV D N (lo a b) := by
  refine OkV.lo hD hb ?_ ?_
  · obtain ⟨k, hk⟩ := hd
    exact ⟨a * k, by rw [hk]; grind⟩
  · exact Nat.le_trans ha (Nat.le_mul_of_pos_right _ (by omega))
theorem OkV.ok2 {d : Int} {q : Int × Int} (h : OkV d (2 ^ 102) q) (d0 : 0 < d) (db : Bt 12 d) : Ok2 115 12 q := by
  refine ⟨h.1, (h.okp d0 db (n := 103) (by decide +kernel) (Nat.le_refl 115)).2.1, ?_⟩
  have le : q.2.natAbs ≤ d.natAbs := by
    have := Int.le_of_dvd d0 h.2.1
    have := h.1
    omega
  exact Nat.lt_of_le_of_lt le db
end WS
set_option Elab.async false
set_option linter.all false
set_option maxRecDepth 100000
set_option maxHeartbeats 4000000
namespace WS
open PySem PySem.Spec PyProof.Rows L2
/-! ### up to 52 names -/
open TL
def sgq (c : Nat) : Str := sg1 c ++ ("q" : Str)
theorem tl_sgq (c : Nat) : tl (sgq c) = [c, 113] := rfl
theorem sgq_inj {a b : Nat} (h : sgq a = sgq b) : a = b := by
  have := congrArg tl h
  rw [tl_sgq, tl_sgq] at this
  exact (List.cons.inj this).1
theorem sg_ne {a b : Nat} : sg1 a ≠ sgq b := fun h => by
  have := congrArg (fun z => (tl z).length) h
  rw [tl_sgq] at this
  cases this
theorem nm_sgq {c : Nat} (h : c ∈ lets) : Nm (sgq c) := by
  have := lets_ok.2.2.1 c h
  refine ⟨by rw [tl_sgq]; simp, by rw [tl_sgq]; simp, fun x hx => ?_⟩
  rw [tl_sgq] at hx
  simp only [List.mem_cons, List.not_mem_nil, or_false] at hx
  rcases hx with rfl | rfl
  · exact this
  · decide
def freeW (us : List Str) : List Str := (lets.filter fun c => !decide (sg1 c ∈ us)).map sg1 ++ (lets.filter fun c => !decide (sgq c ∈ us)).map sgq
theorem freeW_mem {us : List Str} {z : Str} (h : z ∈ freeW us) : Nm z ∧ z ∉ us := by
  rcases List.mem_append.mp h with h | h
  · obtain ⟨c, hc, rfl⟩ := List.mem_map.mp h
    obtain ⟨h1, h2⟩ := List.mem_filter.mp hc
    have hcl := lets_ok.2.2.1 c h1
    exact ⟨⟨Nat.le_refl 1, by show 1 ≤ 8; decide, fun x hx => by rw [List.mem_singleton.mp hx]; exact hcl⟩, by simpa using h2⟩
  · obtain ⟨c, hc, rfl⟩ := List.mem_map.mp h
    obtain ⟨h1, h2⟩ := List.mem_filter.mp hc
    exact ⟨nm_sgq h1, by simpa using h2⟩
theorem freeW_ne {us : List Str} (h : us.length < 52) : freeW us ≠ [] := by
  intro e
  obtain ⟨e1, e2⟩ := List.append_eq_nil_iff.mp e
  have all1 : ∀ c ∈ lets, sg1 c ∈ us := fun c hc => by
    apply Decidable.byContradiction
    intro n
    have : sg1 c ∈ (lets.filter fun c => !decide (sg1 c ∈ us)).map sg1 := List.mem_map_of_mem (List.mem_filter.mpr ⟨hc, by simp [n]⟩)
    rw [e1] at this
    exact List.not_mem_nil this
  have all2 : ∀ c ∈ lets, sgq c ∈ us := fun c hc => by
    apply Decidable.byContradiction
    intro n
    have : sgq c ∈ (lets.filter fun c => !decide (sgq c ∈ us)).map sgq := List.mem_map_of_mem (List.mem_filter.mpr ⟨hc, by simp [n]⟩)
    rw [e2] at this
    exact List.not_mem_nil this
  have nd : (lets.map sg1 ++ lets.map sgq).Nodup := by
    rw [List.nodup_append]
    refine ⟨List.Pairwise.map _ (fun a b hab => fun z => hab (sg1_inj z)) lets_ok.1, List.Pairwise.map _ (fun a b hab => fun z => hab (sgq_inj z)) lets_ok.1, fun a ha b hb e => ?_⟩
    obtain ⟨x, _, rfl⟩ := List.mem_map.mp ha
    obtain ⟨y, _, rfl⟩ := List.mem_map.mp hb
    exact sg_ne e
  have := nodup_in nd (m := us) (fun x hx => by
    rcases List.mem_append.mp hx with hx | hx
    · obtain ⟨c, hc, rfl⟩ := List.mem_map.mp hx
      exact all1 c hc
    · obtain ⟨c, hc, rfl⟩ := List.mem_map.mp hx
      exact all2 c hc)
  rw [List.length_append, List.length_map, List.length_map, lets_ok.2.1] at this
  omega
def spNameW : Sp := fun vs H Q _ => ∃ (p U : Addr) (us : List Str), vs = [.ref p, .ref U] ∧ PotAt H p ∧ U ≠ p ∧ H U = some (.lst (us.map V.str)) ∧ us.length < 52 ∧ ∀ z H', Nm z → z ∉ us → SameX p H H' → PotAt H' p → Q (.str z) H'
def spNamesW : Sp := fun vs H Q _ => ∃ (p : Addr) (m : Nat), vs = [.ref p, .int m] ∧ PotAt H p ∧ m ≤ 52 ∧ ∀ D (us : List Str) H', H D = none → H' D = some (.lst (us.map V.str)) → us.length = m → us.Nodup → (∀ z ∈ us, Nm z) → SameX p H H' → PotAt H' p → Q (.ref D) H'
end WS
set_option Elab.async false
set_option linter.all false
set_option maxRecDepth 100000
set_option maxHeartbeats 4000000
set_option Elab.async false
set_option linter.all false
set_option maxRecDepth 100000
set_option maxHeartbeats 4000000
namespace WS
open PySem PySem.Spec PyProof.Rows L2
/-! ### min of three whole numbers -/
/-- what stays in the loop: guests, places, seats -/
structure GI (tt : List Seat) (gl : List Str) (pl : List Nat) (qq : List Seat) : Prop where
  sn : qq.map Prod.snd = tt.map Prod.snd
  nd : (gl ++ names qq).Nodup
  gn : ∀ z ∈ gl, Nm z
  nm : ∀ s ∈ qq, Nm0 s.1
  pn : pl.Nodup
  po : ∀ i ∈ pl, i < qq.length ∧ (gs qq i).1 ≠ ""
theorem GI.step {tt qq : List Seat} {gl : List Str} {pl : List Nat} {x y : Nat} {g : Str} {i : Nat} (h : GI tt gl pl qq) (hg : gl[x]? = some g) (hi : pl[y]? = some i) : GI tt (gl.eraseIdx x) (pl.eraseIdx y) (put qq i g) := by
  obtain ⟨hx, ex⟩ := List.getElem?_eq_some_iff.mp hg
  obtain ⟨hy, ey⟩ := List.getElem?_eq_some_iff.mp hi
  have gm : g ∈ gl := List.mem_of_getElem? hg
  have im : i ∈ pl := List.mem_of_getElem? hi
  obtain ⟨hil, hio⟩ := h.po i im
  have gne := nm_ne (h.gn g gm)
  have pg : (g :: gl.eraseIdx x).Perm gl := by
    have := cons_erase hx
    rwa [ex] at this
  have pp : (i :: pl.eraseIdx y).Perm pl := by
    have := cons_erase hy
    rwa [ey] at this
  have sub := List.eraseIdx_sublist gl x
  have subp := List.eraseIdx_sublist pl y
  have pn := pp.nodup_iff.mpr h.pn
  refine ⟨?_, ?_, fun z hz => h.gn z (sub.subset hz), fun s hs => ?_, (List.nodup_cons.mp pn).2, fun k hk => ?_⟩
  · rw [put_set hil, List.map_set, ← h.sn]
    refine List.ext_getElem? fun k => ?_
    rw [List.getElem?_set]
    by_cases c : i = k
    · subst c
      rw [if_pos rfl, if_pos (by rw [List.length_map]; exact hil), List.getElem?_map, at_gs hil]
      rfl
    · rw [if_neg c]
  · have n1 := h.nd
    rw [names_split qq i hil] at n1
    have n2 : (gl.eraseIdx x ++ names (put qq i g)).Perm (g :: gl.eraseIdx x ++ (names (qq.take i) ++ names (qq.drop (i + 1)))) := by
      rw [names_put, if_neg gne, List.append_assoc, List.singleton_append]
      refine (List.Perm.append_left _ List.perm_middle).trans ?_
      exact List.perm_middle
    refine n2.nodup_iff.mpr ?_
    have n3 : (g :: gl.eraseIdx x ++ (names (qq.take i) ++ names (qq.drop (i + 1)))).Perm (gl ++ (names (qq.take i) ++ names (qq.drop (i + 1)))) := List.Perm.append_right _ pg
    refine n3.nodup_iff.mpr (n1.sublist ?_)
    refine List.Sublist.append_left ?_ _
    rw [List.append_assoc]
    exact List.Sublist.append_left (List.sublist_append_right _ _) _
  · rcases put_mem hs with hs | rfl
    · exact h.nm s hs
    · exact .inr (h.gn g gm)
  · obtain ⟨kl, ko⟩ := h.po k (subp.subset hk)
    refine ⟨by rw [put_len qq i g (by omega), if_pos hil]; exact kl, ?_⟩
    have : k ≠ i := fun z => (List.nodup_cons.mp pn).1 (z ▸ hk)
    rw [gs_put hil, if_neg this]
    exact ko
end WS
set_option Elab.async false
set_option linter.all false
set_option maxRecDepth 100000
set_option maxHeartbeats 4000000
namespace WS
open PySem PySem.Spec PyProof.Rows L2
/-- k51's moments -/
structure M51 (W : Int) (ss : List Seat) : Prop where
  l : ss.length ≤ 26
  w : 1 ≤ W
  b : Bt 112 W
  nd : (names ss).Nodup
  nm : ∀ s ∈ ss, Nm0 s.1
  ok : ∃ d : Int, 0 < d ∧ Bt 12 d ∧ ∀ s ∈ ss, Lowest s.2.1 s.2.2 ∧ Okq 190 90 s.2 ∧ s.2.2 ∣ d
  g : Good W ss
theorem M51.of {D W : Int} {ss : List Seat} (k : K23 D 26 W ss) (db : Bt 12 D) : M51 W ss := ⟨k.l, k.w, k.b.mono (by decide), k.nd, k.nm, ⟨D, k.d0, db, k.ok⟩, k.g⟩
theorem M51.up {W W' : Int} {ss : List Seat} (h : M51 W ss) (k : W ≤ W') (b : Bt 112 W') : M51 W' ss := ⟨h.l, by have := h.w; omega, b, h.nd, h.nm, h.ok, h.g.up k⟩
theorem M51.join {W : Int} {ss tt : List Seat} (h : M51 W ss) (k : M51 W tt) (no : firstIn ss tt = none) : MOkS W (ss ++ tt) := by
  obtain ⟨d, d0, db, dd⟩ := h.ok
  obtain ⟨e, e0, eb, de⟩ := k.ok
  have hl := h.l
  have kl := k.l
  refine ⟨h.w, h.b.mono (by decide), ?_, fun s hs => ?_, fun s hs => ?_, SaneRow.of (D := d * e) (N := 2 ^ 190) (d := 24) (n := 200) (by rw [List.length_map, List.length_append]; omega) (Int.mul_pos d0 e0) (db.mul eb) (fun q hq => ?_) ?_ (by decide +kernel) (by decide), good_app (by have := h.w; omega) h.g k.g⟩
  · rw [names_app, List.nodup_append]
    refine ⟨h.nd, k.nd, fun a ha b hb e => ?_⟩
    have := List.find?_eq_none.mp no a ha
    rw [e] at this
    simp [hb] at this
  · rcases List.mem_append.mp hs with z | z
    · exact h.nm s z
    · exact k.nm s z
  · rcases List.mem_append.mp hs with z | z
    · exact (dd s z).1
    · exact (de s z).1
  · obtain ⟨s, hs, rfl⟩ := List.mem_map.mp hq
    have fin : Okq 190 90 s.2 → s.2.2 ∣ d * e → OkV (d * e) (2 ^ 190) s.2 := fun o dv => by
      refine ⟨o.1, dv, ?_⟩
      have h1 : s.2.1.natAbs < 2 ^ 190 := o.2.1
      have h2 : 1 ≤ s.2.2.natAbs := by have := o.1; omega
      exact Nat.le_trans (Nat.le_of_lt h1) (Nat.le_mul_of_pos_right _ h2)
    rcases List.mem_append.mp hs with z | z
    · exact fin (dd s z).2.1 (Int.dvd_trans (dd s z).2.2 (Int.dvd_mul_right _ _))
    · exact fin (de s z).2.1 (Int.dvd_trans (de s z).2.2 (Int.dvd_mul_left _ _))
  · rw [List.length_map, List.length_append]
    exact Nat.lt_of_le_of_lt (Nat.mul_le_mul_right _ (show ss.length + tt.length ≤ 60 by omega)) (by decide +kernel)
theorem M51.sq {W : Int} {ss : List Seat} (h : M51 W ss) : ∀ s ∈ ss, Nm0 s.1 ∧ Okq 190 90 s.2 := fun s hs => by
  obtain ⟨d, d0, db, dd⟩ := h.ok
  exact ⟨h.nm s hs, (dd s hs).2.1⟩
end WS
set_option Elab.async false
set_option linter.all false
set_option maxRecDepth 100000
set_option maxHeartbeats 4000000
namespace WS
open PySem PySem.Spec PyProof.Rows L2
/-! ### parting moments of up to 100 seats -/
def SaneM (ss : List Seat) : Prop := ∃ D : Int, 0 < D ∧ Bt 2000 D ∧ ∀ s ∈ ss, OkV D (2 ^ 190) s.2
theorem SaneM.row {ss tt : List Seat} (h : SaneM ss) (hs : ∀ s ∈ tt, s ∈ ss) (hl : tt.length ≤ 100) : SaneRow (tt.map Prod.snd) := by
  obtain ⟨D, d0, db, ok⟩ := h
  refine SaneRow.of (D := D) (N := 2 ^ 190) (d := 2000) (n := 200) (by rw [List.length_map]; exact hl) d0 db (fun q hq => ?_) ?_ (by decide +kernel) (by decide)
  · obtain ⟨s, hs', rfl⟩ := List.mem_map.mp hq
    exact ok s (hs s hs')
  · rw [List.length_map]
    exact Nat.lt_of_le_of_lt (Nat.mul_le_mul_right _ hl) (by decide +kernel)
end WS
set_option Elab.async false
set_option linter.all false
set_option maxRecDepth 100000
set_option maxHeartbeats 4000000
set_option Elab.async false
set_option linter.all false
set_option maxRecDepth 100000
set_option maxHeartbeats 4000000
namespace WS
open PySem PySem.Spec PyProof.Rows L2
/-! ### parted, as the law asks it -/
/-- a moment of up to 40 seats, whatever they owe together -/
structure M53 (W : Int) (ss : List Seat) : Prop where
  l : ss.length ≤ 40
  w : 1 ≤ W
  b : Bt 112 W
  nd : (names ss).Nodup
  nm : ∀ s ∈ ss, Nm0 s.1
  ok : ∃ d : Int, 0 < d ∧ Bt 24 d ∧ ∀ s ∈ ss, Lowest s.2.1 s.2.2 ∧ Okq 190 90 s.2 ∧ s.2.2 ∣ d
theorem okv_okq {d : Int} {q : Int × Int} (o : Okq 190 90 q) (dv : q.2 ∣ d) : OkV d (2 ^ 190) q := by
  refine ⟨o.1, dv, ?_⟩
  have h1 : q.1.natAbs < 2 ^ 190 := o.2.1
  have h2 : 1 ≤ q.2.natAbs := by have := o.1; omega
  exact Nat.le_trans (Nat.le_of_lt h1) (Nat.le_mul_of_pos_right _ h2)
theorem M53.sane {W : Int} {ss : List Seat} (h : M53 W ss) : SaneM ss := by
  obtain ⟨d, d0, db, dd⟩ := h.ok
  exact ⟨d, d0, db.mono (by decide), fun s hs => okv_okq (dd s hs).2.1 (dd s hs).2.2⟩
theorem map_gs_range (ss : List Seat) : (List.range ss.length).map (gs ss) = ss := by
  refine List.ext_getElem? fun k => ?_
  by_cases c : k < ss.length
  · rw [List.getElem?_map, List.getElem?_range c, at_gs c]
    rfl
  · rw [List.getElem?_eq_none (by rw [List.length_map, List.length_range]; omega), List.getElem?_eq_none (by omega)]
theorem gs_map {ss : List Seat} {is : List Nat} {k : Nat} (h : k < is.length) : gs (is.map (gs ss)) k = gs ss (is.getD k 0) := by
  unfold gs
  rw [List.getD_eq_getElem?_getD, List.getD_eq_getElem?_getD (l := is), List.getElem?_map, List.getElem?_eq_getElem h]
  rfl
/-- a moment whose seats stand otherwise is as good -/
theorem good_perm {W : Int} {ss tt : List Seat} (p : tt.Perm ss) (g : Good W ss) : Good W tt := by
  have p' : tt.Perm ((List.range ss.length).map (gs ss)) := by rw [map_gs_range]; exact p
  obtain ⟨is, hp, rfl⟩ := perm_of_map p'
  have hl : is.length = ss.length := by rw [hp.length_eq, List.length_range]
  have nd : is.Nodup := hp.nodup_iff.mpr List.nodup_range
  have ow : ∀ k, k < is.length → owF (is.map (gs ss)) k = owF ss (is.getD k 0) := fun k hk => by
    unfold owF
    rw [gs_map hk]
  have lt : ∀ k, k < is.length → is.getD k 0 < ss.length := fun k hk => by
    have : is.getD k 0 ∈ is := by
      rw [List.getD_eq_getElem?_getD, List.getElem?_eq_getElem hk]
      exact List.getElem_mem hk
    exact List.mem_range.mp (hp.mem_iff.mp this)
  have inj : ∀ a b, a < is.length → b < is.length → is.getD a 0 = is.getD b 0 → a = b := fun a b ha hb e => by
    rw [List.getD_eq_getElem?_getD, List.getD_eq_getElem?_getD, List.getElem?_eq_getElem ha, List.getElem?_eq_getElem hb] at e
    exact (List.getElem_inj nd).mp e
  have sm : ∀ S : List Nat, (∀ i ∈ S, i < is.length) → sumF (owF (is.map (gs ss))) S = sumF (owF ss) (S.map fun k => is.getD k 0) := fun S hS => by
    unfold sumF
    rw [List.map_map]
    congr 1
    exact List.map_congr_left fun i hi => ow i (hS i hi)
  refine ⟨fun S hS hn => ?_, ?_⟩
  · rw [List.length_map] at hn
    rw [sm S hn, List.length_map, hl]
    have := g.w (S.map fun k => is.getD k 0) (map_nodup hS fun a ha b hb e => inj a b (hn a ha) (hn b hb) e) (fun i hi => by
      obtain ⟨k, hk, rfl⟩ := List.mem_map.mp hi
      exact lt k (hn k hk))
    rwa [List.length_map] at this
  · rw [List.length_map, sm _ fun i hi => List.mem_range.mp hi, ← g.z]
    refine sumF_perm ?_
    have : (List.range is.length).map (fun k => is.getD k 0) = is := by
      refine List.ext_getElem? fun k => ?_
      by_cases c : k < is.length
      · rw [List.getElem?_map, List.getElem?_range c, List.getElem?_eq_getElem c, Option.map_some, List.getD_eq_getElem?_getD, List.getElem?_eq_getElem c]
        rfl
      · rw [List.getElem?_eq_none (by rw [List.length_map, List.length_range]; omega), List.getElem?_eq_none (by omega)]
    rw [this]
    exact hp
theorem good_nil {W : Int} : Good W [] := by
  refine ⟨fun S hS hn => ?_, rfl⟩
  cases S with
  | nil =>
    show (0 : Rat) ≤ mostR W 0 0
    unfold mostR
    show (0 : Rat) ≤ W * ((0 : Int) : Rat) * (((0 : Int) : Rat) - ((0 : Int) : Rat)) / 2
    grind
  | cons a S => exact absurd (hn a List.mem_cons_self) (Nat.not_lt_zero _)
theorem M53.m {W : Int} {ss : List Seat} (h : M53 W ss) (g : Good W ss) : MOkS W ss := by
  obtain ⟨d, d0, db, dd⟩ := h.ok
  have l := h.l
  exact ⟨h.w, h.b.mono (by decide), h.nd, h.nm, fun s hs => (dd s hs).1, h.sane.row (fun s hs => hs) (by omega), g⟩
theorem M53.sq {W : Int} {ss : List Seat} (h : M53 W ss) : ∀ s ∈ ss, Nm0 s.1 ∧ Okq 190 90 s.2 := fun s hs => by
  obtain ⟨d, d0, db, dd⟩ := h.ok
  exact ⟨h.nm s hs, (dd s hs).2.1⟩
theorem M53.sh {W : Int} {ss : List Seat} (h : M53 W ss) : Sh 110000 5 (momD W ss) := mom_shV (h.b.mono (by decide)) (by have := h.l; omega) h.sq
/-- what may be parted so -/
structure P53 (W : Int) (ss : List Seat) (is S O : List Nat) : Prop where
  m : M53 W ss
  p : is.Perm S
  eS : S = (List.range ss.length).filter (fun i => decide (i ∈ is))
  lt : ∀ i ∈ is, i < ss.length
  eO : O = (List.range ss.length).filter (fun i => !decide (i ∈ is))
  gS : Good W (S.map (gs ss))
  gO : Good W (O.map (gs ss))
theorem filt_up (n : Nat) (p : Nat → Bool) : ((List.range n).filter p).Pairwise (· < ·) := List.pairwise_lt_range.filter p
theorem P53.sS {W : Int} {ss : List Seat} {is S O : List Nat} (h : P53 W ss is S O) : S.Pairwise (· < ·) := by rw [h.eS]; exact filt_up _ _
theorem P53.nS {W : Int} {ss : List Seat} {is S O : List Nat} (h : P53 W ss is S O) : S.Nodup := h.sS.imp fun h => Nat.ne_of_lt h
theorem P53.ltS {W : Int} {ss : List Seat} {is S O : List Nat} (h : P53 W ss is S O) : ∀ i ∈ S, i < ss.length := fun i hi => h.lt i (h.p.mem_iff.mpr hi)
theorem P53.ltO {W : Int} {ss : List Seat} {is S O : List Nat} (h : P53 W ss is S O) : ∀ i ∈ O, i < ss.length := fun i hi => by
  rw [h.eO] at hi
  exact List.mem_range.mp (List.mem_filter.mp hi).1
theorem sumF_pick (ss : List Seat) (is : List Nat) : sumF (owF (is.map (gs ss))) (List.range (is.map (gs ss)).length) = sumF (owF ss) is := by
  unfold sumF
  congr 1
  refine List.ext_getElem? fun k => ?_
  by_cases c : k < is.length
  · rw [List.getElem?_map, List.getElem?_map, List.getElem?_range (by rw [List.length_map]; exact c), List.getElem?_eq_getElem c, Option.map_some, Option.map_some]
    congr 1
    unfold owF
    rw [gs_map c, List.getD_eq_getElem?_getD, List.getElem?_eq_getElem c]
    rfl
  · rw [List.getElem?_eq_none (by rw [List.length_map, List.length_range, List.length_map]; omega), List.getElem?_eq_none (by rw [List.length_map]; omega)]
theorem P53.z {W : Int} {ss : List Seat} {is S O : List Nat} (h : P53 W ss is S O) : sumF (owF ss) is = 0 := by
  rw [sumF_perm h.p, ← sumF_pick, h.gS.z]
theorem P53.names {W : Int} {ss : List Seat} {is S O : List Nat} (h : P53 W ss is S O) : ∀ z ∈ names (S.map (gs ss)), z ∉ names (O.map (gs ss)) := fun z hz hz' => by
  obtain ⟨z0, s, hs, rfl⟩ := names_mem.mp hz
  obtain ⟨i, hi, rfl⟩ := List.mem_map.mp hs
  obtain ⟨_, t, ht, et⟩ := names_mem.mp hz'
  obtain ⟨k, hk, rfl⟩ := List.mem_map.mp ht
  have h1 := idx_gs h.m.nd (h.ltS i hi) z0
  have h2 := idx_gs h.m.nd (h.ltO k hk) (by rw [et]; exact z0)
  rw [et, h1] at h2
  subst h2
  rw [h.eO] at hk
  have := (List.mem_filter.mp hk).2
  rw [decide_eq_true (h.p.mem_iff.mpr hi)] at this
  cases this
/-- none, or all -/
theorem P53.none {W : Int} {ss : List Seat} (m : M53 W ss) (g : Good W ss) : P53 W ss [] [] (List.range ss.length) := by
  refine ⟨m, .refl _, ?_, fun i hi => (List.not_mem_nil hi).elim, ?_, good_nil, by rw [map_gs_range]; exact g⟩
  · exact (List.filter_eq_nil_iff.mpr fun i _ => by simp).symm
  · exact (List.filter_eq_self.mpr fun i _ => by simp).symm
theorem P53.all {W : Int} {ss : List Seat} {is : List Nat} (m : M53 W ss) (g : Good W ss) (p : is.Perm (List.range ss.length)) : P53 W ss is (List.range ss.length) [] := by
  refine ⟨m, p, ?_, fun i hi => List.mem_range.mp (p.mem_iff.mp hi), ?_, by rw [map_gs_range]; exact g, good_nil⟩
  · exact (List.filter_eq_self.mpr fun i hi => decide_eq_true (p.mem_iff.mpr hi)).symm
  · exact (List.filter_eq_nil_iff.mpr fun i hi => by rw [decide_eq_true (p.mem_iff.mpr hi)]; decide).symm
/-! a small row of whole numbers -/
/-! two moments' seats, marked, in another order -/
def pickM (ms : List (Int × Seat)) (m : Int) : List Nat := (List.range ms.length).filter fun k => decide ((ms.getD k (0, ("", (0, 1)))).1 = m)
theorem pickM_map (ms : List (Int × Seat)) (m : Int) : (pickM ms m).map (gs (ms.map Prod.snd)) = (ms.filter fun x => decide (x.1 = m)).map Prod.snd := by
  have e : (List.range ms.length).map (fun k => ms.getD k (0, ("", (0, 1)))) = ms := by
    refine List.ext_getElem? fun k => ?_
    by_cases c : k < ms.length
    · rw [List.getElem?_map, List.getElem?_range c, List.getElem?_eq_getElem c, Option.map_some, List.getD_eq_getElem?_getD, List.getElem?_eq_getElem c]
      rfl
    · rw [List.getElem?_eq_none (by rw [List.length_map, List.length_range]; omega), List.getElem?_eq_none (by omega)]
  have e2 : (ms.filter fun x => decide (x.1 = m)) = (pickM ms m).map (fun k => ms.getD k (0, ("", (0, 1)))) := by
    conv => lhs; rw [← e]
    rw [List.filter_map]
    rfl
  rw [e2, List.map_map]
  refine List.map_congr_left fun k hk => ?_
  have hl : k < ms.length := List.mem_range.mp (List.mem_filter.mp hk).1
  unfold gs
  rw [List.getD_eq_getElem?_getD, List.getElem?_map, List.getElem?_eq_getElem hl]
  show _ = (ms.getD k _).2
  rw [List.getD_eq_getElem?_getD, List.getElem?_eq_getElem hl]
  rfl
structure Two53 (W : Int) (ss tt : List Seat) (ms : List (Int × Seat)) : Prop where
  p : ms.Perm (ss.map (fun s => ((0 : Int), s)) ++ tt.map fun s => ((1 : Int), s))
  m : M53 W (ms.map Prod.snd)
  g0 : Good W ss
  g1 : Good W tt
  w0 : 0 ≤ W
theorem Two53.good {W : Int} {ss tt : List Seat} {ms : List (Int × Seat)} (h : Two53 W ss tt ms) (m : Int) (hm : m = 0 ∨ m = 1) : Good W ((pickM ms m).map (gs (ms.map Prod.snd))) := by
  rw [pickM_map]
  have hp : (ms.filter fun x => decide (x.1 = m)).Perm ((ss.map (fun s => ((0 : Int), s)) ++ tt.map fun s => ((1 : Int), s)).filter fun x => decide (x.1 = m)) := h.p.filter _
  have hp2 := hp.map Prod.snd
  have all : ∀ (n : Int) (qs : List Seat), ((qs.map fun s => (n, s)).filter fun x => decide (x.1 = n)) = qs.map fun s => (n, s) := fun n qs => List.filter_eq_self.mpr fun x hx => by
    obtain ⟨s, _, rfl⟩ := List.mem_map.mp hx
    exact decide_eq_true rfl
  have non : ∀ (n k : Int) (qs : List Seat), n ≠ k → ((qs.map fun s => (n, s)).filter fun x => decide (x.1 = k)) = [] := fun n k qs ne => List.filter_eq_nil_iff.mpr fun x hx => by
    obtain ⟨s, _, rfl⟩ := List.mem_map.mp hx
    simpa using ne
  have back : ∀ (n : Int) (qs : List Seat), (qs.map fun s => (n, s)).map Prod.snd = qs := fun n qs => by
    rw [List.map_map]
    exact List.map_id _
  rw [List.filter_append] at hp2
  rcases hm with rfl | rfl
  · rw [all 0 ss, non 1 0 tt (by decide), List.append_nil, back] at hp2
    exact good_perm hp2 h.g0
  · rw [all 1 tt, non 0 1 ss (by decide), List.nil_append, back] at hp2
    exact good_perm hp2 h.g1
theorem Two53.two {W : Int} {ss tt : List Seat} {ms : List (Int × Seat)} (h : Two53 W ss tt ms) : ∀ k, k < ms.length → (ms.getD k (0, ("", (0, 1)))).1 = 0 ∨ (ms.getD k (0, ("", (0, 1)))).1 = 1 := fun k hk => by
  have : ms.getD k (0, ("", (0, 1))) ∈ ms := by
    rw [List.getD_eq_getElem?_getD, List.getElem?_eq_getElem hk]
    exact List.getElem_mem hk
  rcases List.mem_append.mp (h.p.mem_iff.mp this) with z | z
  · obtain ⟨s, _, e⟩ := List.mem_map.mp z
    rw [← e]
    exact .inl rfl
  · obtain ⟨s, _, e⟩ := List.mem_map.mp z
    rw [← e]
    exact .inr rfl
theorem Two53.all {W : Int} {ss tt : List Seat} {ms : List (Int × Seat)} (h : Two53 W ss tt ms) : Good W (ms.map Prod.snd) := by
  refine good_perm (h.p.map Prod.snd) ?_
  rw [List.map_append, List.map_map, List.map_map]
  rw [show (Prod.snd ∘ fun s : Seat => ((0 : Int), s)) = id from rfl, show (Prod.snd ∘ fun s : Seat => ((1 : Int), s)) = id from rfl, List.map_id, List.map_id]
  exact good_app h.w0 h.g0 h.g1
theorem Two53.part {W : Int} {ss tt : List Seat} {ms : List (Int × Seat)} (h : Two53 W ss tt ms) {m : Int} (hm : m = 0 ∨ m = 1) {is : List Nat} (p : is.Perm (pickM ms m)) : P53 W (ms.map Prod.snd) is (pickM ms m) (pickM ms (1 - m)) := by
  have ll : (ms.map Prod.snd).length = ms.length := List.length_map _
  refine ⟨h.m, p, ?_, fun i hi => by rw [ll]; exact List.mem_range.mp (List.mem_filter.mp (p.mem_iff.mp hi)).1, ?_, h.good m hm, h.good (1 - m) (by omega)⟩
  · rw [ll]
    refine List.filter_congr fun i hi => decide_eq_decide.mpr ?_
    rw [p.mem_iff]
    unfold pickM
    rw [List.mem_filter, decide_eq_true_eq]
    exact ⟨fun z => ⟨hi, z⟩, fun z => z.2⟩
  · rw [ll]
    refine List.filter_congr fun i hi => ?_
    have two := h.two i (List.mem_range.mp hi)
    have : (i ∈ is) ↔ (ms.getD i (0, ("", (0, 1)))).1 = m := by
      rw [p.mem_iff]
      unfold pickM
      rw [List.mem_filter, decide_eq_true_eq]
      exact ⟨fun z => z.2, fun z => ⟨hi, z⟩⟩
    by_cases c : i ∈ is
    · rw [decide_eq_true c, decide_eq_false (by rw [this.mp c]; omega)]
      rfl
    · rw [decide_eq_false c, decide_eq_true]
      · rfl
      · have no : ¬ (ms.getD i (0, ("", (0, 1)))).1 = m := fun z => c (this.mpr z)
        generalize (ms.getD i (0, ("", (0, 1)))).1 = x at two no
        omega
/-! sets of places, as tuples -/
end WS
set_option Elab.async false
set_option linter.all false
set_option maxRecDepth 100000
set_option maxHeartbeats 4000000
namespace WS
open PySem PySem.Spec PyProof.Rows L2
/-! ### the texts of numbers and of parts -/
section
open TL
def nT (n : Int) : Str := Str.ofString (toString n)
end
end WS
set_option Elab.async false
set_option linter.all false
set_option maxRecDepth 100000
set_option maxHeartbeats 4000000
set_option Elab.async false
set_option linter.all false
set_option maxRecDepth 100000
set_option maxHeartbeats 4000000
namespace WS
open PySem PySem.Spec PyProof.Rows L2
/-! ### vouchers of any shape -/
mutual
def Tg.sm (n : Nat) : Tg → Prop
  | .int i => Bt n i
  | .tup ts => ts.length ≤ 100 ∧ Tg.sms n ts
  | .lst ts => ts.length ≤ 100 ∧ Tg.sms n ts
  | _ => True
def Tg.sms (n : Nat) : List Tg → Prop
  | [] => True
  | t :: ts => Tg.sm n t ∧ Tg.sms n ts
end
/-- the number, the part -/
def Tg.iv : Tg → Int
  | .int i => i
  | _ => 0
def Tg.hd : Tg → Int
  | .tup (t :: _) => t.iv
  | _ => 0
/-- an order there is -/
theorem rkS_iff {ss : List Seat} (hp : ∀ i, 0 < (gs ss i).2.2) (i j : Nat) : rkS ss i j ↔ owF ss j < owF ss i ∨ (owF ss j = owF ss i ∧ i < j) := by
  unfold rkS owF
  have h1 := ltp_iff (p := (gs ss j).2) (q := (gs ss i).2) (hp j) (hp i)
  have h2 := ltp_iff (p := (gs ss i).2) (q := (gs ss j).2) (hp i) (hp j)
  unfold ltp at h1 h2
  rw [decide_eq_true_eq] at h1 h2
  constructor
  · rintro (h | ⟨h, k⟩)
    · exact .inl (h1.mp h)
    · refine .inr ⟨?_, k⟩
      have n1 : ¬ rv (gs ss j).2 < rv (gs ss i).2 := fun z => by have := h1.mpr z; omega
      have n2 : ¬ rv (gs ss i).2 < rv (gs ss j).2 := fun z => by have := h2.mpr z; omega
      exact Rat.le_antisymm (Rat.not_lt.mp n2) (Rat.not_lt.mp n1)
  · rintro (h | ⟨h, k⟩)
    · exact .inl (h1.mpr h)
    · refine .inr ⟨?_, k⟩
      have n1 : ¬ (gs ss j).2.1 * (gs ss i).2.2 < (gs ss i).2.1 * (gs ss j).2.2 := fun z => by
        have := h1.mp z
        rw [h] at this
        exact Rat.lt_irrefl this
      have n2 : ¬ (gs ss i).2.1 * (gs ss j).2.2 < (gs ss j).2.1 * (gs ss i).2.2 := fun z => by
        have := h2.mp z
        rw [h] at this
        exact Rat.lt_irrefl this
      omega
theorem order_exists {ss : List Seat} (hp : ∀ s ∈ ss, 0 < s.2.2) (zs : List Str) : ∃ O : List Nat, O.Perm (placesOf ss zs) ∧ O.Pairwise (rkS ss) := by
  have pos : ∀ i, 0 < (gs ss i).2.2 := fun i => by
    by_cases c : i < ss.length
    · exact hp _ (gs_mem c)
    · unfold gs
      rw [List.getD_eq_getElem?_getD, List.getElem?_eq_none (by omega)]
      decide
  let le : Nat → Nat → Bool := fun i j => decide (owF ss j < owF ss i ∨ (owF ss j = owF ss i ∧ i ≤ j))
  have tr : ∀ a b c : Nat, le a b = true → le b c = true → le a c = true := fun a b c h k => by
    simp only [le, decide_eq_true_eq] at *
    rcases h with h | ⟨h, h'⟩ <;> rcases k with k | ⟨k, k'⟩
    · exact .inl (by grind)
    · exact .inl (by grind)
    · exact .inl (by grind)
    · exact .inr ⟨by grind, by omega⟩
  have tot : ∀ a b : Nat, (le a b || le b a) = true := fun a b => by
    simp only [le, Bool.or_eq_true, decide_eq_true_eq]
    by_cases h : owF ss b < owF ss a
    · exact .inl (.inl h)
    · by_cases k : owF ss a < owF ss b
      · exact .inr (.inl k)
      · have e := Rat.le_antisymm (Rat.not_lt.mp h) (Rat.not_lt.mp k)
        rcases Nat.le_total a b with l | l
        · exact .inl (.inr ⟨by grind, l⟩)
        · exact .inr (.inr ⟨by grind, l⟩)
  refine ⟨(placesOf ss zs).mergeSort le, List.mergeSort_perm _ _, ?_⟩
  have pw := List.pairwise_mergeSort tr tot (placesOf ss zs)
  have nd : ((placesOf ss zs).mergeSort le).Nodup := (List.mergeSort_perm _ _).nodup_iff.mpr (places_nodup ss zs)
  refine (pw.and nd).imp fun {i j} h => (rkS_iff pos i j).mpr ?_
  obtain ⟨h, ne⟩ := h
  simp only [le, decide_eq_true_eq] at h
  rcases h with h | ⟨h, k⟩
  · exact .inl h
  · exact .inr ⟨h, by omega⟩
end WS
set_option Elab.async false
set_option linter.all false
set_option maxRecDepth 100000
set_option maxHeartbeats 4000000
set_option Elab.async false
set_option linter.all false
set_option maxRecDepth 100000
set_option maxHeartbeats 4000000
namespace WS
open PySem PySem.Spec PyProof.Rows L2
/-! ### what is a moment, of things -/
def Tg.seat : Tg → Option Seat
  | .tup [.str z, q] => if (decide (z = "") || decide (Nm z)) = true then q.part.map fun r => (z, r) else none
  | _ => none
def Tg.sv (t : Tg) : Seat := t.seat.getD ("", (0, 1))
def RightM (W : Int) (ss : List Seat) : Prop := (ss.map fun s => rv s.2).sum = 0 ∧ WthF W (ss.map Prod.snd).length (fun j => rv (gp (ss.map Prod.snd) j))
def RightA (W : Int) (ss : List Seat) : Prop := 1 ≤ W ∧ (names ss).Nodup ∧ RightM W ss
def IsMom (t : Tg) : Prop := ∃ W ts, t = .tup [.int W, .tup ts] ∧ (∀ u ∈ ts, u.seat.isSome = true) ∧ RightA W (ts.map Tg.sv)
def NoShape (t : Tg) : Prop := ∀ W ts, t ≠ .tup [.int W, .tup ts]
theorem NoShape.no {t : Tg} (h : NoShape t) : ¬ IsMom t := fun ⟨W, ts, e, _⟩ => h W ts e
end WS
set_option Elab.async false
set_option linter.all false
set_option maxRecDepth 100000
set_option maxHeartbeats 4000000
set_option Elab.async false
set_option linter.all false
set_option maxRecDepth 100000
set_option maxHeartbeats 4000000
namespace WS
open PySem PySem.Spec PyProof.Rows L2
/-! ### those there, duties, of any shape (refused, or not) -/
def Short (t : Tg) : Prop := ∀ ts, t = .tup ts → ts.length ≤ 100
end WS
set_option Elab.async false
set_option linter.all false
set_option maxRecDepth 100000
set_option maxHeartbeats 4000000
namespace WS
open PySem PySem.Spec PyProof.Rows L2
/-! ### k37: what comes of an asking -/
def AskAt (p : Addr) (K : PySem.W.Frag) (H : Hp) (L : Addr) (way : Int) (t t2 t3 t4 : Tg) : Prop := L ≠ p ∧ ∃ u y m z, H L = some (.lst [.int way, u, y, m, z]) ∧ Th p K H u t ∧ Short t ∧ Th p K H y t2 ∧ Short t2 ∧ Th p K H m t3 ∧ Th p K H z t4 ∧ Short t4
/-! names drawn, none of those in a list or a tuple -/
def UsedAt (p : Addr) (K : PySem.W.Frag) (H : Hp) (U : Addr) (us : List Str) : Prop := (U ≠ p ∧ H U = some (.lst (us.map V.str))) ∨ SqT K H U (us.map V.str)
theorem UsedAt.sx {p : Addr} {K : PySem.W.Frag} {H H' : Hp} {U : Addr} {us : List Str} (h : UsedAt p K H U us) (s : SameX p H H') (hp : PotAt H p) : UsedAt p K H' U us := by
  rcases h with ⟨n, h⟩ | h
  · exact .inl ⟨n, s _ _ n h⟩
  · exact .inr (s.tup hp h)
theorem UsedAt.sm {p : Addr} {K : PySem.W.Frag} {H H' : Hp} {U : Addr} {us : List Str} (h : UsedAt p K H U us) (s : Same H H') : UsedAt p K H' U us := by
  rcases h with ⟨n, h⟩ | h
  · exact .inl ⟨n, s _ _ h⟩
  · exact .inr (Same.tup s h)
theorem UsedAt.seq {p : Addr} {K : PySem.W.Frag} {H : Hp} {U : Addr} {us : List Str} (h : UsedAt p K H U us) : SqL K H U (us.map V.str) ∨ SqT K H U (us.map V.str) := by
  rcases h with ⟨_, h⟩ | h
  · exact .inl (.inl (.inl h))
  · exact .inr h
/-- a tuple that keeps what it is made of -/
def Fz (H : Hp) (v : V) (t : Tg) : Prop := t.isT = true → ∃ a xs, v = .ref a ∧ Froz H a xs
theorem Froz.sm {H H' : Hp} {a : Addr} {xs : List V} (h : Froz H a xs) (s : Same H H') : Froz H' a xs := by
  obtain ⟨o, e, d⟩ := h
  exact ⟨o, s _ _ e, d⟩
theorem Froz.sx {p : Addr} {H H' : Hp} {a : Addr} {xs : List V} (h : Froz H a xs) (s : SameX p H H') (hp : PotAt H p) : Froz H' a xs := by
  obtain ⟨o, e, d⟩ := h
  refine ⟨o, s _ _ (fun z => ?_) e, d⟩
  obtain ⟨n0, n1, e2, _⟩ := hp
  rw [z, e2] at e
  cases e
theorem Fz.sm {H H' : Hp} {v : V} {t : Tg} (h : Fz H v t) (s : Same H H') : Fz H' v t := fun e => by
  obtain ⟨a, xs, rfl, f⟩ := h e
  exact ⟨a, xs, rfl, f.sm s⟩
theorem Fz.sx {p : Addr} {H H' : Hp} {v : V} {t : Tg} (h : Fz H v t) (s : SameX p H H') (hp : PotAt H p) : Fz H' v t := fun e => by
  obtain ⟨a, xs, rfl, f⟩ := h e
  exact ⟨a, xs, rfl, f.sx s hp⟩
theorem Fz.non {H : Hp} {v : V} {t : Tg} (h : t.isT = false) : Fz H v t := fun e => by rw [e] at h; cases h
end WS
set_option Elab.async false
set_option linter.all false
set_option maxRecDepth 100000
set_option maxHeartbeats 4000000
set_option Elab.async false
set_option linter.all false
set_option maxRecDepth 100000
set_option maxHeartbeats 4000000
set_option Elab.async false
set_option linter.all false
set_option maxRecDepth 100000
set_option maxHeartbeats 4000000
set_option Elab.async false
set_option linter.all false
set_option maxRecDepth 100000
set_option maxHeartbeats 4000000
namespace WS
open PySem PySem.Spec PyProof.Rows L2
/-! ### k37: a moment of three persons and more, and what is asked of it -/
theorem Fz.n {H H' : Hp} {v : V} {t : Tg} (h : Fz H v t) (x : LamX.ExtN H H') : Fz H' v t := fun e => by
  obtain ⟨a, xs, rfl, o, f, d⟩ := h e
  exact ⟨a, xs, rfl, o, x _ _ f (fun _ z => by cases z), d⟩
theorem AskAt.n {p : Addr} {K : PySem.W.Frag} {H H' : Hp} {L : Addr} {way : Int} {t t2 t3 t4 : Tg} (h : AskAt p K H L way t t2 t3 t4) (x : LamX.ExtN H H') : AskAt p K H' L way t t2 t3 t4 := by
  obtain ⟨nLp, u, y, m, z, hL, hu, su, hy, sy, hm, hz, sz⟩ := h
  exact ⟨nLp, u, y, m, z, x _ _ hL (fun _ z => by cases z), hu.n x, su, hy.n x, sy, hm.n x, hz.n x, sz⟩
end WS
set_option Elab.async false
set_option linter.all false
set_option maxRecDepth 100000
set_option maxHeartbeats 4000000
set_option Elab.async false
set_option linter.all false
set_option maxRecDepth 100000
set_option maxHeartbeats 4000000
namespace WS
open PySem PySem.Spec PyProof.Rows L2
/-! ### k81: evenings foretold -/
abbrev Ev81 := List Str × List Int
def EvOk (W : Int) (ss : List Seat) (e : Ev81) : Prop := There ss e.1 ∧ e.1.length ≤ 12 ∧ e.2.length ≤ e.1.length ∧ ∀ n ∈ e.2, 1 ≤ n ∧ n ≤ W
open Classical in
noncomputable def ordN (ss : List Seat) (zs : List Str) : List Str := if h : ∃ os, OrderOf ss zs os then Classical.choose h else []
theorem ordN_eq {ss : List Seat} {zs os : List Str} (h : OrderOf ss zs os) : ordN ss zs = os := by
  unfold ordN
  rw [dif_pos ⟨os, h⟩]
  exact order_one (Classical.choose_spec (⟨os, h⟩ : ∃ os, OrderOf ss zs os)) h
noncomputable def stepS (ss : List Seat) (e : Ev81) : List Seat := behS ss e.1 (ordN ss e.1) (down e.2)
noncomputable def runS (ss : List Seat) (es : List Ev81) : List Seat := es.foldl stepS ss
theorem stepS_names (ss : List Seat) (e : Ev81) : names (stepS ss e) = names ss := names_behS
theorem there_names {ss tt : List Seat} {zs : List Str} (e : names tt = names ss) (h : There ss zs) : There tt zs := ⟨h.1, h.2.1, h.2.2.1, fun z hz => by rw [e]; exact h.2.2.2 z hz⟩
theorem EvOk.names {W : Int} {ss tt : List Seat} {x : Ev81} (e : names tt = names ss) (h : EvOk W ss x) : EvOk W tt x := ⟨there_names e h.1, h.2⟩
/-- a moment, D bits below -/
structure M81 (W : Int) (ss : List Seat) (D : Nat) : Prop where
  l : ss.length ≤ 12
  w : 1 ≤ W
  b : Bt 110 W
  g : Good W ss
  p : ∀ s ∈ ss, 0 < s.2.2 ∧ Bt D s.2.2
  nd : (names ss).Nodup
  nm : ∀ s ∈ ss, Nm0 s.1
theorem M81.ok2 {W : Int} {ss : List Seat} {D : Nat} (m : M81 W ss D) (h : D ≤ 350) : ∀ s ∈ ss, Ok2 500 400 s.2 := fun s hs => (good_bits m.w m.g m.b (by have := m.l; omega) m.p s hs).mono (by omega) (by omega)
theorem M81.ok {W : Int} {ss : List Seat} {D : Nat} (m : M81 W ss D) (h : D ≤ 350) : ∀ s ∈ ss, Okp 500 s.2 := fun s hs => ⟨(m.p s hs).1, (m.ok2 h s hs).2.1, (m.ok2 h s hs).2.2.mono (by decide)⟩
theorem M81.order {W : Int} {ss : List Seat} {D : Nat} (m : M81 W ss D) {zs : List Str} (h : There ss zs) : OrderOf ss zs (ordN ss zs) := by
  obtain ⟨O, h1, h2⟩ := order_exists (fun s hs => (m.p s hs).1) zs
  have ho := due_order m.nd h.2.2.1 h.2.2.2 h1 h2
  rw [ordN_eq ho]
  exact ho
theorem stepS_len (ss : List Seat) (e : Ev81) : (stepS ss e).length = ss.length := by
  have h : ((stepS ss e).map Prod.fst).length = (ss.map Prod.fst).length := congrArg List.length behS_names
  rw [List.length_map, List.length_map] at h
  exact h
theorem M81.step {W : Int} {ss : List Seat} {D : Nat} (m : M81 W ss D) {e : Ev81} (h : EvOk W ss e) : M81 W (stepS ss e) (D + 4) := by
  have ho := m.order h.1
  obtain ⟨o1, o2, o3⟩ := order_O h.1.2.2.2 h.1.2.2.1 m.nd ho
  have oz := ho.1.length_eq
  have dl := down_len e.2
  have z2 := h.1.1
  have z12 := h.2.1
  have n2 := h.2.2.1
  refine ⟨by rw [stepS_len]; exact m.l, m.w, m.b, ?_, behS_den m.p (by omega) (by omega) (by rw [dl, oz]; exact n2), by rw [stepS_names]; exact m.nd, fun s hs => ?_⟩
  · have := good_behS (ns := e.2) m.w m.g (fun s hs => (m.p s hs).1) z2 m.nd h.1.2.2.2 o1 o2 (by rw [o3]; exact ho.1) n2 h.2.2.2
    rw [o3] at this
    exact this
  · have h1 : s.1 ∈ (stepS ss e).map Prod.fst := List.mem_map_of_mem hs
    have en : (stepS ss e).map Prod.fst = ss.map Prod.fst := behS_names
    rw [en] at h1
    obtain ⟨s2, h2, e2⟩ := List.mem_map.mp h1
    rw [← e2]
    exact m.nm s2 h2
theorem M81.run {W : Int} : ∀ (es : List Ev81) {ss : List Seat} {D : Nat}, M81 W ss D → (∀ e ∈ es, EvOk W ss e) → M81 W (runS ss es) (D + 4 * es.length)
  | [], _, _, m, _ => m
  | e :: es, ss, D, m, h => by
    have h1 := m.step (h e List.mem_cons_self)
    have h2 := M81.run es h1 fun x hx => (h x (List.mem_cons_of_mem _ hx)).names (stepS_names ss e)
    have e4 : D + 4 * (e :: es).length = D + 4 + 4 * es.length := by rw [List.length_cons]; omega
    rw [e4]
    exact h2
/-- evenings in a list -/
def EvsAt (p : Addr) (K : PySem.W.Frag) (H : Hp) (L : Addr) (ts : List Tg) : Prop := L ≠ p ∧ ∃ xs, H L = some (.lst xs) ∧ ThAll p K H xs ts
theorem EvsAt.n {p : Addr} {K : PySem.W.Frag} {H H' : Hp} {L : Addr} {ts : List Tg} (h : EvsAt p K H L ts) (x : LamX.ExtN H H') : EvsAt p K H' L ts := by
  obtain ⟨n, xs, hL, ha⟩ := h
  exact ⟨n, xs, x _ _ hL (fun _ z => by cases z), ha.n x⟩
theorem EvsAt.sx {p : Addr} {K : PySem.W.Frag} {H H' : Hp} {L : Addr} {ts : List Tg} (h : EvsAt p K H L ts) (s : SameX p H H') (hp : PotAt H p) : EvsAt p K H' L ts := by
  obtain ⟨n, xs, hL, ha⟩ := h
  exact ⟨n, xs, s _ _ n hL, ha.sx s hp⟩
mutual
inductive ThV (S : Addr → Prop) (K : PySem.W.Frag) (H : Hp) : V → Tg → Prop
  | non : ThV S K H .non .non
  | bl (b : Bool) : ThV S K H (.bl b) (.bl b)
  | int (i : Int) : ThV S K H (.int i) (.int i)
  | str (z : Str) : ThV S K H (.str z) (.str z)
  | tup {a : Addr} {xs : List V} {ts : List Tg} : SqT K H a xs → ThVAll S K H xs ts → ThV S K H (.ref a) (.tup ts)
  | lst {a : Addr} {xs : List V} {ts : List Tg} : ¬ S a → H a = some (.lst xs) → ThVAll S K H xs ts → ThV S K H (.ref a) (.lst ts)
  | dct {a : Addr} : ¬ S a → H a = some (.dK []) → ThV S K H (.ref a) .dct
inductive ThVAll (S : Addr → Prop) (K : PySem.W.Frag) (H : Hp) : List V → List Tg → Prop
  | nil : ThVAll S K H [] []
  | cons {v : V} {vs : List V} {t : Tg} {ts : List Tg} : ThV S K H v t → ThVAll S K H vs ts → ThVAll S K H (v :: vs) (t :: ts)
end
section
variable {S : Addr → Prop} {K : PySem.W.Frag} {H H' : Hp}
mutual
theorem ThV.ext (k : KT H H') (e : ∀ b o, ¬ S b → H b = some o → (∀ ps, o ≠ .tbl ps) → H' b = some o) : ∀ {t : Tg} {v : V}, ThV S K H v t → ThV S K H' v t
  | .non, _, h => by cases h; exact .non
  | .bl b, _, h => by cases h; exact .bl b
  | .int i, _, h => by cases h; exact .int i
  | .str z, _, h => by cases h; exact .str z
  | .tup ts, _, h => by
    cases h with
    | tup h0 h1 => exact .tup (k.sqt h0) (ThVAll.ext k e h1)
  | .lst ts, _, h => by
    cases h with
    | lst n h0 h1 => exact .lst n (e _ _ n h0 (fun _ z => by cases z)) (ThVAll.ext k e h1)
  | .dct, _, h => by
    cases h with
    | dct n h0 => exact .dct n (e _ _ n h0 (fun _ z => by cases z))
theorem ThVAll.ext (k : KT H H') (e : ∀ b o, ¬ S b → H b = some o → (∀ ps, o ≠ .tbl ps) → H' b = some o) : ∀ {ts : List Tg} {vs : List V}, ThVAll S K H vs ts → ThVAll S K H' vs ts
  | [], _, h => by cases h; exact .nil
  | t :: ts, _, h => by
    cases h with
    | cons h0 h1 => exact .cons (ThV.ext k e h0) (ThVAll.ext k e h1)
end
mutual
theorem ThV.th {p : Addr} (hp : S p) : ∀ {t : Tg} {v : V}, ThV S K H v t → Th p K H v t
  | .non, _, h => by cases h; exact .non
  | .bl b, _, h => by cases h; exact .bl b
  | .int i, _, h => by cases h; exact .int i
  | .str z, _, h => by cases h; exact .str z
  | .tup ts, _, h => by
    cases h with
    | tup h0 h1 => exact .tup h0 (ThVAll.th hp h1)
  | .lst ts, _, h => by
    cases h with
    | lst n h0 h1 => exact .lst (fun e => n (by rw [e]; exact hp)) h0 (ThVAll.th hp h1)
  | .dct, _, h => by
    cases h with
    | dct n h0 => exact .dct (fun e => n (by rw [e]; exact hp)) h0
theorem ThVAll.th {p : Addr} (hp : S p) : ∀ {ts : List Tg} {vs : List V}, ThVAll S K H vs ts → ThAll p K H vs ts
  | [], _, h => by cases h; exact .nil
  | t :: ts, _, h => by
    cases h with
    | cons h0 h1 => exact .cons (ThV.th hp h0) (ThVAll.th hp h1)
end
theorem ThV.sm {v : V} {t : Tg} (h : ThV S K H v t) (s : Same H H') : ThV S K H' v t := h.ext (kt_same s) fun b o _ e _ => s b o e
theorem ThV.sx {p : Addr} {v : V} {t : Tg} (h : ThV S K H v t) (s : SameX p H H') (hp : PotAt H p) (Sp : S p) : ThV S K H' v t := h.ext (kt_x s hp) fun b o n e _ => s b o (fun z => n (by rw [z]; exact Sp)) e
end
/-! their texts -/
end WS
set_option Elab.async false
set_option linter.all false
set_option maxRecDepth 100000
set_option maxHeartbeats 4000000
namespace WS
open PySem PySem.Spec PyProof.Rows L2
/-! ### k67: vouchers and papers refused -/
/-! odd things -/
/-! what no reader takes -/
/-! short texts -/
def ShA (ts : List Tg) : Prop := ∀ t ∈ ts, ShT 1200 3 t
theorem ShA.nil : ShA [] := fun _ h => (List.not_mem_nil h).elim
theorem ShA.cons {t : Tg} {ts : List Tg} (h : ShT 1200 3 t) (k : ShA ts) : ShA (t :: ts) := fun x hx => by
  rcases List.mem_cons.mp hx with rfl | hx
  · exact h
  · exact k x hx
theorem ShA.tup {ts : List Tg} (h : ShA ts) (hl : ts.length ≤ 14) : ShT 20000 6 (.tup ts) := (ShT.tup h hl).mono (by decide) (by decide)
theorem ShA.lst {ts : List Tg} (h : ShA ts) (hl : ts.length ≤ 14) : ShT 20000 6 (.lst ts) := (ShT.lst h hl).mono (by decide) (by decide)
def SmA (ts : List Tg) : Prop := ∀ t ∈ ts, t.sm 1600
theorem SmA.nil : SmA [] := fun _ h => (List.not_mem_nil h).elim
theorem SmA.cons {t : Tg} {ts : List Tg} (h : t.sm 1600) (k : SmA ts) : SmA (t :: ts) := fun x hx => by
  rcases List.mem_cons.mp hx with rfl | hx
  · exact h
  · exact k x hx
end WS
set_option Elab.async false
set_option linter.all false
set_option maxRecDepth 100000
set_option maxHeartbeats 4000000
namespace WS
open PySem PySem.Spec PyProof.Rows L2
/-! ### k67: a name that nobody has, and what is handed -/
def Th3 (S : Addr → Prop) (K : PySem.W.Frag) (H : Hp) (u : V) (t : Tg) : Prop := ThV S K H u t ∧ Short t ∧ ShT 20000 6 t
theorem Th3.put {p Hd : Addr} {S : Addr → Prop} {K : PySem.W.Frag} {H H2 : Hp} {v : V} {t : Tg} {xs ys : List V} (h : Th3 S K H v t) (Sp : S p) (SH : S Hd) (sx : SameX p H H2) (px : PotAt H p) (hL : H2 Hd = some (.lst xs)) : Th3 S K (upd H2 Hd (.lst ys)) v t :=
  ⟨(h.1.sx sx px Sp).ext (kt_set hL) (fun b o n e _ => by rw [upd_ne (fun z => n (by rw [z]; exact SH))]; exact e), h.2⟩
theorem Th3.sm {S : Addr → Prop} {K : PySem.W.Frag} {H H' : Hp} {v : V} {t : Tg} (h : Th3 S K H v t) (s : Same H H') : Th3 S K H' v t := ⟨h.1.sm s, h.2⟩
structure Mid67 (p Hd : Addr) (K : PySem.W.Frag) (TT : List (Addr × Str)) (G H' : Hp) (u y z : V) (t t2 t3 : Tg) : Prop where
  l : H' Hd = some (.lst [u, y, z])
  a : Th3 (fun b => b = p ∨ b = Hd) K H' u t
  b : Th3 (fun b => b = p ∨ b = Hd) K H' y t2
  c : Th3 (fun b => b = p ∨ b = Hd) K H' z t3
  keep : ∀ b o, b ≠ p → b ≠ Hd → G b = some o → H' b = some o
  kt : KT G H'
  p : PotAt H' p
  t : LamX.Tabs TT H'
theorem Mid67.put {p Hd : Addr} {K : PySem.W.Frag} {TT : List (Addr × Str)} {G H' H2 : Hp} {u y z u' y' z' : V} {t t2 t3 t' t2' t3' : Tg} (m : Mid67 p Hd K TT G H' u y z t t2 t3) (nH : Hd ≠ p) (sx : SameX p H' H2) (px : PotAt H2 p)
    (h1 : Th3 (fun b => b = p ∨ b = Hd) K (upd H2 Hd (.lst [u', y', z'])) u' t') (h2 : Th3 (fun b => b = p ∨ b = Hd) K (upd H2 Hd (.lst [u', y', z'])) y' t2') (h3 : Th3 (fun b => b = p ∨ b = Hd) K (upd H2 Hd (.lst [u', y', z'])) z' t3') :
    Mid67 p Hd K TT G (upd H2 Hd (.lst [u', y', z'])) u' y' z' t' t2' t3' := by
  have hL := sx _ _ nH m.l
  refine ⟨upd_same, h1, h2, h3, fun b o n1 n2 e => by rw [upd_ne n2]; exact sx _ _ n1 (m.keep b o n1 n2 e), (m.kt.trans (kt_x sx m.p)).trans (kt_set hL), ?_, Tabs.set (Tabs.x m.t sx m.p) hL⟩
  obtain ⟨x, y, h, r⟩ := px
  exact ⟨x, y, by rw [upd_ne nH.symm]; exact h, r⟩
end WS
set_option Elab.async false
set_option linter.all false
set_option maxRecDepth 100000
set_option maxHeartbeats 4000000
namespace WS
open PySem PySem.Spec PyProof.Rows L2
/-! ### sets whose table is known to rise, of any kind of key -/
section
variable {P : Program} {w : World} {K : Type} [DecidableEq K]
def apart (knd : KeyKind P w K) (e f : Int × Value) : Prop := ∀ k, knd.is k e.2 = true → knd.is k f.2 = false
/-- what the keys of a set are, whatever their order -/
structure KeysG (knd : KeyKind P w K) (S : K → Bool) (l : List (Int × Value)) : Prop where
  el : ElemsOf knd l
  un : l.Pairwise (apart knd)
  mem : ∀ k, S k = true ↔ ∃ e ∈ l, knd.is k e.2 = true
theorem KeysG.cons {knd : KeyKind P w K} {S : K → Bool} {l : List (Int × Value)} {k : K} {x : Value} (h : KeysG knd S l) (hk : knd.is k x = true) (hx : x.scannable = true) (hn : ∀ e ∈ l, knd.is k e.2 = false) :
    KeysG knd (fun j => S j || decide (j = k)) ((knd.hash k, x) :: l) := by
  refine ⟨fun e he => ?_, List.pairwise_cons.mpr ⟨fun e he j hj => ?_, h.un⟩, fun j => ?_⟩
  · rcases List.mem_cons.mp he with rfl | he
    · exact ⟨⟨k, hk, rfl⟩, hx⟩
    · exact h.el e he
  · rw [knd.inj _ _ _ hj hk]
    exact hn e he
  · rw [Bool.or_eq_true, decide_eq_true_eq, h.mem j]
    constructor
    · rintro (⟨e, he, q⟩ | rfl)
      · exact ⟨e, List.mem_cons_of_mem _ he, q⟩
      · exact ⟨_, List.mem_cons_self, hk⟩
    · rintro ⟨e, he, q⟩
      rcases List.mem_cons.mp he with rfl | he
      · exact .inr (knd.inj _ _ _ q hk)
      · exact .inl ⟨e, he, q⟩
def SetG (knd : KeyKind P w K) (h : Heap) (a : Addr) (S : K → Bool) (n : Nat) : Prop :=
  ∃ o es ep t, h.get? a = some o ∧ o.ExactSet ∧ o.data = .set es ep t ∧ KeysG knd S es.toList ∧ es.size < scanBound ∧ t.fits es.size = true ∧ es.size = n ∧ Ris t.place.toList ∧ (w.params.followText "set-order" = true ∨ t.led = true)
theorem SetG.setOf {knd : KeyKind P w K} {h : Heap} {a : Addr} {S : K → Bool} {n : Nat} (R : SetG knd h a S n) : h.SetOf knd a S n := by
  obtain ⟨o, es, ep, t, ho, hx, hd, g, hb, hf, hn, _⟩ := R
  exact ⟨o, es, ep, t, ho, hx, hd, g.el, g.mem, hb, hf, hn⟩
theorem SetG.congr {knd : KeyKind P w K} {h : Heap} {a : Addr} {S T : K → Bool} {n m : Nat} (R : SetG knd h a S n) (e : ∀ k, T k = S k) (en : m = n) : SetG knd h a T m := by
  have q : T = S := funext e
  rw [q, en]; exact R
theorem SetG.at {knd : KeyKind P w K} {h h' : Heap} {a : Addr} {S : K → Bool} {n : Nat} (R : SetG knd h a S n) (k : ∀ o, h.get? a = some o → h'.get? a = some o) : SetG knd h' a S n := by
  obtain ⟨o, es, ep, t, ho, r⟩ := R
  exact ⟨o, es, ep, t, k o ho, r⟩
variable {A : Around} {E : Value → Shared → Prop} {s : Shared} {a : Addr} {S : K → Bool} {n : Nat} {knd : KeyKind P w K}
end
/-! ### sets of texts -/
/-! one order of texts -/
end WS
set_option Elab.async false
set_option linter.all false
set_option maxRecDepth 100000
set_option maxHeartbeats 4000000
namespace WS
open PySem PySem.Spec PyProof.Rows L2
/-! ### k52: moments whose denominators divide one number -/
structure M52 (n d N : Nat) (B W : Int) (ss : List Seat) : Prop where
  l : ss.length ≤ n
  w : 1 ≤ W
  b : W ≤ B
  nd : (names ss).Nodup
  nm : ∀ s ∈ ss, Nm0 s.1
  ok : ∃ D : Int, 0 < D ∧ Bt d D ∧ ∀ s ∈ ss, Lowest s.2.1 s.2.2 ∧ OkV D N s.2
  g : Good W ss
theorem bt_le52 {n : Nat} {W : Int} (h : Bt n W) : W ≤ 2 ^ n := by
  unfold Bt at h
  have : ((2 : Int) ^ n) = ((2 ^ n : Nat) : Int) := by simp
  omega
theorem le_bt {n : Nat} {W : Int} (w : 1 ≤ W) (h : W < 2 ^ n) : Bt n W := by
  unfold Bt
  have : ((2 : Int) ^ n) = ((2 ^ n : Nat) : Int) := by simp
  omega
theorem M52.of {n : Nat} {D W : Int} {ss : List Seat} (k : K23 D 26 W ss) (db : Bt 12 D) (hl : ss.length ≤ n) : M52 n 12 (2 ^ 190) (2 ^ 110) W ss :=
  ⟨hl, k.w, bt_le52 k.b, k.nd, k.nm, ⟨D, k.d0, db, fun s hs => ⟨(k.ok s hs).1, (k.ok s hs).1.1, (k.ok s hs).2.2, by
    have o := (k.ok s hs).2.1.2.1
    have p := (k.ok s hs).1.1
    unfold Bt at o
    have : 1 ≤ s.2.2.natAbs := by omega
    calc s.2.1.natAbs ≤ 2 ^ 190 * 1 := by omega
      _ ≤ 2 ^ 190 * s.2.2.natAbs := Nat.mul_le_mul_left _ this⟩⟩, k.g⟩
theorem M52.pos {n d N : Nat} {B W : Int} {ss : List Seat} (h : M52 n d N B W ss) : ∀ s ∈ ss, 0 < s.2.2 := fun s hs => by
  obtain ⟨D, _, _, dd⟩ := h.ok
  exact (dd s hs).1.1
theorem M52.low {n d N : Nat} {B W : Int} {ss : List Seat} (h : M52 n d N B W ss) : ∀ s ∈ ss, Lowest s.2.1 s.2.2 := fun s hs => by
  obtain ⟨D, _, _, dd⟩ := h.ok
  exact (dd s hs).1
theorem okv_ok2 {D : Int} {N d c : Nat} {p : Int × Int} (h : OkV D N p) (hD : 0 < D) (bD : Bt d D) (bN : N < 2 ^ c) : Ok2 (c + d) d p := by
  obtain ⟨p0, pd, pn⟩ := h
  have le : p.2 ≤ D := Int.le_of_dvd hD pd
  unfold Bt at bD
  have hd : p.2.natAbs < 2 ^ d := by omega
  refine ⟨p0, ?_, hd⟩
  show p.1.natAbs < 2 ^ (c + d)
  rw [Nat.pow_add]
  calc p.1.natAbs ≤ N * p.2.natAbs := pn
    _ ≤ N * 2 ^ d := Nat.mul_le_mul_left _ (by omega)
    _ < 2 ^ c * 2 ^ d := Nat.mul_lt_mul_of_pos_right bN (Nat.pow_pos (by decide))
theorem M52.ok2 {n d N : Nat} {B W : Int} {ss : List Seat} (h : M52 n d N B W ss) (hN : N < 2 ^ 200) : ∀ s ∈ ss, Ok2 (200 + d) d s.2 := fun s hs => by
  obtain ⟨D, d0, db, dd⟩ := h.ok
  exact okv_ok2 (dd s hs).2 d0 db hN
theorem M52.up {n d N : Nat} {B B' W W' : Int} {ss : List Seat} (h : M52 n d N B W ss) (k : W ≤ W') (b : W' ≤ B') : M52 n d N B' W' ss := ⟨h.l, by have := h.w; omega, b, h.nd, h.nm, h.ok, h.g.up k⟩
theorem M52.sane {n d N : Nat} {B W : Int} {ss : List Seat} (h : M52 n d N B W ss) (hn : n ≤ 60) (hN : N < 2 ^ 200) (hd : d ≤ 100) : SaneRow (ss.map Prod.snd) := by
  obtain ⟨D, d0, db, dd⟩ := h.ok
  have hl := h.l
  refine SaneRow.of (D := D) (N := N) (d := d) (n := 210) (by rw [List.length_map]; omega) d0 db (fun q hq => ?_) ?_ (by omega) (by omega)
  · obtain ⟨s, hs, rfl⟩ := List.mem_map.mp hq
    exact (dd s hs).2
  · rw [List.length_map]
    calc ss.length * N ≤ 60 * N := Nat.mul_le_mul_right _ (by omega)
      _ < 2 ^ 210 := by omega
theorem M52.m {n d N : Nat} {B W : Int} {ss : List Seat} (h : M52 n d N B W ss) (hn : n ≤ 60) (hN : N < 2 ^ 200) (hd : d ≤ 100) (hB : B < 2 ^ 130) : MOkS W ss :=
  ⟨h.w, (le_bt (n := 130) h.w (by have := h.b; omega)).mono (by decide), h.nd, h.nm, h.low, h.sane hn hN hd, h.g⟩
/-! ### what a person, or the empty seats, owe -/
def owedS (ss : List Seat) (z : Str) : List (Int × Int) := (ss.filter fun s : Seat => decide (s.1 = z)).map Prod.snd
/-- that us are the seats of ss and tt, poured together -/
structure Both52 (us ss tt : List Seat) : Prop where
  nd : (names us).Nodup
  mem : ∀ z : Str, z ∈ names us ↔ z ∈ names ss ∨ z ∈ names tt
  em : us.length = (names us).length + ((kittyL ss).length + (kittyL tt).length)
  ow : ∀ z : Str, z = "" ∨ z ∈ names us → (owedS us z).foldl pl (0, 1) = pl ((owedS ss z).foldl pl (0, 1)) ((owedS tt z).foldl pl (0, 1))
theorem Both52.swap {us ss tt : List Seat} (h : Both52 us tt ss) : Both52 us ss tt :=
  ⟨h.nd, fun z => (h.mem z).trans Or.comm, by have := h.em; omega, fun z hz => by rw [h.ow z hz, pl_comm]⟩
/-! ### all sets -/
/-! ### promises -/
/-- a row of a moment: small, within, and all together nought -/
structure Row52 (n : Nat) (W : Int) (ps : List (Int × Int)) : Prop where
  l : ps.length ≤ n
  ok : ∃ (D : Int) (N : Nat), 0 < D ∧ Bt 40 D ∧ N < 2 ^ 200 ∧ ∀ q ∈ ps, OkV D N q
  w : WthF W ps.length (fun j => rv (gp ps j))
  z : (ps.map rv).sum = 0
  b : Bt 130 W
theorem M52.row {n d N : Nat} {B W : Int} {ss : List Seat} (h : M52 n d N B W ss) (hd : d ≤ 40) (hN : N < 2 ^ 200) (hB : B < 2 ^ 130) : Row52 n W (ss.map Prod.snd) := by
  obtain ⟨D, d0, db, dd⟩ := h.ok
  refine ⟨by rw [List.length_map]; exact h.l, ⟨D, N, d0, db.mono hd, hN, fun q hq => ?_⟩, own_within h.g.w, ?_, le_bt h.w (by have := h.b; omega)⟩
  · obtain ⟨s, hs, rfl⟩ := List.mem_map.mp hq
    exact (dd s hs).2
  · have e := sum_range_gp (ss.map Prod.snd)
    rw [← e, List.length_map, ← h.g.z]
    exact sumF_congr fun i hi => ow_gp rfl i (List.mem_range.mp hi)
end WS
set_option Elab.async false
set_option linter.all false
set_option maxRecDepth 100000
set_option maxHeartbeats 4000000
namespace WS
open PySem PySem.Spec PyProof.Rows L2
/-! ### k52: the most and the least of a set -/
/-- GI, with whose names they are -/
structure GI52 (ss tt : List Seat) (gl : List Str) (pl : List Nat) (qq : List Seat) : Prop where
  g : GI tt gl pl qq
  gs : ∀ z ∈ gl, z ∈ names ss
  qs : ∀ z ∈ names qq, z ∈ names ss ∨ z ∈ names tt
theorem GI52.step {ss tt qq : List Seat} {gl : List Str} {pl : List Nat} {x y : Nat} {g : Str} {i : Nat} (h : GI52 ss tt gl pl qq) (hg : gl[x]? = some g) (hi : pl[y]? = some i) : GI52 ss tt (gl.eraseIdx x) (pl.eraseIdx y) (put qq i g) :=
  ⟨h.g.step hg hi, fun z hz => h.gs z (List.mem_of_mem_eraseIdx hz), fun z hz => by
    rcases names_put_sub hz with hz | rfl
    · exact h.qs z hz
    · exact .inl (h.gs _ (List.mem_of_getElem? hg))⟩
end WS
set_option Elab.async false
set_option linter.all false
set_option maxRecDepth 100000
set_option maxHeartbeats 4000000
set_option Elab.async false
set_option linter.all false
set_option maxRecDepth 100000
set_option maxHeartbeats 4000000
set_option Elab.async false
set_option linter.all false
set_option maxRecDepth 100000
set_option maxHeartbeats 4000000
set_option Elab.async false
set_option linter.all false
set_option maxRecDepth 100000
set_option maxHeartbeats 4000000
set_option Elab.async false
set_option linter.all false
set_option maxRecDepth 100000
set_option maxHeartbeats 4000000
namespace WS
open PySem PySem.Spec PyProof.Rows L2
/-! ### offers: what is told -/
def saidD (W : Int) (ss : List Seat) (zs os : List Str) (dn : List Int) : PyData := .tuple [momD W ss, .tuple (zs.map PyData.str), pairsD os dn]
end WS
set_option Elab.async false
set_option linter.all false
set_option maxRecDepth 100000
set_option maxHeartbeats 4000000
set_option Elab.async false
set_option linter.all false
set_option maxRecDepth 100000
set_option maxHeartbeats 4000000
set_option Elab.async false
set_option linter.all false
set_option maxRecDepth 100000
set_option maxHeartbeats 4000000
set_option Elab.async false
set_option linter.all false
set_option maxRecDepth 100000
set_option maxHeartbeats 4000000
set_option Elab.async false
set_option linter.all false
set_option maxRecDepth 100000
set_option maxHeartbeats 4000000
set_option Elab.async false
set_option linter.all false
set_option maxRecDepth 100000
set_option maxHeartbeats 4000000
set_option Elab.async false
set_option linter.all false
set_option maxRecDepth 100000
set_option maxHeartbeats 4000000
set_option Elab.async false
set_option linter.all false
set_option maxRecDepth 100000
set_option maxHeartbeats 4000000
namespace WS
open PySem PySem.Spec PyProof.Rows L2
/-! ### offers: what is drawn, and what is due -/
def nmZ (Z : List Str) (j : Nat) : Str := Z.getD j ""
theorem nmZ_at {Z : List Str} {j : Nat} (h : j < Z.length) : Z[j]? = some (nmZ Z j) := by
  unfold nmZ
  rw [List.getD_eq_getElem?_getD, List.getElem?_eq_getElem h]
  rfl
structure Row41 (Z : List Str) (ts : List Int) : Prop where
  l : Z.length = ts.length
  l8 : ts.length ≤ 8
  nd : (Z.filter fun z => !decide (z = ("" : Str))).Nodup
  nm : ∀ z ∈ Z, Nm0 z
  bt : ∀ t ∈ ts, Bt 104 t
theorem Row41.inj {Z : List Str} {ts : List Int} (r : Row41 Z ts) {i j : Nat} (hi : i < ts.length) (hj : j < ts.length) (ne : nmZ Z i ≠ "") (e : nmZ Z i = nmZ Z j) : i = j := by
  have h : Z.Pairwise fun a b => (!decide (a = ("" : Str))) = true → (!decide (b = ("" : Str))) = true → a ≠ b := List.pairwise_filter.mp r.nd
  have l := r.l
  have h2 := List.pairwise_iff_getElem.mp h
  have gi : Z[i]'(by omega) = nmZ Z i := by have := nmZ_at (Z := Z) (j := i) (by omega); rw [List.getElem?_eq_getElem (by omega)] at this; exact Option.some.inj this
  have gj : Z[j]'(by omega) = nmZ Z j := by have := nmZ_at (Z := Z) (j := j) (by omega); rw [List.getElem?_eq_getElem (by omega)] at this; exact Option.some.inj this
  have ne' : nmZ Z j ≠ "" := by rw [← e]; exact ne
  rcases Nat.lt_trichotomy i j with c | c | c
  · have := h2 i j (by omega) (by omega) c
    rw [gi, gj] at this
    exact absurd e (this (by simp [ne]) (by simp [ne']))
  · exact c
  · have := h2 j i (by omega) (by omega) c
    rw [gi, gj] at this
    exact absurd e.symm (this (by simp [ne']) (by simp [ne]))
theorem Row41.mem {Z : List Str} {ts : List Int} (r : Row41 Z ts) {u : Int} {j : Nat} (hj : j < ts.length) (ne : nmZ Z j ≠ "") : nmZ Z j ∈ names (pairS Z ts u) := by
  have l := r.l
  rw [pairS_names r.l]
  exact List.mem_filter.mpr ⟨List.mem_of_getElem? (nmZ_at (by omega)), by simp [ne]⟩
/-- what is told of one -/
structure Told41 (W : Int) (ss : List Seat) (zs os : List Str) (dn : List Int) (t : Str) : Prop where
  l : ss.length ≤ 12
  nd : (names ss).Nodup
  ok : ∀ s ∈ ss, Ok2 100000 4000 s.2
  there : There ss zs
  perm : os.Perm zs
  dd : ∀ n ∈ dn, 1 ≤ n ∧ n ≤ W
  bW : Bt 2000 W
  okb : ∀ s ∈ behS ss zs os dn, Okp 300 s.2
  sh : Sh 240000 6 (momD W (behS ss zs os dn))
  yes : WthF W (behS ss zs os dn).length (owF (behS ss zs os dn)) → t = (momD W (behS ss zs os dn)).shown
  no : ¬ WthF W (behS ss zs os dn).length (owF (behS ss zs os dn)) → t = (PyData.str "beyond").shown
structure Zs41 (Z : List Str) (n : Nat) (zs : List Nat) : Prop where
  nd : zs.Nodup
  two : 2 ≤ zs.length
  mem : ∀ z ∈ zs, z < n ∧ nmZ Z z ≠ ""
theorem Zs41.le {Z : List Str} {n : Nat} {zs : List Nat} (h : Zs41 Z n zs) : zs.length ≤ n := by
  have := h.nd.length_le_of_subset (l₂ := List.range n) fun z hz => List.mem_range.mpr (h.mem z hz).1
  rwa [List.length_range] at this
theorem Row41.there {Z : List Str} {ts : List Int} (r : Row41 Z ts) {hs : List Nat} {u : Int} (h : Zs41 Z ts.length hs) : There (pairS Z ts u) (hs.map (nmZ Z)) := by
  have := h.le
  have := r.l8
  refine ⟨by rw [List.length_map]; exact h.two, by rw [List.length_map]; omega, ?_, fun z hz => ?_⟩
  · rw [List.nodup_iff_pairwise_ne, List.pairwise_map]
    refine List.Pairwise.imp_of_mem (fun {a b} ha hb ne e => ne (r.inj (h.mem a ha).1 (h.mem b hb).1 (h.mem a ha).2 e)) (List.nodup_iff_pairwise_ne.mp h.nd)
  · obtain ⟨j, hj, rfl⟩ := List.mem_map.mp hz
    exact r.mem (h.mem j hj).1 (h.mem j hj).2
theorem saidD_imm (W : Int) (ss : List Seat) (zs os : List Str) (dn : List Int) : imm (saidD W ss zs os dn) = true := by
  unfold saidD
  show (imm (momD W ss) && (immAll (zs.map PyData.str) && (imm (pairsD os dn) && true))) = true
  rw [mom_imm, immAll_map (fun _ => rfl) zs]
  show (imm (.tuple _) && true) = true
  rw [Bool.and_true]
  exact immAll_map (fun _ => rfl) _
def Elder41 (K : PySem.W.Frag) (H : Hp) (e : V) : Prop := e = .non ∨ ∃ (E : Addr) (v : V) (t : Str) (W : Int) (ss : List Seat) (zs os : List Str) (dn : List Int), e = .ref E ∧ SqT K H E [v, .str t] ∧ Dp K H v (saidD W ss zs os dn) ∧ Told41 W ss zs os dn t
theorem Elder41.kt {K : PySem.W.Frag} {H H' : Hp} {e : V} (h : Elder41 K H e) (k : KT H H') : Elder41 K H' e := by
  rcases h with h | ⟨E, v, t, W, ss, zs, os, dn, he, hE, hv, o⟩
  · exact .inl h
  · exact .inr ⟨E, v, t, W, ss, zs, os, dn, he, k.sqt hE, hv.kt k (saidD_imm _ _ _ _ _), o⟩
theorem Told41.one {W : Int} {ss : List Seat} {zs os : List Str} {dn : List Int} {t t' : Str} (o : Told41 W ss zs os dn t) (h1 : WthF W (behS ss zs os dn).length (owF (behS ss zs os dn)) → t' = (momD W (behS ss zs os dn)).shown) (h2 : ¬ WthF W (behS ss zs os dn).length (owF (behS ss zs os dn)) → t' = (PyData.str "beyond").shown) : t' = t := by
  by_cases c : WthF W (behS ss zs os dn).length (owF (behS ss zs os dn))
  · rw [h1 c, o.yes c]
  · rw [h2 c, o.no c]
end WS
set_option Elab.async false
set_option linter.all false
set_option maxRecDepth 100000
set_option maxHeartbeats 4000000
set_option Elab.async false
set_option linter.all false
set_option maxRecDepth 100000
set_option maxHeartbeats 4000000
namespace WS
open PySem PySem.Spec PyProof.Rows L2
/-! ### rows of up to thirty seats, drawn and behind an offer -/
structure Row42 (Z : List Str) (ts : List Int) : Prop where
  l : Z.length = ts.length
  l30 : ts.length ≤ 30
  nd : (Z.filter fun z => !decide (z = ("" : Str))).Nodup
  nm : ∀ z ∈ Z, Nm0 z
  bt : ∀ t ∈ ts, Bt 128 t
theorem Row42.inj {Z : List Str} {ts : List Int} (r : Row42 Z ts) {i j : Nat} (hi : i < ts.length) (hj : j < ts.length) (ne : nmZ Z i ≠ "") (e : nmZ Z i = nmZ Z j) : i = j := by
  have h : Z.Pairwise fun a b => (!decide (a = ("" : Str))) = true → (!decide (b = ("" : Str))) = true → a ≠ b := List.pairwise_filter.mp r.nd
  have l := r.l
  have h2 := List.pairwise_iff_getElem.mp h
  have gi : Z[i]'(by omega) = nmZ Z i := by have := nmZ_at (Z := Z) (j := i) (by omega); rw [List.getElem?_eq_getElem (by omega)] at this; exact Option.some.inj this
  have gj : Z[j]'(by omega) = nmZ Z j := by have := nmZ_at (Z := Z) (j := j) (by omega); rw [List.getElem?_eq_getElem (by omega)] at this; exact Option.some.inj this
  have ne' : nmZ Z j ≠ "" := by rw [← e]; exact ne
  rcases Nat.lt_trichotomy i j with c | c | c
  · have := h2 i j (by omega) (by omega) c
    rw [gi, gj] at this
    exact absurd e (this (by simp [ne]) (by simp [ne']))
  · exact c
  · have := h2 j i (by omega) (by omega) c
    rw [gi, gj] at this
    exact absurd e.symm (this (by simp [ne']) (by simp [ne]))
theorem Row42.mem {Z : List Str} {ts : List Int} (r : Row42 Z ts) {u : Int} {j : Nat} (hj : j < ts.length) (ne : nmZ Z j ≠ "") : nmZ Z j ∈ names (pairS Z ts u) := by
  have l := r.l
  rw [pairS_names r.l]
  exact List.mem_filter.mpr ⟨List.mem_of_getElem? (nmZ_at (by omega)), by simp [ne]⟩
theorem Row42.there {Z : List Str} {ts : List Int} (r : Row42 Z ts) {hs : List Nat} {u : Int} (h : Zs41 Z ts.length hs) : There (pairS Z ts u) (hs.map (nmZ Z)) := by
  have := h.le
  have := r.l30
  refine ⟨by rw [List.length_map]; exact h.two, by rw [List.length_map]; omega, ?_, fun z hz => ?_⟩
  · rw [List.nodup_iff_pairwise_ne, List.pairwise_map]
    refine List.Pairwise.imp_of_mem (fun {a b} ha hb ne e => ne (r.inj (h.mem a ha).1 (h.mem b hb).1 (h.mem a ha).2 e)) (List.nodup_iff_pairwise_ne.mp h.nd)
  · obtain ⟨j, hj, rfl⟩ := List.mem_map.mp hz
    exact r.mem (h.mem j hj).1 (h.mem j hj).2
end WS
set_option Elab.async false
set_option linter.all false
set_option maxRecDepth 100000
set_option maxHeartbeats 4000000
namespace WS
open PySem PySem.Spec PyProof.Rows L2
/-! ### clubs: calls of a def that a name of the def's own holds -/
/-! ### what may change -/
/-- all but the things at S and the tables stays -/
def ExtC (S : List Addr) (H H' : Hp) : Prop := ∀ b o, b ∉ S → H b = some o → (∀ ps, o ≠ .tbl ps) → H' b = some o
theorem ExtC.refl (S : List Addr) (H : Hp) : ExtC S H H := fun _ _ _ h _ => h
theorem ExtC.trans {S : List Addr} {H H1 H2 : Hp} (a : ExtC S H H1) (b : ExtC S H1 H2) : ExtC S H H2 := fun c o n h t => b c o n (a c o n h t) t
theorem ExtC.mono {S S' : List Addr} {H H1 : Hp} (a : ExtC S H H1) (h : ∀ b ∈ S, b ∈ S') : ExtC S' H H1 := fun c o n e t => a c o (fun z => n (h c z)) e t
theorem ExtC.n {S : List Addr} {H H1 : Hp} (a : LamX.ExtN H H1) : ExtC S H H1 := fun c o _ h t => a c o h t
theorem ExtC.s {S : List Addr} {H H1 : Hp} (a : Same H H1) : ExtC S H H1 := fun c o _ h _ => a c o h
theorem ExtC.x {S : List Addr} {p : Addr} {H H1 : Hp} (a : ExtX p H H1) (hp : p ∈ S) : ExtC S H H1 := fun c o n h t => a c o (fun z => n (by rw [z]; exact hp)) h t
theorem ExtC.sx {S : List Addr} {p : Addr} {H H1 : Hp} (a : SameX p H H1) (hp : p ∈ S) : ExtC S H H1 := ExtC.x (ExtX.x a) hp
theorem ExtC.upd {S : List Addr} {p : Addr} {H : Hp} {o : HO} (hp : p ∈ S) : ExtC S H (upd H p o) := fun c o' n h _ => by
  rw [upd_ne (fun z => n (by rw [z]; exact hp))]
  exact h
/-- a later change of new things is none -/
theorem ExtC.drop {S S' : List Addr} {H H1 H2 : Hp} (a : ExtC S H H1) (b : ExtC S' H1 H2) (h : ∀ x ∈ S', x ∈ S ∨ H x = none) : ExtC S H H2 := fun c o n e t => b c o (fun z => by
  rcases h c z with h | h
  · exact n h
  · rw [h] at e
    cases e) (a c o n e t) t
/-- no tuple stands there -/
def NoTup (H : Hp) (b : Addr) : Prop := (∀ xs, H b ≠ some (.tup xs)) ∧ ∀ o xs, H b ≠ some (.frz o (.tup xs))
theorem NoTup.lst {H : Hp} {b : Addr} {xs : List V} (h : H b = some (.lst xs)) : NoTup H b := ⟨fun _ e => (by rw [h] at e; cases e), fun _ _ e => (by rw [h] at e; cases e)⟩
theorem NoTup.ins {H : Hp} {b C dx : Addr} {fs : List (Str × V)} (h : H b = some (.ins C dx fs)) : NoTup H b := ⟨fun _ e => (by rw [h] at e; cases e), fun _ _ e => (by rw [h] at e; cases e)⟩
theorem NoTup.pot {H : Hp} {p : Addr} (h : PotAt H p) : NoTup H p := by
  obtain ⟨x, y, h, _⟩ := h
  exact NoTup.lst h
theorem NoTup.none {H : Hp} {b : Addr} (h : H b = Option.none) : NoTup H b := ⟨fun _ e => (by rw [h] at e; cases e), fun _ _ e => (by rw [h] at e; cases e)⟩
theorem ExtC.kt {S : List Addr} {H H1 : Hp} (a : ExtC S H H1) (h : ∀ b ∈ S, NoTup H b) : KT H H1 :=
  ⟨fun c xs e => a c _ (fun z => (h c z).1 _ e) e (fun _ z => by cases z), fun c o xs e => a c _ (fun z => (h c z).2 _ _ e) e (fun _ z => by cases z)⟩
theorem ExtC.lst {S : List Addr} {H H1 : Hp} {L : Addr} {xs : List V} (a : ExtC S H H1) (n : L ∉ S) (h : H L = some (.lst xs)) : H1 L = some (.lst xs) := a _ _ n h (fun _ z => by cases z)
theorem ExtC.pot {S : List Addr} {H H1 : Hp} {p : Addr} (a : ExtC S H H1) (n : p ∉ S) (h : PotAt H p) : PotAt H1 p := by
  obtain ⟨x, y, e, r⟩ := h
  exact ⟨x, y, a.lst n e, r⟩
theorem ExtC.froz {S : List Addr} {H H1 : Hp} {v : Addr} {xs : List V} (a : ExtC S H H1) (k : ∀ b ∈ S, NoTup H b) (h : Froz H v xs) : Froz H1 v xs := by
  obtain ⟨o, e, d⟩ := h
  exact ⟨o, a _ _ (fun z => (k _ z).2 _ _ e) e (fun _ z => by cases z), d⟩
/-! ### t + u: one of them where the other is empty, else a tuple that keeps what it is made of -/
end WS
set_option Elab.async false
set_option linter.all false
set_option maxRecDepth 100000
set_option maxHeartbeats 4000000
namespace WS
open PySem PySem.Spec PyProof.Rows L2
/-! ### deeds and facts -/
inductive Fact where
  | ev (is : List Nat) (ds : List (Nat × Int))
  | gift (i j : Nat) (g : Int × Int)
  | join (tt : List Seat)
  | come (z : Str) (i : Nat)
  | leave (z : Str) (i : Nat)
  | weigh (W : Int)
inductive Deed where
  | ev (zs : List Str) (ns : List Int)
  | offer (zs : List Str) (said : List (Str × Int))
  | gift (y z : Str) (g : Int × Int)
  | join (W : Int) (tt : List Seat)
  | come (z : Str)
  | leave (z : Str)
  | weigh (W : Int)
def natD (i : Nat) : PyData := .int (i : Int)
def sdD (x : Str × Int) : PyData := .tuple [.str x.1, .int x.2]
def Fact.d : Fact → PyData
  | .ev is ds => .tuple [.str "evening", .tuple (is.map natD), .tuple (ds.map dutD)]
  | .gift i j g => .tuple [.str "gift", natD i, natD j, pdP g]
  | .join tt => .tuple [.str "join", .tuple (tt.map seatD)]
  | .come z i => .tuple [.str "come", .str z, natD i]
  | .leave z i => .tuple [.str "leave", .str z, natD i]
  | .weigh W => .tuple [.str "weigh", .int W]
def Deed.d : Deed → PyData
  | .ev zs ns => .tuple [.str "evening", .tuple (zs.map .str), .tuple (ns.map .int)]
  | .offer zs said => .tuple [.str "offer", .tuple (zs.map .str), .tuple (said.map sdD)]
  | .gift y z g => .tuple [.str "gift", .str y, .str z, pdP g]
  | .join W tt => .tuple [.str "join", momD W tt]
  | .come z => .tuple [.str "come", .str z]
  | .leave z => .tuple [.str "leave", .str z]
  | .weigh W => .tuple [.str "weigh", .int W]
/-- the moment behind a fact -/
def Fact.mom (W : Int) (ss : List Seat) : Fact → Int × List Seat
  | .ev is ds => (W, setRow ss (rowE (ss.map Prod.snd) is ds))
  | .gift i j g => (W, giftS ss i j g)
  | .join tt => (W, ss ++ tt)
  | .come z i => (W, put ss i z)
  | .leave _ i => (W, put ss i "")
  | .weigh W' => (W', ss)
/-- the fact that a deed makes -/
def Makes (ss : List Seat) : Deed → Fact → Prop
  | .ev zs ns, f => ∃ os, OrderOf ss zs os ∧ f = .ev (placesOf ss zs) (byS ss os (down ns))
  | .offer zs said, f => f = .ev (placesOf ss zs) (said.map fun x => (idx ss x.1, x.2))
  | .gift y z g, f => f = .gift (idx ss y) (idx ss z) g
  | .join _ tt, f => f = .join tt
  | .come z, f => f = .come z (room ss)
  | .leave z, f => f = .leave z (idx ss z)
  | .weigh W, f => f = .weigh W
/-- what a deed tells that made this fact, by the moment behind it -/
def told (ss : List Seat) : Deed → Fact → PyData
  | .ev _ _, .ev _ ds => .tuple (ds.map fun x => .tuple [.str (gs ss x.1).1, .int x.2])
  | .come _, .come _ i => .tuple [natD i, pdP (gs ss i).2]
  | .leave _, .leave _ i => pdP (gs ss i).2
  | _, _ => .none
theorem nat_imm (is : List Nat) : immAll (is.map natD) = true := immAll_map (fun _ => rfl) is
theorem said_imm (is : List (Str × Int)) : immAll (is.map sdD) = true := immAll_map (fun _ => rfl) is
theorem Fact.imm (f : Fact) : WS.imm f.d = true := by
  cases f with
  | ev is ds =>
    show (true && ((immAll (is.map natD)) && ((immAll (ds.map dutD)) && true))) = true
    rw [nat_imm, dut_imm]; rfl
  | gift i j g => rfl
  | join tt =>
    show (true && ((immAll (tt.map seatD)) && true)) = true
    rw [seats_imm]; rfl
  | come z i => rfl
  | leave z i => rfl
  | weigh W => rfl
/-! ### clubs -/
/-- a moment's value; its seats are a tuple that keeps what it is made of, or none -/
def MomAt (K : PySem.W.Frag) (H : Hp) (v : V) (W : Int) (ss : List Seat) : Prop := ∃ t S xs, v = .ref t ∧ SqT K H t [.int W, .ref S] ∧ SqT K H S xs ∧ DpAll K H xs (ss.map seatD) ∧ ((∃ ys, Froz H S ys ∧ ys = xs) ∨ ss = [])
theorem MomAt.keep {K : PySem.W.Frag} {S : List Addr} {H H1 : Hp} {v : V} {W : Int} {ss : List Seat} (h : MomAt K H v W ss) (a : ExtC S H H1) (k : ∀ b ∈ S, NoTup H b) : MomAt K H1 v W ss := by
  obtain ⟨t, Z, xs, rfl, h1, h2, h3, h4⟩ := h
  have kt := a.kt k
  refine ⟨t, Z, xs, rfl, kt.sqt h1, kt.sqt h2, h3.kt kt (seats_imm _), ?_⟩
  rcases h4 with ⟨ys, h4, e⟩ | h4
  · exact .inl ⟨ys, a.froz k h4, e⟩
  · exact .inr h4
theorem MomAt.sm {K : PySem.W.Frag} {H H1 : Hp} {v : V} {W : Int} {ss : List Seat} (h : MomAt K H v W ss) (a : Same H H1) : MomAt K H1 v W ss := h.keep (S := []) (ExtC.s a) (fun _ z => by cases z)
theorem MomAt.en {K : PySem.W.Frag} {H H1 : Hp} {v : V} {W : Int} {ss : List Seat} (h : MomAt K H v W ss) (a : LamX.ExtN H H1) : MomAt K H1 v W ss := h.keep (S := []) (ExtC.n a) (fun _ z => by cases z)
theorem MomAt.dp {K : PySem.W.Frag} {H : Hp} {v : V} {W : Int} {ss : List Seat} (h : MomAt K H v W ss) : Dp K H v (momD W ss) := by
  obtain ⟨t, Z, xs, rfl, h1, h2, h3, _⟩ := h
  exact mom_mk h1 h2 h3
theorem Deed.imm (f : Deed) : WS.imm f.d = true := by
  cases f with
  | ev is ds =>
    show (true && ((immAll (is.map PyData.str)) && ((immAll (ds.map PyData.int)) && true))) = true
    rw [immAll_map (fun _ => rfl) is, immAll_map (fun _ => rfl) ds]; rfl
  | offer is ds =>
    show (true && ((immAll (is.map PyData.str)) && ((immAll (ds.map sdD)) && true))) = true
    rw [immAll_map (fun _ => rfl) is, said_imm]; rfl
  | gift i j g => rfl
  | join W tt =>
    show (true && (WS.imm (momD W tt) && true)) = true
    rw [mom_imm]; rfl
  | come z => rfl
  | leave z => rfl
  | weigh W => rfl
/-- a fact's value; what joins has seats in a tuple that keeps what it is made of -/
def FactAt (K : PySem.W.Frag) (H : Hp) (v : V) (f : Fact) : Prop := Dp K H v f.d ∧ ∀ tt, f = .join tt → ∃ t S xs, v = .ref t ∧ SqT K H t [.str "join", .ref S] ∧ SqT K H S xs ∧ DpAll K H xs (tt.map seatD) ∧ ((∃ ys, Froz H S ys ∧ ys = xs) ∨ tt = [])
def DeedAt (K : PySem.W.Frag) (H : Hp) (v : V) (d : Deed) : Prop := Dp K H v d.d ∧ ∀ W tt, d = .join W tt → ∃ t m, v = .ref t ∧ SqT K H t [.str "join", m] ∧ MomAt K H m W tt
theorem DeedAt.keep {K : PySem.W.Frag} {S : List Addr} {H H1 : Hp} {v : V} {d : Deed} (h : DeedAt K H v d) (a : ExtC S H H1) (k : ∀ b ∈ S, NoTup H b) : DeedAt K H1 v d := by
  refine ⟨h.1.kt (a.kt k) d.imm, fun W tt e => ?_⟩
  obtain ⟨t, m, e1, e2, e3⟩ := h.2 W tt e
  exact ⟨t, m, e1, (a.kt k).sqt e2, e3.keep a k⟩
theorem FactAt.keep {K : PySem.W.Frag} {S : List Addr} {H H1 : Hp} {v : V} {d : Fact} (h : FactAt K H v d) (a : ExtC S H H1) (k : ∀ b ∈ S, NoTup H b) : FactAt K H1 v d := by
  refine ⟨h.1.kt (a.kt k) d.imm, fun tt e => ?_⟩
  obtain ⟨t, Z, xs, e1, e2, e3, e4, e5⟩ := h.2 tt e
  refine ⟨t, Z, xs, e1, (a.kt k).sqt e2, (a.kt k).sqt e3, e4.kt (a.kt k) (seats_imm _), ?_⟩
  rcases e5 with ⟨ys, e5, e⟩ | e5
  · exact .inl ⟨ys, a.froz k e5, e⟩
  · exact .inr e5
theorem FactAt.en {K : PySem.W.Frag} {H H1 : Hp} {v : V} {d : Fact} (h : FactAt K H v d) (a : LamX.ExtN H H1) : FactAt K H1 v d := h.keep (S := []) (ExtC.n a) (fun _ z => by cases z)
theorem DeedAt.en {K : PySem.W.Frag} {H H1 : Hp} {v : V} {d : Deed} (h : DeedAt K H v d) (a : LamX.ExtN H H1) : DeedAt K H1 v d := h.keep (S := []) (ExtC.n a) (fun _ z => by cases z)
/-- its fields -/
def clubF (W : Int) (fl ml : Addr) : List (Str × V) := [("first_weight", .int W), ("fact_list", .ref fl), ("moment_list", .ref ml)]
abbrev Mom := Int × List Seat
def FactsAt (K : PySem.W.Frag) (H : Hp) (vs : List V) (fs : List Fact) : Prop := vs.length = fs.length ∧ ∀ (i : Nat) v f, vs[i]? = some v → fs[i]? = some f → FactAt K H v f
def MomsAt (K : PySem.W.Frag) (H : Hp) (vs : List V) (ms : List Mom) : Prop := vs.length = ms.length ∧ ∀ (i : Nat) v m, vs[i]? = some v → ms[i]? = some m → MomAt K H v m.1 m.2
theorem push_at {α : Type} {Pr : V → α → Prop} {vs : List V} {as : List α} {v : V} {a : α} (hl : vs.length = as.length) (h : ∀ (i : Nat) v f, vs[i]? = some v → as[i]? = some f → Pr v f) (hv : Pr v a) : (vs ++ [v]).length = (as ++ [a]).length ∧ ∀ (i : Nat) x f, (vs ++ [v])[i]? = some x → (as ++ [a])[i]? = some f → Pr x f := by
  refine ⟨by simp [hl], fun i x f h1 h2 => ?_⟩
  by_cases c : i < vs.length
  · rw [List.getElem?_append_left c] at h1
    rw [List.getElem?_append_left (by omega)] at h2
    exact h i x f h1 h2
  · rw [List.getElem?_append_right (by omega)] at h1
    rw [List.getElem?_append_right (by omega)] at h2
    have e : i - vs.length = 0 := by
      cases z : i - vs.length with
      | zero => rfl
      | succ n => rw [z] at h1; simp at h1
    rw [e] at h1
    rw [← hl, e] at h2
    obtain rfl := Option.some.inj (show some v = some x from h1)
    obtain rfl := Option.some.inj (show some a = some f from h2)
    exact hv
/-- a club: the lists of its facts and moments -/
structure ClubAt (C : Addr) (K : PySem.W.Frag) (H : Hp) (c fl ml : Addr) (W : Int) (fs : List Fact) (ms : List Mom) : Prop where
  ins : ∃ dx, H c = some (.ins C dx (clubF W fl ml))
  fs : ∃ xs, H fl = some (.lst xs) ∧ FactsAt K H xs fs
  ms : ∃ xs, H ml = some (.lst xs) ∧ MomsAt K H xs ms
  ne : fl ≠ ml
section
variable {C : Addr} {K : PySem.W.Frag} {H H1 : Hp} {c fl ml : Addr} {W : Int} {fs : List Fact} {ms : List Mom}
theorem ClubAt.nt (h : ClubAt C K H c fl ml W fs ms) : ∀ b ∈ [c, fl, ml], NoTup H b := fun b hb => by
  obtain ⟨dx, h1⟩ := h.ins
  obtain ⟨_, h2, _⟩ := h.fs
  obtain ⟨_, h3, _⟩ := h.ms
  simp only [List.mem_cons, List.not_mem_nil, or_false] at hb
  rcases hb with rfl | rfl | rfl
  · exact NoTup.ins h1
  · exact NoTup.lst h2
  · exact NoTup.lst h3
theorem ClubAt.cn (h : ClubAt C K H c fl ml W fs ms) : c ≠ fl ∧ c ≠ ml := by
  obtain ⟨dx, h1⟩ := h.ins
  obtain ⟨_, h2, _⟩ := h.fs
  obtain ⟨_, h3, _⟩ := h.ms
  exact ⟨ne_of h1 h2 (by intro z; cases z), ne_of h1 h3 (by intro z; cases z)⟩
theorem ClubAt.there (h : ClubAt C K H c fl ml W fs ms) : ∀ b ∈ [c, fl, ml], H b ≠ none := fun b hb => by
  obtain ⟨dx, h1⟩ := h.ins
  obtain ⟨_, h2, _⟩ := h.fs
  obtain ⟨_, h3, _⟩ := h.ms
  simp only [List.mem_cons, List.not_mem_nil, or_false] at hb
  rcases hb with rfl | rfl | rfl
  · rw [h1]; exact fun z => by cases z
  · rw [h2]; exact fun z => by cases z
  · rw [h3]; exact fun z => by cases z
/-- it stays where nothing of it is changed -/
theorem ClubAt.keep {S : List Addr} (h : ClubAt C K H c fl ml W fs ms) (a : ExtC S H H1) (k : ∀ b ∈ S, NoTup H b) (n : ∀ b ∈ [c, fl, ml], b ∉ S) : ClubAt C K H1 c fl ml W fs ms := by
  obtain ⟨dx, h1⟩ := h.ins
  obtain ⟨xs, h2, h3⟩ := h.fs
  obtain ⟨ys, h4, h5⟩ := h.ms
  exact ⟨⟨dx, a _ _ (n c (by simp)) h1 (fun _ z => by cases z)⟩, ⟨xs, a.lst (n fl (by simp)) h2, h3.1, fun i v f e1 e2 => (h3.2 i v f e1 e2).keep a k⟩, ⟨ys, a.lst (n ml (by simp)) h4, h5.1, fun i v f e1 e2 => (h5.2 i v f e1 e2).keep a k⟩, h.ne⟩
theorem ClubAt.en (h : ClubAt C K H c fl ml W fs ms) (a : LamX.ExtN H H1) : ClubAt C K H1 c fl ml W fs ms := h.keep (S := []) (ExtC.n a) (fun _ z => by cases z) (fun _ _ z => by cases z)
theorem ClubAt.sm (h : ClubAt C K H c fl ml W fs ms) (a : Same H H1) : ClubAt C K H1 c fl ml W fs ms := h.en (ExtN.same a)
theorem ClubAt.x {p : Addr} (h : ClubAt C K H c fl ml W fs ms) (a : SameX p H H1) (hp : PotAt H p) (n : p ∉ [c, fl, ml]) : ClubAt C K H1 c fl ml W fs ms :=
  h.keep (S := [p]) (ExtC.sx a (by simp)) (fun b hb => by rw [List.mem_singleton.mp hb]; exact NoTup.pot hp) (fun b hb z => n (by rw [← List.mem_singleton.mp z]; exact hb))
end
/-- a moment of sane sizes -/
structure Sane (W : Int) (ss : List Seat) : Prop where
  l : ss.length ≤ 60
  w : 1 ≤ W
  b : Bt 900 W
  nd : (names ss).Nodup
  ok : ∀ s ∈ ss, Okp 900 s.2
/-- a deed that is let, of sane sizes -/
def Lets (W : Int) (ss : List Seat) : Deed → Prop
  | .ev zs ns => There ss zs ∧ ns.length ≤ zs.length ∧ ∀ n ∈ ns, 1 ≤ n ∧ n ≤ W
  | .gift y z g => y ∈ names ss ∧ z ∈ names ss ∧ Lowest g.1 g.2 ∧ 0 < g.1 ∧ rv g ≤ owF ss (idx ss y) - owF ss (idx ss z) ∧ Okp 1000 g
  | .join W' tt => W' = W ∧ tt.length ≤ 30 ∧ ∀ z ∈ names ss, z ∉ names tt
  | _ => False
/-- a fact that makes a moment -/
def FactOk (W : Int) (ss : List Seat) : Fact → Prop
  | .ev is ds => is.Nodup ∧ 0 < is.length ∧ is.length ≤ 100 ∧ (∀ i ∈ is, i < ss.length) ∧ (ds.map Prod.fst).Nodup ∧ (∀ x ∈ ds, x.1 < ss.length ∧ Bt 50000 x.2) ∧ ds.length ≤ 100
  | .gift i j g => i < ss.length ∧ j < ss.length ∧ Okp 1000 g
  | .join tt => tt.length ≤ 30
  | _ => False
end WS
set_option Elab.async false
set_option linter.all false
set_option maxRecDepth 100000
set_option maxHeartbeats 4000000
namespace WS
open PySem PySem.Spec PyProof.Rows L2
/-! ### facts of deeds that are let -/
theorem places_perm {ss : List Seat} {zs : List Str} (nd : (names ss).Nodup) (hz : zs.Nodup) (hin : ∀ z ∈ zs, z ∈ names ss) : (zs.map (idx ss)).Perm (placesOf ss zs) := by
  refine (List.perm_ext_iff_of_nodup (idxs_nodup hz hin) ((places_up ss zs).imp fun h => Nat.ne_of_lt h)).mpr fun i => ?_
  rw [List.mem_map]
  constructor
  · rintro ⟨z, h, rfl⟩
    have hn := hin z h
    refine List.mem_filter.mpr ⟨List.mem_range.mpr (idx_lt hn), decide_eq_true ?_⟩
    rw [gs_idx hn]
    exact h
  · intro h
    exact ⟨(gs ss i).1, (places_lt h).2, idx_name nd hin h⟩
theorem fact_ok {W : Int} {ss : List Seat} {d : Deed} {f : Fact} (hs : Sane W ss) (hL : Lets W ss d) (hM : Makes ss d f) : FactOk W ss f := by
  cases d with
  | ev zs ns =>
    obtain ⟨os, hO, rfl⟩ := hM
    obtain ⟨hT, ln, hn⟩ := hL
    have pp := places_perm hs.nd hT.2.2.1 hT.2.2.2
    have pl := pp.length_eq
    rw [List.length_map] at pl
    have ond : os.Nodup := hO.1.nodup_iff.mpr hT.2.2.1
    have oin : ∀ z ∈ os, z ∈ names ss := fun z hz => hT.2.2.2 z (hO.1.mem_iff.mp hz)
    refine ⟨(places_up ss zs).imp fun h => Nat.ne_of_lt h, by have := hT.1; omega, by have := hT.2.1; omega, fun i hi => (places_lt hi).1, ?_, fun x hx => ?_, ?_⟩
    · rw [byS_fst]
      exact idxs_nodup (ond.sublist (List.take_sublist _ _)) (fun z hz => oin z (List.mem_of_mem_take hz))
    · obtain ⟨⟨z, hz, e⟩, hn'⟩ := byS_mem hx
      have hd := hn _ ((down_perm ns).mem_iff.mp hn')
      refine ⟨by rw [e]; exact idx_lt (oin z hz), ?_⟩
      exact ((hs.b.of_le (by omega)).mono (by decide))
    · unfold byS
      rw [List.length_map, List.length_zip, hO.1.length_eq]
      have := hT.2.1
      omega
  | gift y z g =>
    obtain rfl := hM
    obtain ⟨hy, hz, _, _, _, og⟩ := hL
    exact ⟨idx_lt hy, idx_lt hz, og⟩
  | join W' tt =>
    obtain rfl := hM
    exact hL.2.1
  | _ => exact hL.elim
theorem mom_len {W : Int} {ss : List Seat} {f : Fact} (hl : ss.length ≤ 60) (h : FactOk W ss f) : (f.mom W ss).2.length ≤ 90 ∧ ∀ is ds, f = .ev is ds → (f.mom W ss).2.length = ss.length := by
  cases f with
  | ev is ds =>
    have e : (Fact.mom W ss (.ev is ds)).2.length = ss.length := setRow_len (by rw [rowE_len, List.length_map])
    exact ⟨by omega, fun _ _ _ => e⟩
  | gift i j g =>
    have e : (Fact.mom W ss (.gift i j g)).2.length = ss.length := setRow_len (by rw [giftR_len, List.length_map])
    exact ⟨by omega, fun _ _ z => by cases z⟩
  | join tt =>
    have h : tt.length ≤ 30 := h
    refine ⟨?_, fun _ _ z => by cases z⟩
    show (ss ++ tt).length ≤ 90
    rw [List.length_append]
    omega
  | _ => exact h.elim
section
variable {C : Addr} {K : PySem.W.Frag} {H H1 : Hp} {c fl ml : Addr} {W : Int} {fs : List Fact} {ms : List Mom}
theorem ClubAt.push {xs ys : List V} {fv mv : V} {f : Fact} {m : Mom} (h : ClubAt C K H c fl ml W fs ms) (hx : H fl = some (.lst xs)) (hy : H ml = some (.lst ys)) (hxs : FactsAt K H xs fs) (hys : MomsAt K H ys ms) (hf : FactAt K H fv f) (hm : MomAt K H mv m.1 m.2) :
    ClubAt C K (upd (upd H fl (.lst (xs ++ [fv]))) ml (.lst (ys ++ [mv]))) c fl ml W (fs ++ [f]) (ms ++ [m]) := by
  have ex : ExtC [fl, ml] H (upd (upd H fl (.lst (xs ++ [fv]))) ml (.lst (ys ++ [mv]))) := (ExtC.upd (by simp)).trans (ExtC.upd (by simp))
  have nt : ∀ b ∈ [fl, ml], NoTup H b := fun b hb => h.nt b (List.mem_cons_of_mem _ hb)
  obtain ⟨n1, n2⟩ := h.cn
  obtain ⟨dx, hi⟩ := h.ins
  obtain ⟨a1, a2⟩ := push_at hxs.1 hxs.2 hf
  obtain ⟨b1, b2⟩ := push_at (Pr := fun v (m : Mom) => MomAt K H v m.1 m.2) hys.1 hys.2 hm
  refine ⟨⟨dx, by rw [upd_ne n2, upd_ne n1]; exact hi⟩, ⟨_, by rw [upd_ne h.ne, upd_same], a1, fun i v f e1 e2 => (a2 i v f e1 e2).keep ex nt⟩, ⟨_, upd_same, b1, fun i v f e1 e2 => (b2 i v f e1 e2).keep ex nt⟩, h.ne⟩
theorem FactsAt.keep {S : List Addr} {vs : List V} (h : FactsAt K H vs fs) (a : ExtC S H H1) (k : ∀ b ∈ S, NoTup H b) : FactsAt K H1 vs fs := ⟨h.1, fun i v f e1 e2 => (h.2 i v f e1 e2).keep a k⟩
theorem MomsAt.keep {S : List Addr} {vs : List V} (h : MomsAt K H vs ms) (a : ExtC S H H1) (k : ∀ b ∈ S, NoTup H b) : MomsAt K H1 vs ms := ⟨h.1, fun i v f e1 e2 => (h.2 i v f e1 e2).keep a k⟩
theorem MomsAt.get {vs : List V} (h : MomsAt K H vs ms) {k : Nat} (hk : k < ms.length) : ∃ v, vs[k]? = some v ∧ MomAt K H v ms[k].1 ms[k].2 := by
  have hv : k < vs.length := by rw [h.1]; exact hk
  exact ⟨vs[k], List.getElem?_eq_getElem hv, h.2 k _ _ (List.getElem?_eq_getElem hv) (List.getElem?_eq_getElem hk)⟩
end
/-- several deeds, one behind the other -/
inductive RunOf : Mom → List Deed → List Fact → List Mom → List PyData → Prop
  | nil (m : Mom) : RunOf m [] [] [] []
  | cons {m : Mom} {d : Deed} {f : Fact} {ds : List Deed} {fs : List Fact} {ms : List Mom} {ts : List PyData} : Makes m.2 d f → RunOf (f.mom m.1 m.2) ds fs ms ts → RunOf m (d :: ds) (f :: fs) (f.mom m.1 m.2 :: ms) (told (f.mom m.1 m.2).2 d f :: ts)
def lastM (m : Mom) (ms : List Mom) : Mom := ms.getLastD m
/-- each of them is let in its turn, and none joins -/
def AllLets (m : Mom) : List Deed → Prop
  | [] => True
  | d :: ds => Sane m.1 m.2 ∧ Lets m.1 m.2 d ∧ (∀ W tt, d ≠ .join W tt) ∧ ∀ f, Makes m.2 d f → AllLets (f.mom m.1 m.2) ds
theorem AllLets.at {m : Mom} {ds : List Deed} {fs : List Fact} {ms : List Mom} {ts : List PyData} (h : RunOf m ds fs ms ts) : ∀ {d : Deed} {es : List Deed}, AllLets m (ds ++ d :: es) → Sane (lastM m ms).1 (lastM m ms).2 ∧ Lets (lastM m ms).1 (lastM m ms).2 d ∧ (∀ W tt, d ≠ .join W tt) := by
  induction h with
  | nil m => exact fun h => ⟨h.1, h.2.1, h.2.2.1⟩
  | @cons m d0 f0 ds fs ms ts h1 h2 ih =>
    intro d es h
    have e : lastM m (f0.mom m.1 m.2 :: ms) = lastM (f0.mom m.1 m.2) ms := by
      unfold lastM
      cases ms with
      | nil => rfl
      | cons a l => rfl
    rw [e]
    exact ih (h.2.2.2 _ h1)
def DeedsAt (K : PySem.W.Frag) (H : Hp) (vs : List V) (ds : List Deed) : Prop := vs.length = ds.length ∧ ∀ (i : Nat) v d, vs[i]? = some v → ds[i]? = some d → DeedAt K H v d
open LamX in
theorem Tabs.ins {TT : List (Addr × Str)} {D C dx : Addr} {H : Hp} {fs : List (Str × V)} {o : HO} (t : Tabs TT H) (h : H D = some (.ins C dx fs)) : Tabs TT (upd H D o) := fun q hq => by
  obtain ⟨ps, h1, h2, h3⟩ := t q hq
  refine ⟨ps, by rw [upd_ne (ne_of h1 h (by intro z; cases z))]; exact h1, h2, fun pos cv hc => ?_⟩
  obtain ⟨c, e1, e2⟩ := h3 pos cv hc
  exact ⟨c, e1, by rw [upd_ne (ne_of e2 h (by unfold CodeO; intro z; cases z))]; exact e2⟩
end WS
set_option Elab.async false
set_option linter.all false
set_option maxRecDepth 100000
set_option maxHeartbeats 4000000
namespace WS
open PySem PySem.Spec PyProof.Rows L2
/-! ### deeds of unlike people change places -/
def touch : Fact → List Nat
  | .ev is _ => is
  | .gift i j _ => [i, j]
  | _ => []
/-- an evening or a gift -/
def Plain : Deed → Prop
  | .ev _ _ => True
  | .gift y z _ => y ≠ z
  | _ => False
def people : Deed → List Str
  | .ev zs _ => zs
  | .gift y z _ => [y, z]
  | _ => []
def LocalF : Fact → Prop
  | .ev is ds => ∀ x ∈ ds, x.1 ∈ is
  | .gift i j _ => i ≠ j
  | _ => False
theorem fst_len {ss tt : List Seat} (h : tt.map Prod.fst = ss.map Prod.fst) : tt.length = ss.length := by
  have := congrArg List.length h
  rw [List.length_map, List.length_map] at this
  exact this
theorem fst_nms {ss tt : List Seat} (h : tt.map Prod.fst = ss.map Prod.fst) : names tt = names ss := names_of h
/-- a seat behind a fact -/
def behF (ps : Nat → Int × Int) (f : Fact) (i : Nat) : Int × Int := match f with
  | .ev is ds => match ds.lookup i with
    | some d => mi (if i ∈ is then pl (ps i) (lo (ds.map Prod.snd).sum (is.length : Nat)) else ps i) (lo d 1)
    | none => if i ∈ is then pl (ps i) (lo (ds.map Prod.snd).sum (is.length : Nat)) else ps i
  | .gift a b g => if i = b then pl (ps b) g else if i = a then mi (ps a) g else ps i
  | _ => ps i
theorem mom_gs {W : Int} {ss : List Seat} {f : Fact} (h : FactOk W ss f) (hl : LocalF f) {i : Nat} (hi : i < ss.length) : gs (f.mom W ss).2 i = ((gs ss i).1, behF (fun k => (gs ss k).2) f i) := by
  have pl' : (ss.map Prod.snd).length = ss.length := List.length_map _
  cases f with
  | ev is ds =>
    show gs (setRow ss (rowE (ss.map Prod.snd) is ds)) i = _
    rw [gs_setRow hi (by rw [rowE_len, pl']), rowE_at (by rw [pl']; exact hi)]
    congr 1
    unfold rowG rowF
    show (match ds.lookup i with | some d => _ | none => _) = _
    rw [gp_snd ss hi]
    rfl
  | gift a b g =>
    obtain ⟨ha, hb, _⟩ := h
    show gs (setRow ss (giftR (ss.map Prod.snd) a b g)) i = _
    rw [gs_setRow hi (by rw [giftR_len, pl']), giftR_at (by rw [pl']; exact ha) (by rw [pl']; exact hb) hl, gp_snd ss ha, gp_snd ss hb, gp_snd ss hi]
    rfl
  | _ => exact hl.elim
theorem mom_fst {W : Int} {ss : List Seat} {f : Fact} (h : FactOk W ss f) (hl : LocalF f) : (f.mom W ss).2.map Prod.fst = ss.map Prod.fst ∧ (f.mom W ss).1 = W := by
  cases f with
  | ev is ds => exact ⟨setRow_fst (by rw [rowE_len, List.length_map]), rfl⟩
  | gift a b g => exact ⟨setRow_fst (by rw [giftR_len, List.length_map]), rfl⟩
  | _ => exact hl.elim
theorem makes_one {ss : List Seat} {d : Deed} {f f' : Fact} (hM : Makes ss d f) (hM' : Makes ss d f') : f = f' := by
  cases d with
  | ev zs ns =>
    obtain ⟨os, hO, rfl⟩ := hM
    obtain ⟨os', hO', rfl⟩ := hM'
    rw [order_one hO hO']
  | _ => exact Eq.trans hM (Eq.symm hM')
theorem local_of {W : Int} {ss : List Seat} {d : Deed} {f : Fact} (nd : (names ss).Nodup) (hp : Plain d) (hL : Lets W ss d) (hM : Makes ss d f) : LocalF f ∧ ∀ i, i ∈ touch f ↔ ∃ z ∈ people d, i = idx ss z := by
  cases d with
  | ev zs ns =>
    obtain ⟨os, hO, rfl⟩ := hM
    obtain ⟨hT, _, _⟩ := hL
    have pp := places_perm nd hT.2.2.1 hT.2.2.2
    refine ⟨fun x hx => ?_, fun i => ?_⟩
    · obtain ⟨⟨z, hz, e⟩, _⟩ := byS_mem hx
      rw [e]
      exact pp.mem_iff.mp (List.mem_map_of_mem (hO.1.mem_iff.mp hz))
    · show i ∈ placesOf ss zs ↔ _
      rw [← pp.mem_iff, List.mem_map]
      exact ⟨fun ⟨z, hz, e⟩ => ⟨z, hz, e.symm⟩, fun ⟨z, hz, e⟩ => ⟨z, hz, e.symm⟩⟩
  | gift y z g =>
    obtain rfl := hM
    obtain ⟨hy, hz, _⟩ := hL
    refine ⟨fun e => hp (idx_one hy hz e), fun i => ?_⟩
    show i ∈ [idx ss y, idx ss z] ↔ ∃ x ∈ [y, z], _
    simp
  | _ => exact hp.elim
end WS
set_option Elab.async false
set_option linter.all false
set_option maxRecDepth 100000
set_option maxHeartbeats 4000000
namespace WS
open PySem PySem.Spec PyProof.Rows L2
/-! ### moments of k84 -/
theorem OkV.mi {D : Int} {N M : Nat} {p q : Int × Int} (hD : 0 < D) (h : OkV D N p) (k : OkV D M q) : OkV D (N + M) (mi p q) := by
  obtain ⟨h1, ⟨m, hm⟩, h3⟩ := h
  obtain ⟨k1, ⟨n, hn⟩, k3⟩ := k
  refine OkV.lo hD (Int.mul_pos h1 k1) ⟨p.1 * m - q.1 * n, ?_⟩ ?_
  · calc (p.1 * q.2 - q.1 * p.2) * D = p.1 * q.2 * D - q.1 * p.2 * D := by grind
      _ = p.1 * q.2 * (p.2 * m) - q.1 * p.2 * (q.2 * n) := by rw [← hm, ← hn]
      _ = (p.1 * m - q.1 * n) * (p.2 * q.2) := by grind
  · have a1 : (p.1 * q.2).natAbs ≤ N * (p.2 * q.2).natAbs := by
      rw [Int.natAbs_mul, Int.natAbs_mul, ← Nat.mul_assoc]
      exact Nat.mul_le_mul_right _ h3
    have a2 : (q.1 * p.2).natAbs ≤ M * (p.2 * q.2).natAbs := by
      rw [Int.natAbs_mul, Int.natAbs_mul, Nat.mul_comm p.2.natAbs, ← Nat.mul_assoc]
      exact Nat.mul_le_mul_right _ k3
    have := Int.natAbs_sub_le (p.1 * q.2) (q.1 * p.2)
    rw [Nat.add_mul]
    omega
theorem pl_lowest {p q : Int × Int} (h : 0 < p.2) (k : 0 < q.2) : Lowest (pl p q).1 (pl p q).2 := lo_lowest (Int.mul_pos h k)
theorem mi_low {p q : Int × Int} (h : 0 < p.2) (k : 0 < q.2) : Lowest (mi p q).1 (mi p q).2 := lo_lowest (Int.mul_pos h k)
theorem sum_abs {M : Nat} : ∀ l : List Int, (∀ x ∈ l, x.natAbs ≤ M) → l.sum.natAbs ≤ l.length * M
  | [], _ => by simp
  | x :: l, h => by
    have h1 := h x List.mem_cons_self
    have h2 := sum_abs l fun y hy => h y (List.mem_cons_of_mem _ hy)
    rw [List.sum_cons, List.length_cons, Nat.add_mul, Nat.one_mul]
    have := Int.natAbs_add_le x l.sum
    omega
theorem lookup_in {ds : List (Nat × Int)} {i : Nat} {d : Int} (h : ds.lookup i = some d) : (i, d) ∈ ds := by
  induction ds with
  | nil => cases h
  | cons x l ih =>
    obtain ⟨a, b⟩ := x
    rw [List.lookup_cons] at h
    by_cases c : (i == a) = true
    · rw [c] at h
      obtain rfl := Option.some.inj (show some b = some d from h)
      rw [beq_iff_eq.mp c]
      exact List.mem_cons_self
    · rw [Bool.not_eq_true] at c
      rw [c] at h
      exact List.mem_cons_of_mem _ (ih h)
structure M84 (D : Int) (k : Nat) (W : Int) (ss : List Seat) : Prop where
  l : 4 ≤ ss.length ∧ ss.length ≤ 12
  w : 1 ≤ W
  b : Bt 110 W
  nd : (names ss).Nodup
  nm : ∀ s ∈ ss, Nm s.1
  low : ∀ s ∈ ss, Lowest s.2.1 s.2.2
  ok : ∀ s ∈ ss, OkV D (2 ^ (113 + 2 * k)) s.2
  d0 : 0 < D
  db : Bt 40 D
  dv : ∀ m : Nat, 1 ≤ m → m ≤ 12 → ((m : Nat) : Int) ∣ D
theorem M84.lt {k : Nat} (hk : k ≤ 12) : (2 : Nat) ^ (113 + 2 * k) < 2 ^ 140 := Nat.pow_lt_pow_right (by decide) (by omega)
theorem M84.okp {D : Int} {k : Nat} {W : Int} {ss : List Seat} (h : M84 D k W ss) (hk : k ≤ 12) : ∀ s ∈ ss, Okp 180 s.2 := fun s hs => (h.ok s hs).okp h.d0 h.db (M84.lt hk) (by decide)
theorem M84.sane {D : Int} {k : Nat} {W : Int} {ss : List Seat} (h : M84 D k W ss) (hk : k ≤ 12) : Sane W ss := ⟨by have := h.l.2; omega, h.w, h.b.mono (by decide), h.nd, fun s hs => (h.okp hk s hs).mono (by decide)⟩
theorem M84.names {D : Int} {k : Nat} {W : Int} {ss : List Seat} (h : M84 D k W ss) : names ss = ss.map Prod.fst := by
  unfold WS.names
  refine List.filter_eq_self.mpr fun z hz => ?_
  obtain ⟨s, hs, rfl⟩ := List.mem_map.mp hz
  have := nm_ne (h.nm s hs)
  simp [this]
theorem M84.gs {D : Int} {k : Nat} {W : Int} {ss : List Seat} (h : M84 D k W ss) {i : Nat} (hi : i < ss.length) : Lowest (gs ss i).2.1 (gs ss i).2.2 ∧ OkV D (2 ^ (113 + 2 * k)) (gs ss i).2 := ⟨h.low _ (gs_mem hi), h.ok _ (gs_mem hi)⟩
theorem byS_snd_in {ss : List Seat} {os : List Str} {dn : List Int} {x : Int} (h : x ∈ (byS ss os dn).map Prod.snd) : x ∈ dn := by
  obtain ⟨y, hy, rfl⟩ := List.mem_map.mp h
  exact (byS_mem hy).2
theorem M84.step {D : Int} {k : Nat} {W : Int} {ss : List Seat} {d : Deed} {f : Fact} (h : M84 D k W ss) (hk : k ≤ 11) (hp : Plain d) (hL : Lets W ss d) (hM : Makes ss d f) (hg : ∀ y z g, d = .gift y z g → OkV D (2 ^ (114 + 2 * k)) g) : M84 D (k + 1) (f.mom W ss).1 (f.mom W ss).2 := by
  have hs := h.sane (by omega)
  have ok := fact_ok hs hL hM
  obtain ⟨lo', tc⟩ := local_of hs.nd hp hL hM
  obtain ⟨ef, ew⟩ := mom_fst ok lo'
  have el := fst_len ef
  rw [ew]
  have up : (2 : Nat) ^ (113 + 2 * (k + 1)) = 4 * 2 ^ (113 + 2 * k) := by
    rw [show 113 + 2 * (k + 1) = (113 + 2 * k) + 2 by omega, Nat.pow_add]
    omega
  have up1 : (2 : Nat) ^ (114 + 2 * k) = 2 * 2 ^ (113 + 2 * k) := by
    rw [show 114 + 2 * k = (113 + 2 * k) + 1 by omega, Nat.pow_add]
    omega
  have b113 : (2 : Nat) ^ 113 ≤ 2 ^ (113 + 2 * k) := Nat.pow_le_pow_right (by decide) (by omega)
  -- what is at each seat
  have key : ∀ i, i < ss.length → Lowest (behF (fun j => (WS.gs ss j).2) f i).1 (behF (fun j => (WS.gs ss j).2) f i).2 ∧ OkV D (2 ^ (113 + 2 * (k + 1))) (behF (fun j => (WS.gs ss j).2) f i) := fun i hi => by
    obtain ⟨lw, ov⟩ := h.gs hi
    cases d with
    | ev zs ns =>
      obtain ⟨os, hO, rfl⟩ := hM
      obtain ⟨hT, ln, hn⟩ := hL
      have pp := places_perm hs.nd hT.2.2.1 hT.2.2.2
      have pl' := pp.length_eq
      rw [List.length_map] at pl'
      have z12 : zs.length ≤ 12 := by
        have := List.Nodup.length_le_of_subset hT.2.2.1 hT.2.2.2
        have := names_len ss
        have := h.l.2
        omega
      obtain ⟨ds, eds⟩ : ∃ ds, ds = byS ss os (down ns) := ⟨_, rfl⟩
      have dle : ∀ x ∈ ds.map Prod.snd, x.natAbs ≤ 2 ^ 110 := fun x hx => by
        rw [eds] at hx
        have hd := hn x ((down_perm ns).mem_iff.mp (byS_snd_in hx))
        have hb : W.natAbs < 2 ^ 110 := h.b
        omega
      have dl : ds.length ≤ 12 := by
        rw [eds]
        unfold byS
        rw [List.length_map, List.length_zip, hO.1.length_eq]
        omega
      have sa : (ds.map Prod.snd).sum.natAbs ≤ 2 ^ 114 := by
        have := sum_abs _ dle
        rw [List.length_map] at this
        have e : (2 : Nat) ^ 114 = 16 * 2 ^ 110 := by rw [show 114 = 4 + 110 by rfl, Nat.pow_add]
        have : ds.length * 2 ^ 110 ≤ 12 * 2 ^ 110 := Nat.mul_le_mul_right _ dl
        omega
      have p0 : 0 < (((placesOf ss zs).length : Nat) : Int) := by have := hT.1; omega
      have osh : OkV D (2 ^ 114) (WS.lo (ds.map Prod.snd).sum ((placesOf ss zs).length : Nat)) := okV_of h.d0 p0 (h.dv _ (by have := hT.1; omega) (by omega)) sa
      have e114 : (2 : Nat) ^ 114 = 2 * 2 ^ 113 := by rw [show 114 = 1 + 113 by rfl, Nat.pow_add]
      have e113 : (2 : Nat) ^ 113 = 8 * 2 ^ 110 := by rw [show 113 = 3 + 110 by rfl, Nat.pow_add]
      have base : ∀ q : Int × Int, (q = pl (WS.gs ss i).2 (WS.lo (ds.map Prod.snd).sum ((placesOf ss zs).length : Nat)) ∨ q = (WS.gs ss i).2) → Lowest q.1 q.2 ∧ OkV D (2 ^ (113 + 2 * k) + 2 ^ 114) q := fun q hq => by
        rcases hq with rfl | rfl
        · exact ⟨pl_lowest ov.1 osh.1, ov.pl h.d0 osh⟩
        · exact ⟨lw, ov.mono (by omega)⟩
      have q0 : (if i ∈ placesOf ss zs then pl (WS.gs ss i).2 (WS.lo (ds.map Prod.snd).sum ((placesOf ss zs).length : Nat)) else (WS.gs ss i).2) = pl (WS.gs ss i).2 (WS.lo (ds.map Prod.snd).sum ((placesOf ss zs).length : Nat)) ∨ (if i ∈ placesOf ss zs then pl (WS.gs ss i).2 (WS.lo (ds.map Prod.snd).sum ((placesOf ss zs).length : Nat)) else (WS.gs ss i).2) = (WS.gs ss i).2 := by
        by_cases c : i ∈ placesOf ss zs
        · exact .inl (if_pos c)
        · exact .inr (if_neg c)
      obtain ⟨b1, b2⟩ := base _ q0
      rw [← eds]
      show Lowest (match ds.lookup i with | some d => mi _ (WS.lo d 1) | none => _).1 (match ds.lookup i with | some d => mi _ (WS.lo d 1) | none => _).2 ∧ OkV D _ (match ds.lookup i with | some d => mi _ (WS.lo d 1) | none => _)
      cases e : ds.lookup i with
      | none => exact ⟨b1, b2.mono (by omega)⟩
      | some x =>
        have hx : x ∈ ds.map Prod.snd := by
          have := lookup_in e
          exact List.mem_map.mpr ⟨_, this, rfl⟩
        have o1 : OkV D (2 ^ 110) (WS.lo x 1) := okV_of h.d0 (by decide) (Int.one_dvd D) (dle x hx)
        exact ⟨mi_low b2.1 o1.1, (b2.mi h.d0 o1).mono (by omega)⟩
    | gift y z g =>
      obtain rfl := hM
      obtain ⟨hy, hz, lg, _, _, _⟩ := hL
      have og := hg y z g rfl
      obtain ⟨la, oa⟩ := h.gs (idx_lt hy)
      obtain ⟨lb, ob⟩ := h.gs (idx_lt hz)
      show Lowest (if i = idx ss z then pl (WS.gs ss (idx ss z)).2 g else if i = idx ss y then mi (WS.gs ss (idx ss y)).2 g else (WS.gs ss i).2).1 (if i = idx ss z then pl (WS.gs ss (idx ss z)).2 g else if i = idx ss y then mi (WS.gs ss (idx ss y)).2 g else (WS.gs ss i).2).2 ∧ OkV D _ (if i = idx ss z then pl (WS.gs ss (idx ss z)).2 g else if i = idx ss y then mi (WS.gs ss (idx ss y)).2 g else (WS.gs ss i).2)
      by_cases c1 : i = idx ss z
      · rw [if_pos c1]
        exact ⟨pl_lowest ob.1 og.1, (ob.pl h.d0 og).mono (by omega)⟩
      · rw [if_neg c1]
        by_cases c2 : i = idx ss y
        · rw [if_pos c2]
          exact ⟨mi_low oa.1 og.1, (oa.mi h.d0 og).mono (by omega)⟩
        · rw [if_neg c2]
          exact ⟨lw, ov.mono (by omega)⟩
    | _ => exact hp.elim
  have all : ∀ s ∈ (f.mom W ss).2, ∃ i, i < ss.length ∧ s = ((WS.gs ss i).1, behF (fun j => (WS.gs ss j).2) f i) := fun s hs' => by
    obtain ⟨i, hi, e⟩ := List.mem_iff_getElem.mp hs'
    refine ⟨i, by omega, ?_⟩
    rw [← mom_gs ok lo' (by omega)]
    exact (gs_at (by rw [List.getElem?_eq_getElem hi, e])).symm
  refine ⟨by rw [el]; exact h.l, h.w, h.b, by rw [fst_nms ef]; exact h.nd, fun s hs' => ?_, fun s hs' => ?_, fun s hs' => ?_, h.d0, h.db, h.dv⟩
  · obtain ⟨i, hi, rfl⟩ := all s hs'
    exact h.nm (WS.gs ss i) (gs_mem hi)
  · obtain ⟨i, hi, rfl⟩ := all s hs'
    exact (key i hi).1
  · obtain ⟨i, hi, rfl⟩ := all s hs'
    exact (key i hi).2
/-! promises -/
end WS
set_option Elab.async false
set_option linter.all false
set_option maxRecDepth 100000
set_option maxHeartbeats 4000000
namespace WS
open PySem PySem.Spec PyProof.Rows L2
/-! ### two clubs side by side (k84) -/
structure Pair84 (C : Addr) (K : PySem.W.Frag) (TT : List (Addr × Str)) (G H : Hp) (p c o fl ml ol om : Addr) (W0 : Int) (fs fs2 : List Fact) (ms ms2 : List Mom) : Prop where
  pot : PotAt H p
  tabs : LamX.Tabs TT H
  c1 : ClubAt C K H c fl ml W0 fs ms
  c2 : ClubAt C K H o ol om W0 fs2 ms2
  dis : ∀ b ∈ [c, fl, ml], b ∉ [o, ol, om]
  np : p ∉ [c, fl, ml] ∧ p ∉ [o, ol, om]
  new : ∀ b ∈ [c, fl, ml], New G b
  new2 : ∀ b ∈ [o, ol, om], New G b
  ext : ExtX p G H
section
variable {C : Addr} {K : PySem.W.Frag} {TT : List (Addr × Str)} {G H H' : Hp} {p c o fl ml ol om : Addr} {W0 : Int} {fs fs2 : List Fact} {ms ms2 : List Mom}
theorem Pair84.x (t : Pair84 C K TT G H p c o fl ml ol om W0 fs fs2 ms ms2) (s : SameX p H H') (px : PotAt H' p) : Pair84 C K TT G H' p c o fl ml ol om W0 fs fs2 ms ms2 :=
  ⟨px, Tabs.x t.tabs s t.pot, t.c1.x s t.pot t.np.1, t.c2.x s t.pot t.np.2, t.dis, t.np, t.new, t.new2, t.ext.trans (ExtX.x s)⟩
theorem Pair84.s (t : Pair84 C K TT G H p c o fl ml ol om W0 fs fs2 ms ms2) (s : Same H H') : Pair84 C K TT G H' p c o fl ml ol om W0 fs fs2 ms ms2 := t.x (Same.x s) (t.pot.same s)
theorem Pair84.en (t : Pair84 C K TT G H p c o fl ml ol om W0 fs fs2 ms ms2) (s : LamX.ExtN H H') (t' : LamX.Tabs TT H') : Pair84 C K TT G H' p c o fl ml ol om W0 fs fs2 ms ms2 :=
  ⟨ExtN.pot s t.pot, t', t.c1.en s, t.c2.en s, t.dis, t.np, t.new, t.new2, t.ext.trans (ExtX.n s)⟩
theorem new_no {b : Addr} {v : HO} (n : New G b) (h : G b = some v) (t : ∀ ps, v ≠ .tbl ps) : False := by
  obtain ⟨ps, e⟩ := n v h
  exact t ps e
theorem ext_new {S : List Addr} (e : ExtX p G H) (x : ExtC S H H') (n : ∀ b ∈ S, New G b) : ExtX p G H' := fun b v nb h nt => x b v (fun hb => new_no (n b hb) h nt) (e b v nb h nt) nt
/-- a change of a list -/
theorem Pair84.l {D : Addr} {xs ys : List V} (t : Pair84 C K TT G H p c o fl ml ol om W0 fs fs2 ms ms2) (hD : H D = some (.lst xs)) (nD : New G D) (n1 : D ∉ [c, fl, ml]) (n2 : D ∉ [o, ol, om]) (np : D ≠ p) : Pair84 C K TT G (upd H D (.lst ys)) p c o fl ml ol om W0 fs fs2 ms ms2 := by
  have ex : ExtC [D] H (upd H D (.lst ys)) := ExtC.upd (by simp)
  have nt : ∀ b ∈ [D], NoTup H b := fun b hb => by rw [List.mem_singleton.mp hb]; exact NoTup.lst hD
  exact ⟨t.pot.upd np, Tabs.set t.tabs hD, t.c1.keep ex nt (fun b hb z => n1 (by rw [← List.mem_singleton.mp z]; exact hb)), t.c2.keep ex nt (fun b hb z => n2 (by rw [← List.mem_singleton.mp z]; exact hb)), t.dis, t.np, t.new, t.new2, ext_new t.ext ex fun b hb => by rw [List.mem_singleton.mp hb]; exact nD⟩
theorem Pair84.one {fs' : List Fact} {ms' : List Mom} (t : Pair84 C K TT G H p c o fl ml ol om W0 fs fs2 ms ms2) (x : ExtC [fl, ml] H H') (t' : LamX.Tabs TT H') (h : ClubAt C K H' c fl ml W0 fs' ms') : Pair84 C K TT G H' p c o fl ml ol om W0 fs' fs2 ms' ms2 :=
  ⟨x.pot (fun z => t.np.1 (List.mem_cons_of_mem _ z)) t.pot, t', h, t.c2.keep x (fun b hb => t.c1.nt b (List.mem_cons_of_mem _ hb)) (fun b hb z => t.dis b (List.mem_cons_of_mem _ z) hb), t.dis, t.np, t.new, t.new2, ext_new t.ext x fun b hb => t.new b (List.mem_cons_of_mem _ hb)⟩
theorem Pair84.two {fs' : List Fact} {ms' : List Mom} (t : Pair84 C K TT G H p c o fl ml ol om W0 fs fs2 ms ms2) (x : ExtC [ol, om] H H') (t' : LamX.Tabs TT H') (h : ClubAt C K H' o ol om W0 fs' ms') : Pair84 C K TT G H' p c o fl ml ol om W0 fs fs' ms ms' :=
  ⟨x.pot (fun z => t.np.2 (List.mem_cons_of_mem _ z)) t.pot, t', t.c1.keep x (fun b hb => t.c2.nt b (List.mem_cons_of_mem _ hb)) (fun b hb z => t.dis b hb (List.mem_cons_of_mem _ z)), h, t.dis, t.np, t.new, t.new2, ext_new t.ext x fun b hb => t.new2 b (List.mem_cons_of_mem _ hb)⟩
theorem new_of {b : Addr} (e : ExtX p G H) (hp : PotAt H p) (h : H b = none) : New G b := fun v z => Classical.byContradiction fun n => by
  have := e b v (hp.ne h) z fun ps e' => n ⟨ps, e'⟩
  rw [h] at this
  cases this
theorem Pair84.all {fs' : List Fact} {ms' : List Mom} {ol' om' : Addr} (t : Pair84 C K TT G H p c o fl ml ol om W0 fs fs2 ms ms2) (x : ExtC [o] H H') (t' : LamX.Tabs TT H') (n1 : H ol' = none) (n2 : H om' = none) (h : ClubAt C K H' o ol' om' W0 fs' ms') : Pair84 C K TT G H' p c o fl ml ol' om' W0 fs fs' ms ms' := by
  have hp : H p ≠ none := fun z => by
    obtain ⟨a, b, e, _⟩ := t.pot
    rw [z] at e
    cases e
  refine ⟨x.pot (fun z => t.np.2 (by simp at z; simp [z])) t.pot, t', t.c1.keep x (fun b hb => by rw [List.mem_singleton.mp hb]; exact t.c2.nt o (by simp)) (fun b hb z => t.dis b hb (by rw [List.mem_singleton.mp z]; simp)), h, fun b hb z => ?_, ⟨t.np.1, fun z => ?_⟩, t.new, fun b hb => ?_, ext_new t.ext x fun b hb => by rw [List.mem_singleton.mp hb]; exact t.new2 o (by simp)⟩
  · have ht := t.c1.there b hb
    simp only [List.mem_cons, List.not_mem_nil, or_false] at z
    rcases z with rfl | rfl | rfl
    · exact t.dis b hb (by simp)
    · exact ht n1
    · exact ht n2
  · simp only [List.mem_cons, List.not_mem_nil, or_false] at z
    rcases z with rfl | rfl | rfl
    · exact t.np.2 (by simp)
    · exact hp n1
    · exact hp n2
  · simp only [List.mem_cons, List.not_mem_nil, or_false] at hb
    rcases hb with rfl | rfl | rfl
    · exact t.new2 b (by simp)
    · exact new_of t.ext t.pot n1
    · exact new_of t.ext t.pot n2
end
theorem M84.okq {D : Int} {k : Nat} {W : Int} {ss : List Seat} (h : M84 D k W ss) (hk : k ≤ 12) : ∀ s ∈ ss, Okq 190 90 s.2 := fun s hs => by
  have o := h.okp hk s hs
  have v := h.ok s hs
  have le : s.2.2.natAbs ≤ D.natAbs := by
    have := Int.le_of_dvd h.d0 v.2.1
    have := v.1
    omega
  exact ⟨o.1, o.2.1.mono (by decide), (show Bt 40 s.2.2 from Nat.lt_of_le_of_lt le h.db).mono (by decide)⟩
theorem M84.sh {D : Int} {k : Nat} {W : Int} {ss : List Seat} (h : M84 D k W ss) (hk : k ≤ 12) : Sh 110000 5 (momD W ss) := mom_shV (h.b.mono (by decide)) (by have := h.l.2; omega) fun s hs => ⟨.inr (h.nm s hs), h.okq hk s hs⟩
end WS
set_option Elab.async false
set_option linter.all false
set_option maxRecDepth 100000
set_option maxHeartbeats 4000000
set_option Elab.async false
set_option linter.all false
set_option maxRecDepth 100000
set_option maxHeartbeats 4000000
namespace WS
open PySem PySem.Spec PyProof.Rows L2
/-! ### deeds of all sorts but offers, none refused -/
structure Sane2 (W : Int) (ss : List Seat) : Prop where
  l : ss.length ≤ 60
  w : 1 ≤ W
  b : Bt 900 W
  nd : (names ss).Nodup
  ok : ∀ s ∈ ss, Okp 900 s.2
  row : SaneRow (ss.map Prod.snd)
theorem Sane2.s {W : Int} {ss : List Seat} (h : Sane2 W ss) : Sane W ss := ⟨h.l, h.w, h.b, h.nd, h.ok⟩
def Lets2 (W : Int) (ss : List Seat) : Deed → Prop
  | .come z => Nm z ∧ z ∉ names ss
  | .leave z => z ∈ names ss
  | .weigh V => 1 ≤ V ∧ Bt 900 V ∧ WthF V ss.length (owF ss)
  | d => Lets W ss d
def FactOk2 (W : Int) (ss : List Seat) : Fact → Prop
  | .come _ i => i ≤ ss.length
  | .leave _ i => i < ss.length
  | .weigh _ => True
  | f => FactOk W ss f
theorem fact_ok2 {W : Int} {ss : List Seat} {d : Deed} {f : Fact} (hs : Sane2 W ss) (hL : Lets2 W ss d) (hM : Makes ss d f) : FactOk2 W ss f := by
  cases d with
  | ev zs ns =>
    have h := fact_ok (d := .ev zs ns) hs.s hL hM
    obtain ⟨os, hO, rfl⟩ := hM
    exact h
  | gift y z g =>
    have h := fact_ok (d := .gift y z g) hs.s hL hM
    obtain rfl := hM
    exact h
  | join W' tt =>
    have h := fact_ok (d := .join W' tt) hs.s hL hM
    obtain rfl := hM
    exact h
  | offer zs sd => exact (show False from hL).elim
  | come z => obtain rfl := hM; exact room_le ss
  | leave z => obtain rfl := hM; exact idx_lt hL
  | weigh V => obtain rfl := hM; trivial
theorem mom_len2 {W : Int} {ss : List Seat} {f : Fact} (hl : ss.length ≤ 60) (h : FactOk2 W ss f) : (f.mom W ss).2.length ≤ 90 ∧ (∀ is ds, f = .ev is ds → (f.mom W ss).2.length = ss.length) ∧ (∀ z i, f = .come z i ∨ f = .leave z i → i < (f.mom W ss).2.length) := by
  cases f with
  | ev is ds =>
    obtain ⟨a, b⟩ := mom_len hl (show FactOk W ss (.ev is ds) from h)
    exact ⟨a, b, fun z i e => by rcases e with e | e <;> cases e⟩
  | gift i j g =>
    obtain ⟨a, b⟩ := mom_len hl (show FactOk W ss (.gift i j g) from h)
    exact ⟨a, b, fun z i e => by rcases e with e | e <;> cases e⟩
  | join tt =>
    obtain ⟨a, b⟩ := mom_len hl (show FactOk W ss (.join tt) from h)
    exact ⟨a, b, fun z i e => by rcases e with e | e <;> cases e⟩
  | come z i =>
    have h : i ≤ ss.length := h
    have e : (Fact.mom W ss (.come z i)).2.length = if i < ss.length then ss.length else ss.length + 1 := put_len ss i z h
    refine ⟨by rw [e]; split <;> omega, (fun _ _ z => (by cases z)), fun z' i' e' => ?_⟩
    rcases e' with e' | e'
    · cases e'
      rw [e]
      split <;> omega
    · cases e'
  | leave z i =>
    have h : i < ss.length := h
    have e : (Fact.mom W ss (.leave z i)).2.length = if i < ss.length then ss.length else ss.length + 1 := put_len ss i "" (by omega)
    refine ⟨by rw [e]; split <;> omega, (fun _ _ z => (by cases z)), fun z' i' e' => ?_⟩
    rcases e' with e' | e'
    · cases e'
    · cases e'
      rw [e]
      split <;> omega
  | weigh V => exact ⟨by show ss.length ≤ 90; omega, (fun _ _ z => (by cases z)), fun z i e => by rcases e with e | e <;> cases e⟩
def AllLets2 (m : Mom) : List Deed → Prop
  | [] => True
  | d :: ds => Sane2 m.1 m.2 ∧ Lets2 m.1 m.2 d ∧ (∀ W tt, d ≠ .join W tt) ∧ ∀ f, Makes m.2 d f → AllLets2 (f.mom m.1 m.2) ds
theorem AllLets2.at {m : Mom} {ds : List Deed} {fs : List Fact} {ms : List Mom} {ts : List PyData} (h : RunOf m ds fs ms ts) : ∀ {d : Deed} {es : List Deed}, AllLets2 m (ds ++ d :: es) → Sane2 (lastM m ms).1 (lastM m ms).2 ∧ Lets2 (lastM m ms).1 (lastM m ms).2 d ∧ (∀ W tt, d ≠ .join W tt) := by
  induction h with
  | nil m => exact fun h => ⟨h.1, h.2.1, h.2.2.1⟩
  | @cons m d0 f0 ds fs ms ts h1 h2 ih =>
    intro d es h
    have e : lastM m (f0.mom m.1 m.2 :: ms) = lastM (f0.mom m.1 m.2) ms := by
      unfold lastM
      cases ms with
      | nil => rfl
      | cons a l => rfl
    rw [e]
    exact ih (h.2.2.2 _ h1)
/-! ### a history told again -/
def momsOf (m : Mom) : List Fact → List Mom
  | [] => []
  | f :: fs => f.mom m.1 m.2 :: momsOf (f.mom m.1 m.2) fs
def ChainOk (m : Mom) : List Fact → Prop
  | [] => True
  | f :: fs => FactOk2 m.1 m.2 f ∧ m.2.length ≤ 60 ∧ (∀ s ∈ m.2, Okp 1000 s.2) ∧ ((∃ tt, f = .join tt) → m.2 = []) ∧ ChainOk (f.mom m.1 m.2) fs
end WS
set_option Elab.async false
set_option linter.all false
set_option maxRecDepth 100000
set_option maxHeartbeats 4000000
set_option Elab.async false
set_option linter.all false
set_option maxRecDepth 100000
set_option maxHeartbeats 4000000
set_option Elab.async false
set_option linter.all false
set_option maxRecDepth 100000
set_option maxHeartbeats 4000000
set_option Elab.async false
set_option linter.all false
set_option maxRecDepth 100000
set_option maxHeartbeats 4000000
namespace WS
open PySem PySem.Spec PyProof.Rows L2
/-! ### the moment behind some facts -/
def endM (m : Mom) (fs : List Fact) : Mom := fs.foldl (fun m f => f.mom m.1 m.2) m
theorem endM_snoc (m : Mom) (fs : List Fact) (f : Fact) : endM m (fs ++ [f]) = f.mom (endM m fs).1 (endM m fs).2 := by
  unfold endM
  rw [List.foldl_append]
  rfl
theorem momsOf_snoc (f : Fact) : ∀ (fs : List Fact) (m : Mom), momsOf m (fs ++ [f]) = momsOf m fs ++ [f.mom (endM m fs).1 (endM m fs).2]
  | [], m => rfl
  | g :: fs, m => by
    show g.mom m.1 m.2 :: momsOf (g.mom m.1 m.2) (fs ++ [f]) = g.mom m.1 m.2 :: (momsOf (g.mom m.1 m.2) fs ++ [_])
    rw [momsOf_snoc f fs]
    rfl
theorem ChainOk.at {f : Fact} {bs : List Fact} : ∀ {as : List Fact} {m : Mom}, ChainOk m (as ++ f :: bs) → FactOk2 (endM m as).1 (endM m as).2 f ∧ (endM m as).2.length ≤ 60 ∧ (∀ s ∈ (endM m as).2, Okp 1000 s.2) ∧ ((∃ tt, f = .join tt) → (endM m as).2 = [])
  | [], m, h => ⟨h.1, h.2.1, h.2.2.1, h.2.2.2.1⟩
  | a :: as, m, h => ChainOk.at (as := as) (m := a.mom m.1 m.2) h.2.2.2.2
end WS
set_option Elab.async false
set_option linter.all false
set_option maxRecDepth 100000
set_option maxHeartbeats 4000000
set_option Elab.async false
set_option linter.all false
set_option maxRecDepth 100000
set_option maxHeartbeats 4000000
namespace WS
open PySem PySem.Spec PyProof.Rows L2
/-! ### moments of a club, evening by evening, gift by gift -/
theorem good_abs {W : Int} {ss : List Seat} {N : Nat} (hW : 1 ≤ W) (g : Good W ss) (hN : W * ((ss.length : Nat) : Int) ≤ 2 * (N : Int)) (hp : ∀ s ∈ ss, 0 < s.2.2) : ∀ s ∈ ss, s.2.1.natAbs ≤ N * s.2.2.natAbs := fun s hs => by
  have h0 := hp s hs
  obtain ⟨i, hi⟩ := List.getElem?_of_mem hs
  have il := (List.getElem?_eq_some_iff.mp hi).1
  have e := gs_at hi
  have n1 : (1 : Int) ≤ ss.length := by omega
  have u1 := g.w [i] (by simp) (fun j hj => by rw [List.mem_singleton.mp hj]; exact il)
  have fp := filter_perm List.nodup_range (List.mem_range.mpr il)
  have u2 := g.w ((List.range ss.length).filter fun k => !decide (k = i)) (List.nodup_range.filter _) (fun j hj => List.mem_range.mp (List.mem_filter.mp hj).1)
  have ln := fp.length_eq
  rw [List.length_cons, List.length_range] at ln
  have sm := sumF_perm (f := owF ss) fp
  rw [g.z] at sm
  have s1 : sumF (owF ss) [i] = owF ss i := by
    unfold sumF
    simp [Rat.add_zero]
  have s2 : sumF (owF ss) (i :: (List.range ss.length).filter fun k => !decide (k = i)) = owF ss i + sumF (owF ss) ((List.range ss.length).filter fun k => !decide (k = i)) := by
    unfold sumF
    rw [List.map_cons, List.sum_cons]
  rw [s1] at u1
  rw [s2] at sm
  unfold mostR at u1 u2
  have el : ((((List.range ss.length).filter fun k => !decide (k = i)).length : Nat) : Int) = ((ss.length : Nat) : Int) - 1 := by omega
  rw [el, cast_sub] at u2
  have o1 : ((1 : Int) : Rat) = 1 := rfl
  have o2 : ((([i] : List Nat).length : Nat) : Int) = 1 := rfl
  rw [o2] at u1
  rw [o1] at u1 u2
  rw [owF_rat, e] at u1 sm
  have hb := cast_pos h0
  have hbn := cast_ne h0
  have hWn : (0 : Rat) ≤ (W : Rat) := cast_nn (by omega)
  have k1 : (s.2.1 : Rat) * 2 ≤ (W : Rat) * ((((ss.length : Nat) : Int) : Rat) - 1) * s.2.2 := by
    have : (s.2.1 : Rat) / s.2.2 * s.2.2 = s.2.1 := by grind
    have := Rat.mul_le_mul_of_nonneg_right u1 (Rat.le_of_lt hb)
    grind
  have k2 : -(s.2.1 : Rat) * 2 ≤ (W : Rat) * ((((ss.length : Nat) : Int) : Rat) - 1) * s.2.2 := by
    have : (s.2.1 : Rat) / s.2.2 * s.2.2 = s.2.1 := by grind
    have h3 : -((s.2.1 : Rat) / s.2.2) ≤ (W : Rat) * ((((ss.length : Nat) : Int) : Rat) - 1) * 1 / 2 := by grind
    have := Rat.mul_le_mul_of_nonneg_right h3 (Rat.le_of_lt hb)
    grind
  have i1 : s.2.1 * 2 ≤ W * (((ss.length : Nat) : Int) - 1) * s.2.2 := by
    refine cast_le.mp ?_
    rw [cast_mul, cast_mul, cast_mul, cast_sub]
    exact k1
  have i2 : (0 - s.2.1) * 2 ≤ W * (((ss.length : Nat) : Int) - 1) * s.2.2 := by
    refine cast_le.mp ?_
    rw [cast_mul, cast_mul, cast_mul, cast_sub, cast_sub]
    have : ((0 : Int) : Rat) = 0 := rfl
    rw [this]
    have e2 : ((2 : Int) : Rat) = 2 := rfl
    rw [e2, o1]
    grind
  have k0 : W * (((ss.length : Nat) : Int) - 1) * s.2.2 ≤ 2 * (N : Int) * s.2.2 := by
    refine Int.mul_le_mul_of_nonneg_right ?_ (by omega)
    have : W * (((ss.length : Nat) : Int) - 1) = W * ((ss.length : Nat) : Int) - W := by rw [Int.mul_sub, Int.mul_one]
    omega
  have k9 : (2 * (N : Int) * s.2.2) = 2 * ((N : Int) * s.2.2) := Int.mul_assoc _ _ _
  have ek : ((N * s.2.2.natAbs : Nat) : Int) = (N : Int) * s.2.2 := by
    rw [Int.natCast_mul, Int.natAbs_of_nonneg (by omega)]
  have : (s.2.1.natAbs : Int) ≤ (N : Int) * s.2.2 := by omega
  omega
structure M79 (D : Int) (j : Nat) (W : Int) (ss : List Seat) : Prop where
  l : ss.length ≤ 11
  w : 1 ≤ W
  b : W ≤ 2 ^ 110 + 5 * j
  nd : (names ss).Nodup
  nm : ∀ s ∈ ss, Nm0 s.1
  low : ∀ s ∈ ss, Lowest s.2.1 s.2.2 ∧ 0 < s.2.2 ∧ s.2.2 ∣ D
  g : Good W ss
  d0 : 0 < D
  db : Bt 100 D
  dv : ∀ m : Nat, 1 ≤ m → m ≤ 60 → ((m : Nat) : Int) ∣ D
section
variable {D : Int} {j : Nat} {W : Int} {ss : List Seat}
theorem M79.bw (h : M79 D j W ss) (hj : j ≤ 100) : W < 2 ^ 111 := by
  have := h.b
  have e : (2 : Int) ^ 111 = 2 * 2 ^ 110 := by decide +kernel
  have : (1000 : Int) < 2 ^ 110 := by decide +kernel
  omega
theorem M79.bt (h : M79 D j W ss) (hj : j ≤ 100) : Bt 111 W := Bt.of_lt (by have := h.w; omega) (h.bw hj)
theorem M79.okv (h : M79 D j W ss) (hj : j ≤ 100) : ∀ s ∈ ss, OkV D (2 ^ 115) s.2 := fun s hs => by
  obtain ⟨_, p, dv⟩ := h.low s hs
  refine ⟨p, dv, good_abs h.w h.g ?_ (fun s hs => (h.low s hs).2.1) s hs⟩
  have b := h.bw hj
  have w := h.w
  have l : ((ss.length : Nat) : Int) ≤ 11 := by have := h.l; omega
  have : W * ((ss.length : Nat) : Int) ≤ W * 11 := Int.mul_le_mul_of_nonneg_left l (by omega)
  have e : ((2 ^ 115 : Nat) : Int) = 16 * 2 ^ 111 := by decide +kernel
  rw [e]
  omega
theorem M79.okp (h : M79 D j W ss) (hj : j ≤ 100) : ∀ s ∈ ss, Okp 220 s.2 := fun s hs => (h.okv hj s hs).okp h.d0 h.db (n := 116) (Nat.pow_lt_pow_right (by decide) (by omega)) (by decide)
theorem M79.sane (h : M79 D j W ss) (hj : j ≤ 100) : Sane W ss := ⟨by have := h.l; omega, h.w, (h.bt hj).mono (by decide), h.nd, fun s hs => (h.okp hj s hs).mono (by decide)⟩
theorem M79.row (h : M79 D j W ss) (hj : j ≤ 100) : SaneRow (ss.map Prod.snd) := by
  have l := h.l
  refine SaneRow.of (D := D) (N := 2 ^ 115) (d := 100) (n := 120) (by rw [List.length_map]; omega) h.d0 h.db (fun q hq => ?_) ?_ (by decide) (by decide)
  · obtain ⟨s, hs, rfl⟩ := List.mem_map.mp hq
    exact h.okv hj s hs
  · rw [List.length_map]
    have : ss.length * 2 ^ 115 ≤ 11 * 2 ^ 115 := Nat.mul_le_mul_right _ l
    have e : (2 : Nat) ^ 120 = 32 * 2 ^ 115 := by decide +kernel
    omega
theorem M79.sane2 (h : M79 D j W ss) (hj : j ≤ 100) : Sane2 W ss := ⟨by have := h.l; omega, h.w, (h.bt hj).mono (by decide), h.nd, fun s hs => (h.okp hj s hs).mono (by decide), h.row hj⟩
theorem M79.up {j' : Nat} (h : M79 D j W ss) (k : j ≤ j') : M79 D j' W ss := ⟨h.l, h.w, by have := h.b; omega, h.nd, h.nm, h.low, h.g, h.d0, h.db, h.dv⟩
theorem M79.at (h : M79 D j W ss) (i : Nat) : Lowest (gs ss i).2.1 (gs ss i).2.2 ∧ 0 < (gs ss i).2.2 ∧ (gs ss i).2.2 ∣ D := by
  by_cases c : i < ss.length
  · exact h.low _ (gs_mem c)
  · have : WS.gs ss i = (("", (0, 1)) : Seat) := by
      unfold WS.gs
      rw [List.getD_eq_getElem?_getD, List.getElem?_eq_none (by omega)]
      rfl
    rw [this]
    exact ⟨(nought23 D).1, by decide, Int.one_dvd D⟩
theorem M79.come {z : Str} (h : M79 D j W ss) (hz : Nm z) (hn : z ∉ names ss) (hr11 : room ss < 11) : M79 D j W (put ss (room ss) z) := by
  have hr := room_le ss
  have h12 := h.l
  refine ⟨?_, h.w, h.b, nd_come h.nd hz hn, fun s hs => ?_, fun s hs => ?_, ?_, h.d0, h.db, h.dv⟩
  · rw [put_len ss _ z hr]
    split <;> omega
  · rcases put_mem hs with hs | rfl
    · exact h.nm s hs
    · exact .inr hz
  · rcases put_mem hs with hs | rfl
    · exact h.low s hs
    · exact h.at _
  · by_cases c : room ss < ss.length
    · exact h.g.put c
    · have e : room ss = ss.length := by omega
      rw [e, put_end]
      exact good_zeros (by have := h.w; omega) h.g [z]
theorem M79.leave {i : Nat} (h : M79 D j W ss) (hi : i < ss.length) : M79 D j W (put ss i "") := by
  refine ⟨?_, h.w, h.b, nd_leave h.nd hi, fun s hs => ?_, fun s hs => ?_, h.g.put hi, h.d0, h.db, h.dv⟩
  · rw [put_len ss _ _ (by omega), if_pos hi]
    exact h.l
  · rcases put_mem hs with hs | rfl
    · exact h.nm s hs
    · exact .inl rfl
  · rcases put_mem hs with hs | rfl
    · exact h.low s hs
    · exact h.at _
theorem M79.weigh {V : Int} (h : M79 D j W ss) (h1 : W ≤ V) (h2 : V ≤ W + 5) : M79 D (j + 1) V ss := ⟨h.l, by have := h.w; omega, by have := h.b; omega, h.nd, h.nm, h.low, h.g.up h1, h.d0, h.db, h.dv⟩
theorem M79.plain {d : Deed} {f : Fact} (h : M79 D j W ss) (hj : j ≤ 100) (hp : Plain d) (hL : Lets W ss d) (hM : Makes ss d f) (hg : ∀ y z g, d = .gift y z g → y ≠ z ∧ 0 < g.2 ∧ g.2 ∣ D ∧ ∃ N, OkV D N g) : M79 D j (f.mom W ss).1 (f.mom W ss).2 := by
  have hs := h.sane hj
  have ok := fact_ok hs hL hM
  obtain ⟨lo', tc⟩ := local_of hs.nd hp hL hM
  obtain ⟨ef, ew⟩ := mom_fst ok lo'
  have el := fst_len ef
  have pos : ∀ s ∈ ss, 0 < s.2.2 := fun s hs => (h.low s hs).2.1
  rw [ew]
  -- what is at each seat
  have key : ∀ i, i < ss.length → Lowest (behF (fun j => (WS.gs ss j).2) f i).1 (behF (fun j => (WS.gs ss j).2) f i).2 ∧ ∃ N, OkV D N (behF (fun j => (WS.gs ss j).2) f i) := fun i hi => by
    have lw := (h.at i).1
    have ov := h.okv hj _ (gs_mem hi)
    cases d with
    | ev zs ns =>
      obtain ⟨os, hO, rfl⟩ := hM
      obtain ⟨hT, ln, hn⟩ := hL
      have pp := places_perm hs.nd hT.2.2.1 hT.2.2.2
      have pl' := pp.length_eq
      rw [List.length_map] at pl'
      have z12 : zs.length ≤ 12 := by
        have := List.Nodup.length_le_of_subset hT.2.2.1 hT.2.2.2
        have := names_len ss
        have := h.l
        omega
      obtain ⟨ds, eds⟩ : ∃ ds, ds = byS ss os (down ns) := ⟨_, rfl⟩
      have p0 : 0 < (((placesOf ss zs).length : Nat) : Int) := by have := hT.1; omega
      have osh : OkV D ((ds.map Prod.snd).sum.natAbs) (WS.lo (ds.map Prod.snd).sum ((placesOf ss zs).length : Nat)) := okV_of h.d0 p0 (h.dv _ (by have := hT.1; omega) (by omega)) (Nat.le_refl _)
      have q0 : Lowest (if i ∈ placesOf ss zs then pl (WS.gs ss i).2 (WS.lo (ds.map Prod.snd).sum ((placesOf ss zs).length : Nat)) else (WS.gs ss i).2).1 (if i ∈ placesOf ss zs then pl (WS.gs ss i).2 (WS.lo (ds.map Prod.snd).sum ((placesOf ss zs).length : Nat)) else (WS.gs ss i).2).2 ∧ ∃ N, OkV D N (if i ∈ placesOf ss zs then pl (WS.gs ss i).2 (WS.lo (ds.map Prod.snd).sum ((placesOf ss zs).length : Nat)) else (WS.gs ss i).2) := by
        by_cases c : i ∈ placesOf ss zs
        · rw [if_pos c]
          exact ⟨pl_lowest ov.1 osh.1, _, ov.pl h.d0 osh⟩
        · rw [if_neg c]
          exact ⟨lw, _, ov⟩
      obtain ⟨b1, N, b2⟩ := q0
      rw [← eds]
      show Lowest (match ds.lookup i with | some d => mi _ (WS.lo d 1) | none => _).1 (match ds.lookup i with | some d => mi _ (WS.lo d 1) | none => _).2 ∧ ∃ N, OkV D N (match ds.lookup i with | some d => mi _ (WS.lo d 1) | none => _)
      cases e : ds.lookup i with
      | none => exact ⟨b1, N, b2⟩
      | some x =>
        have o1 : OkV D x.natAbs (WS.lo x 1) := okV_of h.d0 (by decide) (Int.one_dvd D) (Nat.le_refl _)
        exact ⟨mi_low b2.1 o1.1, _, b2.mi h.d0 o1⟩
    | gift y z g =>
      obtain rfl := hM
      obtain ⟨hy, hz, lg, _, _, _⟩ := hL
      obtain ⟨_, _, _, N, og⟩ := hg y z g rfl
      have la := (h.at (idx ss y)).1
      have oa := h.okv hj _ (gs_mem (idx_lt hy))
      have lb := (h.at (idx ss z)).1
      have ob := h.okv hj _ (gs_mem (idx_lt hz))
      show Lowest (if i = idx ss z then pl (WS.gs ss (idx ss z)).2 g else if i = idx ss y then mi (WS.gs ss (idx ss y)).2 g else (WS.gs ss i).2).1 (if i = idx ss z then pl (WS.gs ss (idx ss z)).2 g else if i = idx ss y then mi (WS.gs ss (idx ss y)).2 g else (WS.gs ss i).2).2 ∧ ∃ N, OkV D N (if i = idx ss z then pl (WS.gs ss (idx ss z)).2 g else if i = idx ss y then mi (WS.gs ss (idx ss y)).2 g else (WS.gs ss i).2)
      by_cases c1 : i = idx ss z
      · rw [if_pos c1]
        exact ⟨pl_lowest ob.1 og.1, _, ob.pl h.d0 og⟩
      · rw [if_neg c1]
        by_cases c2 : i = idx ss y
        · rw [if_pos c2]
          exact ⟨mi_low oa.1 og.1, _, oa.mi h.d0 og⟩
        · rw [if_neg c2]
          exact ⟨lw, _, ov⟩
    | _ => exact hp.elim
  have all : ∀ s ∈ (f.mom W ss).2, ∃ i, i < ss.length ∧ s = ((WS.gs ss i).1, behF (fun j => (WS.gs ss j).2) f i) := fun s hs' => by
    obtain ⟨i, hi, e⟩ := List.mem_iff_getElem.mp hs'
    refine ⟨i, by omega, ?_⟩
    rw [← mom_gs ok lo' (by omega)]
    exact (gs_at (by rw [List.getElem?_eq_getElem hi, e])).symm
  refine ⟨by rw [el]; exact h.l, h.w, h.b, by rw [fst_nms ef]; exact h.nd, fun s hs' => ?_, fun s hs' => ?_, ?_, h.d0, h.db, h.dv⟩
  · obtain ⟨i, hi, rfl⟩ := all s hs'
    exact h.nm (WS.gs ss i) (gs_mem hi)
  · obtain ⟨i, hi, rfl⟩ := all s hs'
    obtain ⟨k1, N, k2⟩ := key i hi
    exact ⟨k1, k2.1, k2.2.1⟩
  · cases d with
    | ev zs ns =>
      obtain ⟨os, hO, rfl⟩ := hM
      obtain ⟨hT, ln, hn⟩ := hL
      obtain ⟨po, wo, eos⟩ := order_O hT.2.2.2 hT.2.2.1 hs.nd hO
      have gB := good_behS (ns := ns) h.w h.g pos hT.1 hs.nd hT.2.2.2 po wo (by rw [eos]; exact hO.1) ln hn
      rw [eos] at gB
      unfold behS at gB
      rw [rowE_perm (places_perm hs.nd hT.2.2.1 hT.2.2.2)] at gB
      exact gB
    | gift y z g =>
      obtain rfl := hM
      obtain ⟨hy, hz, lg, g0, hle, _⟩ := hL
      obtain ⟨ne, gp, _, _⟩ := hg y z g rfl
      have hne : idx ss y ≠ idx ss z := fun e => by
        have a := gs_idx hy
        have b := gs_idx hz
        rw [e, b] at a
        exact ne a.symm
      refine good_gift h.g pos gp (idx_lt hy) (idx_lt hz) hne ?_ hle
      have : rv (0, 1) < rv g := (ltp_iff (p := (0, 1)) (q := g) (by decide) gp).mp (decide_eq_true (by show (0 : Int) * g.2 < g.1 * 1; omega))
      rw [rv_nought] at this
      exact Rat.le_of_lt this
    | _ => exact hp.elim
end
end WS
set_option Elab.async false
set_option linter.all false
set_option maxRecDepth 100000
set_option maxHeartbeats 4000000
namespace WS
open PySem PySem.Spec PyProof.Rows L2
/-! ### k79: promises of the law -/
/-- a deed as this law draws them -/
def Nice79 (D W : Int) (ss : List Seat) (d : Deed) : Prop := Lets2 W ss d ∧ match d with
  | .ev _ _ => True
  | .gift y z g => y ≠ z ∧ 0 < g.2 ∧ g.2 ∣ D ∧ ∃ N, OkV D N g
  | .come _ => room ss < 11
  | .leave _ => True
  | .weigh V => W ≤ V ∧ V ≤ W + 5
  | _ => False
theorem M79.step {D : Int} {j : Nat} {W : Int} {ss : List Seat} {d : Deed} {f : Fact} (h : M79 D j W ss) (hj : j ≤ 100) (n : Nice79 D W ss d) (hM : Makes ss d f) : M79 D (j + 1) (f.mom W ss).1 (f.mom W ss).2 := by
  obtain ⟨L, n⟩ := n
  cases d with
  | ev zs ns => exact (h.plain (d := .ev zs ns) hj trivial L hM (fun y z g e => by cases e)).up (by omega)
  | gift y z g =>
    refine (h.plain (d := .gift y z g) hj n.1 L hM (fun y' z' g' e => ?_)).up (by omega)
    cases e
    exact n
  | join W' tt => exact n.elim
  | offer zs sd => exact n.elim
  | come z =>
    obtain rfl := hM
    exact (h.come L.1 L.2 n).up (by omega)
  | leave z =>
    obtain rfl := hM
    exact (h.leave (idx_lt L)).up (by omega)
  | weigh V =>
    obtain rfl := hM
    exact h.weigh n.1 n.2
end WS
set_option Elab.async false
set_option linter.all false
set_option maxRecDepth 100000
set_option maxHeartbeats 4000000
namespace WS
open PySem PySem.Spec PyProof.Rows L2
/-! ### a club's whole history -/
/-- a fact that is told in few signs -/
def FSh (f : Fact) : Prop := Sh 40000 6 f.d ∧ ∀ z i, (f = .come z i ∨ f = .leave z i) → Nm0 z
/-- .. and, an evening, among two or more -/
def FS2 (m : Mom) (f : Fact) : Prop := FSh f ∧ ∀ is ds, f = .ev is ds → 2 ≤ (names m.2).length
def Hist (D : Int) : Mom → List Fact → Prop
  | m, [] => M79 D 100 m.1 m.2
  | m, f :: fs => M79 D 100 m.1 m.2 ∧ FactOk2 m.1 m.2 f ∧ ((∃ tt, f = .join tt) → m.2 = []) ∧ FS2 m f ∧ Hist D (f.mom m.1 m.2) fs
theorem Hist.hd {D : Int} {m : Mom} {fs : List Fact} (h : Hist D m fs) : M79 D 100 m.1 m.2 := by
  cases fs with
  | nil => exact h
  | cons f fs => exact h.1
theorem Hist.snoc {D : Int} {f : Fact} : ∀ {fs : List Fact} {m : Mom}, Hist D m fs → FactOk2 (endM m fs).1 (endM m fs).2 f → ((∃ tt, f = .join tt) → (endM m fs).2 = []) → FS2 (endM m fs) f → M79 D 100 (f.mom (endM m fs).1 (endM m fs).2).1 (f.mom (endM m fs).1 (endM m fs).2).2 → Hist D m (fs ++ [f])
  | [], m, h, h1, h2, h3, h4 => ⟨h, h1, h2, h3, h4⟩
  | g :: fs, m, h, h1, h2, h3, h4 => ⟨h.1, h.2.1, h.2.2.1, h.2.2.2.1, Hist.snoc (fs := fs) (m := g.mom m.1 m.2) h.2.2.2.2 h1 h2 h3 h4⟩
theorem Hist.two {D : Int} {is : List Nat} {ds : List (Nat × Int)} : ∀ {fs : List Fact} {m : Mom} {n : Nat}, Hist D m fs → fs[n]? = some (.ev is ds) → ∀ x, (m :: momsOf m fs)[n]? = some x → 2 ≤ (names x.2).length
  | [], m, n, h, e, _, _ => by cases e
  | g :: fs, m, 0, h, e, x, ex => by
    cases e
    cases ex
    exact h.2.2.2.1.2 _ _ rfl
  | g :: fs, m, n + 1, h, e, x, ex => Hist.two (fs := fs) h.2.2.2.2 e x ex
end WS
set_option Elab.async false
set_option linter.all false
set_option maxRecDepth 100000
set_option maxHeartbeats 4000000
namespace WS
open PySem PySem.Spec PyProof.Rows L2
/-! ### how a club is shown -/
theorem nat_sh79 {k : Nat} (h : k ≤ 1000) : Sh 11 1 (natD k) := Sh.int (m := 10) (by omega) (by omega) (Bt.of_lt (by omega) (by rw [show (2 : Int) ^ 10 = 1024 from by decide]; omega))
theorem nm_sh79 {z : Str} (h : Nm0 z) : Sh 388 1 (.str z) := (nm_sh h).mono (by omega) (by omega)
theorem MomsAt.dp {K : PySem.W.Frag} {H : Hp} {vs : List V} {ms : List Mom} (h : MomsAt K H vs ms) : DpAll K H vs (ms.map fun m : Mom => momD m.1 m.2) := by
  refine dpall_mk (by rw [List.length_map, h.1]) fun i v d hv hd => ?_
  rw [List.getElem?_map] at hd
  cases e : ms[i]? with
  | none => rw [e] at hd; cases hd
  | some m =>
    rw [e] at hd
    obtain rfl := Option.some.inj hd
    exact (h.2 i v m hv e).dp
theorem FactsAt.dp {K : PySem.W.Frag} {H : Hp} {vs : List V} {fs : List Fact} (h : FactsAt K H vs fs) : DpAll K H vs (fs.map Fact.d) := by
  refine dpall_mk (by rw [List.length_map, h.1]) fun i v d hv hd => ?_
  rw [List.getElem?_map] at hd
  cases e : fs[i]? with
  | none => rw [e] at hd; cases hd
  | some m =>
    rw [e] at hd
    obtain rfl := Option.some.inj hd
    exact (h.2 i v m hv e).1
/-- a club of this law -/
structure Cl79 (C : Addr) (K : PySem.W.Frag) (H : Hp) (c fl ml : Addr) (D W0 : Int) (j : Nat) (fs : List Fact) : Prop where
  c : ClubAt C K H c fl ml W0 fs ((W0, []) :: momsOf (W0, []) fs)
  h : Hist D (W0, []) fs
  e : M79 D j (endM (W0, []) fs).1 (endM (W0, []) fs).2
  w : 1 ≤ W0
  l : fs.length ≤ j + 1
theorem Cl79.sm {C : Addr} {K : PySem.W.Frag} {H H1 : Hp} {c fl ml : Addr} {D W0 : Int} {j : Nat} {fs : List Fact} (h : Cl79 C K H c fl ml D W0 j fs) (s : Same H H1) : Cl79 C K H1 c fl ml D W0 j fs := ⟨h.c.sm s, h.h, h.e, h.w, h.l⟩
theorem Cl79.ne {C : Addr} {K : PySem.W.Frag} {H : Hp} {c fl ml : Addr} {D W0 : Int} {j : Nat} {fs : List Fact} (h : Cl79 C K H c fl ml D W0 j fs) : c ≠ fl ∧ c ≠ ml := by
  obtain ⟨dx, hi⟩ := h.c.ins
  obtain ⟨xs, hF, _⟩ := h.c.fs
  obtain ⟨us, hM, _⟩ := h.c.ms
  exact ⟨fun z => (by rw [z, hF] at hi; cases hi), fun z => (by rw [z, hM] at hi; cases hi)⟩
theorem M79.nil {D : Int} {j : Nat} {W : Int} {ss : List Seat} (h : M79 D j W ss) : M79 D j W [] := ⟨by simp, h.w, h.b, by simp [names], fun s hs => (by cases hs), fun s hs => (by cases hs), good_nil, h.d0, h.db, h.dv⟩
theorem Cl79.new {C : Addr} {K : PySem.W.Frag} {H : Hp} {c fl ml : Addr} {D W : Int} {ss : List Seat} (m : M79 D 0 W ss) (h : ClubAt C K H c fl ml W [] [(W, [])]) : Cl79 C K H c fl ml D W 0 [] := ⟨h, (m.nil).up (by omega), m.nil, m.w, by simp⟩
end WS
set_option Elab.async false
set_option linter.all false
set_option maxRecDepth 100000
set_option maxHeartbeats 4000000
namespace WS
open PySem PySem.Spec PyProof.Rows L2
/-! ### a deed more -/
theorem word_sh79 {z : Str} (h : z.length ≤ 8 := by decide) (hc : (PyData.str z).shown.length ≤ 82 := by decide +kernel) : Sh 82 1 (.str z) := ⟨rfl, rfl, by simp [PyData.depth], hc⟩
theorem fact_sh79 {D : Int} {j : Nat} {W : Int} {ss : List Seat} {d : Deed} {f : Fact} (m : M79 D j W ss) (hj : j ≤ 100) (n : Nice79 D W ss d) (hM : Makes ss d f) : FSh f := by
  have hs := m.sane hj
  obtain ⟨L, n⟩ := n
  cases d with
  | join W' tt => exact n.elim
  | offer zs sd => exact n.elim
  | come z =>
    obtain rfl := hM
    have hz : Nm0 z := .inr L.1
    refine ⟨?_, fun z' i e => by rcases e with e | e <;> cases e; exact hz⟩
    refine (Sh.tup (n := 388) (k := 1) (m := 3) (ds := [.str "come", .str z, natD (room ss)]) (fun d hd => ?_) (Nat.le_refl _)).mono (by omega) (by omega)
    simp only [List.mem_cons, List.not_mem_nil, or_false] at hd
    rcases hd with rfl | rfl | rfl
    · exact (word_sh79 (z := "come")).mono (by omega) (by omega)
    · exact nm_sh79 hz
    · exact (nat_sh79 (by have := room_le ss; have := m.l; omega)).mono (by omega) (by omega)
  | leave z =>
    obtain rfl := hM
    have hz : Nm0 z := by
      have := m.nm _ (gs_mem (idx_lt (show z ∈ names ss from L)))
      rwa [gs_idx (show z ∈ names ss from L)] at this
    refine ⟨?_, fun z' i e => by rcases e with e | e <;> cases e; exact hz⟩
    refine (Sh.tup (n := 388) (k := 1) (m := 3) (ds := [.str "leave", .str z, natD (idx ss z)]) (fun d hd => ?_) (Nat.le_refl _)).mono (by omega) (by omega)
    simp only [List.mem_cons, List.not_mem_nil, or_false] at hd
    rcases hd with rfl | rfl | rfl
    · exact (word_sh79 (z := "leave")).mono (by omega) (by omega)
    · exact nm_sh79 hz
    · exact (nat_sh79 (by have := idx_lt (show z ∈ names ss from L); have := m.l; omega)).mono (by omega) (by omega)
  | weigh V =>
    obtain rfl := hM
    refine ⟨?_, fun z' i e => by rcases e with e | e <;> cases e⟩
    refine (Sh.tup (n := 901) (k := 1) (m := 2) (ds := [.str "weigh", .int V]) (fun d hd => ?_) (Nat.le_refl _)).mono (by omega) (by omega)
    simp only [List.mem_cons, List.not_mem_nil, or_false] at hd
    rcases hd with rfl | rfl
    · exact (word_sh79 (z := "weigh")).mono (by omega) (by omega)
    · exact Sh.int (by omega) (by omega) L.2.1
  | gift y z g =>
    obtain rfl := hM
    obtain ⟨hy, hz, _, _, _, og⟩ := (show Lets W ss (.gift y z g) from L)
    refine ⟨?_, fun z' i e => by rcases e with e | e <;> cases e⟩
    refine (Sh.tup (n := 2008) (k := 2) (m := 4) (ds := [.str "gift", natD (idx ss y), natD (idx ss z), pdP g]) (fun d hd => ?_) (Nat.le_refl _)).mono (by omega) (by omega)
    have l := m.l
    simp only [List.mem_cons, List.not_mem_nil, or_false] at hd
    rcases hd with rfl | rfl | rfl | rfl
    · exact (word_sh79 (z := "gift")).mono (by omega) (by omega)
    · exact (nat_sh79 (by have := idx_lt hy; omega)).mono (by omega) (by omega)
    · exact (nat_sh79 (by have := idx_lt hz; omega)).mono (by omega) (by omega)
    · exact (Sh.pd (m := 1000) (by omega) (by omega) og.2.1 og.2.2).mono (by omega) (by omega)
  | ev zs ns =>
    have L : Lets W ss (.ev zs ns) := L
    have ok := fact_ok hs L hM
    obtain ⟨os, hO, rfl⟩ := hM
    obtain ⟨hT, ln, hn⟩ := L
    obtain ⟨ds, eds⟩ : ∃ ds, ds = byS ss os (down ns) := ⟨_, rfl⟩
    rw [← eds] at ok ⊢
    obtain ⟨o1, o2, o3, o4, o5, o6, o7⟩ := ok
    have l := m.l
    refine ⟨?_, fun z' i e => by rcases e with e | e <;> cases e⟩
    have h1 : Sh 1500 2 (.tuple ((placesOf ss zs).map natD)) := by
      refine (Sh.tup (n := 11) (k := 1) (m := 100) (fun d hd => ?_) (by rw [List.length_map]; exact o3)).mono (by omega) (by omega)
      obtain ⟨i, hi, rfl⟩ := List.mem_map.mp hd
      exact nat_sh79 (by have := o4 i hi; omega)
    have b111 : ∀ x ∈ ds, Bt 111 x.2 := fun x hx => by
      have hx2 : x.2 ∈ ds.map Prod.snd := List.mem_map_of_mem hx
      rw [eds] at hx2
      have := hn x.2 ((down_perm ns).mem_iff.mp (byS_snd_in hx2))
      exact Bt.of_lt (by omega) (Int.lt_of_le_of_lt this.2 (m.bw hj))
    have dl : ds.length ≤ 11 := by
      have := o5.length_le_of_subset (l₂ := List.range 11) (fun i hi => by
        obtain ⟨x, hx, rfl⟩ := List.mem_map.mp hi
        exact List.mem_range.mpr (by have := (o6 x hx).1; omega))
      rwa [List.length_map, List.length_range] at this
    have h2 : Sh 2600 3 (.tuple (ds.map dutD)) := by
      refine (Sh.tup (n := 230) (k := 2) (m := 11) (fun d hd => ?_) (by rw [List.length_map]; exact dl)).mono (by omega) (by omega)
      obtain ⟨x, hx, rfl⟩ := List.mem_map.mp hd
      refine (Sh.tup (n := 112) (k := 1) (m := 2) (ds := [natD x.1, .int x.2]) (fun d hd => ?_) (Nat.le_refl _)).mono (by omega) (by omega)
      simp only [List.mem_cons, List.not_mem_nil, or_false] at hd
      rcases hd with rfl | rfl
      · exact (nat_sh79 (by have := (o6 x hx).1; omega)).mono (by omega) (by omega)
      · exact Sh.int (by omega) (by omega) (b111 x hx)
    refine (Sh.tup (n := 2600) (k := 3) (m := 3) (ds := [.str "evening", .tuple ((placesOf ss zs).map natD), .tuple (ds.map dutD)]) (fun d hd => ?_) (Nat.le_refl _)).mono (by omega) (by omega)
    simp only [List.mem_cons, List.not_mem_nil, or_false] at hd
    rcases hd with rfl | rfl | rfl
    · exact (word_sh79 (z := "evening")).mono (by omega) (by omega)
    · exact h1.mono (by omega) (by omega)
    · exact h2
theorem Hist.step {D W0 : Int} {j : Nat} {fs : List Fact} {d : Deed} {f : Fact} (h : Hist D (W0, []) fs) (e : M79 D j (endM (W0, []) fs).1 (endM (W0, []) fs).2) (hj : j ≤ 90) (n : Nice79 D (endM (W0, []) fs).1 (endM (W0, []) fs).2 d) (hM : Makes (endM (W0, []) fs).2 d f) : Hist D (W0, []) (fs ++ [f]) ∧ M79 D (j + 1) (endM (W0, []) (fs ++ [f])).1 (endM (W0, []) (fs ++ [f])).2 := by
  have m2 := e.step (by omega) n hM
  refine ⟨Hist.snoc h (fact_ok2 (e.sane2 (by omega)) n.1 hM) (fun ⟨tt, z⟩ => ?_) ⟨fact_sh79 e (by omega) n hM, fun is ds z => ?_⟩ (m2.up (by omega)), by rw [endM_snoc]; exact m2⟩
  rotate_left
  · subst z
    cases d with
    | ev zs ns =>
      have hT := (show Lets _ _ (.ev zs ns) from n.1).1
      exact Nat.le_trans hT.1 (hT.2.2.1.length_le_of_subset hT.2.2.2)
    | join W' tt => exact n.2.elim
    | offer zs sd => exact n.2.elim
    | gift y z g => cases hM
    | come z => cases hM
    | leave z => cases hM
    | weigh V => cases hM
  subst z
  cases d with
  | join W' tt => exact n.2.elim
  | offer zs sd => exact n.2.elim
  | ev zs ns => obtain ⟨os, _, z⟩ := hM; cases z
  | gift y z g => cases hM
  | come z => cases hM
  | leave z => cases hM
  | weigh V => cases hM
theorem Cl79.step {C : Addr} {K : PySem.W.Frag} {H H' : Hp} {c fl ml : Addr} {D W0 : Int} {j : Nat} {fs : List Fact} {d : Deed} {f : Fact} (h : Cl79 C K H c fl ml D W0 j fs) (hj : j ≤ 90) (n : Nice79 D (endM (W0, []) fs).1 (endM (W0, []) fs).2 d) (hM : Makes (endM (W0, []) fs).2 d f)
    (hC : ClubAt C K H' c fl ml W0 (fs ++ [f]) (((W0, []) :: momsOf (W0, []) fs) ++ [f.mom (endM (W0, []) fs).1 (endM (W0, []) fs).2])) : Cl79 C K H' c fl ml D W0 (j + 1) (fs ++ [f]) := by
  obtain ⟨a, b⟩ := Hist.step h.h h.e hj n hM
  refine ⟨?_, a, b, h.w, by have := h.l; simp; omega⟩
  rw [momsOf_snoc]
  exact hC
end WS
set_option Elab.async false
set_option linter.all false
set_option maxRecDepth 100000
set_option maxHeartbeats 4000000
set_option Elab.async false
set_option linter.all false
set_option maxRecDepth 100000
set_option maxHeartbeats 4000000
set_option Elab.async false
set_option linter.all false
set_option maxRecDepth 100000
set_option maxHeartbeats 4000000
namespace WS
open PySem PySem.Spec PyProof.Rows L2
/-! ### several deeds in a row -/
inductive NRun (D : Int) : Mom → List Deed → List Fact → List PyData → Prop
  | nil (m : Mom) : NRun D m [] [] []
  | cons {m : Mom} {d : Deed} {f : Fact} {ds : List Deed} {fs : List Fact} {ts : List PyData} : M79 D 90 m.1 m.2 → Nice79 D m.1 m.2 d → Makes m.2 d f → NRun D (f.mom m.1 m.2) ds fs ts → NRun D m (d :: ds) (f :: fs) (told (f.mom m.1 m.2).2 d f :: ts)
theorem NRun.one {D : Int} {m : Mom} {ds : List Deed} {fs : List Fact} {ts : List PyData} (h : NRun D m ds fs ts) : ∀ {fs' : List Fact} {ms' : List Mom} {ts' : List PyData}, RunOf m ds fs' ms' ts' → fs' = fs ∧ ms' = momsOf m fs ∧ ts' = ts := by
  induction h with
  | nil m => intro fs' ms' ts' r; cases r; exact ⟨rfl, rfl, rfl⟩
  | @cons m d f ds fs ts h1 h2 h3 h4 ih =>
    intro fs' ms' ts' r
    cases r with
    | cons a b =>
      obtain rfl := makes_one a h3
      obtain ⟨e1, e2, e3⟩ := ih b
      exact ⟨by rw [e1], by rw [e2]; rfl, by rw [e3]⟩
theorem NRun.len {D : Int} {m : Mom} {ds : List Deed} {fs : List Fact} {ts : List PyData} (h : NRun D m ds fs ts) : ds.length = fs.length ∧ ts.length = fs.length := by
  induction h with
  | nil m => exact ⟨rfl, rfl⟩
  | cons _ _ _ _ ih => exact ⟨by simp [ih.1], by simp [ih.2]⟩
theorem none_sh : Sh 4 1 PyData.none := ⟨rfl, rfl, by decide, by decide⟩
theorem told_sh79 {D : Int} {W : Int} {ss : List Seat} {d : Deed} {f : Fact} (m : M79 D 100 W ss) (n : Nice79 D W ss d) (hM : Makes ss d f) (m2 : M79 D 100 (f.mom W ss).1 (f.mom W ss).2) : Sh 40000 5 (told (f.mom W ss).2 d f) := by
  have ok := fact_ok2 (m.sane2 (by decide)) n.1 hM
  obtain ⟨_, _, lt⟩ := mom_len2 (by have := m.l; omega) ok
  obtain ⟨L, n⟩ := n
  have pt : ∀ i, i < (f.mom W ss).2.length → Sh 448 2 (pdP (gs (f.mom W ss).2 i).2) := fun i hi => by
    have o := m2.okp (by decide) _ (gs_mem hi)
    exact (Sh.pd (m := 220) (by omega) (by omega) o.2.1 o.2.2).mono (by omega) (by omega)
  cases d with
  | join W' tt => exact n.elim
  | offer zs sd => exact n.elim
  | gift y z g =>
    obtain rfl := hM
    exact none_sh.mono (by omega) (by omega)
  | weigh V =>
    obtain rfl := hM
    exact none_sh.mono (by omega) (by omega)
  | leave z =>
    obtain rfl := hM
    exact (pt _ (lt z _ (.inr rfl))).mono (by omega) (by omega)
  | come z =>
    obtain rfl := hM
    refine (Sh.tup (n := 448) (k := 2) (m := 2) (ds := [natD (room ss), pdP (gs (Fact.mom W ss (.come z (room ss))).2 (room ss)).2]) (fun d hd => ?_) (Nat.le_refl _)).mono (by omega) (by omega)
    simp only [List.mem_cons, List.not_mem_nil, or_false] at hd
    rcases hd with rfl | rfl
    · exact (nat_sh79 (by have := room_le ss; have := m.l; omega)).mono (by omega) (by omega)
    · exact pt _ (lt z _ (.inl rfl))
  | ev zs ns =>
    have L : Lets W ss (.ev zs ns) := L
    obtain ⟨os, hO, rfl⟩ := hM
    obtain ⟨hT, ln, hn⟩ := L
    show Sh 40000 5 (.tuple _)
    refine (Sh.tup (n := 345) (k := 2) (m := 100) (fun e he => ?_) ?_).mono (by decide) (by decide)
    · obtain ⟨x, hx, rfl⟩ := List.mem_map.mp he
      have hd := hn _ ((down_perm ns).mem_iff.mp (byS_mem hx).2)
      have bx : Bt 111 x.2 := (m.bt (by decide)).of_le (by omega)
      have nmx : Nm0 (gs (Fact.mom W ss (.ev (placesOf ss zs) (byS ss os (down ns)))).2 x.1).1 := by
        by_cases c : x.1 < (Fact.mom W ss (.ev (placesOf ss zs) (byS ss os (down ns)))).2.length
        · exact m2.nm _ (gs_mem c)
        · refine .inl ?_
          unfold gs
          rw [List.getD_eq_getElem?_getD, List.getElem?_eq_none (by omega)]
          rfl
      refine (Sh.tup (n := 168) (k := 1) (m := 2) (ds := [.str _, .int x.2]) (fun d hd => ?_) (Nat.le_refl 2)).mono (by decide) (by decide)
      simp only [List.mem_cons, List.not_mem_nil, or_false] at hd
      rcases hd with rfl | rfl
      · exact (nm_sh nmx).mono (by decide) (by decide)
      · exact (Sh.int (m := 111) (by decide) (by decide) bx).mono (by decide) (by decide)
    · unfold byS
      rw [List.length_map, List.length_map, List.length_zip, hO.1.length_eq]
      have := hT.2.1
      omega
theorem deed_sh79 {D : Int} {W : Int} {ss : List Seat} {d : Deed} (m : M79 D 100 W ss) (n : Nice79 D W ss d) : Sh 40000 5 d.d := by
  obtain ⟨L, n⟩ := n
  have nmn : ∀ z ∈ names ss, Nm0 z := fun z hz => by
    have := m.nm _ (gs_mem (idx_lt hz))
    rwa [gs_idx hz] at this
  cases d with
  | join W' tt => exact n.elim
  | offer zs sd => exact n.elim
  | gift y z g =>
    obtain ⟨hy, hz, _, _, _, og⟩ := (show Lets W ss (.gift y z g) from L)
    refine (Sh.tup (n := 2008) (k := 2) (m := 4) (ds := [.str "gift", .str y, .str z, pdP g]) (fun d hd => ?_) (Nat.le_refl _)).mono (by omega) (by omega)
    simp only [List.mem_cons, List.not_mem_nil, or_false] at hd
    rcases hd with rfl | rfl | rfl | rfl
    · exact (word_sh79 (z := "gift")).mono (by omega) (by omega)
    · exact (nm_sh79 (nmn y hy)).mono (by omega) (by omega)
    · exact (nm_sh79 (nmn z hz)).mono (by omega) (by omega)
    · exact (Sh.pd (m := 1000) (by omega) (by omega) og.2.1 og.2.2).mono (by omega) (by omega)
  | weigh V =>
    refine (Sh.tup (n := 901) (k := 1) (m := 2) (ds := [.str "weigh", .int V]) (fun d hd => ?_) (Nat.le_refl _)).mono (by omega) (by omega)
    simp only [List.mem_cons, List.not_mem_nil, or_false] at hd
    rcases hd with rfl | rfl
    · exact (word_sh79 (z := "weigh")).mono (by omega) (by omega)
    · exact Sh.int (by omega) (by omega) L.2.1
  | leave z =>
    refine (Sh.tup (n := 388) (k := 1) (m := 2) (ds := [.str "leave", .str z]) (fun d hd => ?_) (Nat.le_refl _)).mono (by omega) (by omega)
    simp only [List.mem_cons, List.not_mem_nil, or_false] at hd
    rcases hd with rfl | rfl
    · exact (word_sh79 (z := "leave")).mono (by omega) (by omega)
    · exact nm_sh79 (nmn z L)
  | come z =>
    refine (Sh.tup (n := 388) (k := 1) (m := 2) (ds := [.str "come", .str z]) (fun d hd => ?_) (Nat.le_refl _)).mono (by omega) (by omega)
    simp only [List.mem_cons, List.not_mem_nil, or_false] at hd
    rcases hd with rfl | rfl
    · exact (word_sh79 (z := "come")).mono (by omega) (by omega)
    · exact nm_sh79 (.inr L.1)
  | ev zs ns =>
    have L : Lets W ss (.ev zs ns) := L
    obtain ⟨hT, ln, hn⟩ := L
    have z11 : zs.length ≤ 11 := by
      have := List.Nodup.length_le_of_subset hT.2.2.1 hT.2.2.2
      have := names_len ss
      have := m.l
      omega
    have h1 : Sh 5000 2 (.tuple (zs.map PyData.str)) := by
      refine (Sh.tup (n := 388) (k := 1) (m := 11) (fun d hd => ?_) (by rw [List.length_map]; exact z11)).mono (by omega) (by omega)
      obtain ⟨z, hz, rfl⟩ := List.mem_map.mp hd
      exact nm_sh79 (nmn z (hT.2.2.2 z hz))
    have h2 : Sh 5000 2 (.tuple (ns.map PyData.int)) := by
      refine (Sh.tup (n := 112) (k := 1) (m := 11) (fun d hd => ?_) (by rw [List.length_map]; omega)).mono (by omega) (by omega)
      obtain ⟨z, hz, rfl⟩ := List.mem_map.mp hd
      exact Sh.int (by omega) (by omega) ((m.bt (by decide)).of_le (by have := hn z hz; omega))
    refine (Sh.tup (n := 5000) (k := 2) (m := 3) (ds := [.str "evening", .tuple (zs.map PyData.str), .tuple (ns.map PyData.int)]) (fun d hd => ?_) (Nat.le_refl _)).mono (by omega) (by omega)
    simp only [List.mem_cons, List.not_mem_nil, or_false] at hd
    rcases hd with rfl | rfl | rfl
    · exact (word_sh79 (z := "evening")).mono (by omega) (by omega)
    · exact h1
    · exact h2
theorem NRun.sh {D : Int} {m : Mom} {ds : List Deed} {fs : List Fact} {ts : List PyData} (h : NRun D m ds fs ts) : (∀ d ∈ ds, Sh 40000 5 d.d) ∧ ∀ t ∈ ts, Sh 40000 5 t := by
  induction h with
  | nil m => exact ⟨fun d h => (by cases h), fun t h => (by cases h)⟩
  | @cons m d f ds fs ts h1 h2 h3 h4 ih =>
    have m1 : M79 D 100 m.1 m.2 := h1.up (by omega)
    have m2 : M79 D 100 (f.mom m.1 m.2).1 (f.mom m.1 m.2).2 := (h1.step (by omega) h2 h3).up (by omega)
    refine ⟨fun d' hd => ?_, fun t ht => ?_⟩
    · rcases List.mem_cons.mp hd with rfl | hd
      · exact deed_sh79 m1 h2
      · exact ih.1 d' hd
    · rcases List.mem_cons.mp ht with rfl | ht
      · exact told_sh79 m1 h2 h3 m2
      · exact ih.2 t ht
theorem DeedsAt.dp {K : PySem.W.Frag} {H : Hp} {vs : List V} {ds : List Deed} (h : DeedsAt K H vs ds) : DpAll K H vs (ds.map Deed.d) := by
  refine dpall_mk (by rw [List.length_map, h.1]) fun i v d hv hd => ?_
  rw [List.getElem?_map] at hd
  cases e : ds[i]? with
  | none => rw [e] at hd; cases hd
  | some m =>
    rw [e] at hd
    obtain rfl := Option.some.inj hd
    exact (h.2 i v m hv e).1
end WS
set_option Elab.async false
set_option linter.all false
set_option maxRecDepth 100000
set_option maxHeartbeats 4000000
set_option Elab.async false
set_option linter.all false
set_option maxRecDepth 100000
set_option maxHeartbeats 4000000
namespace WS
open PySem PySem.Spec PyProof.Rows L2
/-! ### levelling: gaps, gift by gift -/
def fgF (ps : List (Int × Int)) (f i : Nat) : Nat := if ltp (gp ps f) (gp ps i) = true then i else f
def flF (ps : List (Int × Int)) (f i : Nat) : Nat := if ltp (gp ps i) (gp ps f) = true then i else f
def fgr (ps : List (Int × Int)) : Nat := (List.range ps.length).foldl (fgF ps) 0
def fls (ps : List (Int × Int)) : Nat := (List.range ps.length).foldl (flF ps) 0
theorem fgF_fold {ps : List (Int × Int)} (hp : ∀ q ∈ ps, 0 < q.2) (n : Nat) : ∀ (l : List Nat) (f : Nat), f < n → (∀ i ∈ l, i < n) → l.foldl (fgF ps) f < n ∧ rv (gp ps f) ≤ rv (gp ps (l.foldl (fgF ps) f)) ∧ ∀ i ∈ l, rv (gp ps i) ≤ rv (gp ps (l.foldl (fgF ps) f))
  | [], f, hf, _ => ⟨hf, Rat.le_refl, fun i hi => (List.not_mem_nil hi).elim⟩
  | i :: l, f, hf, hl => by
    have e : (i :: l).foldl (fgF ps) f = l.foldl (fgF ps) (fgF ps f i) := rfl
    rw [e]
    have step : fgF ps f i < n ∧ rv (gp ps f) ≤ rv (gp ps (fgF ps f i)) ∧ rv (gp ps i) ≤ rv (gp ps (fgF ps f i)) := by
      unfold fgF
      by_cases c : ltp (gp ps f) (gp ps i) = true
      · rw [if_pos c]
        exact ⟨hl i List.mem_cons_self, Rat.le_of_lt ((ltp_iff (gp_pos hp _) (gp_pos hp _)).mp c), Rat.le_refl⟩
      · rw [if_neg c]
        exact ⟨hf, Rat.le_refl, (ltp_no (gp_pos hp _) (gp_pos hp _)).mp (Bool.eq_false_iff.mpr c)⟩
    obtain ⟨a, b, d⟩ := fgF_fold hp n l _ step.1 fun j hj => hl j (List.mem_cons_of_mem _ hj)
    refine ⟨a, Rat.le_trans step.2.1 b, fun j hj => ?_⟩
    rcases List.mem_cons.mp hj with rfl | hj
    · exact Rat.le_trans step.2.2 b
    · exact d j hj
theorem flF_fold {ps : List (Int × Int)} (hp : ∀ q ∈ ps, 0 < q.2) (n : Nat) : ∀ (l : List Nat) (f : Nat), f < n → (∀ i ∈ l, i < n) → l.foldl (flF ps) f < n ∧ rv (gp ps (l.foldl (flF ps) f)) ≤ rv (gp ps f) ∧ ∀ i ∈ l, rv (gp ps (l.foldl (flF ps) f)) ≤ rv (gp ps i)
  | [], f, hf, _ => ⟨hf, Rat.le_refl, fun i hi => (List.not_mem_nil hi).elim⟩
  | i :: l, f, hf, hl => by
    have e : (i :: l).foldl (flF ps) f = l.foldl (flF ps) (flF ps f i) := rfl
    rw [e]
    have step : flF ps f i < n ∧ rv (gp ps (flF ps f i)) ≤ rv (gp ps f) ∧ rv (gp ps (flF ps f i)) ≤ rv (gp ps i) := by
      unfold flF
      by_cases c : ltp (gp ps i) (gp ps f) = true
      · rw [if_pos c]
        exact ⟨hl i List.mem_cons_self, Rat.le_of_lt ((ltp_iff (gp_pos hp _) (gp_pos hp _)).mp c), Rat.le_refl⟩
      · rw [if_neg c]
        exact ⟨hf, Rat.le_refl, (ltp_no (gp_pos hp _) (gp_pos hp _)).mp (Bool.eq_false_iff.mpr c)⟩
    obtain ⟨a, b, d⟩ := flF_fold hp n l _ step.1 fun j hj => hl j (List.mem_cons_of_mem _ hj)
    refine ⟨a, Rat.le_trans b step.2.1, fun j hj => ?_⟩
    rcases List.mem_cons.mp hj with rfl | hj
    · exact Rat.le_trans b step.2.2
    · exact d j hj
theorem fgr_ok {ps : List (Int × Int)} (hp : ∀ q ∈ ps, 0 < q.2) (h0 : 0 < ps.length) : fgr ps < ps.length ∧ ∀ j, j < ps.length → rv (gp ps j) ≤ rv (gp ps (fgr ps)) := by
  obtain ⟨a, _, b⟩ := fgF_fold hp ps.length (List.range ps.length) 0 h0 fun i hi => List.mem_range.mp hi
  exact ⟨a, fun j hj => b j (List.mem_range.mpr hj)⟩
theorem fls_ok {ps : List (Int × Int)} (hp : ∀ q ∈ ps, 0 < q.2) (h0 : 0 < ps.length) : fls ps < ps.length ∧ ∀ j, j < ps.length → rv (gp ps (fls ps)) ≤ rv (gp ps j) := by
  obtain ⟨a, _, b⟩ := flF_fold hp ps.length (List.range ps.length) 0 h0 fun i hi => List.mem_range.mp hi
  exact ⟨a, fun j hj => b j (List.mem_range.mpr hj)⟩
/-- the folds along the row -/
theorem fgr_take {ps : List (Int × Int)} (i : Nat) : (List.range (i + 1)).foldl (fgF ps) 0 = fgF ps ((List.range i).foldl (fgF ps) 0) i := by
  rw [List.range_succ, List.foldl_append]
  rfl
theorem fls_take {ps : List (Int × Int)} (i : Nat) : (List.range (i + 1)).foldl (flF ps) 0 = flF ps ((List.range i).foldl (flF ps) 0) i := by
  rw [List.range_succ, List.foldl_append]
  rfl
theorem fgr_lt {ps : List (Int × Int)} (hp : ∀ q ∈ ps, 0 < q.2) {i : Nat} (hi : i ≤ ps.length) (h0 : 0 < ps.length) : (List.range i).foldl (fgF ps) 0 < ps.length :=
  (fgF_fold hp ps.length (List.range i) 0 h0 fun j hj => by have := List.mem_range.mp hj; omega).1
theorem fls_lt {ps : List (Int × Int)} (hp : ∀ q ∈ ps, 0 < q.2) {i : Nat} (hi : i ≤ ps.length) (h0 : 0 < ps.length) : (List.range i).foldl (flF ps) 0 < ps.length :=
  (flF_fold hp ps.length (List.range i) 0 h0 fun j hj => by have := List.mem_range.mp hj; omega).1
def amt (ps : List (Int × Int)) : Int × Int := if ltp (gp ps (fgr ps)) (ng (gp ps (fls ps))) = true then gp ps (fgr ps) else ng (gp ps (fls ps))
def stepG (ps : List (Int × Int)) : List (Int × Int) := giftR ps (fgr ps) (fls ps) (amt ps)
def allN (ps : List (Int × Int)) : Bool := ps.all fun q => decide (q = (0, 1))
def nzL (ps : List (Int × Int)) : List Nat := (List.range ps.length).filter fun k => !decide (gp ps k = (0, 1))
structure Gap (D : Int) (N : Nat) (ps : List (Int × Int)) : Prop where
  low : ∀ q ∈ ps, Lowest q.1 q.2
  ok : ∀ q ∈ ps, OkV D N q
  z : (ps.map rv).sum = 0
  d0 : 0 < D
theorem sum_nonpos : ∀ l : List Rat, (∀ x ∈ l, x ≤ 0) → l.sum ≤ 0 ∧ (l.sum = 0 → ∀ x ∈ l, x = 0)
  | [], _ => ⟨Rat.le_refl, fun _ x hx => (List.not_mem_nil hx).elim⟩
  | y :: l, h => by
    have hy := h y List.mem_cons_self
    obtain ⟨a, b⟩ := sum_nonpos l fun x hx => h x (List.mem_cons_of_mem _ hx)
    rw [List.sum_cons]
    refine ⟨by grind, fun e x hx => ?_⟩
    have y0 : y = 0 := by grind
    have l0 : l.sum = 0 := by grind
    rcases List.mem_cons.mp hx with rfl | hx
    · exact y0
    · exact b l0 x hx
theorem sum_nonneg0 (l : List Rat) (h : ∀ x ∈ l, 0 ≤ x) : l.sum = 0 → ∀ x ∈ l, x = 0 := by
  induction l with
  | nil => intro _ x hx; exact (List.not_mem_nil hx).elim
  | cons y l ih =>
    have hy := h y List.mem_cons_self
    have hl : 0 ≤ l.sum := by
      clear ih
      induction l with
      | nil => exact Rat.le_refl
      | cons z l ih2 =>
        rw [List.sum_cons]
        have := h z (by simp)
        have := ih2 fun x hx => h x (by rcases List.mem_cons.mp hx with rfl | hx <;> simp [*])
        grind
    rw [List.sum_cons]
    intro e x hx
    have y0 : y = 0 := by grind
    have l0 : l.sum = 0 := by grind
    rcases List.mem_cons.mp hx with rfl | hx
    · exact y0
    · exact ih (fun x hx => h x (List.mem_cons_of_mem _ hx)) l0 x hx
theorem low_zero {q : Int × Int} (h : Lowest q.1 q.2) (e : rv q = 0) : q = (0, 1) := rv_inj h (nought23 1).1 (by rw [e, rv_nought])
theorem gp_of_mem {ps : List (Int × Int)} {q : Int × Int} (h : q ∈ ps) : ∃ j, j < ps.length ∧ gp ps j = q := by
  obtain ⟨j, hj, e⟩ := List.mem_iff_getElem.mp h
  refine ⟨j, hj, ?_⟩
  unfold gp
  rw [List.getD_eq_getElem?_getD, List.getElem?_eq_getElem hj, e]
  rfl
theorem allN_false {ps : List (Int × Int)} (h : allN ps = false) : ∃ q ∈ ps, q ≠ (0, 1) := by
  unfold allN at h
  rw [List.all_eq_false] at h
  obtain ⟨q, hq, e⟩ := h
  exact ⟨q, hq, fun z => e (decide_eq_true z)⟩
theorem allN_true {ps : List (Int × Int)} (h : allN ps = true) : ∀ q ∈ ps, q = (0, 1) := fun q hq => of_decide_eq_true (List.all_eq_true.mp h q hq)
/-- what a step finds -/
structure StepOk (D : Int) (N : Nat) (ps : List (Int × Int)) : Prop where
  i : fgr ps < ps.length
  j : fls ps < ps.length
  ne : fgr ps ≠ fls ps
  low : Lowest (amt ps).1 (amt ps).2
  ok : OkV D N (amt ps)
  pos : 0 < rv (amt ps)
  le1 : rv (amt ps) ≤ rv (gp ps (fgr ps))
  le2 : rv (amt ps) ≤ - rv (gp ps (fls ps))
  one : rv (amt ps) = rv (gp ps (fgr ps)) ∨ rv (amt ps) = - rv (gp ps (fls ps))
theorem ng_low {q : Int × Int} (h : Lowest q.1 q.2) : Lowest (ng q).1 (ng q).2 := ⟨h.1, by show Int.gcd (0 - q.1) q.2 = 1; rw [show (0 - q.1) = -q.1 by omega, Int.neg_gcd]; exact h.2⟩
theorem ng_okv {D : Int} {N : Nat} {q : Int × Int} (h : OkV D N q) : OkV D N (ng q) := ⟨h.1, h.2.1, by show (0 - q.1).natAbs ≤ N * q.2.natAbs; rw [show (0 - q.1) = -q.1 by omega, Int.natAbs_neg]; exact h.2.2⟩
theorem Gap.pos {D : Int} {N : Nat} {ps : List (Int × Int)} (h : Gap D N ps) : ∀ q ∈ ps, 0 < q.2 := fun q hq => (h.low q hq).1
theorem Gap.step {D : Int} {N : Nat} {ps : List (Int × Int)} (h : Gap D N ps) (na : allN ps = false) : StepOk D N ps := by
  obtain ⟨q, hq, nq⟩ := allN_false na
  obtain ⟨k, hk, ek⟩ := gp_of_mem hq
  have h0 : 0 < ps.length := by omega
  obtain ⟨hi, mi⟩ := fgr_ok h.pos h0
  obtain ⟨hj, mj⟩ := fls_ok h.pos h0
  have nzq : rv q ≠ 0 := fun e => nq (low_zero (h.low q hq) e)
  have p1 : 0 < rv (gp ps (fgr ps)) := by
    by_cases c : 0 < rv (gp ps (fgr ps))
    · exact c
    · have c := Rat.not_lt.mp c
      have := (sum_nonpos (ps.map rv) fun x hx => by
        obtain ⟨y, hy, rfl⟩ := List.mem_map.mp hx
        obtain ⟨j, hj, rfl⟩ := gp_of_mem hy
        exact Rat.le_trans (mi j hj) c).2 h.z (rv q) (List.mem_map_of_mem hq)
      exact absurd this nzq
  have p2 : rv (gp ps (fls ps)) < 0 := by
    by_cases c : rv (gp ps (fls ps)) < 0
    · exact c
    · have c := Rat.not_lt.mp c
      have := sum_nonneg0 (ps.map rv) (fun x hx => by
        obtain ⟨y, hy, rfl⟩ := List.mem_map.mp hx
        obtain ⟨j, hj, rfl⟩ := gp_of_mem hy
        exact Rat.le_trans c (mj j hj)) h.z (rv q) (List.mem_map_of_mem hq)
      exact absurd this nzq
  have ne : fgr ps ≠ fls ps := fun e => by
    rw [e] at p1
    exact absurd p1 (Rat.not_lt.mpr (Rat.le_of_lt p2))
  have li := h.low _ (gp_mem hi)
  have lj := h.low _ (gp_mem hj)
  have en := rv_ng (gp ps (fls ps))
  by_cases c : ltp (gp ps (fgr ps)) (ng (gp ps (fls ps))) = true
  · have ea : amt ps = gp ps (fgr ps) := if_pos c
    have lt := (ltp_iff li.1 (ng_low lj).1).mp c
    exact ⟨hi, hj, ne, by rw [ea]; exact li, by rw [ea]; exact h.ok _ (gp_mem hi), by rw [ea]; exact p1, by rw [ea]; exact Rat.le_refl, by rw [ea, ← en]; exact Rat.le_of_lt lt, .inl (by rw [ea])⟩
  · have ea : amt ps = ng (gp ps (fls ps)) := if_neg c
    have le := (ltp_no li.1 (ng_low lj).1).mp (Bool.eq_false_iff.mpr c)
    exact ⟨hi, hj, ne, by rw [ea]; exact ng_low lj, by rw [ea]; exact ng_okv (h.ok _ (gp_mem hj)), by rw [ea, en]; grind, by rw [ea]; exact le, by rw [ea, en]; exact Rat.le_refl, .inr (by rw [ea, en])⟩
theorem stepG_len (ps : List (Int × Int)) : (stepG ps).length = ps.length := giftR_len _ _ _ _
theorem StepOk.at {D : Int} {N : Nat} {ps : List (Int × Int)} (s : StepOk D N ps) (k : Nat) : gp (stepG ps) k = if k = fls ps then pl (gp ps (fls ps)) (amt ps) else if k = fgr ps then mi (gp ps (fgr ps)) (amt ps) else gp ps k := giftR_at s.i s.j s.ne
theorem abs_of_rv {N : Nat} {p : Int × Int} (h0 : 0 < p.2) (h : Rat.abs (rv p) ≤ ((N : Nat) : Int)) : p.1.natAbs ≤ N * p.2.natAbs := by
  have hb := cast_pos h0
  have e : rv p * (p.2 : Rat) = (p.1 : Rat) := by
    unfold rv
    have := cast_ne h0
    grind
  have l1 : rv p ≤ ((N : Nat) : Int) := by unfold Rat.abs at h; split at h <;> grind
  have l2 : -(((N : Nat) : Int) : Rat) ≤ rv p := by unfold Rat.abs at h; split at h <;> grind
  have m1 := Rat.mul_le_mul_of_nonneg_right l1 (Rat.le_of_lt hb)
  have m2 := Rat.mul_le_mul_of_nonneg_right l2 (Rat.le_of_lt hb)
  rw [e] at m1 m2
  have i1 : p.1 ≤ (N : Int) * p.2 := cast_le.mp (by rw [cast_mul]; exact m1)
  have i2 : 0 - (N : Int) * p.2 ≤ p.1 := cast_le.mp (by
    rw [cast_sub, cast_mul]
    have : ((0 : Int) : Rat) = 0 := rfl
    rw [this]
    grind)
  have ek : ((N * p.2.natAbs : Nat) : Int) = (N : Int) * p.2 := by
    rw [Int.natCast_mul, Int.natAbs_of_nonneg (by omega)]
  omega
theorem rv_bdN {N : Nat} {p : Int × Int} (h0 : 0 < p.2) (h : p.1.natAbs ≤ N * p.2.natAbs) : rv p ≤ ((N : Nat) : Int) ∧ -(((N : Nat) : Int) : Rat) ≤ rv p := by
  have hb := cast_pos h0
  have ek : ((N * p.2.natAbs : Nat) : Int) = (N : Int) * p.2 := by
    rw [Int.natCast_mul, Int.natAbs_of_nonneg (by omega)]
  have i1 : p.1 ≤ (N : Int) * p.2 := by omega
  have i2 : 0 - (N : Int) * p.2 ≤ p.1 := by omega
  have m1 : (p.1 : Rat) ≤ ((N : Nat) : Int) * (p.2 : Rat) := by rw [← cast_mul]; exact cast_le.mpr i1
  have m2 : -(((N : Nat) : Int) : Rat) * (p.2 : Rat) ≤ (p.1 : Rat) := by
    have := cast_le.mpr i2
    rw [cast_sub, cast_mul] at this
    have e0 : ((0 : Int) : Rat) = 0 := rfl
    rw [e0] at this
    grind
  unfold rv
  rw [Rat.div_def]
  have hi := Rat.inv_pos.mpr hb
  have hn := cast_ne h0
  have e : (p.2 : Rat) * (p.2 : Rat)⁻¹ = 1 := Rat.mul_inv_cancel _ hn
  constructor
  · have := Rat.mul_le_mul_of_nonneg_right m1 (Rat.le_of_lt hi)
    rw [Rat.mul_assoc, e, Rat.mul_one] at this
    exact this
  · have := Rat.mul_le_mul_of_nonneg_right m2 (Rat.le_of_lt hi)
    rw [Rat.mul_assoc, e, Rat.mul_one] at this
    exact this
theorem OkV.re {D : Int} {N M : Nat} {p : Int × Int} (h : OkV D N p) (l : rv p ≤ ((M : Nat) : Int)) (u : -(((M : Nat) : Int) : Rat) ≤ rv p) : OkV D M p := by
  refine ⟨h.1, h.2.1, abs_of_rv h.1 ?_⟩
  unfold Rat.abs
  split <;> grind
theorem Gap.next {D : Int} {N : Nat} {ps : List (Int × Int)} (h : Gap D N ps) (na : allN ps = false) : Gap D N (stepG ps) ∧ (nzL (stepG ps)).length + 1 ≤ (nzL ps).length ∧ 2 ≤ (nzL ps).length := by
  have s := h.step na
  have li := h.low _ (gp_mem s.i)
  have lj := h.low _ (gp_mem s.j)
  have oi := h.ok _ (gp_mem s.i)
  have oj := h.ok _ (gp_mem s.j)
  have lg := s.low
  have r1 : rv (pl (gp ps (fls ps)) (amt ps)) = rv (gp ps (fls ps)) + rv (amt ps) := rv_pl lj.1 lg.1
  have r2 : rv (mi (gp ps (fgr ps)) (amt ps)) = rv (gp ps (fgr ps)) - rv (amt ps) := rv_mi li.1 lg.1
  have b1 := rv_bdN oi.1 oi.2.2
  have b2 := rv_bdN oj.1 oj.2.2
  have g0 := s.pos
  have g1 := s.le1
  have g2 := s.le2
  have nn : (0 : Rat) ≤ ((N : Nat) : Int) := cast_nn (by omega)
  have all : ∀ k, k < ps.length → Lowest (gp (stepG ps) k).1 (gp (stepG ps) k).2 ∧ OkV D N (gp (stepG ps) k) ∧ rv (gp (stepG ps) k) = rv (gp ps k) + ((if k = fls ps then rv (amt ps) else 0) + if k = fgr ps then - rv (amt ps) else 0) := fun k hk => by
    rw [s.at k]
    by_cases c1 : k = fls ps
    · subst c1
      rw [if_pos rfl, if_pos rfl, if_neg (fun z => s.ne z.symm)]
      exact ⟨pl_lowest lj.1 lg.1, (oj.pl h.d0 s.ok).re (by rw [r1]; grind) (by rw [r1]; grind), by rw [r1]; grind⟩
    · rw [if_neg c1, if_neg c1]
      by_cases c2 : k = fgr ps
      · subst c2
        rw [if_pos rfl, if_pos rfl]
        exact ⟨mi_low li.1 lg.1, (oi.mi h.d0 s.ok).re (by rw [r2]; grind) (by rw [r2]; grind), by rw [r2]; grind⟩
      · rw [if_neg c2, if_neg c2]
        exact ⟨h.low _ (gp_mem hk), h.ok _ (gp_mem hk), by grind⟩
  have el := stepG_len ps
  have mem : ∀ q ∈ stepG ps, ∃ k, k < ps.length ∧ gp (stepG ps) k = q := fun q hq => by
    obtain ⟨k, hk, e⟩ := gp_of_mem hq
    exact ⟨k, by omega, e⟩
  refine ⟨⟨fun q hq => ?_, fun q hq => ?_, ?_, h.d0⟩, ?_, ?_⟩
  · obtain ⟨k, hk, rfl⟩ := mem q hq
    exact (all k hk).1
  · obtain ⟨k, hk, rfl⟩ := mem q hq
    exact (all k hk).2.1
  · have e1 : ∀ l : List (Int × Int), (l.map rv).sum = sumF (fun j => rv (gp l j)) (List.range l.length) := fun l => (sum_range_gp l).symm
    rw [e1, el, sumF_congr (g := fun k => rv (gp ps k) + ((if k = fls ps then rv (amt ps) else 0) + if k = fgr ps then - rv (amt ps) else 0)) fun k hk => (all k (List.mem_range.mp hk)).2.2]
    have a1 := sumF_add (fun k => rv (gp ps k)) (fun k => (if k = fls ps then rv (amt ps) else 0) + if k = fgr ps then - rv (amt ps) else 0) (List.range ps.length)
    have a2 := sumF_add (fun k => if k = fls ps then rv (amt ps) else 0) (fun k => if k = fgr ps then - rv (amt ps) else 0) (List.range ps.length)
    rw [a1, a2, sumF_ind _ _ _ List.nodup_range, sumF_ind _ _ _ List.nodup_range, if_pos (List.mem_range.mpr s.j), if_pos (List.mem_range.mpr s.i), ← e1, h.z]
    grind
  · -- one of both has come to nought
    have nd : (nzL (stepG ps)).Nodup := List.nodup_range.filter _
    obtain ⟨x, hx, ex⟩ : ∃ x, x ∈ nzL ps ∧ gp (stepG ps) x = (0, 1) := by
      rcases s.one with e | e
      · refine ⟨fgr ps, ?_, ?_⟩
        · refine List.mem_filter.mpr ⟨List.mem_range.mpr s.i, ?_⟩
          rw [Bool.not_eq_true', decide_eq_false_iff_not]
          intro z
          rw [← e] at *
          have : rv (gp ps (fgr ps)) = 0 := by rw [z, rv_nought]
          grind
        · have a := all _ s.i
          refine low_zero a.1 ?_
          rw [a.2.2, if_neg s.ne, if_pos rfl]
          grind
      · refine ⟨fls ps, ?_, ?_⟩
        · refine List.mem_filter.mpr ⟨List.mem_range.mpr s.j, ?_⟩
          rw [Bool.not_eq_true', decide_eq_false_iff_not]
          intro z
          have : rv (gp ps (fls ps)) = 0 := by rw [z, rv_nought]
          grind
        · have a := all _ s.j
          refine low_zero a.1 ?_
          rw [a.2.2, if_pos rfl, if_neg (fun z => s.ne z.symm)]
          grind
    have sub : nzL (stepG ps) ⊆ (nzL ps).erase x := fun k hk => by
      obtain ⟨h1, h2⟩ := List.mem_filter.mp hk
      rw [Bool.not_eq_true', decide_eq_false_iff_not] at h2
      have hk' := List.mem_range.mp h1
      rw [el] at hk'
      have kx : k ≠ x := fun z => h2 (by rw [z]; exact ex)
      refine (List.mem_erase_of_ne kx).mpr (List.mem_filter.mpr ⟨List.mem_range.mpr hk', ?_⟩)
      rw [Bool.not_eq_true', decide_eq_false_iff_not]
      intro z
      have zz : rv (gp ps k) = 0 := by rw [z, rv_nought]
      have c1 : k ≠ fls ps := fun e => by
        rw [e] at zz
        grind
      have c2 : k ≠ fgr ps := fun e => by
        rw [e] at zz
        grind
      have a := s.at k
      rw [if_neg c1, if_neg c2, z] at a
      exact h2 a
    have l1 := List.Nodup.length_le_of_subset nd sub
    rw [List.length_erase_of_mem hx] at l1
    have : 0 < (nzL ps).length := List.length_pos_of_mem hx
    omega
  · have n2 : ([fgr ps, fls ps] : List Nat).Nodup := by simp [s.ne]
    refine List.Nodup.length_le_of_subset n2 fun k hk => ?_
    simp only [List.mem_cons, List.not_mem_nil, or_false] at hk
    rcases hk with rfl | rfl
    · refine List.mem_filter.mpr ⟨List.mem_range.mpr s.i, ?_⟩
      rw [Bool.not_eq_true', decide_eq_false_iff_not]
      intro z
      have : rv (gp ps (fgr ps)) = 0 := by rw [z, rv_nought]
      grind
    · refine List.mem_filter.mpr ⟨List.mem_range.mpr s.j, ?_⟩
      rw [Bool.not_eq_true', decide_eq_false_iff_not]
      intro z
      have : rv (gp ps (fls ps)) = 0 := by rw [z, rv_nought]
      grind
theorem nz_none {ps : List (Int × Int)} (h : (nzL ps).length = 0) : allN ps = true := by
  refine List.all_eq_true.mpr fun q hq => ?_
  obtain ⟨k, hk, rfl⟩ := gp_of_mem hq
  by_cases c : gp ps k = (0, 1)
  · exact decide_eq_true c
  · have : k ∈ nzL ps := List.mem_filter.mpr ⟨List.mem_range.mpr hk, by rw [decide_eq_false c]; rfl⟩
    rw [List.eq_nil_of_length_eq_zero h] at this
    exact (List.not_mem_nil this).elim
theorem nz_le (ps : List (Int × Int)) : (nzL ps).length ≤ ps.length := by
  have := List.length_filter_le (fun k => !decide (gp ps k = (0, 1))) (List.range ps.length)
  rwa [List.length_range] at this
abbrev GiftT := Nat × Nat × (Int × Int)
def itG : Nat → List (Int × Int) → List (Int × Int)
  | 0, ps => ps
  | t + 1, ps => if allN (itG t ps) = true then itG t ps else stepG (itG t ps)
def giftAt (ps : List (Int × Int)) : GiftT := (fgr ps, fls ps, amt ps)
def gfG : Nat → List (Int × Int) → List GiftT
  | 0, _ => []
  | t + 1, ps => if allN (itG t ps) = true then gfG t ps else gfG t ps ++ [giftAt (itG t ps)]
theorem itG_gap {D : Int} {N : Nat} {ps : List (Int × Int)} (h : Gap D N ps) : ∀ t, Gap D N (itG t ps) ∧ (itG t ps).length = ps.length ∧ (nzL (itG t ps)).length ≤ (nzL ps).length - t ∧ (gfG t ps).length + ((nzL (itG t ps)).length - 1) ≤ (nzL ps).length - 1
  | 0 => ⟨h, rfl, Nat.le_refl _, by show 0 + ((nzL ps).length - 1) ≤ _; omega⟩
  | t + 1 => by
    obtain ⟨a, b, c, d⟩ := itG_gap h t
    by_cases e : allN (itG t ps) = true
    · have e1 : itG (t + 1) ps = itG t ps := if_pos e
      have e2 : gfG (t + 1) ps = gfG t ps := if_pos e
      have z : (nzL (itG t ps)).length = 0 := by
        have : nzL (itG t ps) = [] := List.filter_eq_nil_iff.mpr fun k hk => by
          have := allN_true e _ (gp_mem (List.mem_range.mp hk))
          rw [this]
          decide
        rw [this]
        rfl
      rw [e1, e2]
      exact ⟨a, b, by omega, d⟩
    · have e := Bool.eq_false_iff.mpr e
      have e1 : itG (t + 1) ps = stepG (itG t ps) := by show (if _ then _ else _) = _; rw [e]; rfl
      have e2 : gfG (t + 1) ps = gfG t ps ++ [giftAt (itG t ps)] := by show (if _ then _ else _) = _; rw [e]; rfl
      obtain ⟨n1, n2, n3⟩ := a.next e
      rw [e1, e2, stepG_len, List.length_append]
      refine ⟨n1, b, by omega, ?_⟩
      show _ + 1 + _ ≤ _
      omega
theorem itG_done {D : Int} {N : Nat} {ps : List (Int × Int)} (h : Gap D N ps) : allN (itG ps.length ps) = true := by
  obtain ⟨_, _, c, _⟩ := itG_gap h ps.length
  have := nz_le ps
  exact nz_none (by omega)
theorem itG_stay {ps : List (Int × Int)} {t : Nat} (e : allN (itG t ps) = true) : ∀ k, itG (t + k) ps = itG t ps ∧ gfG (t + k) ps = gfG t ps
  | 0 => ⟨rfl, rfl⟩
  | k + 1 => by
    obtain ⟨a, b⟩ := itG_stay e k
    have e1 : itG (t + k + 1) ps = itG (t + k) ps := if_pos (by rw [a]; exact e)
    have e2 : gfG (t + k + 1) ps = gfG (t + k) ps := if_pos (by rw [a]; exact e)
    exact ⟨e1.trans a, e2.trans b⟩
theorem gfG_same {ps : List (Int × Int)} {t u : Nat} (e : allN (itG t ps) = true) (f : allN (itG u ps) = true) : gfG t ps = gfG u ps ∧ itG t ps = itG u ps := by
  rcases Nat.le_total t u with h | h
  · obtain ⟨k, rfl⟩ := Nat.le.dest h
    have := itG_stay e k
    exact ⟨this.2.symm, this.1.symm⟩
  · obtain ⟨k, rfl⟩ := Nat.le.dest h
    have := itG_stay f k
    exact ⟨this.2, this.1⟩
/-- all gifts of a levelling -/
def giftsL (ps : List (Int × Int)) : List GiftT := gfG ps.length ps
theorem giftsL_of {D : Int} {N : Nat} {ps : List (Int × Int)} (h : Gap D N ps) {t : Nat} (e : allN (itG t ps) = true) : gfG t ps = giftsL ps := (gfG_same e (itG_done h)).1
theorem gfG_at (ps : List (Int × Int)) : ∀ t, itG t ps = itG (gfG t ps).length ps ∧ ∀ k, k < (gfG t ps).length → (gfG t ps)[k]? = some (giftAt (itG k ps)) ∧ allN (itG k ps) = false
  | 0 => ⟨rfl, fun k hk => absurd hk (Nat.not_lt_zero k)⟩
  | t + 1 => by
    obtain ⟨a, b⟩ := gfG_at ps t
    by_cases e : allN (itG t ps) = true
    · have e1 : itG (t + 1) ps = itG t ps := if_pos e
      have e2 : gfG (t + 1) ps = gfG t ps := if_pos e
      rw [e1, e2]
      exact ⟨a, b⟩
    · have e := Bool.eq_false_iff.mpr e
      have e1 : itG (t + 1) ps = stepG (itG t ps) := by show (if _ then _ else _) = _; rw [e]; rfl
      have e2 : gfG (t + 1) ps = gfG t ps ++ [giftAt (itG t ps)] := by show (if _ then _ else _) = _; rw [e]; rfl
      have el : (gfG (t + 1) ps).length = (gfG t ps).length + 1 := by rw [e2, List.length_append]; rfl
      have en : allN (itG (gfG t ps).length ps) = false := by rw [← a]; exact e
      refine ⟨?_, fun k hk => ?_⟩
      · rw [el, e1, a]
        show _ = if _ then _ else _
        rw [en]
        rfl
      · rw [el] at hk
        by_cases c : k < (gfG t ps).length
        · rw [e2, List.getElem?_append_left c]
          exact b k c
        · have : k = (gfG t ps).length := by omega
          subst this
          rw [e2, List.getElem?_append_right (Nat.le_refl _), Nat.sub_self, ← a]
          exact ⟨rfl, e⟩
theorem giftsL_len {D : Int} {N : Nat} {ps : List (Int × Int)} (h : Gap D N ps) : (giftsL ps).length ≤ ps.length - 1 := by
  obtain ⟨_, _, _, d⟩ := itG_gap h ps.length
  have := nz_le ps
  unfold giftsL
  omega
theorem giftsL_at {ps : List (Int × Int)} {k : Nat} (hk : k < (giftsL ps).length) : (giftsL ps)[k]? = some (giftAt (itG k ps)) ∧ allN (itG k ps) = false := (gfG_at ps ps.length).2 k hk
theorem giftsL_end {D : Int} {N : Nat} {ps : List (Int × Int)} (h : Gap D N ps) : allN (itG (giftsL ps).length ps) = true := by
  have := (gfG_at ps ps.length).1
  unfold giftsL
  rw [← this]
  exact itG_done h
theorem itG_succ {ps : List (Int × Int)} {k : Nat} (h : allN (itG k ps) = false) : itG (k + 1) ps = stepG (itG k ps) ∧ gfG (k + 1) ps = gfG k ps ++ [giftAt (itG k ps)] := by
  constructor
  · show (if _ then _ else _) = _
    rw [h]
    rfl
  · show (if _ then _ else _) = _
    rw [h]
    rfl
theorem giftsL_none {ps : List (Int × Int)} (h : allN ps = true) : giftsL ps = [] := by
  have := (itG_stay (t := 0) (ps := ps) h ps.length).2
  rw [Nat.zero_add] at this
  exact this
end WS
set_option Elab.async false
set_option linter.all false
set_option maxRecDepth 100000
set_option maxHeartbeats 4000000
namespace WS
open PySem PySem.Spec PyProof.Rows L2
/-! ### levelling: moments -/
def sitL (ss : List Seat) : List Seat := ss.filter fun s => !decide (s.1 = "")
theorem names_sit (ss : List Seat) : names ss = (sitL ss).map Prod.fst := by
  unfold names sitL
  rw [List.filter_map]
  rfl
theorem sit_mem {ss : List Seat} {s : Seat} (h : s ∈ sitL ss) : s ∈ ss ∧ s.1 ≠ "" := by
  obtain ⟨a, b⟩ := List.mem_filter.mp h
  exact ⟨a, by simpa using b⟩
/-- the seat of the k-th that sits -/
def plK (ss : List Seat) (k : Nat) : Nat := idx ss (gs (sitL ss) k).1
theorem plK_ok {ss : List Seat} (nd : (names ss).Nodup) {k : Nat} (hk : k < (sitL ss).length) : plK ss k < ss.length ∧ gs ss (plK ss k) = gs (sitL ss) k ∧ (gs (sitL ss) k).1 ≠ "" ∧ (gs (sitL ss) k).1 ∈ names ss := by
  obtain ⟨m, ne⟩ := sit_mem (gs_mem hk)
  have hn : (gs (sitL ss) k).1 ∈ names ss := names_mem.mpr ⟨ne, _, m, rfl⟩
  obtain ⟨i, hi⟩ := List.getElem?_of_mem m
  have il := (List.getElem?_eq_some_iff.mp hi).1
  have eg := gs_at hi
  have e := idx_gs nd il (by rw [eg]; exact ne)
  rw [eg] at e
  refine ⟨idx_lt hn, ?_, ne, hn⟩
  unfold plK
  rw [e, eg]
theorem plK_inj {ss : List Seat} (nd : (names ss).Nodup) {i j : Nat} (hi : i < (sitL ss).length) (hj : j < (sitL ss).length) (e : plK ss i = plK ss j) : i = j := by
  obtain ⟨_, a, _, _⟩ := plK_ok nd hi
  obtain ⟨_, b, _, _⟩ := plK_ok nd hj
  rw [e, b] at a
  have nd' := nd
  rw [names_sit] at nd'
  have h1 : ((sitL ss).map Prod.fst)[i]'(by rw [List.length_map]; exact hi) = (gs (sitL ss) i).1 := by
    rw [List.getElem_map]
    congr 1
    exact (gs_at (List.getElem?_eq_getElem hi)).symm
  have h2 : ((sitL ss).map Prod.fst)[j]'(by rw [List.length_map]; exact hj) = (gs (sitL ss) j).1 := by
    rw [List.getElem_map]
    congr 1
    exact (gs_at (List.getElem?_eq_getElem hj)).symm
  exact (List.getElem_inj nd').mp (by rw [h1, h2, a])
def sumS (ss : List Seat) : Int × Int := ((sitL ss).map Prod.snd).foldl pl (0, 1)
/-- what each owes on average -/
def avP (ss : List Seat) : Int × Int := lo (sumS ss).1 ((sumS ss).2 * ((max 1 (sitL ss).length : Nat) : Int))
def gap0 (ss : List Seat) : List (Int × Int) := (sitL ss).map fun s => mi s.2 (avP ss)
/-- moments that are levelled -/
structure LK (D : Int) (W : Int) (ss : List Seat) : Prop where
  k : K23 D 26 W ss
  b : Bt 30 D
  av : (avP ss).2 ∣ D
section
variable {D W : Int} {ss : List Seat}
theorem LK.okv (h : LK D W ss) : ∀ s ∈ ss, OkV D (2 ^ 114) s.2 := fun s hs => by
  obtain ⟨lw, _, dv⟩ := h.k.ok s hs
  refine ⟨lw.1, dv, good_abs h.k.w h.k.g ?_ (fun s hs => (h.k.ok s hs).1.1) s hs⟩
  have b : W < 2 ^ 110 := by
    have h1 : W.natAbs < 2 ^ 110 := h.k.b
    have w := h.k.w
    have e : (2 : Int) ^ 110 = ((2 ^ 110 : Nat) : Int) := by decide +kernel
    omega
  have w := h.k.w
  have l : ((ss.length : Nat) : Int) ≤ 26 := by have := h.k.l; omega
  have : W * ((ss.length : Nat) : Int) ≤ W * 26 := Int.mul_le_mul_of_nonneg_left l (by omega)
  have e : ((2 ^ 114 : Nat) : Int) = 16 * 2 ^ 110 := by decide +kernel
  rw [e]
  omega
theorem LK.sum (h : LK D W ss) : Lowest (sumS ss).1 (sumS ss).2 ∧ OkV D (26 * 2 ^ 114) (sumS ss) := by
  have hq : ∀ q ∈ (sitL ss).map Prod.snd, OkV D (2 ^ 114) q := fun q hq => by
    obtain ⟨s, hs, rfl⟩ := List.mem_map.mp hq
    exact h.okv s (sit_mem hs).1
  refine ⟨fold_low _ fun q hq' => (hq q hq').1, (OkV.fold h.k.d0 _ (0, 1) 0 (OkV.nought D) hq).mono ?_⟩
  have l := h.k.l
  have l2 : (sitL ss).length ≤ ss.length := List.length_filter_le _ _
  rw [List.length_map, Nat.zero_add]
  exact Nat.mul_le_mul_right _ (by omega)
theorem lo_abs {N : Nat} {a b : Int} (hb : 0 < b) (hv : a.natAbs ≤ N * b.natAbs) : (lo a b).1.natAbs ≤ N * (lo a b).2.natAbs := by
  have g : 0 < Int.gcd a b := gcd_pos (by omega)
  have e1 := lo_fst a b
  have e2 := lo_snd a b
  have n1 : (WS.lo a b).1.natAbs * Int.gcd a b = a.natAbs := by
    have := congrArg Int.natAbs e1
    rwa [Int.natAbs_mul, Int.natAbs_natCast] at this
  have n2 : (WS.lo a b).2.natAbs * Int.gcd a b = b.natAbs := by
    have := congrArg Int.natAbs e2
    rwa [Int.natAbs_mul, Int.natAbs_natCast] at this
  rw [← n1, ← n2] at hv
  refine Nat.le_of_mul_le_mul_right (c := Int.gcd a b) ?_ g
  rw [Nat.mul_assoc]
  exact hv
theorem LK.avl (h : LK D W ss) : Lowest (avP ss).1 (avP ss).2 := lo_lowest (Int.mul_pos h.sum.1.1 (by omega))
theorem LK.avk (h : LK D W ss) : OkV D (26 * 2 ^ 114) (avP ss) := by
  obtain ⟨l, o⟩ := h.sum
  have hb : 0 < (sumS ss).2 * ((max 1 (sitL ss).length : Nat) : Int) := Int.mul_pos l.1 (by omega)
  refine ⟨h.avl.1, h.av, lo_abs hb ?_⟩
  refine Nat.le_trans o.2.2 (Nat.mul_le_mul_left _ ?_)
  rw [Int.natAbs_mul]
  exact Nat.le_mul_of_pos_right _ (by omega)
theorem LK.rvav (h : LK D W ss) : rv (avP ss) * (((max 1 (sitL ss).length : Nat) : Int) : Rat) = ((sitL ss).map fun s => rv s.2).sum := by
  obtain ⟨l, o⟩ := h.sum
  have m0 : (0 : Int) < ((max 1 (sitL ss).length : Nat) : Int) := by omega
  have e1 : rv (sumS ss) = ((sitL ss).map fun s => rv s.2).sum := by
    unfold sumS
    rw [rv_fold _ _ (by decide) fun q hq => by
      obtain ⟨s, hs, rfl⟩ := List.mem_map.mp hq
      exact (h.k.ok s (sit_mem hs).1).1.1, rv_nought, Rat.zero_add, List.map_map]
    rfl
  rw [← e1]
  unfold avP
  rw [rv_lo (Int.mul_pos l.1 m0), cast_mul]
  unfold rv
  have c1 := cast_ne l.1
  have c2 := cast_ne m0
  generalize (((max 1 (sitL ss).length : Nat) : Int) : Rat) = m at *
  generalize ((sumS ss).1 : Rat) = a
  generalize ((sumS ss).2 : Rat) = b at *
  have c3 : b * m ≠ 0 := fun z => (Rat.mul_eq_zero.mp z).elim c1 c2
  grind
theorem sit26 (h : LK D W ss) : (sitL ss).length ≤ 26 := by
  have := h.k.l
  have l2 : (sitL ss).length ≤ ss.length := List.length_filter_le _ _
  omega
theorem gap_len (ss : List Seat) : (gap0 ss).length = (sitL ss).length := List.length_map _
theorem gap_at {k : Nat} (hk : k < (sitL ss).length) : gp (gap0 ss) k = mi (gs (sitL ss) k).2 (avP ss) := by
  unfold gp gap0
  rw [List.getD_eq_getElem?_getD, List.getElem?_map, at_gs hk]
  rfl
theorem sum_minus (a : Rat) : ∀ l : List Rat, (l.map fun x => x - a).sum = l.sum - ((l.length : Nat) : Int) * a
  | [] => by
    show (0 : Rat) = 0 - ((0 : Nat) : Int) * a
    have : (((0 : Nat) : Int) : Rat) = 0 := rfl
    rw [this]
    grind
  | x :: l => by
    rw [List.map_cons, List.sum_cons, List.sum_cons, sum_minus a l, List.length_cons]
    have : (((l.length + 1 : Nat) : Int) : Rat) = ((l.length : Nat) : Int) + 1 := by
      rw [show ((l.length + 1 : Nat) : Int) = ((l.length : Nat) : Int) + 1 by omega, cast_add]
      rfl
    rw [this]
    grind
theorem LK.gap (h : LK D W ss) : Gap D (2 ^ 120) (gap0 ss) := by
  have ok : ∀ s ∈ sitL ss, OkV D (2 ^ 120) (mi s.2 (avP ss)) := fun s hs => ((h.okv s (sit_mem hs).1).mi h.k.d0 h.avk).mono (by decide +kernel)
  refine ⟨fun q hq => ?_, fun q hq => ?_, ?_, h.k.d0⟩
  · obtain ⟨s, hs, rfl⟩ := List.mem_map.mp hq
    exact mi_low (h.k.ok s (sit_mem hs).1).1.1 h.avl.1
  · obtain ⟨s, hs, rfl⟩ := List.mem_map.mp hq
    exact ok s hs
  · have e : (gap0 ss).map rv = ((sitL ss).map fun s => rv s.2).map fun x => x - rv (avP ss) := by
      unfold gap0
      rw [List.map_map, List.map_map]
      exact List.map_congr_left fun s hs => rv_mi (h.k.ok s (sit_mem hs).1).1.1 h.avl.1
    rw [e, sum_minus, ← h.rvav, List.length_map]
    by_cases c : (sitL ss).length = 0
    · have e0 : sitL ss = [] := List.eq_nil_of_length_eq_zero c
      have s0 := h.rvav
      rw [e0] at s0 ⊢
      have : (((max 1 ([] : List Seat).length : Nat) : Int) : Rat) = 1 := rfl
      rw [this] at s0 ⊢
      have : ((([] : List Seat).length : Nat) : Int) = 0 := rfl
      rw [this]
      have z0 : ((0 : Int) : Rat) = 0 := rfl
      have s1 : (([] : List Seat).map fun s => rv s.2).sum = 0 := rfl
      rw [s1] at s0
      rw [z0]
      grind
    · rw [show max 1 (sitL ss).length = (sitL ss).length by omega]
      grind
/-- the moment behind the first t gifts -/
def levT (ss : List Seat) : Nat → List Seat
  | 0 => ss
  | t + 1 => giftS (levT ss t) (plK ss (fgr (itG t (gap0 ss)))) (plK ss (fls (itG t (gap0 ss)))) (amt (itG t (gap0 ss)))
structure LvOk (D W : Int) (ss tt : List Seat) (q : List (Int × Int)) : Prop where
  len : tt.length = ss.length
  fst : ∀ k, k < ss.length → (gs tt k).1 = (gs ss k).1
  low : ∀ s ∈ tt, Lowest s.2.1 s.2.2 ∧ s.2.2 ∣ D
  g : Good W tt
  dom : Dom ss tt
  gap : ∀ k, k < (sitL ss).length → rv (gs tt (plK ss k)).2 = rv (gp q k) + rv (avP ss)
  emp : ∀ i, i < ss.length → (gs ss i).1 = "" → gs tt i = gs ss i
theorem giftS_gs {ss : List Seat} {i j k : Nat} {q : Int × Int} (hi : i < ss.length) (hj : j < ss.length) (ne : i ≠ j) (hk : k < ss.length) : gs (giftS ss i j q) k = ((gs ss k).1, if k = j then pl (gs ss j).2 q else if k = i then mi (gs ss i).2 q else (gs ss k).2) := by
  have rl : (giftR (ss.map Prod.snd) i j q).length = ss.length := by rw [giftR_len, List.length_map]
  unfold giftS
  rw [gs_setRow hk rl, giftR_at (by rw [List.length_map]; exact hi) (by rw [List.length_map]; exact hj) ne, gp_snd ss hi, gp_snd ss hj, gp_snd ss hk]
theorem giftS_len (ss : List Seat) (i j : Nat) (q : Int × Int) : (giftS ss i j q).length = ss.length := setRow_len (by rw [giftR_len, List.length_map])
theorem LvOk.fsts {tt : List Seat} {q : List (Int × Int)} (h : LvOk D W ss tt q) : tt.map Prod.fst = ss.map Prod.fst := by
  refine List.ext_getElem? fun k => ?_
  rw [List.getElem?_map, List.getElem?_map]
  by_cases c : k < ss.length
  · rw [at_gs c, at_gs (by rw [h.len]; exact c), Option.map_some, Option.map_some, h.fst k c]
  · have := h.len
    rw [List.getElem?_eq_none (by omega), List.getElem?_eq_none (by omega)]
theorem LvOk.names {tt : List Seat} {q : List (Int × Int)} (h : LvOk D W ss tt q) : names tt = names ss := by
  unfold WS.names
  rw [h.fsts]
theorem LvOk.idx {tt : List Seat} {q : List (Int × Int)} (h : LvOk D W ss tt q) (z : Str) : idx tt z = idx ss z := by
  unfold WS.idx
  rw [h.fsts]
theorem LvOk.k23 {tt : List Seat} {q : List (Int × Int)} (l : LK D W ss) (h : LvOk D W ss tt q) : K23 D 26 W tt := by
  have hb := h.low
  refine ⟨by rw [h.len]; exact l.k.l, l.k.w, l.k.b, by rw [h.names]; exact l.k.nd, fun s hs => ?_, fun s hs => ⟨(hb s hs).1, ?_, (hb s hs).2⟩, h.g, l.k.d0, l.k.db⟩
  · obtain ⟨k, hk⟩ := List.getElem?_of_mem hs
    have kl := (List.getElem?_eq_some_iff.mp hk).1
    rw [h.len] at kl
    have e := gs_at hk
    rw [← e, h.fst k kl]
    exact l.k.nm _ (gs_mem kl)
  · have b : W < 2 ^ 110 := by
      have h1 : W.natAbs < 2 ^ 110 := l.k.b
      have w := l.k.w
      have e : (2 : Int) ^ 110 = ((2 ^ 110 : Nat) : Int) := by decide +kernel
      omega
    have w := l.k.w
    have ll : ((tt.length : Nat) : Int) ≤ 26 := by have := l.k.l; rw [h.len]; omega
    have hw : W * ((tt.length : Nat) : Int) ≤ W * 26 := Int.mul_le_mul_of_nonneg_left ll (by omega)
    have o : OkV D (2 ^ 114) s.2 := ⟨(hb s hs).1.1, (hb s hs).2, good_abs w h.g (by
      have e : ((2 ^ 114 : Nat) : Int) = 16 * 2 ^ 110 := by decide +kernel
      rw [e]
      omega) (fun s hs => (hb s hs).1.1) s hs⟩
    have o2 := o.okp l.k.d0 l.b (n := 115) (by decide +kernel) (Nat.le_refl 145)
    refine ⟨o.1, o2.2.1.mono (by decide), ?_⟩
    have le : s.2.2.natAbs ≤ D.natAbs := by
      have := Int.le_of_dvd l.k.d0 o.2.1
      have := o.1
      omega
    exact (show Bt 30 s.2.2 from Nat.lt_of_le_of_lt le l.b).mono (by decide)
theorem LvOk.zero (l : LK D W ss) : LvOk D W ss ss (gap0 ss) :=
  ⟨rfl, fun _ _ => rfl, fun s hs => ⟨(l.k.ok s hs).1, (l.k.ok s hs).2.2⟩, l.k.g, Dom.refl _, fun k hk => by
    obtain ⟨a, b, _, _⟩ := plK_ok l.k.nd hk
    rw [gap_at hk, b, rv_mi (l.k.ok _ (by rw [← b]; exact gs_mem a)).1.1 l.avl.1]
    grind, fun _ _ _ => rfl⟩
/-- what a gift is, at its moment -/
structure GiftOk (ss tt : List Seat) (q : List (Int × Int)) : Prop where
  a : plK ss (fgr q) < tt.length
  b : plK ss (fls q) < tt.length
  ne : plK ss (fgr q) ≠ plK ss (fls q)
  ia : fgr q < (sitL ss).length
  ib : fls q < (sitL ss).length
  low : Lowest (amt q).1 (amt q).2
  pos : 0 < rv (amt q)
  le : rv (amt q) ≤ owF tt (plK ss (fgr q)) - owF tt (plK ss (fls q))
theorem LvOk.gift {tt : List Seat} {q : List (Int × Int)} (l : LK D W ss) (h : LvOk D W ss tt q) (hq : Gap D (2 ^ 120) q) (ql : q.length = (sitL ss).length) (na : allN q = false) : GiftOk ss tt q := by
  have s := hq.step na
  have ia : fgr q < (sitL ss).length := by have := s.i; omega
  have ib : fls q < (sitL ss).length := by have := s.j; omega
  obtain ⟨a1, a2, _, _⟩ := plK_ok l.k.nd ia
  obtain ⟨b1, b2, _, _⟩ := plK_ok l.k.nd ib
  refine ⟨by rw [h.len]; exact a1, by rw [h.len]; exact b1, fun e => s.ne (plK_inj l.k.nd ia ib e), ia, ib, s.low, s.pos, ?_⟩
  unfold owF
  rw [h.gap _ ia, h.gap _ ib]
  have := s.le1
  have := s.le2
  have := s.pos
  grind
theorem LvOk.next {tt : List Seat} {q : List (Int × Int)} (l : LK D W ss) (h : LvOk D W ss tt q) (hq : Gap D (2 ^ 120) q) (ql : q.length = (sitL ss).length) (na : allN q = false) : LvOk D W ss (giftS tt (plK ss (fgr q)) (plK ss (fls q)) (amt q)) (stepG q) := by
  have s := hq.step na
  have o := h.gift l hq ql na
  have pos : ∀ s ∈ tt, 0 < s.2.2 := fun s hs => (h.low s hs).1.1
  have g0 : (0 : Rat) ≤ rv (amt q) := Rat.le_of_lt o.pos
  have okv : ∀ s ∈ tt, OkV D (s.2.1.natAbs) s.2 := fun s hs => ⟨pos s hs, (h.low s hs).2, Nat.le_mul_of_pos_right _ (by have := pos s hs; omega)⟩
  refine ⟨by rw [giftS_len, h.len], fun k hk => ?_, fun z hz => ?_, good_gift h.g pos o.low.1 o.a o.b o.ne g0 o.le, h.dom.trans (Dom.gift pos o.low.1 o.a o.b o.ne g0 o.le), fun k hk => ?_, fun i hi e => ?_⟩
  · rw [giftS_gs o.a o.b o.ne (by rw [h.len]; exact hk)]
    exact h.fst k hk
  · obtain ⟨k, hk⟩ := List.getElem?_of_mem hz
    have kl := (List.getElem?_eq_some_iff.mp hk).1
    rw [giftS_len] at kl
    have e := gs_at hk
    rw [giftS_gs o.a o.b o.ne kl] at e
    rw [← e]
    show Lowest (if k = plK ss (fls q) then pl (gs tt (plK ss (fls q))).2 (amt q) else if k = plK ss (fgr q) then mi (gs tt (plK ss (fgr q))).2 (amt q) else (gs tt k).2).1 _ ∧ _
    by_cases c1 : k = plK ss (fls q)
    · rw [if_pos c1]
      have p := (okv _ (gs_mem o.b)).pl l.k.d0 s.ok
      exact ⟨pl_lowest (pos _ (gs_mem o.b)) o.low.1, p.2.1⟩
    · rw [if_neg c1]
      by_cases c2 : k = plK ss (fgr q)
      · rw [if_pos c2]
        have p := (okv _ (gs_mem o.a)).mi l.k.d0 s.ok
        exact ⟨mi_low (pos _ (gs_mem o.a)) o.low.1, p.2.1⟩
      · rw [if_neg c2]
        exact h.low _ (gs_mem kl)
  · obtain ⟨k1, k2, _, _⟩ := plK_ok l.k.nd hk
    have ow := owF_gift pos o.low.1 o.a o.b o.ne (show plK ss k < tt.length by rw [h.len]; exact k1)
    unfold owF at ow
    rw [ow, h.gap k hk]
    have at' := s.at k
    have lj := hq.low _ (gp_mem s.j)
    have li := hq.low _ (gp_mem s.i)
    rw [at']
    by_cases c1 : k = fls q
    · subst c1
      rw [if_pos rfl, if_pos rfl, if_neg (fun z => o.ne z.symm), rv_pl lj.1 o.low.1]
      grind
    · have d1 : plK ss k ≠ plK ss (fls q) := fun e => c1 (plK_inj l.k.nd hk o.ib e)
      rw [if_neg c1, if_neg d1]
      by_cases c2 : k = fgr q
      · subst c2
        rw [if_pos rfl, if_pos rfl, rv_mi li.1 o.low.1]
        grind
      · have d2 : plK ss k ≠ plK ss (fgr q) := fun e => c2 (plK_inj l.k.nd hk o.ia e)
        rw [if_neg c2, if_neg d2]
        grind
  · have n1 : i ≠ plK ss (fls q) := fun z => by
      obtain ⟨_, b, c, _⟩ := plK_ok l.k.nd o.ib
      rw [z, b] at e
      exact c e
    have n2 : i ≠ plK ss (fgr q) := fun z => by
      obtain ⟨_, b, c, _⟩ := plK_ok l.k.nd o.ia
      rw [z, b] at e
      exact c e
    rw [giftS_gs o.a o.b o.ne (by rw [h.len]; exact hi), if_neg n1, if_neg n2]
    exact h.emp i hi e
def levS (ss : List Seat) : List Seat := ss.map fun s => if s.1 = ("" : Str) then s else ((s.1, avP ss) : Seat)
def nG (ss : List Seat) : Nat := (giftsL (gap0 ss)).length
theorem lev_ok (l : LK D W ss) : ∀ t, t ≤ nG ss → LvOk D W ss (levT ss t) (itG t (gap0 ss))
  | 0, _ => .zero l
  | t + 1, ht => by
    have ih := lev_ok l t (by omega)
    have na := (giftsL_at (show t < nG ss by omega)).2
    obtain ⟨g, gl, _, _⟩ := itG_gap l.gap t
    rw [(itG_succ na).1]
    exact ih.next l g (by rw [gl, gap_len]) na
theorem lev_gift (l : LK D W ss) {t : Nat} (ht : t < nG ss) : GiftOk ss (levT ss t) (itG t (gap0 ss)) := by
  have na := (giftsL_at ht).2
  obtain ⟨g, gl, _, _⟩ := itG_gap l.gap t
  exact (lev_ok l t (by omega)).gift l g (by rw [gl, gap_len]) na
theorem levS_gs {k : Nat} (hk : k < ss.length) : gs (levS ss) k = if (gs ss k).1 = ("" : Str) then gs ss k else ((gs ss k).1, avP ss) := by
  have : (levS ss)[k]? = some (if (gs ss k).1 = ("" : Str) then gs ss k else ((gs ss k).1, avP ss)) := by
    unfold levS
    rw [List.getElem?_map, at_gs hk]
    rfl
  exact gs_at this
theorem lev_end (l : LK D W ss) : levT ss (nG ss) = levS ss := by
  have h := lev_ok l (nG ss) (Nat.le_refl _)
  have e := giftsL_end l.gap
  refine ext_gs (by rw [h.len]; unfold levS; rw [List.length_map]) fun k hk => ?_
  have hk : k < ss.length := by unfold levS at hk; rwa [List.length_map] at hk
  rw [levS_gs hk]
  by_cases c : (gs ss k).1 = ""
  · rw [if_pos c]
    exact h.emp k hk c
  · rw [if_neg c]
    have hs : gs ss k ∈ sitL ss := List.mem_filter.mpr ⟨gs_mem hk, by simp [c]⟩
    obtain ⟨j, hj⟩ := List.getElem?_of_mem hs
    have jl := (List.getElem?_eq_some_iff.mp hj).1
    have ej := gs_at hj
    have pk : plK ss j = k := by
      unfold plK
      rw [ej]
      exact idx_gs l.k.nd hk c
    have gj := h.gap j jl
    rw [pk] at gj
    obtain ⟨_, gl, _, _⟩ := itG_gap l.gap (nG ss)
    have z : gp (itG (nG ss) (gap0 ss)) j = (0, 1) := allN_true e _ (gp_mem (by show j < (itG (nG ss) (gap0 ss)).length; rw [gl, gap_len]; exact jl))
    rw [z, rv_nought, Rat.zero_add] at gj
    have lk : k < (levT ss (nG ss)).length := by rw [h.len]; exact hk
    exact Prod.ext (h.fst k hk) (rv_inj (h.low _ (gs_mem lk)).1 l.avl gj)
theorem sit_lev : sitL (levS ss) = (sitL ss).map fun s => (s.1, avP ss) := by
  unfold sitL levS
  rw [List.filter_map]
  have e : ((fun s : Seat => !decide (s.1 = ("" : Str))) ∘ fun s : Seat => if s.1 = ("" : Str) then s else (s.1, avP ss)) = fun s : Seat => !decide (s.1 = ("" : Str)) := by
    funext s
    show (!decide ((if s.1 = ("" : Str) then s else (s.1, avP ss)).1 = ("" : Str))) = _
    by_cases c : s.1 = ""
    · rw [if_pos c]
    · rw [if_neg c]
  rw [e]
  refine List.map_congr_left fun s hs => ?_
  have : s.1 ≠ "" := (sit_mem hs).2
  rw [if_neg this]
theorem sum_const (a : Rat) : ∀ n : Nat, (List.replicate n a).sum = ((n : Nat) : Int) * a
  | 0 => by
    have : (((0 : Nat) : Int) : Rat) = 0 := rfl
    rw [this]
    show (0 : Rat) = 0 * a
    grind
  | n + 1 => by
    rw [List.replicate_succ, List.sum_cons, sum_const a n]
    have : (((n + 1 : Nat) : Int) : Rat) = ((n : Nat) : Int) + 1 := by
      rw [show ((n + 1 : Nat) : Int) = ((n : Nat) : Int) + 1 by omega, cast_add]
      rfl
    rw [this]
    grind
theorem av_lev (l : LK D W ss) : sitL ss ≠ [] → avP (levS ss) = avP ss := fun ne => by
  have e := sit_lev (ss := ss)
  have len : (sitL (levS ss)).length = (sitL ss).length := by rw [e, List.length_map]
  have pos : ∀ q ∈ (sitL (levS ss)).map Prod.snd, 0 < q.2 := fun q hq => by
    rw [e, List.map_map] at hq
    obtain ⟨s, _, rfl⟩ := List.mem_map.mp hq
    exact l.avl.1
  have sl : Lowest (sumS (levS ss)).1 (sumS (levS ss)).2 := fold_low _ pos
  have m0 : (0 : Int) < ((max 1 (sitL (levS ss)).length : Nat) : Int) := by omega
  refine rv_inj (lo_lowest (Int.mul_pos sl.1 m0)) l.avl ?_
  show rv (lo (sumS (levS ss)).1 ((sumS (levS ss)).2 * ((max 1 (sitL (levS ss)).length : Nat) : Int))) = _
  rw [rv_lo (Int.mul_pos sl.1 m0), cast_mul]
  have es : rv (sumS (levS ss)) = (((sitL ss).length : Nat) : Int) * rv (avP ss) := by
    unfold sumS
    rw [rv_fold _ _ (by decide) pos, rv_nought, Rat.zero_add, e, List.map_map, List.map_map]
    have : ((sitL ss).map ((rv ∘ Prod.snd) ∘ fun s : Seat => (s.1, avP ss))) = List.replicate (sitL ss).length (rv (avP ss)) := by
      refine List.eq_replicate_iff.mpr ⟨List.length_map _, fun x hx => ?_⟩
      obtain ⟨s, _, rfl⟩ := List.mem_map.mp hx
      rfl
    rw [this, sum_const]
  have n1 : 1 ≤ (sitL ss).length := List.length_pos_iff.mpr ne
  rw [len, show max 1 (sitL ss).length = (sitL ss).length by omega]
  have c1 := cast_ne sl.1
  have c2 := cast_ne (show (0 : Int) < (((sitL ss).length : Nat) : Int) by omega)
  have eu : rv (sumS (levS ss)) = ((sumS (levS ss)).1 : Rat) / ((sumS (levS ss)).2 : Rat) := rfl
  rw [eu] at es
  generalize rv (avP ss) = r at *
  generalize ((sumS (levS ss)).1 : Rat) = a at *
  generalize ((sumS (levS ss)).2 : Rat) = b at *
  generalize ((((sitL ss).length : Nat) : Int) : Rat) = m at *
  have c3 : b * m ≠ 0 := fun z => (Rat.mul_eq_zero.mp z).elim c1 c2
  grind
theorem lev_none (h : sitL ss = []) : levS ss = ss := by
  unfold levS
  conv => rhs; rw [← List.map_id ss]
  refine List.map_congr_left fun s hs => ?_
  by_cases c : s.1 = ""
  · rw [if_pos c]
    rfl
  · have : s ∈ sitL ss := List.mem_filter.mpr ⟨hs, by simp [c]⟩
    rw [h] at this
    exact (List.not_mem_nil this).elim
theorem av_lev' (l : LK D W ss) : avP (levS ss) = avP ss := by
  by_cases c : sitL ss = []
  · rw [lev_none c]
  · exact av_lev l c
/-- the moment that is level -/
theorem LK.lev (l : LK D W ss) : LK D W (levS ss) ∧ gap0 (levS ss) = (sitL ss).map (fun _ => ((0, 1) : Int × Int)) ∧ Dom ss (levS ss) ∧ levS (levS ss) = levS ss := by
  have h := lev_ok l (nG ss) (Nat.le_refl _)
  rw [lev_end l] at h
  refine ⟨⟨h.k23 l, l.b, by rw [av_lev' l]; exact l.av⟩, ?_, h.dom, ?_⟩
  · unfold gap0
    rw [sit_lev, List.map_map, av_lev' l]
    refine List.map_congr_left fun s hs => ?_
    have := mi_low (p := avP ss) (q := avP ss) l.avl.1 l.avl.1
    refine rv_inj this (nought23 1).1 ?_
    show rv (mi (avP ss) (avP ss)) = _
    rw [rv_mi l.avl.1 l.avl.1, rv_nought]
    grind
  · unfold levS
    rw [List.map_map]
    refine List.map_congr_left fun s hs => ?_
    show (if (if s.1 = ("" : Str) then s else (s.1, avP ss)).1 = ("" : Str) then (if s.1 = ("" : Str) then s else (s.1, avP ss)) else ((if s.1 = ("" : Str) then s else (s.1, avP ss)).1, avP (levS ss))) = _
    rw [av_lev' l]
    by_cases c : s.1 = ""
    · rw [if_pos c, if_pos c]
    · rw [if_neg c]
      exact if_neg c
theorem lev_gifts (l : LK D W ss) : giftsL (gap0 (levS ss)) = [] := by
  rw [l.lev.2.1]
  refine giftsL_none (List.all_eq_true.mpr fun q hq => ?_)
  obtain ⟨_, _, rfl⟩ := List.mem_map.mp hq
  rfl
end
end WS
set_option Elab.async false
set_option linter.all false
set_option maxRecDepth 100000
set_option maxHeartbeats 4000000
namespace WS
open PySem PySem.Spec PyProof.Rows L2
/-! ### levelling: promises -/
def spShared45 (K : PySem.W.Frag) : Sp := fun vs H Q _ => ∃ (u : V) (a b m : Int), vs = [u, .int m] ∧ TupI K H u a b ∧ 0 < b ∧ 1 ≤ m ∧ Bt 1000 a ∧ Bt 1000 b ∧ Bt 100 m ∧ ∀ v H', Same H H' → TupI K H' v (lo a (b * m)).1 (lo a (b * m)).2 → Q v H'
def spPick45 (K : PySem.W.Frag) (f : List (Int × Int) → Nat) : Sp := fun vs H Q _ => ∃ (l : Addr) (rs : List V) (ps : List (Int × Int)), vs = [.ref l] ∧ SqT K H l rs ∧ Parts K H rs ps ∧ (∀ q ∈ ps, Okp 1000 q) ∧ 0 < ps.length ∧ ps.length ≤ 100 ∧ ∀ H', Same H H' → Q (.int (f ps : Nat)) H'
def spLesser45 (K : PySem.W.Frag) : Sp := fun vs H Q _ => ∃ (u v : V) (p q : Int × Int), vs = [u, v] ∧ TupI K H u p.1 p.2 ∧ TupI K H v q.1 q.2 ∧ Okp 1000 p ∧ Okp 1000 q ∧ ∀ v', TupI K H v' (if ltp p q = true then p else q).1 (if ltp p q = true then p else q).2 → Q v' H
def spAbove45 (K : PySem.W.Frag) : Sp := fun vs H Q _ => ∃ (l : Addr) (rs : List V) (ps : List (Int × Int)) (a : Int × Int), vs = [.ref l] ∧ SqL K H l rs ∧ Parts K H rs ps ∧ 0 < ps.length ∧ ps.length ≤ 26 ∧ (∀ q ∈ ps, Okp 300 q) ∧ (∀ i, Okp 900 ((ps.take i).foldl pl (0, 1))) ∧ a = lo (ps.foldl pl (0, 1)).1 ((ps.foldl pl (0, 1)).2 * ((ps.length : Nat) : Int)) ∧ Okp 900 a ∧
  ∀ r vs' H', Same H H' → SqT K H' r vs' → Parts K H' vs' (ps.map fun q => mi q a) → Q (.ref r) H'
def gfD (ss : List Seat) (g : GiftT) : PyData := .tuple [.str (gs (sitL ss) g.1).1, .str (gs (sitL ss) g.2.1).1, pdP g.2.2]
def spLevelling45 (K : PySem.W.Frag) : Sp := fun vs H Q _ => ∃ (v : V) (D W : Int) (ss : List Seat), vs = [v] ∧ Dp K H v (momD W ss) ∧ LK D W ss ∧ ∀ r ws H', Same H H' → H r = none → H' r = some (.lst ws) → DpAll K H' ws ((giftsL (gap0 ss)).map (gfD ss)) → Q (.ref r) H'
def spLevelled45 (K : PySem.W.Frag) : Sp := fun vs H Q _ => ∃ (v : V) (D W : Int) (ss : List Seat), vs = [v] ∧ Dp K H v (momD W ss) ∧ LK D W ss ∧ ∀ v' H', Same H H' → Dp K H' v' (momD W (levS ss)) → Q v' H'
def spAverage45 (K : PySem.W.Frag) : Sp := fun vs H Q _ => ∃ (u : V) (D W : Int) (ss : List Seat), vs = [u] ∧ Dp K H u (.tuple (ss.map seatD)) ∧ LK D W ss ∧ ∀ v' H', Same H H' → TupI K H' v' (avP ss).1 (avP ss).2 → Q v' H'
def spPlace45 (K : PySem.W.Frag) : Sp := fun vs H Q _ => ∃ (l : Addr) (b : Bool) (rs : List V) (ps : List (Int × Int)), vs = [.ref l, .bl b] ∧ H l = some (.lst rs) ∧ Parts K H rs ps ∧ (∀ q ∈ ps, Okp 1000 q) ∧ 0 < ps.length ∧ ps.length ≤ 100 ∧ ∀ H' (k : Nat), Same H H' → k = (if b then fls ps else fgr ps) → Q (.int (k : Int)) H'
def spDue45 (K : PySem.W.Frag) : Sp := fun vs H Q _ => ∃ (u : V) (D W : Int) (ss : List Seat), vs = [u] ∧ Dp K H u (.tuple (ss.map seatD)) ∧ LK D W ss ∧ ∀ r ws H', Same H H' → H r = none → H' r = some (.lst ws) → DpAll K H' ws ((giftsL (gap0 ss)).map (gfD ss)) → Q (.ref r) H'
def spLevel45 (K : PySem.W.Frag) : Sp := fun vs H Q _ => ∃ (v : V) (D W : Int) (ss : List Seat), vs = [v] ∧ Dp K H v (momD W ss) ∧ LK D W ss ∧ ∀ v' H', Same H H' → Dp K H' v' (momD W (levS ss)) → Q v' H'
def spNoWider45 (K : PySem.W.Frag) : Sp := fun vs H Q _ => ∃ (a b : Addr) (rs us : List V) (ss tt : List Seat), vs = [.ref a, .ref b] ∧ H a = some (.lst rs) ∧ H b = some (.lst us) ∧ Parts K H rs (ss.map Prod.snd) ∧ Parts K H us (tt.map Prod.snd) ∧ SaneRow (ss.map Prod.snd) ∧ SaneRow (tt.map Prod.snd) ∧ Dom ss tt ∧ ∀ H', Same H H' → Q (.bl true) H'
def spRight45 (K : PySem.W.Frag) (TT : List (Addr × Str)) : Sp := fun vs H Q _ => ∃ (v : V) (D W : Int) (ss : List Seat), vs = [v] ∧ Dp K H v (momD W ss) ∧ LK D W ss ∧ LamX.Tabs TT H ∧ ∀ H', LamX.ExtN H H' → LamX.Tabs TT H' → Q (.bl true) H'
/-! rows of up to 26 seats, the last one's part set so that they come to nought -/
def spRowL45 (K : PySem.W.Frag) : Sp := fun vs H Q _ => ∃ (p : Addr) (m : Nat), vs = [.ref p, .int m] ∧ PotAt H p ∧ m ≤ 26 ∧ ∀ H' D rs ps, SameX p H H' → PotAt H' p → H D = none → H' D = some (.lst rs) → Parts K H' rs ps → ps.length = m → (ps.map rv).sum = 0 → (∀ q ∈ ps, Bd 102 (rv q)) → (∃ d : Int, 0 < d ∧ Bt 13 d ∧ ∀ q ∈ ps, Lowest q.1 q.2 ∧ OkV d (2 ^ 102) q) → Q (.ref D) H'
def spWeightL45 (K : PySem.W.Frag) : Sp := fun vs H Q _ => ∃ (l : Addr) (rs : List V) (ps : List (Int × Int)) (d : Int), vs = [.ref l] ∧ SqL K H l rs ∧ Parts K H rs ps ∧ 0 < d ∧ Bt 13 d ∧ (∀ q ∈ ps, OkV d (2 ^ 102) q) ∧ ps.length ≤ 26 ∧ (ps.map rv).sum = 0 ∧ (∀ q ∈ ps, Bd 102 (rv q)) ∧ ∀ H' (i : Int), Same H H' → 1 ≤ i → Bt 109 i → WthF i ps.length (fun j => rv (gp ps j)) → Q (.int i) H'
def spSeatedL45 (K : PySem.W.Frag) : Sp := fun vs H Q _ => ∃ (p N : Addr) (us : List Str), vs = [.ref p, .ref N] ∧ PotAt H p ∧ N ≠ p ∧ H N = some (.lst (us.map V.str)) ∧ us.length ≤ 26 ∧ us.Nodup ∧ (∀ z ∈ us, Nm z) ∧ ∀ v W ss H' D, Dp K H' v (momD W ss) → K23 D 26 W ss → Bt 13 D → ss.length ≤ us.length → (names ss).Sublist us → SameX p H H' → PotAt H' p → Q v H'
theorem OkV.ok13 {d : Int} {q : Int × Int} (h : OkV d (2 ^ 102) q) (d0 : 0 < d) (db : Bt 13 d) : Ok2 116 13 q := by
  refine ⟨h.1, (h.okp d0 db (n := 103) (by decide +kernel) (Nat.le_refl 116)).2.1, ?_⟩
  have le : q.2.natAbs ≤ d.natAbs := by
    have := Int.le_of_dvd d0 h.2.1
    have := h.1
    omega
  exact Nat.lt_of_le_of_lt le db
theorem OkV.oq13 {d : Int} {q : Int × Int} (h : OkV d (2 ^ 102) q) (d0 : 0 < d) (db : Bt 13 d) : Okq 190 90 q := by
  have o := h.ok13 d0 db
  exact ⟨o.1, o.2.1.mono (by decide), o.2.2.mono (by decide)⟩
/-- any over a list of truths made by a comprehension goes on alike -/
theorem eqv_gifts {ss : List Seat} (l : List GiftT) : plnAll (l.map (gfD ss)) = true := plnAll_map (fun _ => rfl) l
theorem gifts_imm {ss : List Seat} (l : List GiftT) : immAll (l.map (gfD ss)) = true := immAll_map (fun _ => rfl) l
/-- a drawn moment, with the average's divisor -/
theorem LK.of {D W : Int} {ss : List Seat} (h : K23 D 26 W ss) (b : Bt 13 D) : ∃ D', LK D' W ss := by
  have m0 : (1 : Int) ≤ ((max 1 (sitL ss).length : Nat) : Int) := by omega
  have l2 : (sitL ss).length ≤ ss.length := List.length_filter_le _ _
  have bm : Bt 5 ((max 1 (sitL ss).length : Nat) : Int) := Bt.of_lt (by omega) (by have := h.l; omega)
  have bb : Bt 18 (D * ((max 1 (sitL ss).length : Nat) : Int)) := b.mul bm
  have dv : ∀ x : Int, x ∣ D → x ∣ D * ((max 1 (sitL ss).length : Nat) : Int) := fun x hx => Int.dvd_trans hx (Int.dvd_mul_right _ _)
  have k' : K23 (D * ((max 1 (sitL ss).length : Nat) : Int)) 26 W ss := ⟨h.l, h.w, h.b, h.nd, h.nm, fun s hs => ⟨(h.ok s hs).1, (h.ok s hs).2.1, dv _ (h.ok s hs).2.2⟩, h.g, Int.mul_pos h.d0 (by omega), bb.mono (by decide)⟩
  refine ⟨_, k', bb.mono (by decide), ?_⟩
  have hq : ∀ q ∈ (sitL ss).map Prod.snd, OkV D (q.1.natAbs) q := fun q hq => by
    obtain ⟨s, hs, rfl⟩ := List.mem_map.mp hq
    have o := h.ok s (sit_mem hs).1
    exact ⟨o.1.1, o.2.2, Nat.le_mul_of_pos_right _ (by have := o.1.1; omega)⟩
  have den : ∀ (qs : List (Int × Int)) (s : Int × Int), 0 < s.2 → s.2 ∣ D → (∀ q ∈ qs, OkV D q.1.natAbs q) → (qs.foldl pl s).2 ∣ D ∧ 0 < (qs.foldl pl s).2 := by
    intro qs
    induction qs with
    | nil => intro s p d _; exact ⟨d, p⟩
    | cons q qs ih =>
      intro s p d hq
      have o : OkV D s.1.natAbs s := ⟨p, d, Nat.le_mul_of_pos_right _ (by omega)⟩
      have oo := o.pl h.d0 (hq q List.mem_cons_self)
      exact ih (pl s q) oo.1 oo.2.1 fun x hx => hq x (List.mem_cons_of_mem _ hx)
  obtain ⟨sd, sp⟩ := den _ (0, 1) (by decide) (Int.one_dvd D) hq
  have hb : 0 < (sumS ss).2 * ((max 1 (sitL ss).length : Nat) : Int) := Int.mul_pos sp (by omega)
  have e : (avP ss).2 ∣ (sumS ss).2 * ((max 1 (sitL ss).length : Nat) : Int) := by
    have := lo_snd (sumS ss).1 ((sumS ss).2 * ((max 1 (sitL ss).length : Nat) : Int))
    exact ⟨_, this.symm⟩
  exact Int.dvd_trans e (Int.mul_dvd_mul_right _ sd)
end WS
set_option Elab.async false
set_option linter.all false
set_option maxRecDepth 100000
set_option maxHeartbeats 4000000
namespace WS
open PySem PySem.Spec PyProof.Rows L2
/-- the two ways of `if ..: x = y` go on alike -/
theorem if_pick {c : Bool} {D : L2.Ends} {σ : L2.St} {H : Hp} {i j : Nat} {va u t : V} (h1 : c = true → va = t) (h0 : c = false → va = u) (ht : σ[j]? = some (some t)) (hu : σ.set i (some u) = σ) (k : D.nx (σ.set i (some va)) H) : if c = true then tAsg (tVar j) (gName i) D σ H else tNext D σ H := by
  cases c with
  | true =>
    obtain rfl := h1 rfl
    exact iteT ⟨_, ht, k⟩
  | false =>
    obtain rfl := h0 rfl
    rw [hu] at k
    exact iteF k
theorem gifts_sh {D W : Int} {ss : List Seat} (l : LK D W ss) : Sh 40000 5 (.list ((giftsL (gap0 ss)).map (gfD ss))) := by
  have gl := giftsL_len l.gap
  have s26 := sit26 l
  rw [gap_len] at gl
  refine (Sh.lst (n := 1300) (k := 3) (m := 26) (fun d hd => ?_) (by rw [List.length_map]; omega)).mono (by omega) (by omega)
  obtain ⟨g, hg, rfl⟩ := List.mem_map.mp hd
  obtain ⟨k, hk⟩ := List.getElem?_of_mem hg
  have kl := (List.getElem?_eq_some_iff.mp hk).1
  obtain ⟨e, na⟩ := giftsL_at kl
  rw [e] at hk
  obtain rfl := Option.some.inj hk
  obtain ⟨gq, ql, _, _⟩ := itG_gap l.gap k
  have st := gq.step na
  rw [gap_len] at ql
  have hi := st.i
  have hj := st.j
  have nm : ∀ i, i < (sitL ss).length → Nm0 (gs (sitL ss) i).1 := fun i hi => l.k.nm _ (sit_mem (gs_mem hi)).1
  have og := st.ok.okp l.k.d0 l.b (n := 121) (by decide +kernel) (Nat.le_refl 151)
  refine (Sh.tup (n := 400) (k := 2) (m := 3) (ds := [.str (gs (sitL ss) (fgr (itG k (gap0 ss)))).1, .str (gs (sitL ss) (fls (itG k (gap0 ss)))).1, pdP (amt (itG k (gap0 ss)))]) (fun d hd => ?_) (Nat.le_refl 3)).mono (by omega) (by omega)
  simp only [List.mem_cons, List.not_mem_nil, or_false] at hd
  rcases hd with rfl | rfl | rfl
  · exact (nm_sh (nm _ (by omega))).mono (by omega) (by omega)
  · exact (nm_sh (nm _ (by omega))).mono (by omega) (by omega)
  · exact (Sh.pd (m := 151) (by decide) (by decide) og.2.1 og.2.2).mono (by omega) (by omega)
theorem extN_new {H H' : Hp} {a : Addr} {o : HO} (x : LamX.ExtN H H') (n : H a = none) : LamX.ExtN H (upd H' a o) := fun b p h nt => by
  rw [upd_ne (ne_of_none h n)]
  exact x b p h nt
theorem lay_gifts {ss : List Seat} (nm : ∀ i, i < (sitL ss).length → Nm0 (gs (sitL ss) i).1) : ∀ l : List GiftT, (∀ g ∈ l, g.1 < (sitL ss).length ∧ g.2.1 < (sitL ss).length) → PyData.canLayAll0 (l.map (gfD ss)) = true ∧ PyData.depthAll (l.map (gfD ss)) ≤ 8
  | [], _ => ⟨by simp [PyData.canLayAll0], by simp [PyData.depthAll]⟩
  | g :: l, h => by
    obtain ⟨a, b⟩ := lay_gifts nm l fun x hx => h x (List.mem_cons_of_mem _ hx)
    obtain ⟨i, j⟩ := h g List.mem_cons_self
    rw [List.map_cons]
    refine ⟨by simp [PyData.canLayAll0, PyData.canLay0, gfD, pdP, pd, a, strok_nm (nm _ i), strok_nm (nm _ j)], ?_⟩
    simp only [PyData.depthAll, PyData.depth, gfD, pdP, pd]
    omega
theorem gifts_in {D W : Int} {ss : List Seat} (l : LK D W ss) : ∀ g ∈ giftsL (gap0 ss), g.1 < (sitL ss).length ∧ g.2.1 < (sitL ss).length := fun g hg => by
  obtain ⟨k, hk⟩ := List.getElem?_of_mem hg
  have kl := (List.getElem?_eq_some_iff.mp hk).1
  obtain ⟨e, na⟩ := giftsL_at kl
  rw [e] at hk
  obtain rfl := Option.some.inj hk
  obtain ⟨gq, ql, _, _⟩ := itG_gap l.gap k
  have st := gq.step na
  rw [gap_len] at ql
  have hi := st.i
  have hj := st.j
  exact ⟨by show fgr _ < _; omega, by show fls _ < _; omega⟩
theorem shaped_gifts {D W : Int} {ss : List Seat} (l : LK D W ss) : SeqAt.shaped (.list ((giftsL (gap0 ss)).map (gfD ss))) = true := by
  obtain ⟨a, b⟩ := lay_gifts (ss := ss) (fun i hi => l.k.nm _ (sit_mem (gs_mem hi)).1) (giftsL (gap0 ss)) (gifts_in l)
  unfold SeqAt.shaped
  rw [show (PyData.list ((giftsL (gap0 ss)).map (gfD ss))).canLay0 = true from by simp only [PyData.canLay0]; exact a, show (PyData.list ((giftsL (gap0 ss)).map (gfD ss))).depth = PyData.depthAll ((giftsL (gap0 ss)).map (gfD ss)) + 1 from by simp only [PyData.depth], Bool.true_and, decide_eq_true_eq]
  omega
theorem gifts_eqv {ss : List Seat} (l : List GiftT) : PyData.eqv (.list (l.map (gfD ss))) (.list (l.map (gfD ss))) = true := (eqv_lst (eqv_gifts l) (eqv_gifts l)).mpr rfl
end WS
set_option Elab.async false
set_option linter.all false
set_option maxRecDepth 100000
set_option maxHeartbeats 4000000
namespace WS
open PySem PySem.Spec PyProof.Rows L2
def topS (i : Nat) : Stmt := PySem.Challenge.pw_whoserves_k45_whole_levelled_by_fewer_gi.main.body.getD i (.Pass ⟨0, 0, 0, 0⟩)
abbrev s_is_whole : Stmt := topS 7
theorem sc_is_whole : FnScope ["thing"] ["thing"] (defScope s_is_whole) := ⟨rfl, rfl, rfl, by decide +kernel, rfl, by decide +kernel, by decide +kernel⟩
abbrev s_greatest_common : Stmt := topS 8
theorem sc_greatest_common : FnScope ["one", "other"] ["one", "other"] (defScope s_greatest_common) := ⟨rfl, rfl, rfl, by decide +kernel, rfl, by decide +kernel, by decide +kernel⟩
abbrev s_is_part : Stmt := topS 9
theorem sc_is_part : FnScope ["thing", "above", "below"] ["thing"] (defScope s_is_part) := ⟨rfl, rfl, rfl, by decide +kernel, rfl, by decide +kernel, by decide +kernel⟩
abbrev s_part : Stmt := topS 10
theorem sc_part : FnScope ["above", "below", "common"] ["above", "below"] (defScope s_part) := ⟨rfl, rfl, rfl, by decide +kernel, rfl, by decide +kernel, by decide +kernel⟩
abbrev s_plus : Stmt := topS 11
theorem sc_plus : FnScope ["one", "other"] ["one", "other"] (defScope s_plus) := ⟨rfl, rfl, rfl, by decide +kernel, rfl, by decide +kernel, by decide +kernel⟩
abbrev s_minus : Stmt := topS 12
theorem sc_minus : FnScope ["one", "other"] ["one", "other"] (defScope s_minus) := ⟨rfl, rfl, rfl, by decide +kernel, rfl, by decide +kernel, by decide +kernel⟩
abbrev s_shared : Stmt := topS 13
theorem sc_shared : FnScope ["one", "many"] ["one", "many"] (defScope s_shared) := ⟨rfl, rfl, rfl, by decide +kernel, rfl, by decide +kernel, by decide +kernel⟩
abbrev s_is_less : Stmt := topS 14
theorem sc_is_less : FnScope ["one", "other"] ["one", "other"] (defScope s_is_less) := ⟨rfl, rfl, rfl, by decide +kernel, rfl, by decide +kernel, by decide +kernel⟩
abbrev s_total : Stmt := topS 15
theorem sc_total : FnScope ["row", "start", "found", "one"] ["row", "start"] (defScope s_total) := ⟨rfl, rfl, rfl, by decide +kernel, rfl, by decide +kernel, by decide +kernel⟩
abbrev s_common_below : Stmt := topS 17
theorem sc_common_below : FnScope ["row", "found", "one"] ["row"] (defScope s_common_below) := ⟨rfl, rfl, rfl, by decide +kernel, rfl, by decide +kernel, by decide +kernel⟩
abbrev s_greatest_first : Stmt := topS 18
theorem sc_greatest_first : FnScope ["row", "common", "aboves", "above", "below"] ["row"] (defScope s_greatest_first) := ⟨rfl, rfl, rfl, by decide +kernel, rfl, by decide +kernel, by decide +kernel⟩
abbrev s_sums_ahead : Stmt := topS 19
theorem sc_sums_ahead : FnScope ["row", "sums", "place"] ["row"] (defScope s_sums_ahead) := ⟨rfl, rfl, rfl, by decide +kernel, rfl, by decide +kernel, by decide +kernel⟩
abbrev s_most : Stmt := topS 20
theorem sc_most : FnScope ["weight", "seats", "many"] ["weight", "seats", "many"] (defScope s_most) := ⟨rfl, rfl, rfl, by decide +kernel, rfl, by decide +kernel, by decide +kernel⟩
abbrev s_fall : Stmt := topS 21
theorem sc_fall : FnScope ["weight", "row", "many", "ahead"] ["weight", "row"] (defScope s_fall) := ⟨rfl, rfl, rfl, by decide +kernel, rfl, by decide +kernel, by decide +kernel⟩
abbrev s_is_within : Stmt := topS 22
theorem sc_is_within : FnScope ["weight", "row"] ["weight", "row"] (defScope s_is_within) := ⟨rfl, rfl, rfl, by decide +kernel, rfl, by decide +kernel, by decide +kernel⟩
abbrev s_is_name : Stmt := topS 25
theorem sc_is_name : FnScope ["thing", "sign"] ["thing"] (defScope s_is_name) := ⟨rfl, rfl, rfl, by decide +kernel, rfl, by decide +kernel, by decide +kernel⟩
abbrev s_is_weight : Stmt := topS 26
theorem sc_is_weight : FnScope ["thing"] ["thing"] (defScope s_is_weight) := ⟨rfl, rfl, rfl, by decide +kernel, rfl, by decide +kernel, by decide +kernel⟩
abbrev s_is_pair : Stmt := topS 27
theorem sc_is_pair : FnScope ["thing"] ["thing"] (defScope s_is_pair) := ⟨rfl, rfl, rfl, by decide +kernel, rfl, by decide +kernel, by decide +kernel⟩
abbrev s_is_seat : Stmt := topS 28
theorem sc_is_seat : FnScope ["thing", "person", "owed", "is_empty"] ["thing"] (defScope s_is_seat) := ⟨rfl, rfl, rfl, by decide +kernel, rfl, by decide +kernel, by decide +kernel⟩
abbrev s_is_moment : Stmt := topS 29
theorem sc_is_moment : FnScope ["thing", "weight", "seats", "sitting", "seat"] ["thing"] (defScope s_is_moment) := ⟨rfl, rfl, rfl, by decide +kernel, rfl, by decide +kernel, by decide +kernel⟩
abbrev s_owing : Stmt := topS 30
theorem sc_owing : FnScope ["moment", "person", "owed"] ["moment"] (defScope s_owing) := ⟨rfl, rfl, rfl, by decide +kernel, rfl, by decide +kernel, by decide +kernel⟩
abbrev s_with_row : Stmt := topS 31
theorem sc_with_row : FnScope ["moment", "row", "weight", "seats", "owed", "person", "before"] ["moment", "row"] (defScope s_with_row) := ⟨rfl, rfl, rfl, by decide +kernel, rfl, by decide +kernel, by decide +kernel⟩
abbrev s_persons : Stmt := topS 32
theorem sc_persons : FnScope ["moment", "person", "owed"] ["moment"] (defScope s_persons) := ⟨rfl, rfl, rfl, by decide +kernel, rfl, by decide +kernel, by decide +kernel⟩
abbrev s_sits : Stmt := topS 33
theorem sc_sits : FnScope ["moment", "person"] ["moment", "person"] (defScope s_sits) := ⟨rfl, rfl, rfl, by decide +kernel, rfl, by decide +kernel, by decide +kernel⟩
abbrev s_seat_of : Stmt := topS 34
theorem sc_seat_of : FnScope ["moment", "person", "sitting", "owed"] ["moment", "person"] (defScope s_seat_of) := ⟨rfl, rfl, rfl, by decide +kernel, rfl, by decide +kernel, by decide +kernel⟩
abbrev s_owes : Stmt := topS 35
theorem sc_owes : FnScope ["moment", "person"] ["moment", "person"] (defScope s_owes) := ⟨rfl, rfl, rfl, by decide +kernel, rfl, by decide +kernel, by decide +kernel⟩
abbrev s_may_be_given : Stmt := topS 37
theorem sc_may_be_given : FnScope ["given", "difference"] ["given", "difference"] (defScope s_may_be_given) := ⟨rfl, rfl, rfl, by decide +kernel, rfl, by decide +kernel, by decide +kernel⟩
abbrev s_row_with_gift : Stmt := topS 38
theorem sc_row_with_gift : FnScope ["row", "giver", "taker", "given", "found"] ["row", "giver", "taker", "given"] (defScope s_row_with_gift) := ⟨rfl, rfl, rfl, by decide +kernel, rfl, by decide +kernel, by decide +kernel⟩
abbrev s_with_gift : Stmt := topS 39
theorem sc_with_gift : FnScope ["moment", "one", "other", "part", "giver", "taker", "row"] ["moment", "one", "other", "part"] (defScope s_with_gift) := ⟨rfl, rfl, rfl, by decide +kernel, rfl, by decide +kernel, by decide +kernel⟩
abbrev s_first_greatest : Stmt := topS 40
theorem sc_first_greatest : FnScope ["row", "found", "place", "one"] ["row"] (defScope s_first_greatest) := ⟨rfl, rfl, rfl, by decide +kernel, rfl, by decide +kernel, by decide +kernel⟩
abbrev s_first_least : Stmt := topS 41
theorem sc_first_least : FnScope ["row", "found", "place", "one"] ["row"] (defScope s_first_least) := ⟨rfl, rfl, rfl, by decide +kernel, rfl, by decide +kernel, by decide +kernel⟩
abbrev s_lesser : Stmt := topS 42
theorem sc_lesser : FnScope ["one", "other"] ["one", "other"] (defScope s_lesser) := ⟨rfl, rfl, rfl, by decide +kernel, rfl, by decide +kernel, by decide +kernel⟩
abbrev s_above_average : Stmt := topS 43
theorem sc_above_average : FnScope ["row", "average", "one"] ["row"] (defScope s_above_average) := ⟨rfl, rfl, rfl, by decide +kernel, rfl, by decide +kernel, by decide +kernel⟩
abbrev s_levelling : Stmt := topS 44
theorem sc_levelling : FnScope ["moment", "sitting", "gifts", "above", "giver", "taker", "given", "person", "one"] ["moment"] (defScope s_levelling) := ⟨rfl, rfl, rfl, by decide +kernel, rfl, by decide +kernel, by decide +kernel⟩
abbrev s_levelled : Stmt := topS 45
theorem sc_levelled : FnScope ["moment", "found", "one", "other", "given"] ["moment"] (defScope s_levelled) := ⟨rfl, rfl, rfl, by decide +kernel, rfl, by decide +kernel, by decide +kernel⟩
abbrev s_lpot : Stmt := topS 47
theorem sc_lpot : FnScope ["_law_script", "_law_k", "_law_cell"] ["_law_script", "_law_k"] (defScope s_lpot) := ⟨rfl, rfl, rfl, by decide +kernel, rfl, by decide +kernel, by decide +kernel⟩
abbrev s_ldigit : Stmt := topS 48
theorem sc_ldigit : FnScope ["_law_pot_here", "_law_many", "_law_digit_here"] ["_law_pot_here", "_law_many"] (defScope s_ldigit) := ⟨rfl, rfl, rfl, by decide +kernel, rfl, by decide +kernel, by decide +kernel⟩
abbrev s_lname : Stmt := topS 49
theorem sc_lname : FnScope ["_law_pot_here", "_law_used", "_law_letters", "_law_name_here", "_law_some", "_law_k", "_law_one"] ["_law_pot_here", "_law_used"] (defScope s_lname) := ⟨rfl, rfl, rfl, by decide +kernel, rfl, by decide +kernel, by decide +kernel⟩
abbrev s_lnames : Stmt := topS 50
theorem sc_lnames : FnScope ["_law_pot_here", "_law_many", "_law_found", "_law_k"] ["_law_pot_here", "_law_many"] (defScope s_lnames) := ⟨rfl, rfl, rfl, by decide +kernel, rfl, by decide +kernel, by decide +kernel⟩
abbrev s_llow : Stmt := topS 51
theorem sc_llow : FnScope ["_law_above", "_law_below", "_law_one", "_law_other"] ["_law_above", "_law_below"] (defScope s_llow) := ⟨rfl, rfl, rfl, by decide +kernel, rfl, by decide +kernel, by decide +kernel⟩
abbrev s_lplus : Stmt := topS 52
theorem sc_lplus : FnScope ["_law_one", "_law_other"] ["_law_one", "_law_other"] (defScope s_lplus) := ⟨rfl, rfl, rfl, by decide +kernel, rfl, by decide +kernel, by decide +kernel⟩
abbrev s_lless : Stmt := topS 53
theorem sc_lless : FnScope ["_law_one", "_law_other"] ["_law_one", "_law_other"] (defScope s_lless) := ⟨rfl, rfl, rfl, by decide +kernel, rfl, by decide +kernel, by decide +kernel⟩
abbrev s_lsum : Stmt := topS 54
theorem sc_lsum : FnScope ["_law_parts", "_law_found", "_law_one"] ["_law_parts"] (defScope s_lsum) := ⟨rfl, rfl, rfl, by decide +kernel, rfl, by decide +kernel, by decide +kernel⟩
abbrev s_lfirst : Stmt := topS 55
theorem sc_lfirst : FnScope ["_law_row_here", "_law_left", "_law_found", "_law_at", "_law_k"] ["_law_row_here"] (defScope s_lfirst) := ⟨rfl, rfl, rfl, by decide +kernel, rfl, by decide +kernel, by decide +kernel⟩
abbrev s_lweight : Stmt := topS 56
theorem sc_lweight : FnScope ["_law_row_here", "_law_weight_here", "_law_order", "_law_k", "_law_above", "_law_below", "_law_by", "_law_at"] ["_law_row_here"] (defScope s_lweight) := ⟨rfl, rfl, rfl, by decide +kernel, rfl, by decide +kernel, by decide +kernel⟩
abbrev s_lrow : Stmt := topS 57
theorem sc_lrow : FnScope ["_law_pot_here", "_law_many", "_law_row_here", "_law_k", "_law_far", "_law_above", "_law_at", "_law_below"] ["_law_pot_here", "_law_many"] (defScope s_lrow) := ⟨rfl, rfl, rfl, by decide +kernel, rfl, by decide +kernel, by decide +kernel⟩
abbrev s_lseated : Stmt := topS 58
theorem sc_lseated : FnScope ["_law_pot_here", "_law_names_here", "_law_row_here", "_law_empty", "_law_weight_here", "_law_seats", "_law_one", "_law_name_here", "_law_gone"] ["_law_pot_here", "_law_names_here"] (defScope s_lseated) := ⟨rfl, rfl, rfl, by decide +kernel, rfl, by decide +kernel, by decide +kernel⟩
abbrev s_lminus : Stmt := topS 59
theorem sc_lminus : FnScope ["_law_one", "_law_other"] ["_law_one", "_law_other"] (defScope s_lminus) := ⟨rfl, rfl, rfl, by decide +kernel, rfl, by decide +kernel, by decide +kernel⟩
abbrev s_laverage : Stmt := topS 60
theorem sc_laverage : FnScope ["_law_seats", "_law_owed", "_law_above", "_law_below", "_law_one"] ["_law_seats"] (defScope s_laverage) := ⟨rfl, rfl, rfl, by decide +kernel, rfl, by decide +kernel, by decide +kernel⟩
abbrev s_lplace : Stmt := topS 61
theorem sc_lplace : FnScope ["_law_row_here", "_law_turned", "_law_found", "_law_at", "_law_one"] ["_law_row_here", "_law_turned"] (defScope s_lplace) := ⟨rfl, rfl, rfl, by decide +kernel, rfl, by decide +kernel, by decide +kernel⟩
abbrev s_ldue : Stmt := topS 62
theorem sc_ldue : FnScope ["_law_seats", "_law_folk", "_law_average_here", "_law_gaps", "_law_found", "_law_turn", "_law_at", "_law_to", "_law_amount", "_law_lacks", "_law_one", "_law_gap"] ["_law_seats"] (defScope s_ldue) := ⟨rfl, rfl, rfl, by decide +kernel, rfl, by decide +kernel, by decide +kernel⟩
abbrev s_llevel : Stmt := topS 63
theorem sc_llevel : FnScope ["_law_moment", "_law_average_here", "_law_one"] ["_law_moment"] (defScope s_llevel) := ⟨rfl, rfl, rfl, by decide +kernel, rfl, by decide +kernel, by decide +kernel⟩
abbrev s_lno_wider : Stmt := topS 64
theorem sc_lno_wider : FnScope ["_law_before", "_law_after", "_law_first_here", "_law_second", "_law_at", "_law_to"] ["_law_before", "_law_after"] (defScope s_lno_wider) := ⟨rfl, rfl, rfl, by decide +kernel, rfl, by decide +kernel, by decide +kernel⟩
abbrev s_lright : Stmt := topS 65
theorem sc_lright : FnScope ["_law_moment", "_law_kept", "_law_due_here", "_law_level_here", "_law_told", "_law_one", "_law_many", "_law_here", "_law_other", "_law_amount", "_law_before", "_law_after"] ["_law_moment"] (defScope s_lright) := ⟨rfl, rfl, rfl, by decide +kernel, rfl, by decide +kernel, by decide +kernel⟩
abbrev s_law : Stmt := topS 66
theorem sc_law : FnScope ["_law_script", "_law_k", "_law_pot_here", "_law_names_here"] ["_law_script"] (defScope s_law) := ⟨rfl, rfl, rfl, by decide +kernel, rfl, by decide +kernel, by decide +kernel⟩
structure Tx (K : PySem.W.Frag) (mg : Str → Option Value) (base : Heap) where
  f_is_whole : Addr
  d_is_whole : FuncData
  g_is_whole : mg "is_whole" = some (.ref f_is_whole)
  F_is_whole : Fun K "is_whole" "is_whole" s_is_whole f_is_whole d_is_whole
  b_is_whole : Binds K d_is_whole ["thing"] []
  f_greatest_common : Addr
  d_greatest_common : FuncData
  g_greatest_common : mg "greatest_common" = some (.ref f_greatest_common)
  F_greatest_common : Fun K "greatest_common" "greatest_common" s_greatest_common f_greatest_common d_greatest_common
  b_greatest_common : Binds K d_greatest_common ["one", "other"] []
  f_is_part : Addr
  d_is_part : FuncData
  g_is_part : mg "is_part" = some (.ref f_is_part)
  F_is_part : Fun K "is_part" "is_part" s_is_part f_is_part d_is_part
  b_is_part : Binds K d_is_part ["thing"] []
  f_part : Addr
  d_part : FuncData
  g_part : mg "part" = some (.ref f_part)
  F_part : FunD K "part" "part" (defArgs s_part) (defBody s_part) (defScope s_part) [.int 1] [] f_part d_part
  b_part : Binds K d_part ["above", "below"] []
  v_part : List Value
  vb_part : Vals [.int 1] v_part
  b1_part : Binds K d_part ["above", "below"] v_part
  f_plus : Addr
  d_plus : FuncData
  g_plus : mg "plus" = some (.ref f_plus)
  F_plus : Fun K "plus" "plus" s_plus f_plus d_plus
  b_plus : Binds K d_plus ["one", "other"] []
  f_minus : Addr
  d_minus : FuncData
  g_minus : mg "minus" = some (.ref f_minus)
  F_minus : Fun K "minus" "minus" s_minus f_minus d_minus
  b_minus : Binds K d_minus ["one", "other"] []
  f_shared : Addr
  d_shared : FuncData
  g_shared : mg "shared" = some (.ref f_shared)
  F_shared : Fun K "shared" "shared" s_shared f_shared d_shared
  b_shared : Binds K d_shared ["one", "many"] []
  f_is_less : Addr
  d_is_less : FuncData
  g_is_less : mg "is_less" = some (.ref f_is_less)
  F_is_less : Fun K "is_less" "is_less" s_is_less f_is_less d_is_less
  b_is_less : Binds K d_is_less ["one", "other"] []
  f_total : Addr
  d_total : FuncData
  g_total : mg "total" = some (.ref f_total)
  a0 : Addr
  F_total : FunD K "total" "total" (defArgs s_total) (defBody s_total) (defScope s_total) [] [("start", .ref a0)] f_total d_total
  t0 : ∀ H : Hp, SqT K H a0 [.int 0, .int 1]
  v_total : List Value
  vb_total : Vals [.ref a0] v_total
  b_total : Binds K d_total ["row", "start"] v_total
  kb_total : KBn K d_total ["row", "start"] 1 ["start"] (fun us ws => us ++ ws) (fun us ws => us ++ ws)
  f_common_below : Addr
  d_common_below : FuncData
  g_common_below : mg "common_below" = some (.ref f_common_below)
  F_common_below : Fun K "common_below" "common_below" s_common_below f_common_below d_common_below
  b_common_below : Binds K d_common_below ["row"] []
  f_greatest_first : Addr
  d_greatest_first : FuncData
  g_greatest_first : mg "greatest_first" = some (.ref f_greatest_first)
  F_greatest_first : Fun K "greatest_first" "greatest_first" s_greatest_first f_greatest_first d_greatest_first
  b_greatest_first : Binds K d_greatest_first ["row"] []
  f_sums_ahead : Addr
  d_sums_ahead : FuncData
  g_sums_ahead : mg "sums_ahead" = some (.ref f_sums_ahead)
  F_sums_ahead : Fun K "sums_ahead" "sums_ahead" s_sums_ahead f_sums_ahead d_sums_ahead
  b_sums_ahead : Binds K d_sums_ahead ["row"] []
  f_most : Addr
  d_most : FuncData
  g_most : mg "most" = some (.ref f_most)
  F_most : Fun K "most" "most" s_most f_most d_most
  b_most : Binds K d_most ["weight", "seats", "many"] []
  f_fall : Addr
  d_fall : FuncData
  g_fall : mg "fall" = some (.ref f_fall)
  F_fall : Fun K "fall" "fall" s_fall f_fall d_fall
  b_fall : Binds K d_fall ["weight", "row"] []
  f_is_within : Addr
  d_is_within : FuncData
  g_is_within : mg "is_within" = some (.ref f_is_within)
  F_is_within : Fun K "is_within" "is_within" s_is_within f_is_within d_is_within
  b_is_within : Binds K d_is_within ["weight", "row"] []
  f_is_name : Addr
  d_is_name : FuncData
  g_is_name : mg "is_name" = some (.ref f_is_name)
  F_is_name : Fun K "is_name" "is_name" s_is_name f_is_name d_is_name
  b_is_name : Binds K d_is_name ["thing"] []
  f_is_weight : Addr
  d_is_weight : FuncData
  g_is_weight : mg "is_weight" = some (.ref f_is_weight)
  F_is_weight : Fun K "is_weight" "is_weight" s_is_weight f_is_weight d_is_weight
  b_is_weight : Binds K d_is_weight ["thing"] []
  f_is_pair : Addr
  d_is_pair : FuncData
  g_is_pair : mg "is_pair" = some (.ref f_is_pair)
  F_is_pair : Fun K "is_pair" "is_pair" s_is_pair f_is_pair d_is_pair
  b_is_pair : Binds K d_is_pair ["thing"] []
  f_is_seat : Addr
  d_is_seat : FuncData
  g_is_seat : mg "is_seat" = some (.ref f_is_seat)
  F_is_seat : Fun K "is_seat" "is_seat" s_is_seat f_is_seat d_is_seat
  b_is_seat : Binds K d_is_seat ["thing"] []
  f_is_moment : Addr
  d_is_moment : FuncData
  g_is_moment : mg "is_moment" = some (.ref f_is_moment)
  F_is_moment : Fun K "is_moment" "is_moment" s_is_moment f_is_moment d_is_moment
  b_is_moment : Binds K d_is_moment ["thing"] []
  f_owing : Addr
  d_owing : FuncData
  g_owing : mg "owing" = some (.ref f_owing)
  F_owing : Fun K "owing" "owing" s_owing f_owing d_owing
  b_owing : Binds K d_owing ["moment"] []
  f_with_row : Addr
  d_with_row : FuncData
  g_with_row : mg "with_row" = some (.ref f_with_row)
  F_with_row : Fun K "with_row" "with_row" s_with_row f_with_row d_with_row
  b_with_row : Binds K d_with_row ["moment", "row"] []
  f_persons : Addr
  d_persons : FuncData
  g_persons : mg "persons" = some (.ref f_persons)
  F_persons : Fun K "persons" "persons" s_persons f_persons d_persons
  b_persons : Binds K d_persons ["moment"] []
  f_sits : Addr
  d_sits : FuncData
  g_sits : mg "sits" = some (.ref f_sits)
  F_sits : Fun K "sits" "sits" s_sits f_sits d_sits
  b_sits : Binds K d_sits ["moment", "person"] []
  f_seat_of : Addr
  d_seat_of : FuncData
  g_seat_of : mg "seat_of" = some (.ref f_seat_of)
  F_seat_of : Fun K "seat_of" "seat_of" s_seat_of f_seat_of d_seat_of
  b_seat_of : Binds K d_seat_of ["moment", "person"] []
  f_owes : Addr
  d_owes : FuncData
  g_owes : mg "owes" = some (.ref f_owes)
  F_owes : Fun K "owes" "owes" s_owes f_owes d_owes
  b_owes : Binds K d_owes ["moment", "person"] []
  f_may_be_given : Addr
  d_may_be_given : FuncData
  g_may_be_given : mg "may_be_given" = some (.ref f_may_be_given)
  F_may_be_given : Fun K "may_be_given" "may_be_given" s_may_be_given f_may_be_given d_may_be_given
  b_may_be_given : Binds K d_may_be_given ["given", "difference"] []
  f_row_with_gift : Addr
  d_row_with_gift : FuncData
  g_row_with_gift : mg "row_with_gift" = some (.ref f_row_with_gift)
  F_row_with_gift : Fun K "row_with_gift" "row_with_gift" s_row_with_gift f_row_with_gift d_row_with_gift
  b_row_with_gift : Binds K d_row_with_gift ["row", "giver", "taker", "given"] []
  f_with_gift : Addr
  d_with_gift : FuncData
  g_with_gift : mg "with_gift" = some (.ref f_with_gift)
  F_with_gift : Fun K "with_gift" "with_gift" s_with_gift f_with_gift d_with_gift
  b_with_gift : Binds K d_with_gift ["moment", "one", "other", "part"] []
  f_first_greatest : Addr
  d_first_greatest : FuncData
  g_first_greatest : mg "first_greatest" = some (.ref f_first_greatest)
  F_first_greatest : Fun K "first_greatest" "first_greatest" s_first_greatest f_first_greatest d_first_greatest
  b_first_greatest : Binds K d_first_greatest ["row"] []
  f_first_least : Addr
  d_first_least : FuncData
  g_first_least : mg "first_least" = some (.ref f_first_least)
  F_first_least : Fun K "first_least" "first_least" s_first_least f_first_least d_first_least
  b_first_least : Binds K d_first_least ["row"] []
  f_lesser : Addr
  d_lesser : FuncData
  g_lesser : mg "lesser" = some (.ref f_lesser)
  F_lesser : Fun K "lesser" "lesser" s_lesser f_lesser d_lesser
  b_lesser : Binds K d_lesser ["one", "other"] []
  f_above_average : Addr
  d_above_average : FuncData
  g_above_average : mg "above_average" = some (.ref f_above_average)
  F_above_average : Fun K "above_average" "above_average" s_above_average f_above_average d_above_average
  b_above_average : Binds K d_above_average ["row"] []
  f_levelling : Addr
  d_levelling : FuncData
  g_levelling : mg "levelling" = some (.ref f_levelling)
  F_levelling : Fun K "levelling" "levelling" s_levelling f_levelling d_levelling
  b_levelling : Binds K d_levelling ["moment"] []
  f_levelled : Addr
  d_levelled : FuncData
  g_levelled : mg "levelled" = some (.ref f_levelled)
  F_levelled : Fun K "levelled" "levelled" s_levelled f_levelled d_levelled
  b_levelled : Binds K d_levelled ["moment"] []
  f_lpot : Addr
  d_lpot : FuncData
  g_lpot : mg "_law_pot" = some (.ref f_lpot)
  F_lpot : Fun K "_law_pot" "_law_pot" s_lpot f_lpot d_lpot
  b_lpot : Binds K d_lpot ["_law_script", "_law_k"] []
  f_ldigit : Addr
  d_ldigit : FuncData
  g_ldigit : mg "_law_digit" = some (.ref f_ldigit)
  F_ldigit : Fun K "_law_digit" "_law_digit" s_ldigit f_ldigit d_ldigit
  b_ldigit : Binds K d_ldigit ["_law_pot_here", "_law_many"] []
  f_lname : Addr
  d_lname : FuncData
  g_lname : mg "_law_name" = some (.ref f_lname)
  F_lname : Fun K "_law_name" "_law_name" s_lname f_lname d_lname
  b_lname : Binds K d_lname ["_law_pot_here", "_law_used"] []
  f_lnames : Addr
  d_lnames : FuncData
  g_lnames : mg "_law_names" = some (.ref f_lnames)
  F_lnames : Fun K "_law_names" "_law_names" s_lnames f_lnames d_lnames
  b_lnames : Binds K d_lnames ["_law_pot_here", "_law_many"] []
  f_llow : Addr
  d_llow : FuncData
  g_llow : mg "_law_low" = some (.ref f_llow)
  F_llow : Fun K "_law_low" "_law_low" s_llow f_llow d_llow
  b_llow : Binds K d_llow ["_law_above", "_law_below"] []
  f_lplus : Addr
  d_lplus : FuncData
  g_lplus : mg "_law_plus" = some (.ref f_lplus)
  F_lplus : Fun K "_law_plus" "_law_plus" s_lplus f_lplus d_lplus
  b_lplus : Binds K d_lplus ["_law_one", "_law_other"] []
  f_lless : Addr
  d_lless : FuncData
  g_lless : mg "_law_less" = some (.ref f_lless)
  F_lless : Fun K "_law_less" "_law_less" s_lless f_lless d_lless
  b_lless : Binds K d_lless ["_law_one", "_law_other"] []
  f_lsum : Addr
  d_lsum : FuncData
  g_lsum : mg "_law_sum" = some (.ref f_lsum)
  F_lsum : Fun K "_law_sum" "_law_sum" s_lsum f_lsum d_lsum
  b_lsum : Binds K d_lsum ["_law_parts"] []
  f_lfirst : Addr
  d_lfirst : FuncData
  g_lfirst : mg "_law_first" = some (.ref f_lfirst)
  F_lfirst : Fun K "_law_first" "_law_first" s_lfirst f_lfirst d_lfirst
  b_lfirst : Binds K d_lfirst ["_law_row_here"] []
  f_lweight : Addr
  d_lweight : FuncData
  g_lweight : mg "_law_weight" = some (.ref f_lweight)
  F_lweight : Fun K "_law_weight" "_law_weight" s_lweight f_lweight d_lweight
  b_lweight : Binds K d_lweight ["_law_row_here"] []
  f_lrow : Addr
  d_lrow : FuncData
  g_lrow : mg "_law_row" = some (.ref f_lrow)
  F_lrow : Fun K "_law_row" "_law_row" s_lrow f_lrow d_lrow
  b_lrow : Binds K d_lrow ["_law_pot_here", "_law_many"] []
  f_lseated : Addr
  d_lseated : FuncData
  g_lseated : mg "_law_seated" = some (.ref f_lseated)
  F_lseated : Fun K "_law_seated" "_law_seated" s_lseated f_lseated d_lseated
  b_lseated : Binds K d_lseated ["_law_pot_here", "_law_names_here"] []
  f_lminus : Addr
  d_lminus : FuncData
  g_lminus : mg "_law_minus" = some (.ref f_lminus)
  F_lminus : Fun K "_law_minus" "_law_minus" s_lminus f_lminus d_lminus
  b_lminus : Binds K d_lminus ["_law_one", "_law_other"] []
  f_laverage : Addr
  d_laverage : FuncData
  g_laverage : mg "_law_average" = some (.ref f_laverage)
  F_laverage : Fun K "_law_average" "_law_average" s_laverage f_laverage d_laverage
  b_laverage : Binds K d_laverage ["_law_seats"] []
  f_lplace : Addr
  d_lplace : FuncData
  g_lplace : mg "_law_place" = some (.ref f_lplace)
  F_lplace : Fun K "_law_place" "_law_place" s_lplace f_lplace d_lplace
  b_lplace : Binds K d_lplace ["_law_row_here", "_law_turned"] []
  f_ldue : Addr
  d_ldue : FuncData
  g_ldue : mg "_law_due" = some (.ref f_ldue)
  F_ldue : Fun K "_law_due" "_law_due" s_ldue f_ldue d_ldue
  b_ldue : Binds K d_ldue ["_law_seats"] []
  f_llevel : Addr
  d_llevel : FuncData
  g_llevel : mg "_law_level" = some (.ref f_llevel)
  F_llevel : Fun K "_law_level" "_law_level" s_llevel f_llevel d_llevel
  b_llevel : Binds K d_llevel ["_law_moment"] []
  f_lno_wider : Addr
  d_lno_wider : FuncData
  g_lno_wider : mg "_law_no_wider" = some (.ref f_lno_wider)
  F_lno_wider : Fun K "_law_no_wider" "_law_no_wider" s_lno_wider f_lno_wider d_lno_wider
  b_lno_wider : Binds K d_lno_wider ["_law_before", "_law_after"] []
  f_lright : Addr
  d_lright : FuncData
  g_lright : mg "_law_right" = some (.ref f_lright)
  F_lright : Fun K "_law_right" "_law_right" s_lright f_lright d_lright
  b_lright : Binds K d_lright ["_law_moment"] []
  f_law : Addr
  d_law : FuncData
  g_law : mg "law" = some (.ref f_law)
  F_law : Fun K "law" "law" s_law f_law d_law
  b_law : Binds K d_law ["_law_script"] []
  a_NOUGHT : Addr
  g_NOUGHT : mg "NOUGHT" = some (.ref a_NOUGHT)
  t_NOUGHT : ∀ H : Hp, SqT K H a_NOUGHT [.int 0, .int 1]
  v_EMPTY : Value
  g_EMPTY : mg "EMPTY" = some v_EMPTY
  r_EMPTY : RelV (.str "") v_EMPTY
  c_tab0 : Addr
  P_tab0 : Addr
  hc_tab0 : d_greatest_first.code = .ref c_tab0
  tb0 : LamX.TabB base mg c_tab0 P_tab0
  n_abs : mg "abs" = none
  n_all : mg "all" = none
  n_any : mg "any" = none
  n_bool : mg "bool" = none
  n_divmod : mg "divmod" = none
  n_enumerate : mg "enumerate" = none
  n_int : mg "int" = none
  n_isinstance : mg "isinstance" = none
  n_len : mg "len" = none
  n_list : mg "list" = none
  n_max : mg "max" = none
  n_min : mg "min" = none
  n_range : mg "range" = none
  n_repr : mg "repr" = none
  n_set : mg "set" = none
  n_sorted : mg "sorted" = none
  n_str : mg "str" = none
  n_tuple : mg "tuple" = none
  n_zip : mg "zip" = none
abbrev Tx.TT {K : PySem.W.Frag} {mg : Str → Option Value} {base : Heap} (T : Tx K mg base) : List (Addr × Str) := [(T.P_tab0, qLam)]
section
variable {P : Program} {w : World} {K : PySem.W.Frag} {mg : Str → Option Value} {base : Heap}
theorem ok_is_whole (T : Tx K mg base) : FnOk P w K mg base CX0 1 T.f_is_whole T.d_is_whole ["thing"] (spWhole K) := by
  refine T.F_is_whole.ok sc_is_whole (fun vs H Q E h => ?_) (fun cdv A outer s H vs Q E hr h => ?_)
  · obtain ⟨v, b, rfl, _⟩ := h
    rfl
  · obtain ⟨v, b, rfl, ⟨t, b1, b2, ht, k1, k2, rfl⟩, q⟩ := h
    refine ⟨_, (pss_one (ps_ret (pe_and (pe_callB call_isi (by rfl) T.n_isinstance (by decide +kernel) (pa_cons (pv 0) (pa_cons (pe_bltn (v := .ty "int") (by rfl) T.n_int (by decide +kernel) rfl) pa_nil))) (pe_one (pe_not (pe_callB call_isi (by rfl) T.n_isinstance (by decide +kernel) (pa_cons (pv 0) (pa_cons (pe_bltn (v := .ty "bool") (by rfl) T.n_bool (by decide +kernel) rfl) pa_nil)))))))), ?_⟩
    refine ⟨v, rfl, v, _, t, _, b1, rfl, .ty "int", ht, k1, b1, rfl, ?_⟩
    cases b1 with
    | false => exact iteF q
    | true => exact iteT ⟨v, rfl, v, _, t, _, b2, rfl, .ty "bool", ht, k2, b2, rfl, q⟩
theorem ok_greatest_common (T : Tx K mg base) : FnOk P w K mg base CX0 1 T.f_greatest_common T.d_greatest_common ["one", "other"] spGcd := by
  refine T.F_greatest_common.ok sc_greatest_common (fun vs H Q E h => ?_) (fun cdv A outer s H vs Q E hr h => ?_)
  · obtain ⟨x, y, rfl, _⟩ := h
    rfl
  · obtain ⟨x, y, rfl, hx, hy, q⟩ := h
    refine ⟨_, (pss_cons (ps_while PassesOwn.never (pt_cmpR op_ne (pv 1) pe_int (nomark _)) (pss_one (ps_par (i := 0) (j := 1) (by rfl) sc_greatest_common.nd rfl rfl (by decide) rfl rfl (pa_cons (pv 1) (pa_cons (pe_op op_mod (pv 0) (pv 1)) pa_nil)) (by rfl))))
        (pss_one (ps_ret (pv 0)))), ?_⟩
    refine while_by (fun σ H' => ∃ a b : Int, σ = [some (.int a), some (.int b)] ∧ 0 ≤ a ∧ 0 ≤ b ∧ Int.gcd a b = Int.gcd x y ∧ H' = H)
      (fun σ _ => match σ with | [_, some (.int b)] => b.toNat | _ => 0) ⟨x, y, rfl, hx, hy, rfl, rfl⟩ ?_ ?_
    · rintro σ H' ⟨a, b, rfl, ha, hb, eg, rfl⟩
      refine ⟨_, rfl, rfl, _, rfl, ?_⟩
      by_cases c : b = 0
      · subst c
        refine iteNS rfl ?_
        refine ⟨_, rfl, ?_⟩
        have e := gcd_zero ha
        rw [eg] at e
        rw [← e]
        exact q
      · have hb' : 0 < b := by omega
        have d : decide (V.int b = V.int 0) = false := decide_eq_false (fun z => c (V.int.inj z))
        rw [d]
        refine iteT ?_
        refine ⟨_, rfl, _, rfl, _, rfl, _, _, rfl, rfl, hb', _, _, rfl, ?_, ?_⟩
        · exact ⟨b, a % b, rfl, hb, Int.emod_nonneg a c, (gcd_step ha hb').trans eg, rfl⟩
        · show (a % b).toNat < b.toNat
          have := Int.emod_lt_of_pos a hb'
          omega
    · rintro σ H Q Q' k ⟨v, h1, h2, c, h3, q⟩
      exact ⟨v, h1, h2, c, h3, k _ _ q⟩
theorem ok_is_part (T : Tx K mg base) : FnOk P w K mg base CX0 2 T.f_is_part T.d_is_part ["thing"] (spPair K) := by
  refine T.F_is_part.ok sc_is_part (fun vs H Q E h => ?_) (fun cdv A outer s H vs Q E hr h => ?_)
  · obtain ⟨v, b, rfl, _⟩ := h
    rfl
  · obtain ⟨v, b, rfl, hv, q⟩ := h
    refine ⟨_, (pss_cons (ps_if (PW.pt (pw_or (pt_not (pt_val (pe_callB call_isi (by rfl) T.n_isinstance (by decide +kernel) (pa_cons (pv 0) (pa_cons (pe_bltn (v := .ty "tuple") (by rfl) T.n_tuple (by decide +kernel) rfl) pa_nil))))) (pw_or1 (pt_cmpR op_ne (pe_callB call_len_seq (by rfl) T.n_len (by decide +kernel) (pa_cons (pv 0) pa_nil)) pe_int (nomark _))))) (pss_one (ps_ret pe_bl)) pss_nil)
        (pss_cons (ps_asg (pv 0) (pg_tup (by rfl) (pgs_cons (pg_name (i := 1) sc_is_part.nd rfl (.inl rfl)) (pgs_cons (pg_name (i := 2) sc_is_part.nd rfl (.inl rfl)) pgs_nil))))
        (pss_cons (ps_if (PW.pt (pw_or (pt_not (pt_val (pe_call (ok_is_whole T) (hr.mono (by decide)) (by rfl) T.g_is_whole T.F_is_whole.kp T.b_is_whole .nil pass0 (pa_cons (pv 1) pa_nil)))) (pw_or (pt_not (pt_val (pe_call (ok_is_whole T) (hr.mono (by decide)) (by rfl) T.g_is_whole T.F_is_whole.kp T.b_is_whole .nil pass0 (pa_cons (pv 2) pa_nil)))) (pw_or1 (pt_cmpR op_le (pv 2) pe_int (nomark _)))))) (pss_one (ps_ret pe_bl)) pss_nil)
        (pss_one (ps_ret (pe_cmpR op_eq (pe_call (ok_greatest_common T) (hr.mono (by decide)) (by rfl) T.g_greatest_common T.F_greatest_common.kp T.b_greatest_common .nil pass0 (pa_cons (pe_callB call_abs (by rfl) T.n_abs (by decide +kernel) (pa_cons (pv 1) pa_nil)) (pa_cons (pv 2) pa_nil))) pe_int (nomark _))))))), ?_⟩
    rcases hv with ⟨rfl, t, ht, kt⟩ | ⟨a, xs, rfl, ht, hv⟩
    · exact ⟨_, rfl, _, _, t, _, false, rfl, .ty "tuple", ht, kt, false, rfl, iteT (iteT q)⟩
    · refine ⟨_, rfl, _, _, _, _, true, rfl, .ty "tuple", sqt_ty ht, kit_ty (by decide +kernel), true, rfl, iteF ?_⟩
      refine ⟨_, rfl, a, xs, rfl, .inr ht, rfl, _, rfl, ?_⟩
      rcases hv with ⟨rfl, hl⟩ | ⟨x, y, rfl, hv⟩
      · rw [decide_eq_false (show ¬ V.int (xs.length : Int) = V.int 2 from fun z => hl (by have := V.int.inj z; omega))]
        exact iteT q
      · refine iteF ?_
        refine ⟨_, rfl, a, _, rfl, ht, rfl, x, [y], rfl, y, [], rfl, rfl, ?_⟩
        rcases hv with ⟨rfl, hx⟩ | ⟨i, rfl, rfl, hy⟩ | ⟨i, j, rfl, rfl, rfl⟩
        · exact ⟨_, rfl, _, _, rfl, hx, false, rfl, iteT (iteT q)⟩
        · refine ⟨_, rfl, _, _, rfl, whole_int, true, rfl, iteF ?_⟩
          exact ⟨_, rfl, _, _, rfl, hy, false, rfl, iteT (iteT q)⟩
        · refine ⟨_, rfl, _, _, rfl, whole_int, true, rfl, iteF ⟨_, rfl, _, _, rfl, whole_int, true, rfl, iteF ?_⟩⟩
          refine ⟨_, rfl, _, _, rfl, rfl, _, rfl, ?_⟩
          by_cases c : 0 < j
          · rw [decide_eq_false (show ¬ j ≤ 0 by omega)]
            refine iteF ?_
            refine ⟨_, rfl, _, rfl, _, rfl, _, _, rfl, by split <;> omega, by omega, rfl, ?_⟩
            rw [gcd_abs]
            rw [decide_eq_true c, Bool.true_and] at q
            rw [decide_eq_decide.mpr (show V.int (Int.gcd i j : Int) = V.int 1 ↔ (Int.gcd i j : Int) = 1 from ⟨V.int.inj, congrArg V.int⟩)]
            exact q
          · rw [decide_eq_true (show j ≤ 0 by omega)]
            rw [decide_eq_false c, Bool.false_and] at q
            exact iteT q
theorem ok_part (T : Tx K mg base) : FnOk P w K mg base CX0 3 T.f_part T.d_part ["above", "below"] (spLow K) := by
  refine T.F_part.ok sc_part (fun vs H Q E h => ?_) (fun cdv A outer s H vs Q E hr h => ?_)
  · obtain ⟨a, b, rfl, _⟩ := h
    rfl
  · obtain ⟨a, b, rfl, hb, h9, q⟩ := h
    refine ⟨_, PSs.nox (pss_cons (ps_if (PW.pt (pw_or (pt_not (pt_val (pe_call (ok_is_whole T) (hr.mono (by decide)) (by rfl) T.g_is_whole T.F_is_whole.kp T.b_is_whole .nil pass0 (pa_cons (pv 0) pa_nil)))) (pw_or1 (pt_not (pt_val (pe_call (ok_is_whole T) (hr.mono (by decide)) (by rfl) T.g_is_whole T.F_is_whole.kp T.b_is_whole .nil pass0 (pa_cons (pv 1) pa_nil))))))) (pss_one ps_never) pss_nil)
        (pss_cons (ps_if (pt_cmpR op_eq (pv 1) pe_int (nomark _)) (pss_one ps_never) pss_nil)
        (pss_cons (ps_if (pt_cmpR op_lt (pv 1) pe_int (nomark _)) (pss_one (ps_par (i := 0) (j := 1) (by rfl) sc_part.nd rfl rfl (by decide) rfl rfl (pa_cons (pe_un un_neg (pv 0)) (pa_cons (pe_un un_neg (pv 1)) pa_nil)) (by rfl))) pss_nil)
        (pss_cons (ps_set (i := 2) sc_part.nd rfl (.inl rfl) (pe_call (ok_greatest_common T) (hr.mono (by decide)) (by rfl) T.g_greatest_common T.F_greatest_common.kp T.b_greatest_common .nil pass0 (pa_cons (pe_callB call_abs (by rfl) T.n_abs (by decide +kernel) (pa_cons (pv 0) pa_nil)) (pa_cons (pv 1) pa_nil))))
        (pss_one (ps_ret (pe_tup (pa_cons (pe_op op_fdivW (pv 0) (pv 2)) (pa_cons (pe_op op_fdivW (pv 1) (pv 2)) pa_nil))))))))), ?_⟩
    refine ⟨_, rfl, _, _, rfl, whole_int, true, rfl, iteF ⟨_, rfl, _, _, rfl, whole_int, true, rfl, iteF ?_⟩⟩
    refine ⟨_, rfl, rfl, _, rfl, ?_⟩
    rw [show decide (V.int b = V.int 0) = false from decide_eq_false (fun z => by have := V.int.inj z; omega)]
    refine iteF ?_
    refine ⟨_, rfl, _, _, rfl, rfl, _, rfl, ?_⟩
    rw [show decide (b < 0) = false from decide_eq_false (by omega)]
    refine iteF ?_
    refine ⟨_, rfl, _, rfl, _, rfl, _, _, rfl, by split <;> omega, by omega, ?_⟩
    rw [gcd_abs]
    have g0 : 0 < (Int.gcd a b : Int) := by have := gcd_pos (a := a) (b := b) (by omega); omega
    have g9 : Bt 8999 (Int.gcd a b : Int) := gcd_bt hb h9
    refine ⟨_, rfl, _, rfl, _, _, rfl, rfl, g9.cdiv g0 (by decide), _, rfl, _, rfl, _, _, rfl, rfl, g9.cdiv g0 (by decide), by show 2 ≤ sizeLine; decide, fun p np => q _ _ (same_new np) TupI.new⟩
theorem ok_plus (T : Tx K mg base) : FnOk P w K mg base CX0 4 T.f_plus T.d_plus ["one", "other"] (spTwo K fun a b c d => lo (a * d + c * b) (b * d)) := by
  refine T.F_plus.ok sc_plus (fun vs H Q E h => ?_) (fun cdv A outer s H vs Q E hr h => ?_)
  · obtain ⟨u, v, a, b, c, d, rfl, _⟩ := h
    rfl
  · obtain ⟨u, v, a, b, c, d, rfl, ⟨t, rfl, ht⟩, ⟨r, rfl, hv⟩, hb, hd, ba, bb, bc, bd, q⟩ := h
    refine ⟨_, (pss_one (ps_ret (pe_call (ok_part T) (hr.mono (by decide)) (by rfl) T.g_part T.F_part.kp T.b_part .nil pass0 (pa_cons (pe_op op_add (pe_op op_mulW (pe_ix ix_tup (pv 0) pe_int (fun _ _ => rfl)) (pe_ix ix_tup (pv 1) pe_int (fun _ _ => rfl))) (pe_op op_mulW (pe_ix ix_tup (pv 1) pe_int (fun _ _ => rfl)) (pe_ix ix_tup (pv 0) pe_int (fun _ _ => rfl)))) (pa_cons (pe_op op_mulW (pe_ix ix_tup (pv 0) pe_int (fun _ _ => rfl)) (pe_ix ix_tup (pv 1) pe_int (fun _ _ => rfl))) pa_nil))))), ?_⟩
    refine ⟨_, rfl, t, _, 0, _, rfl, rfl, ht, atI_nat (j := 0) rfl, _, rfl, r, _, 1, _, rfl, rfl, hv, atI_nat (j := 1) rfl, _, _, rfl, rfl, ba.cmul bd (by decide), ?_⟩
    refine ⟨_, rfl, r, _, 0, _, rfl, rfl, hv, atI_nat (j := 0) rfl, _, rfl, t, _, 1, _, rfl, rfl, ht, atI_nat (j := 1) rfl, _, _, rfl, rfl, bc.cmul bb (by decide), ?_⟩
    refine ⟨_, _, rfl, rfl, ?_⟩
    refine ⟨_, rfl, t, _, 1, _, rfl, rfl, ht, atI_nat (j := 1) rfl, _, rfl, r, _, 1, _, rfl, rfl, hv, atI_nat (j := 1) rfl, _, _, rfl, rfl, bb.cmul bd (by decide), ?_⟩
    exact ⟨_, _, rfl, Int.mul_pos hb hd, (bb.mul bd).mono (by decide), q⟩
theorem ok_minus (T : Tx K mg base) : FnOk P w K mg base CX0 4 T.f_minus T.d_minus ["one", "other"] (spTwo K fun a b c d => lo (a * d - c * b) (b * d)) := by
  refine T.F_minus.ok sc_minus (fun vs H Q E h => ?_) (fun cdv A outer s H vs Q E hr h => ?_)
  · obtain ⟨u, v, a, b, c, d, rfl, _⟩ := h
    rfl
  · obtain ⟨u, v, a, b, c, d, rfl, ⟨t, rfl, ht⟩, ⟨r, rfl, hv⟩, hb, hd, ba, bb, bc, bd, q⟩ := h
    refine ⟨_, (pss_one (ps_ret (pe_call (ok_part T) (hr.mono (by decide)) (by rfl) T.g_part T.F_part.kp T.b_part .nil pass0 (pa_cons (pe_op op_sub (pe_op op_mulW (pe_ix ix_tup (pv 0) pe_int (fun _ _ => rfl)) (pe_ix ix_tup (pv 1) pe_int (fun _ _ => rfl))) (pe_op op_mulW (pe_ix ix_tup (pv 1) pe_int (fun _ _ => rfl)) (pe_ix ix_tup (pv 0) pe_int (fun _ _ => rfl)))) (pa_cons (pe_op op_mulW (pe_ix ix_tup (pv 0) pe_int (fun _ _ => rfl)) (pe_ix ix_tup (pv 1) pe_int (fun _ _ => rfl))) pa_nil))))), ?_⟩
    refine ⟨_, rfl, t, _, 0, _, rfl, rfl, ht, atI_nat (j := 0) rfl, _, rfl, r, _, 1, _, rfl, rfl, hv, atI_nat (j := 1) rfl, _, _, rfl, rfl, ba.cmul bd (by decide), ?_⟩
    refine ⟨_, rfl, r, _, 0, _, rfl, rfl, hv, atI_nat (j := 0) rfl, _, rfl, t, _, 1, _, rfl, rfl, ht, atI_nat (j := 1) rfl, _, _, rfl, rfl, bc.cmul bb (by decide), ?_⟩
    refine ⟨_, _, rfl, rfl, ?_⟩
    refine ⟨_, rfl, t, _, 1, _, rfl, rfl, ht, atI_nat (j := 1) rfl, _, rfl, r, _, 1, _, rfl, rfl, hv, atI_nat (j := 1) rfl, _, _, rfl, rfl, bb.cmul bd (by decide), ?_⟩
    exact ⟨_, _, rfl, Int.mul_pos hb hd, (bb.mul bd).mono (by decide), q⟩
theorem ok_is_less (T : Tx K mg base) : FnOk P w K mg base CX0 1 T.f_is_less T.d_is_less ["one", "other"] (spLess K) := by
  refine T.F_is_less.ok sc_is_less (fun vs H Q E h => ?_) (fun cdv A outer s H vs Q E hr h => ?_)
  · obtain ⟨u, v, a, b, c, d, rfl, _⟩ := h
    rfl
  · obtain ⟨u, v, a, b, c, d, rfl, ⟨t, rfl, ht⟩, ⟨r, rfl, hv⟩, ba, bb, bc, bd, q⟩ := h
    refine ⟨_, (pss_one (ps_ret (pe_cmpR op_lt (pe_op op_mulW (pe_ix ix_tup (pv 0) pe_int (fun _ _ => rfl)) (pe_ix ix_tup (pv 1) pe_int (fun _ _ => rfl))) (pe_op op_mulW (pe_ix ix_tup (pv 1) pe_int (fun _ _ => rfl)) (pe_ix ix_tup (pv 0) pe_int (fun _ _ => rfl))) (nomark _)))), ?_⟩
    refine ⟨_, rfl, t, _, 0, _, rfl, rfl, ht, atI_nat (j := 0) rfl, _, rfl, r, _, 1, _, rfl, rfl, hv, atI_nat (j := 1) rfl, _, _, rfl, rfl, ba.cmul bd (by decide), ?_⟩
    refine ⟨_, rfl, r, _, 0, _, rfl, rfl, hv, atI_nat (j := 0) rfl, _, rfl, t, _, 1, _, rfl, rfl, ht, atI_nat (j := 1) rfl, _, _, rfl, rfl, bc.cmul bb (by decide), ?_⟩
    exact ⟨_, _, rfl, rfl, q⟩
theorem ok_total (T : Tx K mg base) : FnOk P w K mg base CX0 5 T.f_total T.d_total ["row", "start"] (spTotalS K) := by
  refine T.F_total.ok sc_total (fun vs H Q E h => ?_) (fun cdv A outer s H vs Q E hr h => ?_)
  · obtain ⟨l, u, a, b, rs, ps, rfl, _⟩ := h
    rfl
  · obtain ⟨l, u, a, b, rs, ps, rfl, hR, hu, hP, hk, hf, q⟩ := h
    refine ⟨_, PSs.nox (pss_cons (ps_set (i := 2) sc_total.nd rfl (.inl rfl) (pv 1))
        (pss_cons (ps_for PassesOwn.never rfl (pi_or (pi_list (pv 0)) (pi_tup (pv 0))) (pg_name (i := 3) sc_total.nd rfl (.inl rfl)) (pss_one (ps_set (i := 2) sc_total.nd rfl (.inl rfl) (pe_call (ok_plus T) (hr.mono (by decide)) (by rfl) T.g_plus T.F_plus.kp T.b_plus .nil pass0 (pa_cons (pv 2) (pa_cons (pv 3) pa_nil))))))
        (pss_one (ps_ret (pv 2))))), ?_⟩
    refine ⟨_, rfl, ?_⟩
    rcases hR with hR | hR
    · skip
      refine .inl ⟨_, rfl, l, rfl, ⟨_, hR⟩, for_list (K := K) (a := l) (xs := rs) (fun i σ H' => ∃ v y, σ = [some (.ref l), some u, some v, y] ∧ Same H H' ∧ TupI K H' v ((ps.take i).foldl pl (a, b)).1 ((ps.take i).foldl pl (a, b)).2)
        ⟨u, none, rfl, Same.refl H, hu⟩ (fun i σ H' _ ⟨_, _, _, s, _⟩ => s.seq hR) ?_ ?_⟩
      · rintro i x σ H' hx ⟨v, y, rfl, s, hv⟩
        obtain ⟨p, hp, ht⟩ := hP.2 i x hx
        have hi : i < ps.length := by
          rcases Nat.lt_or_ge i ps.length with h | h
          · exact h
          · rw [List.getElem?_eq_none h] at hp; cases hp
        have o2 := hk p (List.mem_of_getElem? hp)
        have o1' := hf i
        have o2' : Okp 4400 p := o2
        refine ⟨_, rfl, _, rfl, _, _, _, _, _, _, rfl, hv, ht.same s, o1'.1, o2'.1, o1'.2.1.mono (by decide), o1'.2.2, o2'.2.1.mono (by decide), o2'.2.2, fun t H2 st ht2 => ?_⟩
        refine ⟨t, some x, rfl, s.trans st, ?_⟩
        rw [take_fold hp]
        exact ht2
      · rintro σ H' ⟨v, y, rfl, s, hv⟩
        rw [hP.1, List.take_length] at hv
        exact ⟨_, rfl, q v H' s hv⟩
    · skip
      refine .inr ⟨_, rfl, l, rfl, ⟨_, hR⟩, for_tup (K := K) (a := l) (xs := rs) (fun i σ H' => ∃ v y, σ = [some (.ref l), some u, some v, y] ∧ Same H H' ∧ TupI K H' v ((ps.take i).foldl pl (a, b)).1 ((ps.take i).foldl pl (a, b)).2)
        ⟨u, none, rfl, Same.refl H, hu⟩ (fun i σ H' _ ⟨_, _, _, s, _⟩ => Same.tup s hR) ?_ ?_⟩
      · rintro i x σ H' hx ⟨v, y, rfl, s, hv⟩
        obtain ⟨p, hp, ht⟩ := hP.2 i x hx
        have hi : i < ps.length := by
          rcases Nat.lt_or_ge i ps.length with h | h
          · exact h
          · rw [List.getElem?_eq_none h] at hp; cases hp
        have o2 := hk p (List.mem_of_getElem? hp)
        have o1' := hf i
        have o2' : Okp 4400 p := o2
        refine ⟨_, rfl, _, rfl, _, _, _, _, _, _, rfl, hv, ht.same s, o1'.1, o2'.1, o1'.2.1.mono (by decide), o1'.2.2, o2'.2.1.mono (by decide), o2'.2.2, fun t H2 st ht2 => ?_⟩
        refine ⟨t, some x, rfl, s.trans st, ?_⟩
        rw [take_fold hp]
        exact ht2
      · rintro σ H' ⟨v, y, rfl, s, hv⟩
        rw [hP.1, List.take_length] at hv
        exact ⟨_, rfl, q v H' s hv⟩
theorem ok_most (T : Tx K mg base) : FnOk P w K mg base CX0 4 T.f_most T.d_most ["weight", "seats", "many"] (spMostW K) := by
  refine T.F_most.ok sc_most (fun vs H Q E h => ?_) (fun cdv A outer s H vs Q E hr h => ?_)
  · obtain ⟨a, n, k, rfl, _⟩ := h
    rfl
  · obtain ⟨a, n, k, rfl, ba, bn, bk, q⟩ := h
    refine ⟨_, (pss_one (ps_ret (pe_call (ok_part T) (hr.mono (by decide)) (by rfl) T.g_part T.F_part.kp T.b_part .nil pass0 (pa_cons (pe_op op_mulW (pe_op op_mulW (pv 0) (pv 2)) (pe_op op_sub (pv 1) (pv 2))) (pa_cons pe_int pa_nil))))), ?_⟩
    refine ⟨_, rfl, _, rfl, _, _, rfl, rfl, ba.cmul bk (by decide), _, rfl, _, rfl, _, _, rfl, rfl, _, _, rfl, rfl, (ba.mul bk).cmul (bn.sub bk) (by decide), ?_⟩
    exact ⟨_, _, rfl, by decide, by unfold Bt; decide +kernel, q⟩
theorem ok_lpot (T : Tx K mg base) : FnOk P w K mg base CX0 1 T.f_lpot T.d_lpot ["_law_script", "_law_k"] (spPot K) := by
  refine T.F_lpot.ok sc_lpot (fun vs H Q E h => ?_) (fun cdv A outer s H vs Q E hr h => ?_)
  · obtain ⟨a, ns, k, rfl, _⟩ := h
    rfl
  · obtain ⟨a, ns, k, rfl, hS, k0, k1, q⟩ := h
    refine ⟨_, (pss_cons (ps_set (i := 2) sc_lpot.nd rfl (.inl rfl) pe_int)
        (pss_cons (ps_if (pt_cmpR op_lt (pv 1) (pe_callB call_len_seq (by rfl) T.n_len (by decide +kernel) (pa_cons (pv 0) pa_nil)) (nomark _)) (pss_one (ps_set (i := 2) sc_lpot.nd rfl (.inl rfl) (pe_callB call_abs (by rfl) T.n_abs (by decide +kernel) (pa_cons (pe_ix ix_list (pv 0) (pv 1) (fun _ _ => rfl)) pa_nil)))) pss_nil)
        (pss_one (ps_ret (pe_lst (pa_cons (pe_callB (call_max2 (by rfl)) (by rfl) T.n_max (by decide +kernel) (pa_cons pe_int (pa_cons (pe_op op_sub (pv 2) (pe_op op_pow pe_int pe_int)) pa_nil))) (pa_cons (pe_op op_add (pe_op op_mod (pe_op op_pow (pe_op op_add (pe_op op_add (pe_op op_mod (pv 2) pe_int) (pe_op op_mulW pe_int (pv 1))) pe_int) pe_int) pe_int) pe_int) pa_nil))))))), ?_⟩
    have fin : ∀ c : Int, 0 ≤ c → (tRet (tLst (tCons (tCB (fun xs H Q => ∃ i j, xs = [.int i, .int j] ∧ Q (.int (if j > i then j else i)) H) (tCons (tC (.int 0)) (tCons (tOp (rI0 fun i j => .int (i - j)) (tVar 2) (tOp (rI CPow fun i j => .int (i ^ j.toNat)) (tC (.int 10)) (tC (.int 18)))) tNil))) (tCons (tOp (rI0 fun i j => .int (i + j)) (tOp (rI (fun _ j => 0 < j) fun i j => .int (i % j)) (tOp (rI CPow fun i j => .int (i ^ j.toNat)) (tOp (rI0 fun i j => .int (i + j)) (tOp (rI0 fun i j => .int (i + j)) (tOp (rI (fun _ j => 0 < j) fun i j => .int (i % j)) (tVar 2) (tC (.int 2147483423))) (tOp (rI CMulW fun i j => .int (i * j)) (tC (.int 89)) (tVar 1))) (tC (.int 7))) (tC (.int 2))) (tC (.int 2147483399))) (tC (.int 1))) tNil)))) { nx := fun _ H' => Q .non H', rt := Q } [some (.ref a), some (.int k), some (.int c)] H := by
      intro c hc
      refine ⟨_, rfl, _, _, rfl, rfl, ⟨by decide, by decide, by decide⟩, _, _, rfl, rfl, _, _, rfl, ?_⟩
      have m0 : 0 ≤ c % 2147483423 := Int.emod_nonneg _ (by decide)
      have m1 : c % 2147483423 < 2147483423 := Int.emod_lt_of_pos _ (by decide)
      refine ⟨_, rfl, _, _, rfl, rfl, by show (0 : Int) < 2147483423; decide, _, rfl, _, _, rfl, rfl, ?_, _, _, rfl, rfl, _, _, rfl, rfl, _, _, rfl, rfl, ⟨by decide, by decide, ?_⟩, _, _, rfl, rfl, by show (0 : Int) < 2147483399; decide, _, _, rfl, rfl, by show 2 ≤ sizeLine; decide, fun p np => ?_⟩
      · exact Bt.cmul (n := 10) (m := 10) (Bt.of_lt (by decide) (by decide)) (Bt.of_lt (by omega) (by omega)) (by decide)
      · show (c % 2147483423 + 89 * k + 7).natAbs < 2 ^ 64
        omega
      · refine q p _ (same_new np) np ⟨_, _, upd_same, by split <;> omega, ?_, ?_⟩
        · have := Int.emod_nonneg ((c % 2147483423 + 89 * k + 7) ^ (2 : Int).toNat) (b := 2147483399) (by decide)
          omega
        · have := Int.emod_lt_of_pos ((c % 2147483423 + 89 * k + 7) ^ (2 : Int).toNat) (b := 2147483399) (by decide)
          omega
    refine ⟨_, rfl, _, rfl, a, _, rfl, .inl hS, _, _, rfl, rfl, _, rfl, ?_⟩
    refine ite2 (fun c => ?_) (fun c => ?_)
    · have c := of_decide_eq_true c
      rw [List.length_map] at c
      have hk : k.toNat < ns.length := by omega
      have g : (ns.map V.int)[k.toNat]? = some (.int ns[k.toNat]) := by
        rw [List.getElem?_map, List.getElem?_eq_getElem hk]
        rfl
      refine ⟨_, rfl, _, rfl, a, _, k, _, rfl, rfl, hS, at_of (j := k.toNat) (by omega) g, _, rfl, ?_⟩
      exact fin _ (by split <;> omega)
    · exact fin 0 (by decide)
theorem ok_ldigit (T : Tx K mg base) : FnOk P w K mg base CX0 1 T.f_ldigit T.d_ldigit ["_law_pot_here", "_law_many"] spDigit := by
  refine T.F_ldigit.ok sc_ldigit (fun vs H Q E h => ?_) (fun cdv A outer s H vs Q E hr h => ?_)
  · obtain ⟨p, m, rfl, _⟩ := h
    rfl
  · obtain ⟨p, m, rfl, ⟨x, y, hp, hx, hy, hy2⟩, hm, bm, q⟩ := h
    refine ⟨_, (pss_cons (ps_if (pt_cmpR op_gt (pe_ix ix_list (pv 0) pe_int (fun _ _ => rfl)) pe_int (nomark _)) (pss_cons (ps_asg (pe_callB call_divmodW (by rfl) T.n_divmod (by decide +kernel) (pa_cons (pe_ix ix_list (pv 0) pe_int (fun _ _ => rfl)) (pa_cons (pv 1) pa_nil))) (pg_tup (by rfl) (pgs_cons (pg_sub (pv 0) pe_int set_list) (pgs_cons (pg_name (i := 2) sc_ldigit.nd rfl (.inl rfl)) pgs_nil))))
        (pss_one (ps_ret (pv 2)))) pss_nil)
        (pss_cons (ps_asg (pe_op op_mod (pe_op op_add (pe_op op_mulW (pe_ix ix_list (pv 0) pe_int (fun _ _ => rfl)) pe_int) pe_int) pe_int) (pg_sub (pv 0) pe_int set_list))
        (pss_one (ps_ret (pe_op op_mod (pe_op op_fdivW (pe_op op_mod (pe_op op_mulW (pe_ix ix_list (pv 0) pe_int (fun _ _ => rfl)) (pe_ix ix_list (pv 0) pe_int (fun _ _ => rfl))) pe_int) pe_int) (pv 1)))))), ?_⟩
    have hL : SqL K H p [.int x, .int y] := .inl (.inl hp)
    refine ⟨_, rfl, p, _, 0, _, rfl, rfl, hL, atI_nat (j := 0) rfl, _, _, rfl, rfl, _, rfl, ?_⟩
    refine ite2 (fun c => ?_) (fun c => ?_)
    · have c := of_decide_eq_true c
      refine ⟨_, rfl, p, _, 0, _, rfl, rfl, hL, atI_nat (j := 0) rfl, _, rfl, _, _, rfl, ⟨hm, PyProof.noPylong_of_log2 (Nat.lt_of_lt_of_le (PySem.Flt.log2_lt_of (by decide) bm) (by decide))⟩, fun t nt => ?_⟩
      have npt : p ≠ t := ne_of_none hp nt
      have hp' : (upd H t (.tup [.int (x / m), .int (x % m)])) p = some (.lst [.int x, .int y]) := by rw [upd_ne npt]; exact hp
      refine ⟨t, _, rfl, .inl (.inl upd_same), rfl, _, _, rfl, _, rfl, p, _, _, 0, rfl, rfl, hp', rfl, _, _, rfl, rfl, ?_⟩
      refine ⟨_, rfl, ?_⟩
      refine q _ _ (Int.emod_nonneg x (by omega)) (Int.emod_lt_of_pos x hm) ((Same.x (same_new nt)).trans samex_set) ⟨x / m, y, upd_same, Int.ediv_nonneg (by omega) (by omega), hy, hy2⟩
    · refine ⟨_, rfl, p, _, 1, _, rfl, rfl, hL, atI_nat (j := 1) rfl, _, _, rfl, rfl, ?_, _, _, rfl, rfl, _, _, rfl, rfl, by show (0 : Int) < 2147483563; decide, ?_⟩
      · exact Bt.cmul (n := 32) (m := 32) (Bt.of_lt (by omega) (by omega)) (Bt.of_lt (by decide) (by decide)) (by decide)
      · refine ⟨_, rfl, p, _, _, 1, rfl, rfl, hp, rfl, ?_⟩
        have z0 : 0 ≤ (y * 45763 + 10061) % 2147483563 := Int.emod_nonneg _ (by decide)
        have z1 : (y * 45763 + 10061) % 2147483563 < 2147483563 := Int.emod_lt_of_pos _ (by decide)
        have hL2 : SqL K (upd H p (.lst [.int x, .int ((y * 45763 + 10061) % 2147483563)])) p [.int x, .int ((y * 45763 + 10061) % 2147483563)] := .inl (.inl upd_same)
        refine ⟨_, rfl, p, _, 1, _, rfl, rfl, hL2, atI_nat (j := 1) rfl, _, rfl, p, _, 1, _, rfl, rfl, hL2, atI_nat (j := 1) rfl, _, _, rfl, rfl, ?_, _, _, rfl, rfl, by show (0 : Int) < 2147483477; decide, _, _, rfl, rfl, ?_, _, rfl, _, _, rfl, rfl, hm, ?_⟩
        · exact Bt.cmul (n := 32) (m := 32) (Bt.of_lt (by omega) (by omega)) (Bt.of_lt (by omega) (by omega)) (by decide)
        · exact Bt.cdiv (n := 10) (by decide) (Bt.of_lt (by decide) (by decide)) (by decide)
        · exact q _ _ (Int.emod_nonneg _ (by omega)) (Int.emod_lt_of_pos _ hm) samex_set ⟨x, _, upd_same, hx, z0, by omega⟩
theorem ok_llow (T : Tx K mg base) : FnOk P w K mg base CX0 1 T.f_llow T.d_llow ["_law_above", "_law_below"] (spLow K) := by
  refine T.F_llow.ok sc_llow (fun vs H Q E h => ?_) (fun cdv A outer s H vs Q E hr h => ?_)
  · obtain ⟨a, b, rfl, _⟩ := h
    rfl
  · obtain ⟨x, y, rfl, hy, h9, q⟩ := h
    refine ⟨_, (pss_cons (ps_par (i := 2) (j := 3) (by rfl) sc_llow.nd rfl rfl (by decide) rfl rfl (pa_cons (pe_callB call_abs (by rfl) T.n_abs (by decide +kernel) (pa_cons (pv 0) pa_nil)) (pa_cons (pv 1) pa_nil)) (by rfl))
        (pss_cons (ps_while PassesOwn.never (pt_cmpR op_gt (pv 3) pe_int (nomark _)) (pss_one (ps_par (i := 2) (j := 3) (by rfl) sc_llow.nd rfl rfl (by decide) rfl rfl (pa_cons (pv 3) (pa_cons (pe_op op_mod (pv 2) (pv 3)) pa_nil)) (by rfl))))
        (pss_one (ps_ret (pe_tup (pa_cons (pe_op op_fdivW (pv 0) (pv 2)) (pa_cons (pe_op op_fdivW (pv 1) (pv 2)) pa_nil))))))), ?_⟩
    refine ⟨_, rfl, _, rfl, _, rfl, _, _, rfl, ?_⟩
    refine while_by (fun σ H' => ∃ a b : Int, σ = [some (.int x), some (.int y), some (.int a), some (.int b)] ∧ 0 ≤ a ∧ 0 ≤ b ∧ Int.gcd a b = Int.gcd x y ∧ H' = H)
      (fun σ _ => match σ with | [_, _, _, some (.int b)] => b.toNat | _ => 0) ⟨_, _, rfl, by split <;> omega, by omega, gcd_abs x y, rfl⟩ ?_ ?_
    · rintro σ H' ⟨a, b, rfl, ha, hb, eg, rfl⟩
      refine ⟨_, rfl, _, _, rfl, rfl, _, rfl, ?_⟩
      by_cases c : b = 0
      · subst c
        rw [show decide ((0 : Int) < 0) = false from rfl]
        refine iteF ?_
        have e := gcd_zero ha
        rw [eg] at e
        have g0 : 0 < (Int.gcd x y : Int) := by have := gcd_pos (a := x) (b := y) (by omega); omega
        have g9 : Bt 8999 (Int.gcd x y : Int) := gcd_bt hy h9
        rw [← e]
        refine ⟨_, rfl, _, rfl, _, _, rfl, rfl, g9.cdiv g0 (by decide), _, rfl, _, rfl, _, _, rfl, rfl, g9.cdiv g0 (by decide), by show 2 ≤ sizeLine; decide, fun p np => q _ _ (same_new np) TupI.new⟩
      · have hb' : 0 < b := by omega
        rw [show decide (0 < b) = true from decide_eq_true hb']
        refine iteT ?_
        refine ⟨_, rfl, _, rfl, _, rfl, _, _, rfl, rfl, hb', _, _, rfl, ?_, ?_⟩
        · exact ⟨b, a % b, rfl, hb, Int.emod_nonneg a c, (gcd_step ha hb').trans eg, rfl⟩
        · show (a % b).toNat < b.toNat
          have := Int.emod_lt_of_pos a hb'
          omega
    · rintro σ H Q Q' k ⟨v, h1, i, j, h2, h3, c, h4, q⟩
      exact ⟨v, h1, i, j, h2, h3, c, h4, k _ _ q⟩
theorem ok_lplus (T : Tx K mg base) : FnOk P w K mg base CX0 2 T.f_lplus T.d_lplus ["_law_one", "_law_other"] (spTwo K fun a b c d => lo (a * d + c * b) (b * d)) := by
  refine T.F_lplus.ok sc_lplus (fun vs H Q E h => ?_) (fun cdv A outer s H vs Q E hr h => ?_)
  · obtain ⟨u, v, a, b, c, d, rfl, _⟩ := h
    rfl
  · obtain ⟨u, v, a, b, c, d, rfl, ⟨t, rfl, ht⟩, ⟨r, rfl, hv⟩, hb, hd, ba, bb, bc, bd, q⟩ := h
    refine ⟨_, (pss_one (ps_ret (pe_call (ok_llow T) (hr.mono (by decide)) (by rfl) T.g_llow T.F_llow.kp T.b_llow .nil pass0 (pa_cons (pe_op op_add (pe_op op_mulW (pe_ix ix_tup (pv 0) pe_int (fun _ _ => rfl)) (pe_ix ix_tup (pv 1) pe_int (fun _ _ => rfl))) (pe_op op_mulW (pe_ix ix_tup (pv 1) pe_int (fun _ _ => rfl)) (pe_ix ix_tup (pv 0) pe_int (fun _ _ => rfl)))) (pa_cons (pe_op op_mulW (pe_ix ix_tup (pv 0) pe_int (fun _ _ => rfl)) (pe_ix ix_tup (pv 1) pe_int (fun _ _ => rfl))) pa_nil))))), ?_⟩
    refine ⟨_, rfl, t, _, 0, _, rfl, rfl, ht, atI_nat (j := 0) rfl, _, rfl, r, _, 1, _, rfl, rfl, hv, atI_nat (j := 1) rfl, _, _, rfl, rfl, ba.cmul bd (by decide), ?_⟩
    refine ⟨_, rfl, r, _, 0, _, rfl, rfl, hv, atI_nat (j := 0) rfl, _, rfl, t, _, 1, _, rfl, rfl, ht, atI_nat (j := 1) rfl, _, _, rfl, rfl, bc.cmul bb (by decide), ?_⟩
    refine ⟨_, _, rfl, rfl, ?_⟩
    refine ⟨_, rfl, t, _, 1, _, rfl, rfl, ht, atI_nat (j := 1) rfl, _, rfl, r, _, 1, _, rfl, rfl, hv, atI_nat (j := 1) rfl, _, _, rfl, rfl, bb.cmul bd (by decide), ?_⟩
    exact ⟨_, _, rfl, Int.mul_pos hb hd, (bb.mul bd).mono (by decide), q⟩
theorem ok_lless (T : Tx K mg base) : FnOk P w K mg base CX0 1 T.f_lless T.d_lless ["_law_one", "_law_other"] (spLess K) := by
  refine T.F_lless.ok sc_lless (fun vs H Q E h => ?_) (fun cdv A outer s H vs Q E hr h => ?_)
  · obtain ⟨u, v, a, b, c, d, rfl, _⟩ := h
    rfl
  · obtain ⟨u, v, a, b, c, d, rfl, ⟨t, rfl, ht⟩, ⟨r, rfl, hv⟩, ba, bb, bc, bd, q⟩ := h
    refine ⟨_, (pss_one (ps_ret (pe_cmpR op_lt (pe_op op_mulW (pe_ix ix_tup (pv 0) pe_int (fun _ _ => rfl)) (pe_ix ix_tup (pv 1) pe_int (fun _ _ => rfl))) (pe_op op_mulW (pe_ix ix_tup (pv 1) pe_int (fun _ _ => rfl)) (pe_ix ix_tup (pv 0) pe_int (fun _ _ => rfl))) (nomark _)))), ?_⟩
    refine ⟨_, rfl, t, _, 0, _, rfl, rfl, ht, atI_nat (j := 0) rfl, _, rfl, r, _, 1, _, rfl, rfl, hv, atI_nat (j := 1) rfl, _, _, rfl, rfl, ba.cmul bd (by decide), ?_⟩
    refine ⟨_, rfl, r, _, 0, _, rfl, rfl, hv, atI_nat (j := 0) rfl, _, rfl, t, _, 1, _, rfl, rfl, ht, atI_nat (j := 1) rfl, _, _, rfl, rfl, bc.cmul bb (by decide), ?_⟩
    exact ⟨_, _, rfl, rfl, q⟩
theorem ok_is_weight (T : Tx K mg base) : FnOk P w K mg base CX0 2 T.f_is_weight T.d_is_weight ["thing"] (spWtT K) := by
  refine T.F_is_weight.ok sc_is_weight (fun vs H Q E h => ?_) (fun cdv A outer s H vs Q E hr h => ?_)
  · obtain ⟨p, v, t, rfl, _⟩ := h
    rfl
  · obtain ⟨p, v, t, rfl, ht, q⟩ := h
    refine ⟨_, (pss_one (ps_ret (pe_and (pe_call (ok_is_whole T) (hr.mono (by decide)) (by rfl) T.g_is_whole T.F_is_whole.kp T.b_is_whole .nil pass0 (pa_cons (pv 0) pa_nil)) (pe_one (pe_cmpR op_ge (pv 0) pe_int (nomark _)))))), ?_⟩
    refine ⟨_, rfl, _, _, rfl, ht.whole, t.isW, rfl, ?_⟩
    cases t with
    | int i =>
      cases ht
      exact iteT ⟨_, rfl, _, _, rfl, rfl, q⟩
    | _ => exact iteF q
theorem ok_is_pair (T : Tx K mg base) : FnOk P w K mg base CX0 1 T.f_is_pair T.d_is_pair ["thing"] (spPair2 K) := by
  refine T.F_is_pair.ok sc_is_pair (fun vs H Q E h => ?_) (fun cdv A outer s H vs Q E hr h => ?_)
  · obtain ⟨a, x, y, rfl, _⟩ := h
    rfl
  · obtain ⟨a, x, y, rfl, ht, q⟩ := h
    refine ⟨_, (pss_one (ps_ret (pe_and (pe_callB call_isi (by rfl) T.n_isinstance (by decide +kernel) (pa_cons (pv 0) (pa_cons (pe_bltn (v := .ty "tuple") (by rfl) T.n_tuple (by decide +kernel) rfl) pa_nil))) (pe_one (pe_cmpR op_eq (pe_callB call_len_seq (by rfl) T.n_len (by decide +kernel) (pa_cons (pv 0) pa_nil)) pe_int (nomark _)))))), ?_⟩
    refine ⟨_, rfl, _, _, _, _, true, rfl, .ty "tuple", sqt_ty ht, kit_ty (by decide +kernel), true, rfl, iteT ?_⟩
    refine ⟨_, rfl, a, _, rfl, .inr ht, rfl, ?_⟩
    have e : decide (V.int ((([x, y] : List V).length : Nat) : Int) = V.int 2) = true := decide_eq_true rfl
    rw [e]
    exact q H (Same.refl H)
end
end WS
set_option Elab.async false
set_option linter.all false
set_option maxRecDepth 100000
set_option maxHeartbeats 4000000
namespace WS
open PySem PySem.Spec PyProof.Rows L2
section
variable {P : Program} {w : World} {K : PySem.W.Frag} {mg : Str → Option Value} {base : Heap}
open TL
theorem ok_shared (T : Tx K mg base) : FnOk P w K mg base CX0 4 T.f_shared T.d_shared ["one", "many"] (spShared45 K) := by
  refine T.F_shared.ok sc_shared (fun vs H Q E h => ?_) (fun cdv A outer s H vs Q E hr h => ?_)
  · obtain ⟨u, a, b, m, rfl, _⟩ := h
    rfl
  · obtain ⟨u, a, b, m, rfl, ⟨t, rfl, ht⟩, hb, hm, ba, bb, bm, q⟩ := h
    refine ⟨_, (pss_cons (ps_if (PW.pt (pw_or (pt_not (pt_val (pe_call (ok_is_whole T) (hr.mono (by decide)) (by rfl) T.g_is_whole T.F_is_whole.kp T.b_is_whole .nil pass0 (pa_cons (pv 1) pa_nil)))) (pw_or1 (pt_cmpR op_lt (pv 1) pe_int (nomark _))))) (pss_one ps_never) pss_nil)
        (pss_one (ps_ret (pe_call (ok_part T) (hr.mono (by decide)) (by rfl) T.g_part T.F_part.kp T.b_part .nil pass0 (pa_cons (pe_ix ix_tup (pv 0) pe_int (fun _ _ => rfl)) (pa_cons (pe_op op_mulW (pe_ix ix_tup (pv 0) pe_int (fun _ _ => rfl)) (pv 1)) pa_nil)))))), ?_⟩
    refine ⟨_, rfl, _, _, rfl, whole_int, true, rfl, iteF ?_⟩
    refine ⟨_, rfl, _, _, rfl, rfl, _, rfl, ?_⟩
    rw [show decide (m < 1) = false from decide_eq_false (by omega)]
    refine iteF ?_
    refine ⟨_, rfl, t, _, 0, _, rfl, rfl, ht, atI_nat (j := 0) rfl, _, rfl, t, _, 1, _, rfl, rfl, ht, atI_nat (j := 1) rfl, _, rfl, _, _, rfl, rfl, bb.cmul bm (by decide), ?_⟩
    exact ⟨_, _, rfl, Int.mul_pos hb (by omega), (bb.mul bm).mono (by decide), q⟩
theorem ok_first_greatest (T : Tx K mg base) : FnOk P w K mg base CX0 2 T.f_first_greatest T.d_first_greatest ["row"] (spPick45 K fgr) := by
  refine T.F_first_greatest.ok sc_first_greatest (fun vs H Q E h => ?_) (fun cdv A outer s H vs Q E hr h => ?_)
  · obtain ⟨l, rs, ps, rfl, _⟩ := h
    rfl
  · obtain ⟨l, rs, ps, rfl, hR, hP, hk, h0, hn, q⟩ := h
    refine ⟨_, (pss_cons (ps_set (i := 1) sc_first_greatest.nd rfl (.inl rfl) pe_int)
        (pss_cons (ps_for PassesOwn.never rfl (pi_enB (by rfl) T.n_enumerate (pa_cons (pv 0) pa_nil)) (pg_tup (by rfl) (pgs_cons (pg_name (i := 2) sc_first_greatest.nd rfl (.inl rfl)) (pgs_cons (pg_name (i := 3) sc_first_greatest.nd rfl (.inl rfl)) pgs_nil))) (pss_one (ps_if (pt_val (pe_call (ok_is_less T) (hr.mono (by decide)) (by rfl) T.g_is_less T.F_is_less.kp T.b_is_less .nil pass0 (pa_cons (pe_ix ix_tup (pv 0) (pv 1) (fun _ _ => rfl)) (pa_cons (pv 3) pa_nil)))) (pss_one (ps_set (i := 1) sc_first_greatest.nd rfl (.inl rfl) (pv 2))) pss_nil)))
        (pss_one (ps_ret (pv 1))))), ?_⟩
    have pos : ∀ q ∈ ps, 0 < q.2 := fun q hq => (hk q hq).1
    have rl := hP.1
    refine ⟨_, rfl, false, l, rs, rfl, hR, for_it (walk_enB (K := K) (b := false) (a := l) (xs := rs) (k := 0)) (fun i σ H' => ∃ y z, σ = [some (.ref l), some (.int ((List.range i).foldl (fgF ps) 0 : Nat)), y, z] ∧ Same H H') ⟨none, none, rfl, Same.refl _⟩ (fun i σ H' _ ⟨_, _, _, s⟩ => Same.tup s hR) ?_ ?_⟩
    · rintro i x σ H' H'' hi ⟨y, z, rfl, s1⟩ ⟨t, v1, v2, rfl, nt, rfl, ev1, ev2⟩
      have ev1 : some (V.int (0 + (i : Nat))) = some v1 := ev1
      rw [Int.zero_add] at ev1
      obtain rfl : V.int (i : Nat) = v1 := Option.some.inj ev1
      have hi : i < rs.length := hi
      have ev2 : rs[i]? = some v2 := ev2
      have s2 : Same H (upd H' t (.tup [.int (i : Nat), v2])) := s1.trans (same_new nt)
      refine ⟨t, _, rfl, .inl (.inl upd_same), rfl, _, _, rfl, _, _, rfl, rfl, ?_⟩
      have fl := fgr_lt pos (i := i) (by omega) h0
      have et := fgr_take (ps := ps) i
      generalize (List.range i).foldl (fgF ps) 0 = f at *
      obtain ⟨u1, e1, m1, t1⟩ := (hP.k (kt_same s2)).at fl
      obtain ⟨u2, e2, m2, t2⟩ := (hP.k (kt_same s2)).at (show i < ps.length by omega)
      rw [ev2] at e2
      obtain rfl := Option.some.inj e2
      have o1 := hk _ m1
      have o2 := hk _ m2
      refine ⟨_, rfl, _, rfl, l, _, f, _, rfl, rfl, Same.tup s2 hR, atI_nat e1, _, rfl, ?_⟩
      refine ⟨_, _, _, _, _, _, rfl, t1, t2, o1.2.1.mono (by decide), o1.2.2.mono (by decide), o2.2.1.mono (by decide), o2.2.2.mono (by decide), _, rfl, ?_⟩
      rw [et]
      unfold fgF
      have eg : ltp (gp ps f) (gp ps i) = decide ((gp ps f).1 * (gp ps i).2 < (gp ps i).1 * (gp ps f).2) := rfl
      rw [← eg]
      cases c : ltp (gp ps f) (gp ps i) with
      | true => exact iteT ⟨_, rfl, _, _, rfl, s2⟩
      | false => exact iteF ⟨_, _, rfl, s2⟩
    · rintro σ H' ⟨y, z, rfl, s1⟩
      have e : (List.range rs.length).foldl (fgF ps) 0 = fgr ps := by rw [rl]; rfl
      refine ⟨_, rfl, ?_⟩
      show Q (.int (((List.range rs.length).foldl (fgF ps) 0 : Nat) : Int)) H'
      rw [e]
      exact q H' s1
theorem ok_first_least (T : Tx K mg base) : FnOk P w K mg base CX0 2 T.f_first_least T.d_first_least ["row"] (spPick45 K fls) := by
  refine T.F_first_least.ok sc_first_least (fun vs H Q E h => ?_) (fun cdv A outer s H vs Q E hr h => ?_)
  · obtain ⟨l, rs, ps, rfl, _⟩ := h
    rfl
  · obtain ⟨l, rs, ps, rfl, hR, hP, hk, h0, hn, q⟩ := h
    refine ⟨_, (pss_cons (ps_set (i := 1) sc_first_least.nd rfl (.inl rfl) pe_int)
        (pss_cons (ps_for PassesOwn.never rfl (pi_enB (by rfl) T.n_enumerate (pa_cons (pv 0) pa_nil)) (pg_tup (by rfl) (pgs_cons (pg_name (i := 2) sc_first_least.nd rfl (.inl rfl)) (pgs_cons (pg_name (i := 3) sc_first_least.nd rfl (.inl rfl)) pgs_nil))) (pss_one (ps_if (pt_val (pe_call (ok_is_less T) (hr.mono (by decide)) (by rfl) T.g_is_less T.F_is_less.kp T.b_is_less .nil pass0 (pa_cons (pv 3) (pa_cons (pe_ix ix_tup (pv 0) (pv 1) (fun _ _ => rfl)) pa_nil)))) (pss_one (ps_set (i := 1) sc_first_least.nd rfl (.inl rfl) (pv 2))) pss_nil)))
        (pss_one (ps_ret (pv 1))))), ?_⟩
    have pos : ∀ q ∈ ps, 0 < q.2 := fun q hq => (hk q hq).1
    have rl := hP.1
    refine ⟨_, rfl, false, l, rs, rfl, hR, for_it (walk_enB (K := K) (b := false) (a := l) (xs := rs) (k := 0)) (fun i σ H' => ∃ y z, σ = [some (.ref l), some (.int ((List.range i).foldl (flF ps) 0 : Nat)), y, z] ∧ Same H H') ⟨none, none, rfl, Same.refl _⟩ (fun i σ H' _ ⟨_, _, _, s⟩ => Same.tup s hR) ?_ ?_⟩
    · rintro i x σ H' H'' hi ⟨y, z, rfl, s1⟩ ⟨t, v1, v2, rfl, nt, rfl, ev1, ev2⟩
      have ev1 : some (V.int (0 + (i : Nat))) = some v1 := ev1
      rw [Int.zero_add] at ev1
      obtain rfl : V.int (i : Nat) = v1 := Option.some.inj ev1
      have hi : i < rs.length := hi
      have ev2 : rs[i]? = some v2 := ev2
      have s2 : Same H (upd H' t (.tup [.int (i : Nat), v2])) := s1.trans (same_new nt)
      refine ⟨t, _, rfl, .inl (.inl upd_same), rfl, _, _, rfl, _, _, rfl, rfl, ?_⟩
      have fl := fls_lt pos (i := i) (by omega) h0
      have et := fls_take (ps := ps) i
      generalize (List.range i).foldl (flF ps) 0 = f at *
      obtain ⟨u1, e1, m1, t1⟩ := (hP.k (kt_same s2)).at fl
      obtain ⟨u2, e2, m2, t2⟩ := (hP.k (kt_same s2)).at (show i < ps.length by omega)
      rw [ev2] at e2
      obtain rfl := Option.some.inj e2
      have o1 := hk _ m1
      have o2 := hk _ m2
      refine ⟨_, rfl, _, rfl, _, rfl, l, _, f, _, rfl, rfl, Same.tup s2 hR, atI_nat e1, ?_⟩
      refine ⟨_, _, _, _, _, _, rfl, t2, t1, o2.2.1.mono (by decide), o2.2.2.mono (by decide), o1.2.1.mono (by decide), o1.2.2.mono (by decide), _, rfl, ?_⟩
      rw [et]
      unfold flF
      have eg : ltp (gp ps i) (gp ps f) = decide ((gp ps i).1 * (gp ps f).2 < (gp ps f).1 * (gp ps i).2) := rfl
      rw [← eg]
      cases c : ltp (gp ps i) (gp ps f) with
      | true => exact iteT ⟨_, rfl, _, _, rfl, s2⟩
      | false => exact iteF ⟨_, _, rfl, s2⟩
    · rintro σ H' ⟨y, z, rfl, s1⟩
      have e : (List.range rs.length).foldl (flF ps) 0 = fls ps := by rw [rl]; rfl
      refine ⟨_, rfl, ?_⟩
      show Q (.int (((List.range rs.length).foldl (flF ps) 0 : Nat) : Int)) H'
      rw [e]
      exact q H' s1
theorem ok_lesser (T : Tx K mg base) : FnOk P w K mg base CX0 2 T.f_lesser T.d_lesser ["one", "other"] (spLesser45 K) := by
  refine T.F_lesser.ok sc_lesser (fun vs H Q E h => ?_) (fun cdv A outer s H vs Q E hr h => ?_)
  · obtain ⟨u, v, p, q, rfl, _⟩ := h
    rfl
  · obtain ⟨u, v, p, r, rfl, hu, hv, op, oq, q⟩ := h
    refine ⟨_, (pss_one (ps_ret (pe_ifExp (pt_val (pe_call (ok_is_less T) (hr.mono (by decide)) (by rfl) T.g_is_less T.F_is_less.kp T.b_is_less .nil pass0 (pa_cons (pv 0) (pa_cons (pv 1) pa_nil)))) (pv 0) (pv 1)))), ?_⟩
    refine ⟨_, rfl, _, rfl, u, v, _, _, _, _, rfl, hu, hv, op.2.1.mono (by decide), op.2.2.mono (by decide), oq.2.1.mono (by decide), oq.2.2.mono (by decide), ?_⟩
    have eg : ltp p r = decide (p.1 * r.2 < r.1 * p.2) := rfl
    rw [← eg]
    cases c : ltp p r with
    | true =>
      refine ⟨_, rfl, iteT ⟨_, rfl, q _ ?_⟩⟩
      rw [c]
      exact hu
    | false =>
      refine ⟨_, rfl, iteF ⟨_, rfl, q _ ?_⟩⟩
      rw [c]
      exact hv
end
end WS
set_option Elab.async false
set_option linter.all false
set_option maxRecDepth 100000
set_option maxHeartbeats 4000000
namespace WS
open PySem PySem.Spec PyProof.Rows L2
section
variable {P : Program} {w : World} {K : PySem.W.Frag} {mg : Str → Option Value} {base : Heap}
open TL
theorem ok_above_average (T : Tx K mg base) : FnOk P w K mg base CX0 6 T.f_above_average T.d_above_average ["row"] (spAbove45 K) := by
  refine T.F_above_average.ok sc_above_average (fun vs H Q E h => ?_) (fun cdv A outer s H vs Q E hr h => ?_)
  · obtain ⟨l, rs, ps, a, rfl, _⟩ := h
    rfl
  · obtain ⟨l, rs, ps, a, rfl, hR, hP, h0, h26, hk, hpre, ea, oa, q⟩ := h
    refine ⟨_, (pss_cons (ps_set (i := 1) sc_above_average.nd rfl (.inr rfl) (pe_call (ok_shared T) (hr.mono (by decide)) (by rfl) T.g_shared T.F_shared.kp T.b_shared .nil pass0 (pa_cons (pe_call (ok_total T) (hr.mono (by decide)) (by rfl) T.g_total T.F_total.kp T.b_total T.vb_total pass0 (pa_cons (pv 0) pa_nil)) (pa_cons (pe_callB call_len_seq (by rfl) T.n_len (by decide +kernel) (pa_cons (pv 0) pa_nil)) pa_nil))))
        (pss_one (ps_ret (pe_callTy call_tuple_of (by rfl) T.n_tuple (by decide +kernel) (pa_cons (pe_lc (own := [("one", 2)]) (g := gName 2) (tt := tYes) (by rfl) sc_above_average.nd (pi_list (pv 0)) (blkOk_by (own := [("one", 2)]) (N := ["row", "average", "one"]) (sc := defScope s_above_average) (by decide +kernel)) (fun _ _ _ _ _ => (pg_name (i := 2) sc_above_average.nd rfl (.inl rfl))) (fun _ _ _ _ _ => pts_nil) (fun _ _ _ _ _ => (pe_call (ok_minus T) (hr.mono (by decide)) (by rfl) T.g_minus T.F_minus.kp T.b_minus .nil pass0 (pa_cons (pv 2) (pa_cons (pv 1) pa_nil))))) pa_nil))))), ?_⟩
    have rl := hP.1
    have pos : ∀ q ∈ ps, 0 < q.2 := fun q hq => (hk q hq).1
    have o4 : ∀ q ∈ ps, Okp 4400 q := fun q hq => (hk q hq).mono (by decide)
    have oS := hpre ps.length
    rw [List.take_length] at oS
    refine ⟨_, rfl, l, _, 0, 1, rs, ps, rfl, .inl hR, ⟨_, rfl, T.t0 _⟩, hP, o4, fun i => (hpre i).mono (by decide), fun v H1 s1 hv => ?_⟩
    refine ⟨_, rfl, l, rs, rfl, .inl (s1.seq hR), ?_⟩
    refine ⟨v, _, _, _, rfl, hv, oS.1, by omega, oS.2.1.mono (by decide), oS.2.2.mono (by decide), Bt.of_lt (by omega) (by omega), fun u H2 s2 hu => ?_⟩
    rw [show ((rs.length : Nat) : Int) = ((ps.length : Nat) : Int) by rw [rl], ← ea] at hu
    have s12 := s1.trans s2
    refine ⟨_, rfl, l, rfl, ⟨_, s12.seq hR⟩, fun D nD => ?_⟩
    refine lc_list (K := K) (a := l) (xs := rs) (fun j H' => ∃ us, H' D = some (.lst us) ∧ us.length = j ∧ Parts K H' us ((ps.take j).map fun q => mi q a) ∧ Same H2 H') ⟨[], upd_same, rfl, Parts.nil, same_new nD⟩ (fun j H' _ ⟨_, _, _, _, s⟩ => s.seq (s12.seq hR)) ?_ ?_
    · rintro j x H' hx ⟨us, hD, hl, hU, s3⟩
      have hj : j < rs.length := (List.getElem?_eq_some_iff.mp hx).1
      obtain ⟨p, hp, tp⟩ := hP.2 j x hx
      have op := hk p (List.mem_of_getElem? hp)
      have s03 := s12.trans s3
      refine ⟨rfl, tyes (iteT ?_)⟩
      refine ⟨_, rfl, _, rfl, ?_⟩
      refine ⟨_, _, _, _, _, _, rfl, tp.same s03, hu.same s3, op.1, oa.1, op.2.1.mono (by decide), op.2.2.mono (by decide), oa.2.1.mono (by decide), oa.2.2.mono (by decide), fun w4 H4 s4 tw => ?_⟩
      refine ⟨us, s4 _ _ hD, small1000 (by omega), us ++ [w4], upd_same, by simp [hl], ?_, same_upd (s3.trans s4) nD⟩
      rw [List.take_add_one, hp, List.map_append]
      exact ((hU.k (kt_same s4)).add tw).k (kt_set (s4 _ _ hD))
    rintro H3 ⟨us, hD, hl, hU, s3⟩
    rw [rl, List.take_length] at hU
    refine ⟨D, us, rfl, .inl ⟨.inl (.inl hD), fun R nR => ?_⟩⟩
    have e4 := same_new (o := .tup us) nR
    exact q R us _ (s12.trans (s3.trans e4)) (.inl (.inl upd_same)) (hU.k (kt_same e4))
end
end WS
set_option Elab.async false
set_option linter.all false
set_option maxRecDepth 100000
set_option maxHeartbeats 4000000
namespace WS
open PySem PySem.Spec PyProof.Rows L2
section
variable {P : Program} {w : World} {K : PySem.W.Frag} {mg : Str → Option Value} {base : Heap}
open TL
theorem ok_owing (T : Tx K mg base) : FnOk P w K mg base CX0 1 T.f_owing T.d_owing ["moment"] (spOwing K) := by
  refine T.F_owing.ok sc_owing (fun vs H Q E h => ?_) (fun cdv A outer s H vs Q E hr h => ?_)
  · obtain ⟨v, W, ss, rfl, _⟩ := h
    rfl
  · obtain ⟨v, W, ss, rfl, hm, hl, q⟩ := h
    obtain ⟨t, S, vs, rfl, ht, hS, hD⟩ := mom_get hm
    refine ⟨_, (pss_one (ps_ret (pe_callTy call_tuple_of (by rfl) T.n_tuple (by decide +kernel) (pa_cons (pe_lc (own := [("person", 1), ("owed", 2)]) (g := gTup K 2 (gCons (gName 1) (gCons (gName 2) gNil))) (tt := tYes) (by rfl) sc_owing.nd (pi_tup (pe_ix ix_tup (pv 0) pe_int (fun _ _ => rfl))) (blkOk_by (own := [("person", 1), ("owed", 2)]) (N := ["moment", "person", "owed"]) (sc := defScope s_owing) (by decide +kernel)) (fun _ _ _ _ _ => (pg_tup (by rfl) (pgs_cons (pg_name (i := 1) sc_owing.nd rfl (.inl rfl)) (pgs_cons (pg_name (i := 2) sc_owing.nd rfl (.inl rfl)) pgs_nil)))) (fun _ _ _ _ _ => pts_nil) (fun _ _ _ _ _ => (pv 2))) pa_nil)))), ?_⟩
    have el : vs.length = ss.length := by rw [dpall_len hD, List.length_map]
    refine ⟨_, rfl, t, _, 1, _, rfl, rfl, ht, atI_nat (j := 1) rfl, S, rfl, ⟨_, hS⟩, fun D nD => ?_⟩
    refine lc_tup (K := K) (a := S) (xs := vs) (fun j H' => ∃ us, H' D = some (.lst us) ∧ us.length = j ∧ DpAll K H' us (((ss.take j).map Prod.snd).map pdP) ∧ Same H H') ⟨[], upd_same, rfl, .nil, same_new nD⟩ (fun j H' _ ⟨_, _, _, _, s⟩ => Same.tup s hS) ?_ ?_
    · rintro j x H' hx ⟨us, hDs, hul, hP, s1⟩
      obtain ⟨st, u, y, es, rfl, hu, hy⟩ := seat_at hD hx
      have hj : j < ss.length := (List.getElem?_eq_some_iff.mp es).1
      refine ⟨u, _, rfl, Same.tup s1 hu, rfl, _, _, rfl, _, _, rfl, rfl, rfl, tyes (iteT ?_)⟩
      refine ⟨_, rfl, us, hDs, small1000 (by omega), us ++ [y], upd_same, by simp [hul], ?_, same_upd s1 nD⟩
      rw [List.take_add_one, es, List.map_append, List.map_append]
      exact (dpall_add hP (hy.sm s1)).kt (kt_set hDs) (by rw [immAll_app, parts_imm]; rfl)
    · rintro H1 ⟨us, hDs, hul, hP, s1⟩
      rw [el, List.take_length] at hP
      refine ⟨D, us, rfl, .inl ⟨.inl (.inl hDs), fun R nR => ?_⟩⟩
      exact q _ _ (s1.trans (same_new nR)) (.tup (.inl (.inl upd_same)) (hP.sm (same_new nR)))
theorem ok_persons (T : Tx K mg base) : FnOk P w K mg base CX0 1 T.f_persons T.d_persons ["moment"] (spPersons K) := by
  refine T.F_persons.ok sc_persons (fun vs H Q E h => ?_) (fun cdv A outer s H vs Q E hr h => ?_)
  · obtain ⟨v, W, ss, rfl, _⟩ := h
    rfl
  · obtain ⟨v, W, ss, rfl, hm, hl, q⟩ := h
    obtain ⟨t, S, vs, rfl, ht, hS, hD⟩ := mom_get hm
    refine ⟨_, (pss_one (ps_ret (pe_lc (own := [("person", 1), ("owed", 2)]) (g := gTup K 2 (gCons (gName 1) (gCons (gName 2) gNil))) (by rfl) sc_persons.nd (pi_tup (pe_ix ix_tup (pv 0) pe_int (fun _ _ => rfl))) (blkOk_by (own := [("person", 1), ("owed", 2)]) (N := ["moment", "person", "owed"]) (sc := defScope s_persons) (by decide +kernel)) (fun _ _ _ _ _ => (pg_tup (by rfl) (pgs_cons (pg_name (i := 1) sc_persons.nd rfl (.inl rfl)) (pgs_cons (pg_name (i := 2) sc_persons.nd rfl (.inl rfl)) pgs_nil)))) (fun _ _ _ _ _ => (pts_one (pt_cmpR op_ne (pv 1) (pe_glob (v := .str "") (by rfl) T.g_EMPTY T.r_EMPTY) (nomark _)))) (fun _ _ _ _ _ => (pv 1))))), ?_⟩
    have el : vs.length = ss.length := by rw [dpall_len hD, List.length_map]
    refine ⟨_, rfl, t, _, 1, _, rfl, rfl, ht, atI_nat (j := 1) rfl, S, rfl, ⟨_, hS⟩, fun D nD => ?_⟩
    refine lc_tup (K := K) (a := S) (xs := vs) (fun j H' => H' D = some (.lst ((names (ss.take j)).map V.str)) ∧ Same H H') ⟨upd_same, same_new nD⟩ (fun j H' _ ⟨_, s⟩ => Same.tup s hS) ?_ ?_
    · rintro j x H' hx ⟨hDs, s1⟩
      obtain ⟨st, u, y, es, rfl, hu, hy⟩ := seat_at hD hx
      have hj : j < ss.length := (List.getElem?_eq_some_iff.mp es).1
      refine ⟨u, _, rfl, Same.tup s1 hu, rfl, _, _, rfl, _, _, rfl, rfl, rfl, _, rfl, rfl, _, rfl, ?_⟩
      show if (!decide (V.str st.1 = V.str "")) = true then _ else _
      rw [eqv_strs]
      have e : names (ss.take (j + 1)) = names (ss.take j) ++ ([st.1].filter fun z : Str => !decide (z = "")) := by
        unfold names
        rw [List.take_add_one, es, List.map_append, List.filter_append]
        rfl
      rw [e]
      by_cases c : st.1 = ""
      · rw [decide_eq_true c]
        refine iteF ⟨?_, s1⟩
        rw [hDs]
        simp [c]
      · rw [decide_eq_false c]
        refine iteT ⟨_, rfl, _, hDs, ?_, ?_, same_upd s1 nD⟩
        · rw [List.length_map]
          have := List.length_filter_le (fun z : Str => !decide (z = "")) ((ss.take j).map Prod.fst)
          rw [List.length_map, List.length_take] at this
          exact small1000 (by unfold names; omega)
        · rw [upd_same]
          simp [c]
    · rintro H1 ⟨hDs, s1⟩
      rw [el, List.take_length] at hDs
      exact q D H1 nD s1 hDs
theorem ok_sits (T : Tx K mg base) : FnOk P w K mg base CX0 2 T.f_sits T.d_sits ["moment", "person"] (spSits K) := by
  refine T.F_sits.ok sc_sits (fun vs H Q E h => ?_) (fun cdv A outer s H vs Q E hr h => ?_)
  · obtain ⟨v, W, ss, z, rfl, _⟩ := h
    rfl
  · obtain ⟨v, W, ss, z, rfl, hm, hl, q⟩ := h
    refine ⟨_, (pss_one (ps_ret (pe_and (pe_callB call_isi (by rfl) T.n_isinstance (by decide +kernel) (pa_cons (pv 1) (pa_cons (pe_bltn (v := .ty "str") (by rfl) T.n_str (by decide +kernel) rfl) pa_nil))) (pe_one (pe_cmpR op_in_seq (pv 1) (pe_call (ok_persons T) (hr.mono (by decide)) (by rfl) T.g_persons T.F_persons.kp T.b_persons .nil pass0 (pa_cons (pv 0) pa_nil)) (by rfl)))))), ?_⟩
    refine ⟨_, rfl, _, _, _, _, true, rfl, .ty "str", .base (.str z), kit_ty (by decide +kernel), true, rfl, iteT ?_⟩
    refine ⟨_, rfl, _, rfl, _, W, ss, rfl, hm, hl, fun D H1 nD s1 hD => ?_⟩
    refine ⟨D, _, rfl, .inl (.inl (.inl hD)), rfl, flat_strs _, ?_⟩
    show Q (.bl (inV (.str z) ((names ss).map V.str))) H1
    rw [inV_str]
    exact q H1 s1
theorem ok_seat_of (T : Tx K mg base) : FnOk P w K mg base CX0 3 T.f_seat_of T.d_seat_of ["moment", "person"] (spSeatOf K) := by
  refine T.F_seat_of.ok sc_seat_of (fun vs H Q E h => ?_) (fun cdv A outer s H vs Q E hr h => ?_)
  · obtain ⟨v, W, ss, z, rfl, _⟩ := h
    rfl
  · obtain ⟨v, W, ss, z, rfl, hm, hl, hz, q⟩ := h
    refine ⟨_, PSs.nox (pss_cons (ps_if (pt_not (pt_val (pe_call (ok_sits T) (hr.mono (by decide)) (by rfl) T.g_sits T.F_sits.kp T.b_sits .nil pass0 (pa_cons (pv 0) (pa_cons (pv 1) pa_nil))))) (pss_one ps_never) pss_nil)
        (pss_one (ps_ret (pe_bm PySem.F.plainAttrs_list PySem.F.slot_list_index PySem.F.type_list_index mt_index (pe_lc (own := [("sitting", 2), ("owed", 3)]) (g := gTup K 2 (gCons (gName 2) (gCons (gName 3) gNil))) (tt := tYes) (by rfl) sc_seat_of.nd (pi_tup (pe_ix ix_tup (pv 0) pe_int (fun _ _ => rfl))) (blkOk_by (own := [("sitting", 2), ("owed", 3)]) (N := ["moment", "person", "sitting", "owed"]) (sc := defScope s_seat_of) (by decide +kernel)) (fun _ _ _ _ _ => (pg_tup (by rfl) (pgs_cons (pg_name (i := 2) sc_seat_of.nd rfl (.inl rfl)) (pgs_cons (pg_name (i := 3) sc_seat_of.nd rfl (.inl rfl)) pgs_nil)))) (fun _ _ _ _ _ => pts_nil) (fun _ _ _ _ _ => (pv 2))) (pa_cons (pv 1) pa_nil))))), ?_⟩
    refine ⟨_, rfl, _, rfl, _, W, ss, z, rfl, hm, hl, fun H1 s1 => ⟨_, rfl, ?_⟩⟩
    rw [decide_eq_true hz]
    refine iteF ?_
    obtain ⟨t, S, vs, rfl, ht, hS, hD⟩ := mom_get (hm.sm s1)
    have el : vs.length = ss.length := by rw [dpall_len hD, List.length_map]
    refine ⟨_, rfl, t, _, 1, _, rfl, rfl, ht, atI_nat (j := 1) rfl, S, rfl, ⟨_, hS⟩, fun D nD => ?_⟩
    refine lc_tup (K := K) (a := S) (xs := vs) (fun j H' => H' D = some (.lst (((ss.take j).map Prod.fst).map V.str)) ∧ Same H1 H') ⟨upd_same, same_new nD⟩ (fun j H' _ ⟨_, s⟩ => Same.tup s hS) ?_ ?_
    · rintro j x H' hx ⟨hDs, s2⟩
      obtain ⟨st, u, y, es, rfl, hu, hy⟩ := seat_at hD hx
      have hj : j < ss.length := (List.getElem?_eq_some_iff.mp es).1
      refine ⟨u, _, rfl, Same.tup s2 hu, rfl, _, _, rfl, _, _, rfl, rfl, rfl, tyes (iteT ?_)⟩
      refine ⟨_, rfl, _, hDs, ?_, ?_, same_upd s2 nD⟩
      · rw [List.length_map, List.length_map, List.length_take]
        exact small1000 (by omega)
      · rw [upd_same, List.take_add_one, es]
        simp
    · rintro H2 ⟨hDs, s2⟩
      rw [el, List.take_length] at hDs
      have hi := idx_lt hz
      have hil : idx ss z < (ss.map Prod.fst).length := by rw [List.length_map]; exact hi
      refine ⟨.inl ⟨rfl, _, .inl (.inl hDs)⟩, _, rfl, D, _, _, idx ss z, .str z, rfl, rfl, .inl (.inl hDs), rfl, flat_strs _, ?_, ?_, ?_, q _ (s1.trans s2)⟩
      · rw [List.getElem?_map, List.getElem?_eq_getElem hil]
        exact congrArg (fun x => some (V.str x)) (List.getElem_idxOf hil)
      · show (z == z) = true
        simp
      · intro m z' hm' hz'
        rw [List.getElem?_map] at hz'
        cases e : (ss.map Prod.fst)[m]? with
        | none => rw [e] at hz'; cases hz'
        | some y =>
          rw [e] at hz'
          obtain rfl := Option.some.inj hz'
          show (y == z) = false
          have hml : m < (ss.map Prod.fst).length := (List.getElem?_eq_some_iff.mp e).1
          have := List.not_of_lt_findIdx (p := (· == z)) (xs := ss.map Prod.fst) (i := m) hm'
          rw [(List.getElem?_eq_some_iff.mp e).2] at this
          simpa using this
theorem ok_owes (T : Tx K mg base) : FnOk P w K mg base CX0 4 T.f_owes T.d_owes ["moment", "person"] (spOwes K) := by
  refine T.F_owes.ok sc_owes (fun vs H Q E h => ?_) (fun cdv A outer s H vs Q E hr h => ?_)
  · obtain ⟨v, W, ss, z, rfl, _⟩ := h
    rfl
  · obtain ⟨v, W, ss, z, rfl, hm, hl, hz, q⟩ := h
    refine ⟨_, (pss_one (ps_ret (pe_ix ix_tup (pe_call (ok_owing T) (hr.mono (by decide)) (by rfl) T.g_owing T.F_owing.kp T.b_owing .nil pass0 (pa_cons (pv 0) pa_nil)) (pe_call (ok_seat_of T) (hr.mono (by decide)) (by rfl) T.g_seat_of T.F_seat_of.kp T.b_seat_of .nil pass0 (pa_cons (pv 0) (pa_cons (pv 1) pa_nil))) (fun _ _ => rfl)))), ?_⟩
    refine ⟨_, rfl, _, W, ss, rfl, hm, hl, fun r H1 s1 hr' => ?_⟩
    refine ⟨_, rfl, _, rfl, _, W, ss, z, rfl, hm.sm s1, hl, hz, fun H2 s2 => ?_⟩
    obtain ⟨R, rs, rfl, hR, hP⟩ := dp_tup (hr'.sm s2)
    have hi := idx_lt hz
    obtain ⟨y, hy, dy⟩ := dpall_get hP (i := idx ss z) (d := pdP (gs ss (idx ss z)).2) (by rw [List.getElem?_map, List.getElem?_map, at_gs hi]; rfl)
    exact ⟨R, rs, _, y, rfl, rfl, hR, atI_nat hy, q y H2 (s1.trans s2) dy⟩
theorem ok_is_name (T : Tx K mg base) : FnOk P w K mg base CX0 1 T.f_is_name T.d_is_name ["thing"] (spIsNameT K) := by
  refine T.F_is_name.ok sc_is_name (fun vs H Q E h => ?_) (fun cdv A outer s H vs Q E hr h => ?_)
  · obtain ⟨p, u, t, rfl, _⟩ := h
    rfl
  · obtain ⟨p, u, t, rfl, ht, hz, q⟩ := h
    refine ⟨_, (pss_cons (ps_if (PW.pt (pw_or (pt_not (pt_val (pe_callB call_isi (by rfl) T.n_isinstance (by decide +kernel) (pa_cons (pv 0) (pa_cons (pe_bltn (v := .ty "str") (by rfl) T.n_str (by decide +kernel) rfl) pa_nil))))) (pw_or1 (pt_not (pt_chain op_le op_le pe_int (pe_callB call_len_str (by rfl) T.n_len (by decide +kernel) (pa_cons (pv 0) pa_nil)) pe_int))))) (pss_one (ps_ret pe_bl)) pss_nil)
        (pss_one (ps_ret (pe_callB (cr_all (by rfl)) (by rfl) T.n_all (by decide +kernel) (pa_cons (pe_lc (own := [("sign", 1)]) (g := gName 1) (tt := tYes) (by rfl) sc_is_name.nd (pi_str (pv 0)) (blkOk_by (own := [("sign", 1)]) (N := ["thing", "sign"]) (sc := defScope s_is_name) (by decide +kernel)) (fun _ _ _ _ _ => (pg_name (i := 1) sc_is_name.nd rfl (.inl rfl))) (fun _ _ _ _ _ => pts_nil) (fun _ _ _ _ _ => (pe_chain op_le_str op_le_str pe_str (pv 1) pe_str))) pa_nil))))), ?_⟩
    cases e : t.isS with
    | false =>
      have no : nmT t = false := by
        cases t with
        | str _ => cases e
        | _ => rfl
      have q := q H (Same.refl H)
      rw [no] at q
      exact ⟨_, rfl, _, _, _, _, false, rfl, .ty "str", ht.ty, (e ▸ t.kitS K), false, rfl, iteT (iteT q)⟩
    | true =>
    cases ht with
    | str z =>
      have hz := hz z rfl
      have zl := len_tl z
      have q0 : ¬ Nm z → Q (.bl false) H := fun h => by
        have q := q H (Same.refl H)
        have e : nmT (.str z) = false := decide_eq_false h
        rw [e] at q
        exact q
      refine ⟨_, rfl, _, _, _, _, true, rfl, .ty "str", .base (.str z), kit_ty (by decide +kernel), true, rfl, iteF ?_⟩
      refine ⟨_, rfl, _, rfl, by rw [sizeLine_eq]; omega, _, _, rfl, rfl, _, rfl, ?_⟩
      by_cases c1 : (1 : Int) ≤ (z.length : Nat)
      case neg =>
        rw [decide_eq_false c1]
        exact iteF ⟨false, rfl, iteT (q0 fun h => by have := h.1; omega)⟩
      rw [decide_eq_true c1]
      refine iteT ⟨_, _, rfl, rfl, _, rfl, ?_⟩
      by_cases c2 : ((z.length : Nat) : Int) ≤ 8
      case neg =>
        rw [decide_eq_false c2]
        exact iteT (q0 fun h => by have := h.2.1; omega)
      rw [decide_eq_true c2]
      refine iteF ?_
      refine ⟨_, rfl, _, rfl, fun D nD => ?_⟩
      refine lc_it walk_str (fun j H' => H' D = some (.lst ((((tl z).take j).map sgn).map V.bl)) ∧ Same H H') ⟨upd_same, same_new nD⟩ (fun _ _ _ _ => trivial) ?_ ?_
      · rintro j x H' H'' hj ⟨hD, s1⟩ ⟨rfl, c, hc, rfl⟩
        have hm : (tl z)[j]? = some c := by simpa using hc
        have hj8 : j < 8 := by
          have : z.cps.size = (tl z).length := by simp
          omega
        refine ⟨rfl, tyes (iteT ?_)⟩
        have l1 : decide ((Str.mk #[c]).cps.toList < (Str.ofString "a").cps.toList) = !decide (97 ≤ c) := by
          rw [← decide_not]
          refine decide_eq_decide.mpr ?_
          show [c] < [97] ↔ _
          rw [lt_one]
          omega
        have l2 : decide ((Str.ofString "z").cps.toList < (Str.mk #[c]).cps.toList) = !decide (c ≤ 122) := by
          rw [← decide_not]
          refine decide_eq_decide.mpr ?_
          show [122] < [c] ↔ _
          rw [lt_one]
          omega
        have step : ∀ b : Bool, b = sgn c → ∃ acc, H'' D = some (.lst acc) ∧ acc.length < sizeLine ∧ (upd H'' D (.lst (acc ++ [V.bl b]))) D = some (.lst ((((tl z).take (j + 1)).map sgn).map V.bl)) ∧ Same H (upd H'' D (.lst (acc ++ [V.bl b]))) := fun b hb => by
          refine ⟨_, hD, ?_, ?_, same_upd s1 nD⟩
          · rw [List.length_map, List.length_map, List.length_take]
            exact small1000 (by omega)
          · rw [upd_same, List.take_add_one, hm, Option.toList_some, List.map_append, List.map_append, hb]
            rfl
        refine ⟨_, rfl, _, _, rfl, rfl, _, rfl, ?_⟩
        rw [l1]
        cases d1 : decide (97 ≤ c) with
        | false =>
          exact iteF (step false (by unfold sgn; rw [d1]; rfl))
        | true =>
          refine iteT ⟨_, _, rfl, rfl, ?_⟩
          rw [l2]
          exact step _ (by unfold sgn; rw [d1]; cases decide (c ≤ 122) <;> rfl)
      · rintro H1 ⟨hD, s1⟩
        refine ⟨D, _, rfl, .inl (.inl hD), ?_⟩
        have : z.cps.size = (tl z).length := by simp
        rw [this, List.take_length, sgn_all]
        have q := q H1 s1
        have e : nmT (.str z) = decide (∀ c ∈ tl z, 97 ≤ c ∧ c ≤ 122) := by
          show decide (Nm z) = _
          refine decide_eq_decide.mpr ⟨fun h => h.2.2, fun h => ⟨by omega, by omega, h⟩⟩
        rw [e] at q
        exact q
    | _ => cases e
theorem ok_with_row (T : Tx K mg base) : FnOk P w K mg base CX0 1 T.f_with_row T.d_with_row ["moment", "row"] (spWithRow K) := by
  refine T.F_with_row.ok sc_with_row (fun vs H Q E h => ?_) (fun cdv A outer s H vs Q E hr h => ?_)
  · obtain ⟨v, u, W, ss, ps, rfl, _⟩ := h
    rfl
  · obtain ⟨v, u, W, ss, ps, rfl, hm, hu, hl, hpl, q⟩ := h
    obtain ⟨t, S, vs, rfl, ht, hS, hV⟩ := mom_get hm
    obtain ⟨r, us, rfl, hr1, hU⟩ := dp_tup hu
    refine ⟨_, (pss_cons (ps_asg (pv 0) (pg_tup (by rfl) (pgs_cons (pg_name (i := 2) sc_with_row.nd rfl (.inl rfl)) (pgs_cons (pg_name (i := 3) sc_with_row.nd rfl (.inl rfl)) pgs_nil))))
        (pss_one (ps_ret (pe_tup (pa_cons (pv 2) (pa_cons (pe_callTy call_tuple_of (by rfl) T.n_tuple (by decide +kernel) (pa_cons (pe_lc (own := [("person", 5), ("before", 6), ("owed", 4)]) (g := gTup K 2 (gCons (gTup K 2 (gCons (gName 5) (gCons (gName 6) gNil))) (gCons (gName 4) gNil))) (tt := tYes) (by rfl) sc_with_row.nd (pi_zB2 (by rfl) T.n_zip (pa_cons (pv 3) (pa_cons (pv 1) pa_nil))) (blkOk_by (own := [("person", 5), ("before", 6), ("owed", 4)]) (N := ["moment", "row", "weight", "seats", "owed", "person", "before"]) (sc := defScope s_with_row) (by decide +kernel)) (fun _ _ _ _ _ => (pg_tup (by rfl) (pgs_cons (pg_tup (by rfl) (pgs_cons (pg_name (i := 5) sc_with_row.nd rfl (.inl rfl)) (pgs_cons (pg_name (i := 6) sc_with_row.nd rfl (.inl rfl)) pgs_nil))) (pgs_cons (pg_name (i := 4) sc_with_row.nd rfl (.inl rfl)) pgs_nil)))) (fun _ _ _ _ _ => pts_nil) (fun _ _ _ _ _ => (pe_tup (pa_cons (pv 5) (pa_cons (pv 4) pa_nil))))) pa_nil)) pa_nil)))))), ?_⟩
    have el : vs.length = ss.length := by rw [dpall_len hV, List.length_map]
    have ul : us.length = ps.length := by rw [dpall_len hU, List.length_map]
    refine ⟨_, rfl, t, _, rfl, ht, rfl, _, _, rfl, _, _, rfl, rfl, ?_⟩
    refine ⟨_, rfl, _, rfl, _, rfl, false, false, S, r, vs, us, rfl, hS, hr1, fun D nD => ?_⟩
    refine lc_it (walk_zB2 (K := K) (b1 := false) (b2 := false) (a1 := S) (a2 := r) (xs := vs) (ys := us)) (fun j H' => ∃ ws, H' D = some (.lst ws) ∧ ws.length = j ∧ DpAll K H' ws (((setRow ss ps).take j).map seatD) ∧ Same H H')
      ⟨[], upd_same, rfl, .nil, same_new nD⟩ (fun j H' _ ⟨_, _, _, _, s⟩ => ⟨Same.tup s hS, Same.tup s hr1⟩) ?_ ?_
    · rintro j x H' H'' hj ⟨ws, hD, hw, hW, s1⟩ ⟨T1, v1, v2, rfl, nT, rfl, e1, e2⟩
      have e1 : vs[j]? = some v1 := e1
      have e2 : us[j]? = some v2 := e2
      obtain ⟨st, a, y, es, rfl, ha, hy⟩ := seat_at hV e1
      obtain ⟨d, ed, hd⟩ := dpall_at hU e2
      rw [List.getElem?_map] at ed
      obtain ⟨pj, ep, rfl⟩ : ∃ pj, ps[j]? = some pj ∧ pdP pj = d := by
        cases e : ps[j]? with
        | none => rw [e] at ed; cases ed
        | some z => rw [e] at ed; exact ⟨z, rfl, Option.some.inj ed⟩
      have hjs : j < ss.length := (List.getElem?_eq_some_iff.mp es).1
      have e0 := same_new (o := .tup [.ref a, v2]) nT
      refine ⟨T1, _, rfl, .inl (.inl upd_same), rfl, _, _, rfl, ?_⟩
      refine ⟨a, _, rfl, Same.tup (s1.trans e0) ha, rfl, _, _, rfl, _, _, rfl, rfl, _, _, rfl, rfl, rfl, tyes (iteT ?_)⟩
      refine ⟨_, rfl, _, rfl, by show 2 ≤ sizeLine; decide, fun b nb => ?_⟩
      have eb := same_new (o := .tup [.str st.1, v2]) nb
      have s2 := e0.trans eb
      have hD2 := s2 _ _ hD
      refine ⟨ws, hD2, small1000 (by omega), ws ++ [.ref b], upd_same, by simp [hw], ?_, same_upd (s1.trans s2) nD⟩
      have ez : (setRow ss ps)[j]? = some (st.1, pj) := by
        unfold setRow
        rw [List.getElem?_map, List.getElem?_zip_eq_some (z := (st, pj)) |>.mpr ⟨es, ep⟩]
        rfl
      rw [List.take_add_one, ez, List.map_append]
      refine (dpall_add (hW.sm s2) (seat_mk (s := (st.1, pj)) (.inl (.inl upd_same)) ((hd.sm s1).sm s2))).kt (kt_set hD2) ?_
      rw [immAll_app, seats_imm]
      rfl
    · rintro H1 ⟨ws, hD, hw, hW, s1⟩
      have sl : min vs.length us.length = (setRow ss ps).length := by
        unfold setRow
        rw [List.length_map, List.length_zip, el, ul]
      rw [sl, List.take_length] at hW
      refine ⟨D, ws, rfl, .inl ⟨.inl (.inl hD), fun R nR => ?_⟩⟩
      obtain ⟨H2, f2, e2, hR⟩ : ∃ B, B = upd H1 R (.tup ws) ∧ Same H1 B ∧ SqT K B R ws := ⟨_, rfl, same_new nR, .inl (.inl upd_same)⟩
      rw [← f2]
      refine ⟨by show 2 ≤ sizeLine; decide, fun m nm => ?_⟩
      have em := same_new (o := .tup [.int W, .ref R]) nm
      exact q _ _ (s1.trans (e2.trans em)) (mom_mk (.inl (.inl upd_same)) (Same.tup em hR) ((hW.sm e2).sm em))
theorem ok_may_be_given (T : Tx K mg base) : FnOk P w K mg base CX0 3 T.f_may_be_given T.d_may_be_given ["given", "difference"] (spMayGiveQ K) := by
  refine T.F_may_be_given.ok sc_may_be_given (fun vs H Q E h => ?_) (fun cdv A outer s H vs Q E hr h => ?_)
  · obtain ⟨u, v, g, p, rfl, _⟩ := h
    rfl
  · obtain ⟨u, v, g, p, rfl, hu, hv, lg, g1, b0, gb, og, op, q⟩ := h
    refine ⟨_, (pss_one (ps_ret (pe_and (pe_call (ok_is_part T) (hr.mono (by decide)) (by rfl) T.g_is_part T.F_is_part.kp T.b_is_part .nil pass0 (pa_cons (pv 0) pa_nil)) (pe_and (pe_call (ok_is_less T) (hr.mono (by decide)) (by rfl) T.g_is_less T.F_is_less.kp T.b_is_less .nil pass0 (pa_cons (pe_glob (v := .ref T.a_NOUGHT) (by rfl) T.g_NOUGHT rfl) (pa_cons (pv 0) pa_nil))) (pe_one (pe_not (pe_call (ok_is_less T) (hr.mono (by decide)) (by rfl) T.g_is_less T.F_is_less.kp T.b_is_less .nil pass0 (pa_cons (pv 1) (pa_cons (pv 0) pa_nil))))))))), ?_⟩
    have hp := pair_of hu
    rw [lowest_b lg] at hp
    refine ⟨_, rfl, u, true, rfl, hp, ?_⟩
    refine ⟨_, rfl, iteT ?_⟩
    refine ⟨_, rfl, _, u, 0, 1, g.1, g.2, rfl, ⟨_, rfl, T.t_NOUGHT H⟩, hu, by unfold Bt; decide +kernel, by unfold Bt; decide +kernel, og.2.1.mono (by decide), og.2.2.mono (by decide), ?_⟩
    have e2 : decide ((0 : Int) * g.2 < g.1 * 1) = true := decide_eq_true (by rw [Int.zero_mul, Int.mul_one]; exact g1)
    rw [e2]
    refine ⟨_, rfl, iteT ?_⟩
    refine ⟨_, rfl, _, rfl, v, u, p.1, p.2, g.1, g.2, rfl, hv, hu, op.2.1.mono (by decide), op.2.2.mono (by decide), og.2.1.mono (by decide), og.2.2.mono (by decide), ?_⟩
    have e3 : decide (p.1 * g.2 < g.1 * p.2) = false := (ltp_no b0 lg.1).mpr gb
    rw [e3]
    exact ⟨_, rfl, q H (Same.refl H)⟩
theorem ok_row_with_gift (T : Tx K mg base) : FnOk P w K mg base CX0 5 T.f_row_with_gift T.d_row_with_gift ["row", "giver", "taker", "given"] (spRowGiftQ K) := by
  refine T.F_row_with_gift.ok sc_row_with_gift (fun vs H Q E h => ?_) (fun cdv A outer s H vs Q E hr h => ?_)
  · obtain ⟨u, x, ps, i, j, g, rfl, _⟩ := h
    rfl
  · obtain ⟨u, x, ps, i, j, g, rfl, hu, hx, hi, hj, hl, ok, og, q⟩ := h
    obtain ⟨r, us, rfl, hr1, hU⟩ := dp_tup hu
    refine ⟨_, (pss_cons (ps_set (i := 4) sc_row_with_gift.nd rfl (.inl rfl) (pe_callTy call_list_of (by rfl) T.n_list (by decide +kernel) (pa_cons (pv 0) pa_nil)))
        (pss_cons (ps_asg (pe_call (ok_minus T) (hr.mono (by decide)) (by rfl) T.g_minus T.F_minus.kp T.b_minus .nil pass0 (pa_cons (pe_ix ix_list (pv 4) (pv 1) (fun _ _ => rfl)) (pa_cons (pv 3) pa_nil))) (pg_sub (pv 4) (pv 1) set_list))
        (pss_cons (ps_asg (pe_call (ok_plus T) (hr.mono (by decide)) (by rfl) T.g_plus T.F_plus.kp T.b_plus .nil pass0 (pa_cons (pe_ix ix_list (pv 4) (pv 2) (fun _ _ => rfl)) (pa_cons (pv 3) pa_nil))) (pg_sub (pv 4) (pv 2) set_list))
        (pss_one (ps_ret (pe_callTy call_tuple_of (by rfl) T.n_tuple (by decide +kernel) (pa_cons (pv 4) pa_nil))))))), ?_⟩
    have ul : us.length = ps.length := by rw [dpall_len hU, List.length_map]
    have lk : ∀ (xs : List V) (qs : List (Int × Int)) (H' : Hp) (k : Nat), DpAll K H' xs (qs.map pdP) → k < qs.length → ∃ v, xs[k]? = some v ∧ TupI K H' v (gp qs k).1 (gp qs k).2 := fun xs qs H' k h hk => by
      obtain ⟨v, hv, dv⟩ := dpall_get h (i := k) (d := pdP (gp qs k)) (by
        rw [List.getElem?_map, List.getElem?_eq_getElem hk]
        unfold gp
        rw [List.getD_eq_getElem?_getD, List.getElem?_eq_getElem hk]
        rfl)
      exact ⟨v, hv, dp_pd dv⟩
    have okg : ∀ k, Okp 1000 (gp ps k) := fun k => by
      unfold gp
      rw [List.getD_eq_getElem?_getD]
      cases e : ps[k]? with
      | none => exact okp_nought (by decide)
      | some z => exact ok z (List.mem_of_getElem? e)
    refine ⟨_, rfl, r, us, rfl, .inr hr1, fun F nF => ?_⟩
    obtain ⟨H1, f1, e1, hF⟩ : ∃ B, B = upd H F (.lst us) ∧ Same H B ∧ B F = some (.lst us) := ⟨_, rfl, same_new nF, upd_same⟩
    show gName 4 (V.ref F) _ (upd H F (.lst us)) _
    rw [← f1]
    obtain ⟨v, hv, tv⟩ := lk us ps H1 i (hU.sm e1) hi
    refine ⟨_, rfl, _, rfl, F, _, i, _, rfl, rfl, .inl (.inl hF), atI_nat hv, _, rfl, ?_⟩
    refine ⟨_, _, _, _, _, _, rfl, tv, hx.same e1, (okg i).1, og.1, (okg i).2.1.mono (by decide), (okg i).2.2.mono (by decide), og.2.1.mono (by decide), og.2.2.mono (by decide), fun w2 H5 s5 tw => ?_⟩
    have hF5 := s5 _ _ hF
    refine ⟨_, rfl, _, rfl, F, us, i, i, rfl, rfl, hF5, ixN_nat (by omega), ?_⟩
    obtain ⟨H6, f6, e6, k6, hF6⟩ : ∃ B, B = upd H5 F (.lst (us.set i w2)) ∧ Same H B ∧ KT H5 B ∧ B F = some (.lst (us.set i w2)) := ⟨_, rfl, same_upd (e1.trans s5) nF, kt_set hF5, upd_same⟩
    have o6 : Okp 4200 (mi (gp ps i) g) := ((Ok2.mi (Ok2.of (okg i)) (Ok2.of og) (M := 2000) (by decide) (by decide)).mono (N' := 4200) (D' := 4200) (by decide) (by decide))
    obtain ⟨qs, eqs⟩ : ∃ qs, qs = ps.set i (mi (gp ps i) g) := ⟨_, rfl⟩
    have ql : qs.length = ps.length := by rw [eqs, List.length_set]
    have hU6 : DpAll K H6 (us.set i w2) (qs.map pdP) := by
      rw [eqs, List.map_set]
      have h2 : DpAll K H5 (us.set i w2) ((ps.map pdP).set i (pdP (mi (gp ps i) g))) := dpall_set (hU.sm (e1.trans s5)) (pd_dp tw)
      exact h2.kt k6 (by rw [← List.map_set]; exact parts_imm _)
    have hx6 : TupI K H6 x g.1 g.2 := (hx.same (e1.trans s5)).k k6
    show ∃ _, _
    rw [← f6]
    obtain ⟨v3, hv3, tv3⟩ := lk _ qs H6 j hU6 (by omega)
    have o3 : Okp 4200 (gp qs j) := by
      rw [eqs, gp_set hi]
      by_cases c : j = i
      · rw [if_pos c]; exact o6
      · rw [if_neg c]; exact (okg j).mono (by decide)
    refine ⟨_, rfl, _, rfl, F, _, j, _, rfl, rfl, .inl (.inl hF6), atI_nat hv3, _, rfl, ?_⟩
    refine ⟨_, _, _, _, _, _, rfl, tv3, hx6, o3.1, og.1, o3.2.1.mono (by decide), o3.2.2.mono (by decide), og.2.1.mono (by decide), og.2.2.mono (by decide), fun w4 H7 s7 tw4 => ?_⟩
    have hF7 := s7 _ _ hF6
    refine ⟨_, rfl, _, rfl, F, _, j, j, rfl, rfl, hF7, ixN_nat (by rw [List.length_set]; omega), ?_⟩
    obtain ⟨H8, f8, e8, k8, hF8⟩ : ∃ B, B = upd H7 F (.lst ((us.set i w2).set j w4)) ∧ Same H B ∧ KT H7 B ∧ B F = some (.lst ((us.set i w2).set j w4)) := ⟨_, rfl, same_upd (e6.trans s7) nF, kt_set hF7, upd_same⟩
    have eG : giftR ps i j g = qs.set j (pl (gp qs j) g) := by rw [eqs]; rfl
    have hU8 : DpAll K H8 ((us.set i w2).set j w4) ((giftR ps i j g).map pdP) := by
      rw [eG, List.map_set]
      have h2 : DpAll K H7 ((us.set i w2).set j w4) ((qs.map pdP).set j (pdP (pl (gp qs j) g))) := dpall_set (hU6.sm s7) (pd_dp tw4)
      exact h2.kt k8 (by rw [← List.map_set]; exact parts_imm _)
    show ∃ _, _
    rw [← f8]
    refine ⟨_, rfl, F, _, rfl, .inl ⟨.inl (.inl hF8), fun R nR => ?_⟩⟩
    exact q _ _ (e8.trans (same_new nR)) (.tup (.inl (.inl upd_same)) (hU8.sm (same_new nR)))
theorem ok_with_gift (T : Tx K mg base) : FnOk P w K mg base CX0 6 T.f_with_gift T.d_with_gift ["moment", "one", "other", "part"] (spWithGiftQ K) := by
  refine T.F_with_gift.ok sc_with_gift (fun vs H Q E h => ?_) (fun cdv A outer s H vs Q E hr h => ?_)
  · obtain ⟨v, x, W, ss, y, z, g, rfl, _⟩ := h
    rfl
  · obtain ⟨v, x, W, ss, y, z, g, rfl, hm, hl, hy, hz, hx, lg, g1, gd, ok, og, q⟩ := h
    refine ⟨_, PSs.nox (pss_cons (ps_set (i := 4) sc_with_gift.nd rfl (.inl rfl) (pe_call (ok_seat_of T) (hr.mono (by decide)) (by rfl) T.g_seat_of T.F_seat_of.kp T.b_seat_of .nil pass0 (pa_cons (pv 0) (pa_cons (pv 1) pa_nil))))
        (pss_cons (ps_set (i := 5) sc_with_gift.nd rfl (.inl rfl) (pe_call (ok_seat_of T) (hr.mono (by decide)) (by rfl) T.g_seat_of T.F_seat_of.kp T.b_seat_of .nil pass0 (pa_cons (pv 0) (pa_cons (pv 2) pa_nil))))
        (pss_cons (ps_set (i := 6) sc_with_gift.nd rfl (.inl rfl) (pe_call (ok_owing T) (hr.mono (by decide)) (by rfl) T.g_owing T.F_owing.kp T.b_owing .nil pass0 (pa_cons (pv 0) pa_nil)))
        (pss_cons (ps_if (pt_not (pt_val (pe_call (ok_may_be_given T) (hr.mono (by decide)) (by rfl) T.g_may_be_given T.F_may_be_given.kp T.b_may_be_given .nil pass0 (pa_cons (pv 3) (pa_cons (pe_call (ok_minus T) (hr.mono (by decide)) (by rfl) T.g_minus T.F_minus.kp T.b_minus .nil pass0 (pa_cons (pe_ix ix_tup (pv 6) (pv 4) (fun _ _ => rfl)) (pa_cons (pe_ix ix_tup (pv 6) (pv 5) (fun _ _ => rfl)) pa_nil))) pa_nil))))) (pss_one ps_never) pss_nil)
        (pss_one (ps_ret (pe_call (ok_with_row T) (hr.mono (by decide)) (by rfl) T.g_with_row T.F_with_row.kp T.b_with_row .nil pass0 (pa_cons (pv 0) (pa_cons (pe_call (ok_row_with_gift T) (hr.mono (by decide)) (by rfl) T.g_row_with_gift T.F_row_with_gift.kp T.b_row_with_gift .nil pass0 (pa_cons (pv 6) (pa_cons (pv 4) (pa_cons (pv 5) (pa_cons (pv 3) pa_nil))))) pa_nil))))))))), ?_⟩
    have hi := idx_lt hy
    have hj := idx_lt hz
    refine ⟨_, rfl, _, rfl, v, W, ss, y, rfl, hm, hl, hy, fun H1 s1 => ?_⟩
    refine ⟨_, rfl, _, rfl, v, W, ss, z, rfl, hm.sm s1, hl, hz, fun H2 s2 => ?_⟩
    have s12 := s1.trans s2
    refine ⟨_, rfl, v, W, ss, rfl, hm.sm s12, hl, fun r H3 s3 hr3 => ?_⟩
    have s13 := s12.trans s3
    obtain ⟨R, rs, rfl, hR, hP⟩ := dp_tup hr3
    have lk : ∀ k, k < ss.length → ∃ v, rs[k]? = some v ∧ TupI K H3 v (gs ss k).2.1 (gs ss k).2.2 := fun k hk => by
      obtain ⟨v, hv, dv⟩ := dpall_get hP (i := k) (d := pdP (gs ss k).2) (by rw [List.getElem?_map, List.getElem?_map, at_gs hk]; rfl)
      exact ⟨v, hv, dp_pd dv⟩
    obtain ⟨a, ha, ta⟩ := lk _ hi
    obtain ⟨b, hb, tb⟩ := lk _ hj
    have oa := ok _ (gs_mem hi)
    have ob := ok _ (gs_mem hj)
    have om := Ok2.mi (Ok2.of oa) (Ok2.of ob) (M := 2000) (by decide) (by decide)
    refine ⟨_, rfl, _, rfl, _, rfl, R, rs, (idx ss y : Nat), a, rfl, rfl, hR, atI_nat ha, _, rfl, _, rfl, R, rs, (idx ss z : Nat), b, rfl, rfl, hR, atI_nat hb, ?_⟩
    refine ⟨_, _, _, _, _, _, rfl, ta, tb, oa.1, ob.1, oa.2.1.mono (by decide), oa.2.2.mono (by decide), ob.2.1.mono (by decide), ob.2.2.mono (by decide), fun d H4 s4 td => ?_⟩
    have s14 := s13.trans s4
    refine ⟨x, d, g, mi (gs ss (idx ss y)).2 (gs ss (idx ss z)).2, rfl, hx.same s14, td, lg, g1, om.1, by rw [rv_mi oa.1 ob.1]; exact gd, (Ok2.of og).mono (by decide) (by decide), om.mono (by decide) (by decide), fun H5 s5 => ⟨_, rfl, iteF ?_⟩⟩
    have s15 := s14.trans s5
    refine ⟨_, rfl, _, rfl, _, rfl, _, rfl, _, rfl, .ref R, x, ss.map Prod.snd, idx ss y, idx ss z, g, rfl, (hr3.sm s4).sm s5, hx.same s15, by rw [List.length_map]; exact hi, by rw [List.length_map]; exact hj, by rw [List.length_map]; exact hl, fun p hp => ?_, og, fun u H6 s6 hu => ?_⟩
    · obtain ⟨s, hs, rfl⟩ := List.mem_map.mp hp
      exact ok s hs
    · have s16 := s15.trans s6
      exact ⟨v, u, W, ss, _, rfl, hm.sm s16, hu, hl, by rw [giftR_len, List.length_map], fun v' H7 s7 h' => q v' H7 (s16.trans s7) h'⟩
end
end WS
set_option Elab.async false
set_option linter.all false
set_option maxRecDepth 100000
set_option maxHeartbeats 4000000
namespace WS
open PySem PySem.Spec PyProof.Rows L2
section
variable {P : Program} {w : World} {K : PySem.W.Frag} {mg : Str → Option Value} {base : Heap}
open TL
theorem ok_levelling (T : Tx K mg base) : FnOk P w K mg base CX0 7 T.f_levelling T.d_levelling ["moment"] (spLevelling45 K) := by
  refine T.F_levelling.ok sc_levelling (fun vs H Q E h => ?_) (fun cdv A outer s H vs Q E hr h => ?_)
  · obtain ⟨v, D, W, ss, rfl, _⟩ := h
    rfl
  · obtain ⟨v, D, W, ss, rfl, hm, lk, q⟩ := h
    refine ⟨_, (pss_cons (ps_set (i := 1) sc_levelling.nd rfl (.inl rfl) (pe_call (ok_persons T) (hr.mono (by decide)) (by rfl) T.g_persons T.F_persons.kp T.b_persons .nil pass0 (pa_cons (pv 0) pa_nil)))
        (pss_cons (ps_set (i := 2) sc_levelling.nd rfl (.inl rfl) (pe_lst pa_nil))
        (pss_cons (ps_if (pt_not (pt_truth (pv 1) (fun _ => rfl))) (pss_one (ps_ret (pv 2))) pss_nil)
        (pss_cons (ps_set (i := 3) sc_levelling.nd rfl (.inl rfl) (pe_call (ok_above_average T) (hr.mono (by decide)) (by rfl) T.g_above_average T.F_above_average.kp T.b_above_average .nil pass0 (pa_cons (pe_lc (own := [("person", 7)]) (g := gName 7) (tt := tYes) (by rfl) sc_levelling.nd (pi_list (pv 1)) (blkOk_by (own := [("person", 7)]) (N := ["moment", "sitting", "gifts", "above", "giver", "taker", "given", "person", "one"]) (sc := defScope s_levelling) (by decide +kernel)) (fun _ _ _ _ _ => (pg_name (i := 7) sc_levelling.nd rfl (.inl rfl))) (fun _ _ _ _ _ => pts_nil) (fun _ _ _ _ _ => (pe_call (ok_owes T) (hr.mono (by decide)) (by rfl) T.g_owes T.F_owes.kp T.b_owes .nil pass0 (pa_cons (pv 0) (pa_cons (pv 7) pa_nil))))) pa_nil)))
        (pss_cons (ps_while PassesOwn.never (pt_val (pe_callB (cr_any (by rfl)) (by rfl) T.n_any (by decide +kernel) (pa_cons (pe_lc (own := [("one", 8)]) (g := gName 8) (tt := tYes) (by rfl) sc_levelling.nd (pi_tup (pv 3)) (blkOk_by (own := [("one", 8)]) (N := ["moment", "sitting", "gifts", "above", "giver", "taker", "given", "person", "one"]) (sc := defScope s_levelling) (by decide +kernel)) (fun _ _ _ _ _ => (pg_name (i := 8) sc_levelling.nd rfl (.inl rfl))) (fun _ _ _ _ _ => pts_nil) (fun _ _ _ _ _ => (pe_cmpR (show OpR _ _ (rNeD K) from op_neD hr.units) (pv 8) (pe_glob (v := .ref T.a_NOUGHT) (by rfl) T.g_NOUGHT rfl) (nomark _)))) pa_nil))) (pss_cons (ps_set (i := 4) sc_levelling.nd rfl (.inl rfl) (pe_call (ok_first_greatest T) (hr.mono (by decide)) (by rfl) T.g_first_greatest T.F_first_greatest.kp T.b_first_greatest .nil pass0 (pa_cons (pv 3) pa_nil)))
        (pss_cons (ps_set (i := 5) sc_levelling.nd rfl (.inl rfl) (pe_call (ok_first_least T) (hr.mono (by decide)) (by rfl) T.g_first_least T.F_first_least.kp T.b_first_least .nil pass0 (pa_cons (pv 3) pa_nil)))
        (pss_cons (ps_set (i := 6) sc_levelling.nd rfl (.inl rfl) (pe_call (ok_lesser T) (hr.mono (by decide)) (by rfl) T.g_lesser T.F_lesser.kp T.b_lesser .nil pass0 (pa_cons (pe_ix ix_tup (pv 3) (pv 4) (fun _ _ => rfl)) (pa_cons (pe_call (ok_minus T) (hr.mono (by decide)) (by rfl) T.g_minus T.F_minus.kp T.b_minus .nil pass0 (pa_cons (pe_glob (v := .ref T.a_NOUGHT) (by rfl) T.g_NOUGHT rfl) (pa_cons (pe_ix ix_tup (pv 3) (pv 5) (fun _ _ => rfl)) pa_nil))) pa_nil))))
        (pss_cons (ps_expr (pe_bm PySem.F.plainAttrs_list PySem.F.slot_list_append PySem.F.type_list_append mt_append (pv 2) (pa_cons (pe_tup (pa_cons (pe_ix ix_list (pv 1) (pv 4) (fun _ _ => rfl)) (pa_cons (pe_ix ix_list (pv 1) (pv 5) (fun _ _ => rfl)) (pa_cons (pv 6) pa_nil)))) pa_nil)))
        (pss_one (ps_set (i := 3) sc_levelling.nd rfl (.inl rfl) (pe_call (ok_row_with_gift T) (hr.mono (by decide)) (by rfl) T.g_row_with_gift T.F_row_with_gift.kp T.b_row_with_gift .nil pass0 (pa_cons (pv 3) (pa_cons (pv 4) (pa_cons (pv 5) (pa_cons (pv 6) pa_nil))))))))))))
        (pss_one (ps_ret (pv 2)))))))), ?_⟩
    rw [show L2.start [Str.ofString "moment", Str.ofString "sitting", Str.ofString "gifts", Str.ofString "above", Str.ofString "giver", Str.ofString "taker", Str.ofString "given", Str.ofString "person", Str.ofString "one"] [v] = [some (v), none, none, none, none, none, none, none, none] from rfl]
    have l26 := lk.k.l
    have s26 := sit26 lk
    refine ⟨_, rfl, v, W, ss, rfl, hm, by omega, fun N H1 nN s1 hN => ?_⟩
    refine ⟨by show 0 ≤ sizeLine; decide, fun G nG => ?_⟩
    obtain ⟨H2, f2, e2, hG⟩ : ∃ B, B = upd H1 G (.lst []) ∧ Same H1 B ∧ B G = some (.lst []) := ⟨_, rfl, same_new nG, upd_same⟩
    show gName 2 (V.ref G) _ (upd H1 G (.lst [])) _
    rw [← f2]
    have s02 := s1.trans e2
    have nGH : H G = none := s1.free nG
    have hN2 := e2 _ _ hN
    have hm2 := hm.sm s02
    have nl : (names ss).length = (sitL ss).length := by rw [names_sit, List.length_map]
    have nNG : N ≠ G := ne_of_none hN nG
    dsimp only [List.set_cons_succ, List.set_cons_zero]
    by_cases c0 : sitL ss = []
    · have en : names ss = [] := by rw [names_sit, c0]; rfl
      rw [en] at hN2
      refine ⟨_, rfl, false, .inl ⟨[], .inl (.inl hN2), rfl⟩, iteT ?_⟩
      refine ⟨_, rfl, q G [] H2 s02 nGH hG ?_⟩
      have : giftsL (gap0 ss) = [] := giftsL_none (by unfold gap0; rw [c0]; rfl)
      rw [this]
      exact .nil
    have m0 : 0 < (sitL ss).length := List.length_pos_iff.mpr c0
    refine ⟨_, rfl, true, .inl ⟨(names ss).map V.str, .inl (.inl hN2), ?_⟩, iteF ?_⟩
    · have : names ss ≠ [] := fun z => by rw [z] at nl; simp at nl; omega
      cases e : names ss with
      | nil => exact absurd e this
      | cons a b => rfl
    -- what those who sit owe
    refine ⟨_, rfl, N, rfl, ⟨_, .inl (.inl hN2)⟩, fun D1 nD1 => ?_⟩
    refine lc_list (K := K) (a := N) (xs := (names ss).map V.str) (fun j H' => ∃ us, H' D1 = some (.lst us) ∧ us.length = j ∧ Parts K H' us (((sitL ss).take j).map Prod.snd) ∧ Same H2 H') ⟨[], upd_same, rfl, Parts.nil, same_new nD1⟩ (fun j H' _ ⟨_, _, _, _, s⟩ => .inl (.inl (s _ _ hN2))) ?_ ?_
    · rintro j x H' hx ⟨us, hD, hl, hU, s3⟩
      rw [List.getElem?_map] at hx
      obtain ⟨z, ez, rfl⟩ : ∃ z, (names ss)[j]? = some z ∧ V.str z = x := by
        cases e : (names ss)[j]? with
        | none => rw [e] at hx; cases hx
        | some z => rw [e] at hx; exact ⟨z, rfl, Option.some.inj hx⟩
      have hj : j < (sitL ss).length := by rw [← nl]; exact (List.getElem?_eq_some_iff.mp ez).1
      have ez2 : z = (gs (sitL ss) j).1 := by
        rw [names_sit, List.getElem?_map, at_gs hj] at ez
        exact (Option.some.inj ez).symm
      obtain ⟨_, p2, _, p4⟩ := plK_ok lk.k.nd hj
      refine ⟨rfl, tyes (iteT ?_)⟩
      refine ⟨_, rfl, _, rfl, v, W, ss, z, rfl, hm2.sm s3, by omega, by rw [ez2]; exact p4, fun w4 H4 s4 tw => ?_⟩
      have tw : TupI K H4 w4 (gs (sitL ss) j).2.1 (gs (sitL ss) j).2.2 := by
        have : gs ss (idx ss z) = gs (sitL ss) j := by rw [ez2]; exact p2
        rw [this] at tw
        exact dp_pd tw
      refine ⟨us, s4 _ _ hD, small1000 (by omega), us ++ [w4], upd_same, by simp [hl], ?_, same_upd (s3.trans s4) nD1⟩
      rw [List.take_add_one, at_gs hj, List.map_append]
      exact ((hU.k (kt_same s4)).add tw).k (kt_set (s4 _ _ hD))
    rintro H3 ⟨us, hD1, hl1, hU1, s3⟩
    rw [List.length_map, nl, List.take_length] at hU1
    have okv : ∀ q ∈ (sitL ss).map Prod.snd, OkV D (2 ^ 114) q := fun q hq => by
      obtain ⟨s, hs, rfl⟩ := List.mem_map.mp hq
      exact lk.okv s (sit_mem hs).1
    have ml : ((sitL ss).map Prod.snd).length = (sitL ss).length := List.length_map _
    refine ⟨D1, us, _, avP ss, rfl, .inl (.inl hD1), hU1, by omega, by omega, fun q hq => (okv q hq).okp lk.k.d0 lk.b (n := 115) (by decide +kernel) (by decide), fun i => ?_, ?_, lk.avk.okp lk.k.d0 lk.b (n := 120) (by decide +kernel) (by decide), fun A1 as H4 s4 hA hAs => ?_⟩
    · refine (((OkV.fold lk.k.d0 _ (0, 1) 0 (OkV.nought D) fun q hq => okv q (List.mem_of_mem_take hq)).mono (M := 26 * 2 ^ 114) ?_).okp lk.k.d0 lk.b (n := 120) (by decide +kernel) (by decide))
      rw [Nat.zero_add]
      exact Nat.mul_le_mul_right _ (by rw [List.length_take]; omega)
    · show lo _ _ = lo _ _
      rw [show max 1 (sitL ss).length = ((sitL ss).map Prod.snd).length by omega]
      rfl
    have eg : ((sitL ss).map Prod.snd).map (fun q => mi q (avP ss)) = gap0 ss := by
      unfold gap0
      rw [List.map_map]
      rfl
    rw [eg] at hAs
    have s24 := s3.trans s4
    have gap := lk.gap
    have gl := gap_len ss
    dsimp only [List.set_cons_succ, List.set_cons_zero]
    have hN4 := s24 _ _ hN2
    have hG4 := s24 _ _ hG
    have s04 := s02.trans s24
    have inl : ∀ (t : Nat) (k : Nat), k < (sitL ss).length → ((names ss).map V.str)[k]? = some (V.str (gs (sitL ss) k).1) := fun t k hk => by
      rw [names_sit, List.getElem?_map, List.getElem?_map, at_gs hk]
      rfl
    refine while_by (fun σ H' => ∃ t A2 as2 ws y1 y2 y3 y4 y5, σ = [some v, some (.ref N), some (.ref G), some (.ref A2), y1, y2, y3, y4, y5] ∧ SqT K H' A2 as2 ∧ Parts K H' as2 (itG t (gap0 ss)) ∧ H' N = some (.lst ((names ss).map V.str)) ∧ H' G = some (.lst ws) ∧ DpAll K H' ws ((gfG t (gap0 ss)).map (gfD ss)) ∧ Same H H')
      (fun σ H' => match σ with | [_, _, some (.ref G), _, _, _, _, _, _] => (match H' G with | some (.lst xs) => 100 - xs.length | _ => 0) | _ => 0) ?_ ?_ ?_
    · exact ⟨0, A1, as, [], none, none, none, none, none, rfl, hA, hAs, hN4, hG4, .nil, s04⟩
    · rintro σ H' ⟨t, A2, as2, ws, y1, y2, y3, y4, y5, rfl, hA2, hAs2, hN', hG', hW, sH⟩
      obtain ⟨gq, ql, _, glen⟩ := itG_gap gap t
      have nzl := nz_le (gap0 ss)
      have wl : ws.length = (gfG t (gap0 ss)).length := by rw [dpall_len hW, List.length_map]
      have al : as2.length = (sitL ss).length := by rw [hAs2.1, ql, gl]
      refine ⟨_, rfl, A2, rfl, ⟨_, hA2⟩, fun B nB => ?_⟩
      refine lc_tup (K := K) (a := A2) (xs := as2) (fun j H'' => H'' B = some (.lst (((((itG t (gap0 ss)).take j).map fun q => !decide (q = ((0, 1) : Int × Int))).map V.bl))) ∧ Same H' H'') ⟨upd_same, same_new nB⟩ (fun j H'' _ ⟨_, s⟩ => Same.tup s hA2) ?_ ?_
      · rintro j x H'' hx ⟨hB, s5⟩
        have hj : j < as2.length := (List.getElem?_eq_some_iff.mp hx).1
        obtain ⟨p, hp, tp⟩ := hAs2.2 j x hx
        refine ⟨rfl, tyes (iteT ?_)⟩
        refine ⟨_, rfl, _, _, pd_dp (tp.same s5), pd_dp (a := 0) (b := 1) ⟨_, rfl, T.t_NOUGHT _⟩, rfl, rfl, _, hB, ?_, ?_, same_upd s5 nB⟩
        · rw [List.length_map, List.length_map, List.length_take]
          exact small1000 (by omega)
        · rw [upd_same, eqv_pairs, List.take_add_one, hp, List.map_append, List.map_append]
          have : decide (p.1 = 0 ∧ p.2 = 1) = decide (p = ((0, 1) : Int × Int)) := decide_eq_decide.mpr ⟨fun h => Prod.ext h.1 h.2, fun h => by rw [h]; exact ⟨rfl, rfl⟩⟩
          rw [this]
          rfl
      rintro H5 ⟨hB, s5⟩
      rw [al, ← gl, ← ql, List.take_length] at hB
      refine ⟨B, _, rfl, .inl (.inl hB), ?_⟩
      have ea : (((itG t (gap0 ss)).map fun q => !decide (q = ((0, 1) : Int × Int))).any id) = !allN (itG t (gap0 ss)) := by
        unfold allN
        rw [List.any_map, List.not_all_eq_any_not]
        rfl
      refine ⟨_, rfl, ?_⟩
      show if ((((itG t (gap0 ss)).map fun q => !decide (q = ((0, 1) : Int × Int))).any id) = true) then _ else _
      rw [ea]
      have hA5 := Same.tup s5 hA2
      have hAs5 := hAs2.k (kt_same s5)
      have hN5 := s5 _ _ hN'
      have hG5 := s5 _ _ hG'
      have hW5 := hW.sm s5
      have sH5 := sH.trans s5
      cases na : allN (itG t (gap0 ss)) with
      | true =>
        refine iteF ?_
        refine ⟨_, rfl, q G ws H5 sH5 nGH hG5 ?_⟩
        rw [← giftsL_of gap na]
        exact hW5
      | false =>
      refine iteT ?_
      have st := gq.step na
      have okq : ∀ q ∈ itG t (gap0 ss), Okp 1000 q := fun q hq => ((gq.ok q hq).okp lk.k.d0 lk.b (n := 121) (by decide +kernel) (Nat.le_refl 151)).mono (by decide)
      have nx := itG_succ na
      generalize eqt : itG t (gap0 ss) = ps at *
      have hi := st.i
      have hj := st.j
      refine ⟨_, rfl, A2, as2, ps, rfl, hA5, hAs5, okq, by omega, by omega, fun H6 s6 => ?_⟩
      refine ⟨_, rfl, A2, as2, ps, rfl, Same.tup s6 hA5, hAs5.k (kt_same s6), okq, by omega, by omega, fun H7 s7 => ?_⟩
      have s57 := s6.trans s7
      have hA7 := Same.tup s57 hA5
      have hAs7 := hAs5.k (kt_same s57)
      obtain ⟨u1, e1, m1, t1⟩ := hAs7.at hi
      obtain ⟨u2, e2', m2, t2⟩ := hAs7.at hj
      have o1 := okq _ m1
      have o2 := okq _ m2
      refine ⟨_, rfl, _, rfl, A2, _, _, _, rfl, rfl, hA7, atI_nat e1, _, rfl, _, rfl, A2, _, _, _, rfl, rfl, hA7, atI_nat e2', ?_⟩
      refine ⟨_, _, 0, 1, _, _, rfl, ⟨_, rfl, T.t_NOUGHT _⟩, t2, by decide, o2.1, by unfold Bt; decide +kernel, by unfold Bt; decide +kernel, o2.2.1.mono (by decide), o2.2.2.mono (by decide), fun w8 H8 s8 tw8 => ?_⟩
      have en : lo (0 * (gp ps (fls ps)).2 - (gp ps (fls ps)).1 * 1) (1 * (gp ps (fls ps)).2) = ng (gp ps (fls ps)) := by
        rw [Int.zero_mul, Int.mul_one, Int.one_mul]
        exact lo_of (ng_low (gq.low _ m2))
      have tw8 : TupI K H8 w8 (lo (0 * (gp ps (fls ps)).2 - (gp ps (fls ps)).1 * 1) (1 * (gp ps (fls ps)).2)).1 (lo (0 * (gp ps (fls ps)).2 - (gp ps (fls ps)).1 * 1) (1 * (gp ps (fls ps)).2)).2 := tw8
      rw [en] at tw8
      refine nil2 ⟨_, w8, gp ps (fgr ps), ng (gp ps (fls ps)), rfl, t1.same s8, tw8, o1, ⟨o2.1, o2.2.1.ng, o2.2.2⟩, fun w9 tw9 => ?_⟩
      have tw9 : TupI K H8 w9 (amt ps).1 (amt ps).2 := tw9
      have s58 := s57.trans s8
      have hG8 := s58 _ _ hG5
      have hN8 := s58 _ _ hN5
      -- the gift
      refine ⟨_, rfl, .inl ⟨rfl, _, .inl (.inl hG8)⟩, _, rfl, _, rfl, N, _, _, _, rfl, rfl, .inl (.inl hN8), atI_nat (inl t _ (by omega)), _, rfl, _, rfl, N, _, _, _, rfl, rfl, .inl (.inl hN8), atI_nat (inl t _ (by omega)), _, rfl, by show 3 ≤ sizeLine; decide, fun b nb => ?_⟩
      have e9 := same_new (o := .tup [.str (gs (sitL ss) (fgr ps)).1, .str (gs (sitL ss) (fls ps)).1, w9]) nb
      obtain ⟨H9, f9, e9, hb9⟩ : ∃ B, B = upd H8 b (.tup [.str (gs (sitL ss) (fgr ps)).1, .str (gs (sitL ss) (fls ps)).1, w9]) ∧ Same H8 B ∧ SqT K B b [.str (gs (sitL ss) (fgr ps)).1, .str (gs (sitL ss) (fls ps)).1, w9] := ⟨_, rfl, e9, .inl (.inl upd_same)⟩
      have hG9 := e9 _ _ hG8
      have wl' : ws.length < 90 := by
        have := dpall_len hW
        rw [List.length_map] at this
        omega
      refine ⟨G, ws, _, rfl, rfl, by rw [← f9]; exact hG9, small1000 (by omega), ?_⟩
      rw [← f9]
      obtain ⟨H10, f10, e10, k10, hG10, hN10⟩ : ∃ B, B = upd H9 G (.lst (ws ++ [.ref b])) ∧ Same H B ∧ KT H9 B ∧ B G = some (.lst (ws ++ [.ref b])) ∧ B N = some (.lst ((names ss).map V.str)) := ⟨_, rfl, same_upd (sH5.trans (s58.trans e9)) nGH, kt_set hG9, upd_same, by rw [upd_ne nNG]; exact e9 _ _ hN8⟩
      rw [← f10]
      have k810 : KT H8 H10 := (kt_same e9).trans k10
      have k510 : KT H5 H10 := (kt_same s58).trans k810
      have hW10 : DpAll K H10 (ws ++ [.ref b]) ((gfG (t + 1) (gap0 ss)).map (gfD ss)) := by
        rw [nx.2, List.map_append]
        refine dpall_add (hW5.kt k510 (gifts_imm _)) ?_
        exact .tup (k10.sqt hb9) (.cons (.str _) (.cons (.str _) (.cons (pd_dp ((tw9.same e9).k k10)) .nil)))
      refine ⟨_, rfl, _, rfl, _, rfl, _, rfl, .ref A2, w9, ps, fgr ps, fls ps, amt ps, rfl, .tup (k510.sqt hA5) (dpall_parts (hAs5.k k510)), tw9.k k810, hi, hj, by omega, okq, ((st.ok).okp lk.k.d0 lk.b (n := 121) (by decide +kernel) (Nat.le_refl 151)).mono (by decide), fun w11 H11 s11 hw11 => ?_⟩
      obtain ⟨A3, as3, rfl, hA3, hAs3⟩ := dp_tup hw11
      have hG11 := s11 _ _ hG10
      refine ⟨⟨t + 1, A3, as3, _, _, _, _, _, _, rfl, hA3, ?_, s11 _ _ hN10, hG11, hW10.sm s11, e10.trans s11⟩, ?_⟩
      · rw [nx.1]
        exact parts_dp hAs3
      · show (match H11 G with | some (.lst xs) => 100 - xs.length | _ => 0) < (match H' G with | some (.lst xs) => 100 - xs.length | _ => 0)
        rw [hG11, hG']
        show 100 - (ws ++ [V.ref b]).length < 100 - ws.length
        rw [List.length_append]
        show 100 - (ws.length + 1) < 100 - ws.length
        omega
    · rintro σ H' Q1 Q2 k ⟨v, h1, a, h2, h3, F⟩
      refine ⟨v, h1, a, h2, h3, fun B nB => ?_⟩
      obtain ⟨W, hm, hw⟩ := F B nB
      refine ⟨W, hm, fun i m H w => ?_⟩
      rcases hw i m H w with ⟨st, a', xs', e1, e2, b, e3, q⟩ | r
      · exact .inl ⟨st, a', xs', e1, e2, b, e3, k _ _ q⟩
      · exact .inr r
end
end WS
set_option Elab.async false
set_option linter.all false
set_option maxRecDepth 100000
set_option maxHeartbeats 4000000
namespace WS
open PySem PySem.Spec PyProof.Rows L2
section
variable {P : Program} {w : World} {K : PySem.W.Frag} {mg : Str → Option Value} {base : Heap}
open TL
theorem ok_levelled (T : Tx K mg base) : FnOk P w K mg base CX0 8 T.f_levelled T.d_levelled ["moment"] (spLevelled45 K) := by
  refine T.F_levelled.ok sc_levelled (fun vs H Q E h => ?_) (fun cdv A outer s H vs Q E hr h => ?_)
  · obtain ⟨v, D, W, ss, rfl, _⟩ := h
    rfl
  · obtain ⟨v, D, W, ss, rfl, hm, lk, q⟩ := h
    refine ⟨_, (pss_cons (ps_set (i := 1) sc_levelled.nd rfl (.inl rfl) (pv 0))
        (pss_cons (ps_for PassesOwn.never rfl (pi_list (pe_call (ok_levelling T) (hr.mono (by decide)) (by rfl) T.g_levelling T.F_levelling.kp T.b_levelling .nil pass0 (pa_cons (pv 0) pa_nil))) (pg_tup (by rfl) (pgs_cons (pg_name (i := 2) sc_levelled.nd rfl (.inl rfl)) (pgs_cons (pg_name (i := 3) sc_levelled.nd rfl (.inl rfl)) (pgs_cons (pg_name (i := 4) sc_levelled.nd rfl (.inl rfl)) pgs_nil)))) (pss_one (ps_set (i := 1) sc_levelled.nd rfl (.inl rfl) (pe_call (ok_with_gift T) (hr.mono (by decide)) (by rfl) T.g_with_gift T.F_with_gift.kp T.b_with_gift .nil pass0 (pa_cons (pv 1) (pa_cons (pv 2) (pa_cons (pv 3) (pa_cons (pv 4) pa_nil))))))))
        (pss_one (ps_ret (pv 1))))), ?_⟩
    refine ⟨_, rfl, _, rfl, v, D, W, ss, rfl, hm, lk, fun G ws H1 s1 nGH hG hW => ?_⟩
    have wl : ws.length = nG ss := by rw [dpall_len hW, List.length_map]; rfl
    refine ⟨G, rfl, ⟨_, .inl (.inl hG)⟩, for_list (K := K) (a := G) (xs := ws) (fun i σ H' => ∃ u y1 y2 y3, σ = [some v, some u, y1, y2, y3] ∧ Dp K H' u (momD W (levT ss i)) ∧ Same H1 H') ⟨v, none, none, none, rfl, hm.sm s1, Same.refl _⟩ (fun i σ H' _ ⟨_, _, _, _, _, _, s⟩ => .inl (.inl (s _ _ hG))) ?_ ?_⟩
    · rintro i x σ H' hx ⟨u, y1, y2, y3, rfl, hu, s2⟩
      have hi : i < nG ss := by rw [← wl]; exact (List.getElem?_eq_some_iff.mp hx).1
      obtain ⟨xv, ex, dx⟩ := dpall_get (hW.sm s2) (i := i) (d := gfD ss (giftAt (itG i (gap0 ss)))) (by rw [List.getElem?_map, (giftsL_at hi).1]; rfl)
      rw [hx] at ex
      obtain rfl := Option.some.inj ex
      obtain ⟨r, vs, rfl, hr1, hV⟩ := dp_tup dx
      obtain ⟨x1, x2, x3, rfl, d1, d2, d3⟩ : ∃ x1 x2 x3, vs = [x1, x2, x3] ∧ Dp K H' x1 (.str (gs (sitL ss) (fgr (itG i (gap0 ss)))).1) ∧ Dp K H' x2 (.str (gs (sitL ss) (fls (itG i (gap0 ss)))).1) ∧ Dp K H' x3 (pdP (amt (itG i (gap0 ss)))) := by
        cases hV with
        | cons a b => cases b with
          | cons b c => cases c with
            | cons c d => cases d; exact ⟨_, _, _, rfl, a, b, c⟩
      cases d1
      cases d2
      have o := lev_gift lk hi
      have lv := lev_ok lk i (by omega)
      have kk := lv.k23 lk
      have ia := o.ia
      have ib := o.ib
      obtain ⟨a1, _, _, a4⟩ := plK_ok lk.k.nd ia
      obtain ⟨b1, _, _, b4⟩ := plK_ok lk.k.nd ib
      have okg : OkV D (2 ^ 120) (amt (itG i (gap0 ss))) := by
        obtain ⟨gq, _, _, _⟩ := itG_gap lk.gap i
        exact (gq.step (giftsL_at hi).2).ok
      have g1 : 0 < (amt (itG i (gap0 ss))).1 := by
        have h0 := o.pos
        have h1 := o.low.1
        have : ltp (0, 1) (amt (itG i (gap0 ss))) = true := (ltp_iff (by decide) h1).mpr (by rw [rv_nought]; exact h0)
        have := of_decide_eq_true this
        have this : (0 : Int) * (amt (itG i (gap0 ss))).2 < (amt (itG i (gap0 ss))).1 * 1 := this
        omega
      have l26 := lk.k.l
      refine ⟨r, _, rfl, hr1, rfl, _, _, rfl, _, _, rfl, _, _, rfl, rfl, ?_⟩
      refine ⟨_, rfl, _, rfl, _, rfl, _, rfl, u, x3, W, levT ss i, _, _, amt (itG i (gap0 ss)), rfl, hu, by have := lv.len; omega, by rw [lv.names]; exact a4, by rw [lv.names]; exact b4, dp_pd d3, o.low, g1, ?_, fun s hs => ((kk.ok s hs).2.1.okp (by decide) (by decide)), (okg.okp lk.k.d0 lk.b (n := 121) (by decide +kernel) (Nat.le_refl 151)).mono (by decide), fun v' H3 s3 h3 => ?_⟩
      · rw [lv.idx, lv.idx]
        exact o.le
      refine ⟨v', _, _, _, rfl, ?_, s2.trans s3⟩
      rw [lv.idx, lv.idx] at h3
      exact h3
    · rintro σ H' ⟨u, y1, y2, y3, rfl, hu, s2⟩
      rw [wl, lev_end lk] at hu
      exact ⟨_, rfl, q u H' (s1.trans s2) hu⟩
end
end WS
set_option Elab.async false
set_option linter.all false
set_option maxRecDepth 100000
set_option maxHeartbeats 4000000
namespace WS
open PySem PySem.Spec PyProof.Rows L2
section
variable {P : Program} {w : World} {K : PySem.W.Frag} {mg : Str → Option Value} {base : Heap}
open TL
theorem ok_lname (T : Tx K mg base) : FnOk P w K mg base CX0 2 T.f_lname T.d_lname ["_law_pot_here", "_law_used"] spNameW := by
  refine T.F_lname.ok sc_lname (fun vs H Q E h => ?_) (fun cdv A outer s H vs Q E hr h => ?_)
  · obtain ⟨p, U, us, rfl, _⟩ := h
    rfl
  · obtain ⟨p, U, us, rfl, hp, nUp, hU, hl, q⟩ := h
    refine ⟨_, (pss_cons (ps_set (i := 2) sc_lname.nd rfl (.inr rfl) pe_str)
        (pss_cons (ps_set (i := 3) sc_lname.nd rfl (.inl rfl) (pe_join pe_str (pe_lc (own := [("_law_k", 5)]) (g := gName 5) (tt := tYes) (by rfl) sc_lname.nd (pi_range1 (by rfl) T.n_range (pa_cons (pe_ix ix_list (pe_lst (pa_cons pe_int (pa_cons pe_int (pa_cons pe_int (pa_cons pe_int pa_nil))))) (pe_call (ok_ldigit T) (hr.mono (by decide)) (by rfl) T.g_ldigit T.F_ldigit.kp T.b_ldigit .nil pass0 (pa_cons (pv 0) (pa_cons pe_int pa_nil))) (fun _ _ => rfl)) pa_nil)) (blkOk_by (own := [("_law_k", 5)]) (N := ["_law_pot_here", "_law_used", "_law_letters", "_law_name_here", "_law_some", "_law_k", "_law_one"]) (sc := defScope s_lname) (by decide +kernel)) (fun _ _ _ _ _ => (pg_name (i := 5) sc_lname.nd rfl (.inl rfl))) (fun _ _ _ _ _ => pts_nil) (fun _ _ _ _ _ => (pe_ix ix_str (pv 2) (pe_call (ok_ldigit T) (hr.mono (by decide)) (by rfl) T.g_ldigit T.F_ldigit.kp T.b_ldigit .nil pass0 (pa_cons (pv 0) (pa_cons pe_int pa_nil))) (fun _ _ => rfl))))))
        (pss_cons (ps_if (pt_cmpR op_in_seq (pv 3) (pv 1) (by rfl)) (pss_cons (ps_set (i := 4) sc_lname.nd rfl (.inl rfl) (pe_op op_cat (pe_lc (own := [("_law_one", 6)]) (g := gName 6) (by rfl) sc_lname.nd (pi_str (pv 2)) (blkOk_by (own := [("_law_one", 6)]) (N := ["_law_pot_here", "_law_used", "_law_letters", "_law_name_here", "_law_some", "_law_k", "_law_one"]) (sc := defScope s_lname) (by decide +kernel)) (fun _ _ _ _ _ => (pg_name (i := 6) sc_lname.nd rfl (.inl rfl))) (fun _ _ _ _ _ => (pts_one (pt_cmpR (show OpR _ _ (rIn K true) from op_notIn_seq) (pv 6) (pv 1) (by rfl)))) (fun _ _ _ _ _ => (pv 6))) (pe_lc (own := [("_law_one", 6)]) (g := gName 6) (by rfl) sc_lname.nd (pi_str (pv 2)) (blkOk_by (own := [("_law_one", 6)]) (N := ["_law_pot_here", "_law_used", "_law_letters", "_law_name_here", "_law_some", "_law_k", "_law_one"]) (sc := defScope s_lname) (by decide +kernel)) (fun _ _ _ _ _ => (pg_name (i := 6) sc_lname.nd rfl (.inl rfl))) (fun _ _ _ _ _ => (pts_one (pt_cmpR (show OpR _ _ (rIn K true) from op_notIn_seq) (pe_op op_add_str (pv 6) pe_str) (pv 1) (by rfl)))) (fun _ _ _ _ _ => (pe_op op_add_str (pv 6) pe_str)))))
        (pss_one (ps_ret (pe_ix ix_list (pv 4) pe_int (fun _ _ => rfl))))) pss_nil)
        (pss_one (ps_ret (pv 3)))))), ?_⟩
    refine ⟨⟨_, rfl⟩, by show 4 ≤ sizeLine; decide, fun l nl => ?_⟩
    obtain ⟨B, fB, eB, hL⟩ : ∃ B, B = upd H l (.lst [.int 1, .int 2, .int 3, .int 8]) ∧ Same H B ∧ B l = some (.lst [.int 1, .int 2, .int 3, .int 8]) := ⟨_, rfl, same_new nl, upd_same⟩
    rw [← fB]
    have pB := hp.same eB
    refine ⟨_, rfl, p, _, rfl, pB, by decide, by unfold Bt; decide +kernel, fun d H1 d0 d1 s1 p1 => ?_⟩
    obtain ⟨v2, hv, hm⟩ := pick (xs := [V.int 1, V.int 2, V.int 3, V.int 8]) (d := d) d0 d1
    obtain ⟨m, rfl, m1, m8⟩ : ∃ m : Nat, v2 = .int (m : Int) ∧ 1 ≤ m ∧ m ≤ 8 := by
      simp only [List.mem_cons, List.not_mem_nil, or_false] at hm
      rcases hm with rfl | rfl | rfl | rfl
      · exact ⟨1, rfl, by decide, by decide⟩
      · exact ⟨2, rfl, by decide, by decide⟩
      · exact ⟨3, rfl, by decide, by decide⟩
      · exact ⟨8, rfl, by decide, by decide⟩
    have nlp : l ≠ p := pB.nel hL (by decide)
    refine ⟨l, _, _, _, rfl, rfl, .inl (.inl (s1 _ _ nlp hL)), hv, _, rfl, by omega, by omega, fun D nD => ?_⟩
    have sH1 : SameX p H H1 := (Same.x eB).trans s1
    have nDp : D ≠ p := p1.ne nD
    have hU1 := sH1 _ _ nUp hU
    have nUD : U ≠ D := ne_of_none hU1 nD
    refine lc_range (lo := 0) (n := ((m : Nat) : Int).toNat) (fun i H' => ∃ cs : List Nat, H' D = some (.lst ((cs.map sg1).map V.str)) ∧ cs.length = i ∧ (∀ c ∈ cs, 97 ≤ c ∧ c ≤ 122) ∧ SameX p H1 H' ∧ PotAt H' p)
      ⟨[], upd_same, rfl, fun _ h => (List.not_mem_nil h).elim, Same.x (same_new nD), p1.same (same_new nD)⟩ ?_ ?_
    · rintro i H' hi ⟨cs, hD, hcl, hcs, sx, px⟩
      refine ⟨rfl, tyes (iteT ?_)⟩
      refine ⟨_, rfl, _, rfl, p, _, rfl, px, by decide, by unfold Bt; decide +kernel, fun d2 H2 e0 e1 s2 p2 => ?_⟩
      obtain ⟨c, hc, c1, c2⟩ := abc_at e0 e1
      refine ⟨_, _, c, rfl, rfl, by decide, hc, ?_⟩
      have hD2 := s2 _ _ nDp hD
      refine ⟨_, hD2, by rw [List.length_map, List.length_map]; exact small1000 (by omega), cs ++ [c], ?_, by simp [hcl], ?_, samex_upd (sx.trans s2) nD, p2.upd nDp⟩
      · rw [upd_same]
        simp [sg1]
      · intro x hx
        rcases List.mem_append.mp hx with h | h
        · exact hcs x h
        · rw [List.mem_singleton.mp h]; exact ⟨c1, c2⟩
    rintro H2 ⟨cs, hD, hcl, hcs, sx, px⟩
    have hcl : cs.length = m := by omega
    refine ⟨_, D, cs.map sg1, rfl, rfl, .inl (.inl (.inl hD)), ?_, ?_⟩
    · have : ((cs.map sg1).map (·.length)).sum ≤ cs.length := by
        exact sg_len cs
      rw [List.length_map]
      have : (Str.ofString "").length = 0 := rfl
      rw [this]
      omega
    have nz : Nm (Txt.join "" (cs.map sg1)) := by rw [join_eq]; exact join_nm (by omega) (by omega) hcs
    have sH2 := sH1.trans sx
    have hU2 := sH2 _ _ nUp hU
    refine ⟨_, rfl, _, rfl, U, _, rfl, .inl (.inl (.inl hU2)), rfl, flat_strs us, _, rfl, ?_⟩
    show if inV (.str (Txt.join "" (cs.map sg1))) (us.map V.str) = true then _ else _
    rw [inV_str]
    by_cases hin : Txt.join "" (cs.map sg1) ∈ us
    · rw [decide_eq_true hin]
      refine iteT ?_
      refine ⟨_, rfl, _, rfl, fun D1 n1 => ?_⟩
      have n1U : U ≠ D1 := ne_of_none hU2 n1
      refine lc_it walk_str (fun i H' => H' D1 = some (.lst ((((lets.take i).filter fun c => !decide (sg1 c ∈ us)).map sg1).map V.str)) ∧ Same H2 H') ⟨upd_same, same_new n1⟩ (fun _ _ _ _ => trivial) ?_ ?_
      · rintro i x H' H'' hi ⟨hD1, s3⟩ ⟨rfl, c, hc, rfl⟩
        have hc' : lets[i]? = some c := by
          have : abc.cps.toList[i]? = some c := by simpa using hc
          exact this
        refine ⟨rfl, _, rfl, _, rfl, U, _, rfl, .inl (.inl (.inl (s3 _ _ hU2))), rfl, flat_strs us, _, rfl, ?_⟩
        show if (!inV (.str (sg1 c)) (us.map V.str)) = true then _ else _
        rw [inV_str, List.take_add_one, hc', List.filter_append, List.map_append, List.map_append]
        by_cases hn : sg1 c ∈ us
        · rw [decide_eq_true hn]
          refine iteF ⟨?_, s3⟩
          rw [hD1]
          simp [hn]
        · rw [decide_eq_false hn]
          refine iteT ⟨_, rfl, _, hD1, ?_, ?_, same_upd s3 n1⟩
          · rw [List.length_map, List.length_map]
            have := List.length_filter_le (fun c => !decide (sg1 c ∈ us)) (lets.take i)
            rw [List.length_take, lets_ok.2.1] at this
            exact small1000 (by omega)
          · rw [upd_same]
            simp [hn]
            rfl
      rintro H3 ⟨hD1, s3⟩
      rw [show lets.take abc.cps.size = lets by rw [lets_ok.2.2.2, ← lets_ok.2.1, List.take_length]] at hD1
      refine ⟨_, rfl, _, rfl, fun D2 n2 => ?_⟩
      have n21 : D1 ≠ D2 := ne_of_none hD1 n2
      refine lc_it walk_str (fun i H' => H' D2 = some (.lst ((((lets.take i).filter fun c => !decide (sgq c ∈ us)).map sgq).map V.str)) ∧ Same H3 H') ⟨upd_same, same_new n2⟩ (fun _ _ _ _ => trivial) ?_ ?_
      · rintro i x H' H'' hi ⟨hD2, s4⟩ ⟨rfl, c, hc, rfl⟩
        have hc' : lets[i]? = some c := by
          have : abc.cps.toList[i]? = some c := by simpa using hc
          exact this
        refine ⟨rfl, _, rfl, _, _, rfl, rfl, (by show 2 ≤ sizeLine; decide), _, rfl, U, _, rfl, .inl (.inl (.inl (s4 _ _ (s3 _ _ hU2)))), rfl, flat_strs us, _, rfl, ?_⟩
        show if (!inV (.str (sgq c)) (us.map V.str)) = true then _ else _
        rw [inV_str, List.take_add_one, hc', List.filter_append, List.map_append, List.map_append]
        by_cases hn : sgq c ∈ us
        · rw [decide_eq_true hn]
          refine iteF ⟨?_, s4⟩
          rw [hD2]
          simp [hn]
        · rw [decide_eq_false hn]
          refine iteT ⟨_, rfl, _, _, rfl, rfl, (by show 2 ≤ sizeLine; decide), _, hD2, ?_, ?_, same_upd s4 n2⟩
          · rw [List.length_map, List.length_map]
            have := List.length_filter_le (fun c => !decide (sgq c ∈ us)) (lets.take i)
            rw [List.length_take, lets_ok.2.1] at this
            exact small1000 (by omega)
          · rw [upd_same]
            simp [hn]
            rfl
      rintro H4 ⟨hD2, s4⟩
      rw [show lets.take abc.cps.size = lets by rw [lets_ok.2.2.2, ← lets_ok.2.1, List.take_length]] at hD2
      have hD14 := s4 _ _ hD1
      refine ⟨D1, D2, _, _, rfl, rfl, hD14, hD2, ?_, fun C nC => ?_⟩
      · rw [List.length_map, List.length_map, List.length_map, List.length_map, sizeLine_eq]
        have h1 := List.length_filter_le (fun c => !decide (sg1 c ∈ us)) lets
        have h2 := List.length_filter_le (fun c => !decide (sgq c ∈ us)) lets
        rw [lets_ok.2.1] at h1 h2
        omega
      have ne := freeW_ne hl
      rw [← List.map_append, show (lets.filter fun c => !decide (sg1 c ∈ us)).map sg1 ++ (lets.filter fun c => !decide (sgq c ∈ us)).map sgq = freeW us from rfl]
      cases hf : freeW us with
      | nil => exact absurd hf ne
      | cons z r =>
        obtain ⟨nz, hz⟩ := freeW_mem (us := us) (z := z) (by rw [hf]; exact List.mem_cons_self)
        have eC := same_new (o := .lst ((z :: r).map V.str)) nC
        refine ⟨_, rfl, C, _, 0, _, rfl, rfl, .inl (.inl upd_same), atI_nat (j := 0) rfl, ?_⟩
        have s24 := s3.trans (s4.trans eC)
        exact q z _ nz hz (sH2.trans (Same.x s24)) (px.same s24)
    · rw [decide_eq_false hin]
      refine iteF ?_
      exact ⟨_, rfl, q _ H2 nz hin sH2 px⟩
theorem ok_lnames (T : Tx K mg base) : FnOk P w K mg base CX0 3 T.f_lnames T.d_lnames ["_law_pot_here", "_law_many"] spNamesW := by
  refine T.F_lnames.ok sc_lnames (fun vs H Q E h => ?_) (fun cdv A outer s H vs Q E hr h => ?_)
  · obtain ⟨p, m, rfl, _⟩ := h
    rfl
  · obtain ⟨p, m, rfl, hp, hm, q⟩ := h
    refine ⟨_, (pss_cons (ps_set (i := 2) sc_lnames.nd rfl (.inl rfl) (pe_lst pa_nil))
        (pss_cons (ps_for PassesOwn.never rfl (pi_range1 (by rfl) T.n_range (pa_cons (pv 1) pa_nil)) (pg_name (i := 3) sc_lnames.nd rfl (.inl rfl)) (pss_one (ps_expr (pe_bm PySem.F.plainAttrs_list PySem.F.slot_list_append PySem.F.type_list_append mt_append (pv 2) (pa_cons (pe_call (ok_lname T) (hr.mono (by decide)) (by rfl) T.g_lname T.F_lname.kp T.b_lname .nil pass0 (pa_cons (pv 0) (pa_cons (pv 2) pa_nil))) pa_nil)))))
        (pss_one (ps_ret (pv 2))))), ?_⟩
    refine ⟨by show 0 ≤ sizeLine; decide, fun D nD => ?_⟩
    have nDp : D ≠ p := hp.ne nD
    refine ⟨_, rfl, _, rfl, by omega, by omega, for_range (lo := 0) (n := ((m : Nat) : Int).toNat) (fun i σ H' => ∃ (y : Option V) (us : List Str), σ = [some (.ref p), some (.int m), some (.ref D), y] ∧ H' D = some (.lst (us.map V.str)) ∧ us.length = i ∧ us.Nodup ∧ (∀ z ∈ us, Nm z) ∧ SameX p H H' ∧ PotAt H' p)
      ⟨none, [], rfl, upd_same, rfl, List.nodup_nil, fun _ h => (List.not_mem_nil h).elim, Same.x (same_new nD), hp.same (same_new nD)⟩ ?_ ?_⟩
    · rintro i σ H' hi ⟨y, us, rfl, hD, hul, hn, hnm, sx, px⟩
      refine ⟨_, rfl, .inl ⟨rfl, _, .inl (.inl hD)⟩, _, rfl, _, rfl, ?_⟩
      refine ⟨p, D, us, rfl, px, nDp, hD, by omega, fun z H2 nz hz s2 p2 => ?_⟩
      have hD2 := s2 _ _ nDp hD
      refine ⟨D, _, _, rfl, rfl, hD2, by rw [List.length_map]; exact small1000 (by omega), ?_⟩
      refine ⟨_, us ++ [z], rfl, by rw [upd_same, List.map_append]; rfl, by simp [hul], ?_, ?_, samex_upd (sx.trans s2) nD, p2.upd nDp⟩
      · rw [List.nodup_append]
        refine ⟨hn, List.nodup_cons.mpr ⟨List.not_mem_nil, List.nodup_nil⟩, fun a ha b hb e => ?_⟩
        rw [List.mem_singleton.mp hb] at e
        exact hz (e ▸ ha)
      · intro x hx
        rcases List.mem_append.mp hx with h | h
        · exact hnm x h
        · rw [List.mem_singleton.mp h]; exact nz
    · rintro σ H' ⟨y, us, rfl, hD, hul, hn, hnm, sx, px⟩
      exact ⟨_, rfl, q D us H' nD hD (by omega) hn hnm sx px⟩
end
end WS
set_option Elab.async false
set_option linter.all false
set_option maxRecDepth 100000
set_option maxHeartbeats 4000000
namespace WS
open PySem PySem.Spec PyProof.Rows L2
section
variable {P : Program} {w : World} {K : PySem.W.Frag} {mg : Str → Option Value} {base : Heap}
open TL
theorem ok_lsum (T : Tx K mg base) : FnOk P w K mg base CX0 3 T.f_lsum T.d_lsum ["_law_parts"] (spSumX K) := by
  refine T.F_lsum.ok sc_lsum (fun vs H Q E h => ?_) (fun cdv A outer s H vs Q E hr h => ?_)
  · obtain ⟨l, rs, ps, rfl, _⟩ := h
    rfl
  · obtain ⟨l, rs, ps, rfl, hR, hP, N, D, hk, hn, hN, q⟩ := h
    refine ⟨_, (pss_cons (ps_set (i := 1) sc_lsum.nd rfl (.inl rfl) (pe_tup (pa_cons pe_int (pa_cons pe_int pa_nil))))
        (pss_cons (ps_for PassesOwn.never rfl (pi_list (pv 0)) (pg_name (i := 2) sc_lsum.nd rfl (.inl rfl)) (pss_one (ps_set (i := 1) sc_lsum.nd rfl (.inl rfl) (pe_call (ok_lplus T) (hr.mono (by decide)) (by rfl) T.g_lplus T.F_lplus.kp T.b_lplus .nil pass0 (pa_cons (pv 1) (pa_cons (pv 2) pa_nil))))))
        (pss_one (ps_ret (pv 1))))), ?_⟩
    refine ⟨by show 2 ≤ sizeLine; decide, fun t0 n0 => ?_⟩
    refine ⟨_, rfl, l, rfl, ⟨_, Same.seq (same_new n0) hR⟩, for_list (K := K) (a := l) (xs := rs) (fun i σ H' => ∃ v y, σ = [some (.ref l), some v, y] ∧ Same H H' ∧ TupI K H' v ((ps.take i).foldl pl (0, 1)).1 ((ps.take i).foldl pl (0, 1)).2)
      ⟨_, none, rfl, same_new n0, TupI.new⟩ (fun i σ H' _ ⟨_, _, _, s, _⟩ => s.seq hR) ?_ ?_⟩
    · rintro i x σ H' hx ⟨v, y, rfl, s, hv⟩
      obtain ⟨p, hp, ht⟩ := hP.2 i x hx
      have o1 := Ok2.fold (N := N) (D := D) (ps.take i) (0, 1) 0 ⟨by decide, (by unfold Bt; decide : Bt 0 (0 : Int)).mono (by omega), (by unfold Bt; decide : Bt 1 (1 : Int)).mono (by omega)⟩ (fun z hz => hk z (List.mem_of_mem_take hz))
      have o2 := hk p (List.mem_of_getElem? hp)
      have li : (ps.take i).length ≤ ps.length := by rw [List.length_take]; omega
      have l1 := Nat.mul_le_mul_right (D + 1) li
      have l2 := Nat.mul_le_mul_right D li
      have l3 : ps.length * D + ps.length + D + 1 ≤ 4300 := by rw [Nat.add_mul, Nat.mul_add] at hn; omega
      have l4 : (ps.length + 1) * (D + 1) = ps.length * (D + 1) + (D + 1) := by rw [Nat.add_mul, Nat.one_mul]
      have o1' : Ok2 400000 4400 ((ps.take i).foldl pl (0, 1)) := o1.mono (by rw [Nat.zero_add]; omega) (by rw [Nat.zero_add]; omega)
      have o2' : Ok2 400000 4400 p := o2.mono (by omega) (by omega)
      refine ⟨_, rfl, _, rfl, _, _, _, _, _, _, rfl, hv, ht.same s, o1'.1, o2'.1, o1'.2.1, o1'.2.2, o2'.2.1, o2'.2.2, fun t H2 st ht2 => ?_⟩
      refine ⟨t, some x, rfl, s.trans st, ?_⟩
      rw [take_fold hp]
      exact ht2
    · rintro σ H' ⟨v, y, rfl, s, hv⟩
      rw [hP.1, List.take_length] at hv
      exact ⟨_, rfl, q v H' s hv⟩
theorem ok_lfirst (T : Tx K mg base) : FnOk P w K mg base CX0 2 T.f_lfirst T.d_lfirst ["_law_row_here"] (spFirstR K) := by
  refine T.F_lfirst.ok sc_lfirst (fun vs H Q E h => ?_) (fun cdv A outer s H vs Q E hr h => ?_)
  · obtain ⟨l, rs, ps, rfl, _⟩ := h
    rfl
  · obtain ⟨l, rs, ps, rfl, hR, hP, hk, hn, q⟩ := h
    refine ⟨_, (pss_cons (ps_set (i := 1) sc_lfirst.nd rfl (.inl rfl) (pe_listRg (by rfl) (by rfl) T.n_list (prg_1 (by rfl) T.n_range (pe_callB call_len_seq (by rfl) T.n_len (by decide +kernel) (pa_cons (pv 0) pa_nil)))))
        (pss_cons (ps_set (i := 2) sc_lfirst.nd rfl (.inl rfl) (pe_lst pa_nil))
        (pss_cons (ps_while PassesOwn.never (pt_cmpR (op_neD hr.units) (pv 1) (pe_lst pa_nil) (nomark _)) (pss_cons (ps_set (i := 3) sc_lfirst.nd rfl (.inr rfl) (pe_ix ix_list (pv 1) pe_int (fun _ _ => rfl)))
        (pss_cons (ps_for PassesOwn.never rfl (pi_list (pv 1)) (pg_name (i := 4) sc_lfirst.nd rfl (.inl rfl)) (pss_one (ps_if (pt_val (pe_call (ok_lless T) (hr.mono (by decide)) (by rfl) T.g_lless T.F_lless.kp T.b_lless .nil pass0 (pa_cons (pe_ix ix_list (pv 0) (pv 3) (fun _ _ => rfl)) (pa_cons (pe_ix ix_list (pv 0) (pv 4) (fun _ _ => rfl)) pa_nil)))) (pss_one (ps_set (i := 3) sc_lfirst.nd rfl (.inr rfl) (pv 4))) pss_nil)))
        (pss_cons (ps_expr (pe_bm PySem.F.plainAttrs_list PySem.F.slot_list_append PySem.F.type_list_append mt_append (pv 2) (pa_cons (pv 3) pa_nil)))
        (pss_one (ps_setLc (i := 1) (own := [("_law_k", 4)]) (g := gName 4) (by rfl) sc_lfirst.nd rfl rfl (sw_true rfl rfl rfl (by decide +kernel)) (pi_list (pv 1)) (blkOk_by (own := [("_law_k", 4)]) (N := ["_law_row_here", "_law_left", "_law_found", "_law_at", "_law_k"]) (sc := defScope s_lfirst) (by decide +kernel)) (fun _ _ _ _ _ => (pg_name (i := 4) sc_lfirst.nd rfl (.inl rfl))) (fun _ _ _ _ _ => (pts_one (pt_cmpR op_ne (pv 4) (pv 3) (nomark _)))) (fun _ _ _ _ _ => (pv 4))))))))
        (pss_one (ps_ret (pv 2)))))), ?_⟩
    refine ⟨_, rfl, l, rs, rfl, .inl hR, _, rfl, RgOk.of_le (by omega) (by rw [hP.1]; omega) (by omega) (by omega), fun L nL => ?_⟩
    rw [rgV_nat, hP.1]
    obtain ⟨B, eB, sB, hL⟩ : ∃ B, B = upd H L (.lst ((List.range ps.length).map fun j : Nat => V.int j)) ∧ Same H B ∧ B L = some (.lst ((List.range ps.length).map fun j : Nat => V.int j)) := ⟨_, rfl, same_new nL, upd_same⟩
    rw [← eB]
    refine ⟨by show 0 ≤ sizeLine; decide, fun F nF => ?_⟩
    have nLF : L ≠ F := ne_of_none hL nF
    have nFH : H F = none := by
      cases z : H F with
      | none => rfl
      | some o => exact absurd (sB _ _ z) (by rw [nF]; simp)
    refine while_by (fun σ H' => ∃ L' ls fs y z, σ = [some (.ref l), some (.ref L'), some (.ref F), y, z] ∧ H' L' = some (.lst (ls.map fun j : Nat => V.int j)) ∧ H' F = some (.lst (fs.map fun j : Nat => V.int j)) ∧ L' ≠ F ∧ Same H H' ∧ (fs ++ ls).Perm (List.range ps.length) ∧ ls.Pairwise (· < ·) ∧ fs.Pairwise (rkR ps) ∧ (∀ i ∈ fs, ∀ j ∈ ls, rkR ps i j))
      (fun σ H' => match σ with | [_, some (.ref L'), _, _, _] => (match H' L' with | some (.lst xs) => xs.length | _ => 0) | _ => 0)
      ⟨L, List.range ps.length, [], none, none, rfl, by rw [upd_ne nLF]; exact hL, upd_same, nLF, same_upd sB nFH, .refl _, List.pairwise_lt_range, .nil, fun i hi => by simp at hi⟩ ?_ ?_
    · rintro σ H' ⟨L', ls, fs, y, z, rfl, hL', hF', nLF', sH, hperm, hup, hfs, hfl⟩
      have hls : ∀ j ∈ ls, j < ps.length := fun j hj => List.mem_range.mp (hperm.mem_iff.mp (List.mem_append_right _ hj))
      have hlen : ls.length + fs.length ≤ ps.length := by
        have := hperm.length_eq
        rw [List.length_append, List.length_range] at this
        omega
      refine ⟨_, rfl, by show 0 ≤ sizeLine; decide, fun E0' nE => ?_⟩
      obtain ⟨H1, eH1, s1, hE⟩ : ∃ B, B = upd H' E0' (.lst []) ∧ Same H' B ∧ B E0' = some (.lst []) := ⟨_, rfl, same_new nE, upd_same⟩
      show rNeD K _ _ (upd H' E0' (.lst [])) _
      rw [← eH1]
      have hL1 := s1 _ _ hL'
      have hF1 := s1 _ _ hF'
      rw [nats_int] at hL1
      refine ⟨_, _, ints_dp (.inl (.inl hL1)), dp_nil (.inl (.inl hE)), shaped_ints _, shaped_nil, _, rfl, ?_⟩
      rw [eqv_nil]
      cases ls with
      | nil =>
        refine iteF ?_
        rw [List.append_nil] at hperm
        exact ⟨_, rfl, q H1 F fs (sH.trans s1) nFH hF1 ⟨hperm, hfs⟩⟩
      | cons a0 ls =>
        refine iteT ?_
        have hL1' : SqL K H1 L' ((a0 :: ls).map fun j : Nat => V.int j) := by rw [nats_int]; exact .inl (.inl hL1)
        refine ⟨_, rfl, L', _, 0, _, rfl, rfl, hL1', atI_nat (j := 0) rfl, ?_⟩
        refine ⟨_, rfl, L', rfl, ⟨_, hL1'⟩, for_list (K := K) (a := L') (xs := (a0 :: ls).map fun j : Nat => V.int j) (fun i σ H2 => ∃ (t : Nat) (z : Option V), σ = [some (.ref l), some (.ref L'), some (.ref F), some (.int t), z] ∧ t ∈ a0 :: ls ∧ (t ∈ (a0 :: ls).take i ∨ (i = 0 ∧ t = a0)) ∧ (∀ c ∈ (a0 :: ls).take i, c = t ∨ rkR ps t c) ∧ H2 = H1)
          ⟨a0, _, rfl, List.mem_cons_self, .inr ⟨rfl, rfl⟩, fun c hc => by simp at hc, rfl⟩ (fun i σ H2 _ ⟨_, _, _, _, _, _, e⟩ => by rw [e]; exact hL1') ?_ ?_⟩
        · rintro i x σ H2 hx ⟨t, z, rfl, ht, hti, hbest, rfl⟩
          obtain ⟨k, ek, hk', rfl⟩ : ∃ k, (a0 :: ls)[i]? = some k ∧ k ∈ a0 :: ls ∧ V.int (k : Nat) = x := by
            rw [List.getElem?_map] at hx
            cases e : (a0 :: ls)[i]? with
            | none => rw [e] at hx; cases hx
            | some k => rw [e] at hx; exact ⟨k, rfl, List.mem_of_getElem? e, Option.some.inj hx⟩
          have tk : (a0 :: ls).take (i + 1) = (a0 :: ls).take i ++ [k] := by rw [List.take_add_one, ek]; rfl
          have hpos : ∀ q ∈ ps, 0 < q.2 := fun q hq => (hk q hq).1
          have sH1 := sH.trans s1
          obtain ⟨u1, e1, m1, t1⟩ := (hP.k (kt_same sH1)).at (hls t ht)
          obtain ⟨u2, e2, m2, t2⟩ := (hP.k (kt_same sH1)).at (hls k hk')
          have hR1 := sH1.seq hR
          refine ⟨_, rfl, _, rfl, l, _, t, _, rfl, rfl, hR1, atI_nat e1, _, rfl, _, rfl, l, _, k, _, rfl, rfl, hR1, atI_nat e2, ?_⟩
          refine ⟨_, _, _, _, _, _, rfl, t1, t2, (hk _ m1).2.1.mono (by decide), (hk _ m1).2.2, (hk _ m2).2.1.mono (by decide), (hk _ m2).2.2, _, rfl, ?_⟩
          refine ite2 (fun hc => ?_) (fun hc => ?_)
          · have hc : (gp ps t).1 * (gp ps k).2 < (gp ps k).1 * (gp ps t).2 := of_decide_eq_true hc
            refine ⟨_, rfl, k, _, rfl, hk', .inl (by rw [tk]; exact List.mem_append_right _ List.mem_cons_self), fun c hcm => ?_, rfl⟩
            rw [tk] at hcm
            rcases List.mem_append.mp hcm with h | h
            · exact .inr (rk_step hpos hc (hbest c h))
            · exact .inl (List.mem_singleton.mp h)
          · have hc : ¬ (gp ps t).1 * (gp ps k).2 < (gp ps k).1 * (gp ps t).2 := fun z => hc (decide_eq_true z)
            refine ⟨t, _, rfl, ht, .inl ?_, fun c hcm => ?_, rfl⟩
            · rw [tk]
              rcases hti with h | ⟨rfl, rfl⟩
              · exact List.mem_append_left _ h
              · simp at ek
                rw [ek]
                exact List.mem_append_right _ List.mem_cons_self
            · rw [tk] at hcm
              rcases List.mem_append.mp hcm with h | h
              · exact hbest c h
              · rw [List.mem_singleton.mp h]
                by_cases e : k = t
                · exact .inl e
                · refine .inr ?_
                  by_cases l : (gp ps k).1 * (gp ps t).2 < (gp ps t).1 * (gp ps k).2
                  · exact .inl l
                  · refine .inr ⟨by omega, ?_⟩
                    rcases hti with h | ⟨rfl, rfl⟩
                    · obtain ⟨j, hj, ej⟩ := List.mem_iff_getElem.mp h
                      rw [List.length_take] at hj
                      rw [List.getElem_take] at ej
                      obtain ⟨hi2, ei2⟩ := List.getElem?_eq_some_iff.mp ek
                      rw [← ej, ← ei2]
                      exact List.pairwise_iff_getElem.mp hup j i (by omega) hi2 (by omega)
                    · simp at ek
                      exact absurd ek.symm e
        · rintro σ H2 ⟨t, z, rfl, ht, _, hbest, rfl⟩
          rw [List.length_map, List.take_length] at hbest
          refine ⟨_, rfl, .inl ⟨rfl, _, .inl (.inl hF1)⟩, _, rfl, F, _, _, rfl, rfl, hF1, ?_, ?_⟩
          · rw [List.length_map, sizeLine_eq]
            omega
          have hL2 : SqL K (upd H2 F (.lst (fs.map (fun j : Nat => V.int j) ++ [V.int t]))) L' ((a0 :: ls).map fun j : Nat => V.int j) := by
            refine .inl (.inl ?_)
            rw [upd_ne nLF']
            rw [nats_int]
            exact hL1
          obtain ⟨H3, eH3, hF3, hL3, s3⟩ : ∃ B, B = upd H2 F (.lst (fs.map (fun j : Nat => V.int j) ++ [V.int t])) ∧ B F = some (.lst ((fs ++ [t]).map fun j : Nat => V.int j)) ∧ SqL K B L' ((a0 :: ls).map fun j : Nat => V.int j) ∧ Same H B :=
            ⟨_, rfl, by rw [upd_same, List.map_append]; rfl, hL2, same_upd (sH.trans s1) nFH⟩
          rw [← eH3]
          refine ⟨_, rfl, L', rfl, ⟨_, hL3⟩, fun D nD => ?_⟩
          have nDF : F ≠ D := ne_of_none hF3 nD
          have nDH : H D = none := by
            cases z : H D with
            | none => rfl
            | some o => exact absurd (s3 _ _ z) (by rw [nD]; simp)
          refine lc_list (K := K) (a := L') (xs := (a0 :: ls).map fun j : Nat => V.int j) (fun i H' => H' = upd H3 D (.lst ((((a0 :: ls).take i).filter fun k => !decide (k = t)).map fun j : Nat => V.int j))) (by simp) (fun i H' _ e => by rw [e]; exact (same_new nD).seq hL3) ?_ ?_
          · rintro i x H' hx rfl
            obtain ⟨k, ek, rfl⟩ : ∃ k, (a0 :: ls)[i]? = some k ∧ V.int (k : Nat) = x := by
              rw [List.getElem?_map] at hx
              cases e : (a0 :: ls)[i]? with
              | none => rw [e] at hx; cases hx
              | some k => rw [e] at hx; exact ⟨k, rfl, Option.some.inj hx⟩
            refine ⟨rfl, _, rfl, _, rfl, rfl, _, rfl, ?_⟩
            have ed : decide (V.int (k : Int) = V.int (t : Int)) = decide (k = t) := by
              apply decide_eq_decide.mpr
              constructor
              · intro h
                have := V.int.inj h
                omega
              · rintro rfl
                rfl
            rw [ed, List.take_add_one, ek]
            cases hd : decide (k = t) with
            | true =>
              refine iteF ?_
              simp [List.filter_append, hd]
            | false =>
              refine iteT ?_
              refine ⟨_, rfl, _, upd_same, ?_, ?_⟩
              · rw [List.length_map, sizeLine_eq]
                have := List.length_filter_le (fun k => !decide (k = t)) ((a0 :: ls).take i)
                rw [List.length_take] at this
                omega
              · rw [upd_upd]
                simp [List.filter_append, hd]
          · rintro H' rfl
            rw [List.length_map, List.take_length]
            have ndl : (a0 :: ls).Nodup := hup.imp fun {a b} (h : a < b) => Nat.ne_of_lt h
            refine ⟨⟨D, (a0 :: ls).filter fun k => !decide (k = t), fs ++ [t], _, _, rfl, upd_same, ?_, nDF.symm, same_upd s3 nDH, ?_, hup.filter _, ?_, ?_⟩, ?_⟩
            · rw [upd_ne nDF]
              exact hF3
            · rw [List.append_assoc, List.singleton_append]
              exact ((filter_perm ndl ht).append_left fs).trans hperm
            · rw [List.pairwise_append]
              refine ⟨hfs, List.pairwise_singleton _ _, fun a ha b hb => ?_⟩
              rw [List.mem_singleton.mp hb]
              exact hfl a ha t ht
            · intro a ha b hb
              obtain ⟨hb1, hb2⟩ := List.mem_filter.mp hb
              rcases List.mem_append.mp ha with h | h
              · exact hfl a h b hb1
              · rw [List.mem_singleton.mp h]
                rcases hbest b hb1 with e | e
                · simp [e] at hb2
                · exact e
            · have h1 : ((a0 :: ls).filter fun k => !decide (k = t)).length < (a0 :: ls).length := List.length_filter_lt_length_iff_exists.mpr ⟨t, ht, by simp⟩
              show (match upd H3 D _ D with | some (.lst xs) => xs.length | _ => 0) < (match H' L' with | some (.lst xs) => xs.length | _ => 0)
              rw [upd_same, hL']
              simpa using h1
    · rintro σ H' Q1 Q2 k ⟨v, h1, h2, h3⟩
      refine ⟨v, h1, h2, fun E1 n1 => ?_⟩
      obtain ⟨d, e, a1, a2, a3, a4, c, a5, a6⟩ := h3 E1 n1
      exact ⟨d, e, a1, a2, a3, a4, c, a5, k _ _ a6⟩
end
end WS
set_option Elab.async false
set_option linter.all false
set_option maxRecDepth 100000
set_option maxHeartbeats 4000000
namespace WS
open PySem PySem.Spec PyProof.Rows L2
section
variable {P : Program} {w : World} {K : PySem.W.Frag} {mg : Str → Option Value} {base : Heap}
open TL
theorem ok_laverage (T : Tx K mg base) : FnOk P w K mg base CX0 4 T.f_laverage T.d_laverage ["_law_seats"] (spAverage45 K) := by
  refine T.F_laverage.ok sc_laverage (fun vs H Q E h => ?_) (fun cdv A outer s H vs Q E hr h => ?_)
  · obtain ⟨u, D, W, ss, rfl, _⟩ := h
    rfl
  · obtain ⟨u, D, W, ss, rfl, hu, lk, q⟩ := h
    obtain ⟨S, vs, rfl, hS, hV⟩ := dp_tup hu
    refine ⟨_, (pss_cons (ps_setLc (i := 1) (own := [("_law_one", 4)]) (g := gName 4) (by rfl) sc_laverage.nd rfl rfl (sw_true rfl rfl rfl (by decide +kernel)) (pi_tup (pv 0)) (blkOk_by (own := [("_law_one", 4)]) (N := ["_law_seats", "_law_owed", "_law_above", "_law_below", "_law_one"]) (sc := defScope s_laverage) (by decide +kernel)) (fun _ _ _ _ _ => (pg_name (i := 4) sc_laverage.nd rfl (.inl rfl))) (fun _ _ _ _ _ => (pts_one (pt_cmpR op_ne (pe_ix (show IxR _ (rIxT K) from ix_tup) (pv 4) pe_int (fun _ _ => rfl)) pe_str (nomark _)))) (fun _ _ _ _ _ => (pe_ix (show IxR _ (rIxT K) from ix_tup) (pv 4) pe_int (fun _ _ => rfl))))
        (pss_cons (ps_asg (pe_call (ok_lsum T) (hr.mono (by decide)) (by rfl) T.g_lsum T.F_lsum.kp T.b_lsum .nil pass0 (pa_cons (pv 1) pa_nil)) (pg_tup (by rfl) (pgs_cons (pg_name (i := 2) sc_laverage.nd rfl (.inl rfl)) (pgs_cons (pg_name (i := 3) sc_laverage.nd rfl (.inl rfl)) pgs_nil))))
        (pss_one (ps_ret (pe_call (ok_llow T) (hr.mono (by decide)) (by rfl) T.g_llow T.F_llow.kp T.b_llow .nil pass0 (pa_cons (pv 2) (pa_cons (pe_op op_mulW (pv 3) (pe_callB (call_max2 (by rfl)) (by rfl) T.n_max (by decide +kernel) (pa_cons pe_int (pa_cons (pe_callB call_len_seq (by rfl) T.n_len (by decide +kernel) (pa_cons (pv 1) pa_nil)) pa_nil)))) pa_nil))))))), ?_⟩
    rw [show L2.start [Str.ofString "_law_seats", Str.ofString "_law_owed", Str.ofString "_law_above", Str.ofString "_law_below", Str.ofString "_law_one"] [V.ref S] = [some (V.ref S), none, none, none, none] from rfl]
    have l26 := lk.k.l
    have s26 := sit26 lk
    have el : vs.length = ss.length := by rw [dpall_len hV, List.length_map]
    refine ⟨_, rfl, S, rfl, ⟨_, hS⟩, fun D1 nD1 => ?_⟩
    refine lc_tup (K := K) (a := S) (xs := vs) (fun j H' => ∃ us, H' D1 = some (.lst us) ∧ Parts K H' us ((sitL (ss.take j)).map Prod.snd) ∧ Same H H') ⟨[], upd_same, Parts.nil, same_new nD1⟩ (fun j H' _ ⟨_, _, _, s⟩ => Same.tup s hS) ?_ ?_
    · rintro j x H' hx ⟨us, hD, hU, s1⟩
      obtain ⟨st, r, y, es, rfl, hr1, hy⟩ := seat_at (hV.sm s1) hx
      have hj : j < ss.length := (List.getElem?_eq_some_iff.mp es).1
      have et : sitL (ss.take (j + 1)) = sitL (ss.take j) ++ sitL [st] := by
        unfold sitL
        rw [List.take_add_one, es, List.filter_append]
        rfl
      refine ⟨rfl, _, rfl, r, _, 0, _, rfl, rfl, hr1, atI_nat (j := 0) rfl, rfl, _, rfl, ?_⟩
      show if (!decide (V.str st.1 = V.str "")) = true then _ else _
      rw [eqv_strs]
      rw [et]
      by_cases c : st.1 = ""
      · rw [decide_eq_true c]
        have e0 : sitL [st] = [] := by
          unfold sitL
          rw [List.filter_cons, decide_eq_true c]
          rfl
        rw [e0, List.append_nil]
        exact iteF ⟨us, hD, hU, s1⟩
      · rw [decide_eq_false c]
        have e0 : sitL [st] = [st] := by
          unfold sitL
          rw [List.filter_cons, decide_eq_false c]
          rfl
        rw [e0, List.map_append]
        refine iteT ⟨_, rfl, r, _, 1, _, rfl, rfl, hr1, atI_nat (j := 1) rfl, us, hD, ?_, us ++ [y], upd_same, (hU.add (dp_pd hy)).k (kt_set hD), same_upd s1 nD1⟩
        rw [hU.1, List.length_map]
        have l1 : (sitL (ss.take j)).length ≤ (ss.take j).length := List.length_filter_le _ _
        rw [List.length_take] at l1
        exact small1000 (by omega)
    rintro H1 ⟨us, hD, hU, s1⟩
    rw [el, List.take_length] at hU
    have ok2 : ∀ q ∈ (sitL ss).map Prod.snd, Ok2 190 30 q := fun q hq => by
      obtain ⟨s, hs, rfl⟩ := List.mem_map.mp hq
      have o := lk.okv s (sit_mem hs).1
      have o2 := o.okp lk.k.d0 lk.b (n := 115) (by decide +kernel) (Nat.le_refl 145)
      have le : s.2.2.natAbs ≤ D.natAbs := by
        have := Int.le_of_dvd lk.k.d0 o.2.1
        have := o.1
        omega
      exact ⟨o.1, o2.2.1.mono (by decide), Nat.lt_of_le_of_lt le lk.b⟩
    have ul : us.length = (sitL ss).length := by rw [hU.1, List.length_map]
    obtain ⟨sl, so⟩ := lk.sum
    have sk := so.okp lk.k.d0 lk.b (n := 120) (by decide +kernel) (Nat.le_refl 150)
    show gName 1 (V.ref D1) _ H1 _
    dsimp only [List.set_cons_succ, List.set_cons_zero]
    refine ⟨_, rfl, D1, us, _, rfl, .inl (.inl hD), hU, 190, 30, ok2, by rw [List.length_map]; omega, by rw [List.length_map]; omega, fun v H2 s2 tv => ?_⟩
    have tv : TupI K H2 v (sumS ss).1 (sumS ss).2 := tv
    obtain ⟨t, rfl, ht⟩ := tv
    refine ⟨t, _, rfl, ht, rfl, _, _, rfl, _, _, rfl, rfl, ?_⟩
    have bm : Bt 6 ((if ((us.length : Nat) : Int) > 1 then ((us.length : Nat) : Int) else 1) : Int) := by split <;> exact Bt.of_lt (by omega) (by omega)
    have hD2 := s2 _ _ hD
    have em : (if ((us.length : Nat) : Int) > 1 then ((us.length : Nat) : Int) else 1) = ((max 1 (sitL ss).length : Nat) : Int) := by
      rw [ul]
      split <;> omega
    have bm : Bt 6 ((max 1 (sitL ss).length : Nat) : Int) := Bt.of_lt (by omega) (by omega)
    refine ⟨_, rfl, _, rfl, _, rfl, D1, us, rfl, .inl (.inl (.inl hD2)), _, _, rfl, _, _, rfl, rfl, ?_, ?_⟩
    · rw [em]
      exact sk.2.2.cmul bm (by decide)
    rw [em]
    refine ⟨_, _, rfl, Int.mul_pos sl.1 (by omega), (sk.2.2.mul bm).mono (by decide), fun v' H3 s3 tv3 => ?_⟩
    exact q v' H3 (s1.trans (s2.trans s3)) tv3
end
end WS
set_option Elab.async false
set_option linter.all false
set_option maxRecDepth 100000
set_option maxHeartbeats 4000000
namespace WS
open PySem PySem.Spec PyProof.Rows L2
section
variable {P : Program} {w : World} {K : PySem.W.Frag} {mg : Str → Option Value} {base : Heap}
open TL
theorem ok_lminus (T : Tx K mg base) : FnOk P w K mg base CX0 3 T.f_lminus T.d_lminus ["_law_one", "_law_other"] (spMinusL K) := by
  refine T.F_lminus.ok sc_lminus (fun vs H Q E h => ?_) (fun cdv A outer s H vs Q E hr h => ?_)
  · obtain ⟨u, v, p1, q1, rfl, _⟩ := h
    rfl
  · obtain ⟨u, v, p1, q1, rfl, hu, ⟨b, rfl, hb⟩, op, oq, q⟩ := h
    refine ⟨_, (pss_one (ps_ret (pe_call (ok_lplus T) (hr.mono (by decide)) (by rfl) T.g_lplus T.F_lplus.kp T.b_lplus .nil pass0 (pa_cons (pv 0) (pa_cons (pe_tup (pa_cons (pe_op op_sub pe_int (pe_ix ix_tup (pv 1) pe_int (fun _ _ => rfl))) (pa_cons (pe_ix ix_tup (pv 1) pe_int (fun _ _ => rfl)) pa_nil))) pa_nil))))), ?_⟩
    refine ⟨_, rfl, _, rfl, b, _, 0, _, rfl, rfl, hb, atI_nat (j := 0) rfl, _, _, rfl, rfl, _, rfl, b, _, 1, _, rfl, rfl, hb, atI_nat (j := 1) rfl, by show 2 ≤ sizeLine; decide, fun t nt => ?_⟩
    obtain ⟨H1, f1, e1, ht⟩ : ∃ B, B = upd H t (.tup [.int (0 - q1.1), .int q1.2]) ∧ Same H B ∧ SqT K B t [.int (0 - q1.1), .int q1.2] := ⟨_, rfl, same_new nt, .inl (.inl upd_same)⟩
    rw [← f1]
    refine ⟨u, _, p1.1, p1.2, _, _, rfl, hu.same e1, ⟨t, rfl, ht⟩, op.1, oq.1, op.2.1.mono (by decide), op.2.2.mono (by decide), oq.2.1.ng.mono (by decide), oq.2.2.mono (by decide), fun v' H2 s2 hv => ?_⟩
    refine q v' H2 (e1.trans s2) ?_
    have e : lo (p1.1 * q1.2 + (0 - q1.1) * p1.2) (p1.2 * q1.2) = mi p1 q1 := by
      unfold mi
      congr 1
      rw [Int.sub_mul, Int.zero_mul]
      omega
    rw [← e]
    exact hv
theorem ok_lplace (T : Tx K mg base) : FnOk P w K mg base CX0 2 T.f_lplace T.d_lplace ["_law_row_here", "_law_turned"] (spPlace45 K) := by
  refine T.F_lplace.ok sc_lplace (fun vs H Q E h => ?_) (fun cdv A outer s H vs Q E hr h => ?_)
  · obtain ⟨l, b, rs, ps, rfl, _⟩ := h
    rfl
  · obtain ⟨l, b, rs, ps, rfl, hR, hP, hk, h0, hn, q⟩ := h
    refine ⟨_, (pss_cons (ps_set (i := 2) sc_lplace.nd rfl (.inl rfl) pe_int)
        (pss_cons (ps_for PassesOwn.never rfl (pi_enB (by rfl) T.n_enumerate (pa_cons (pv 0) pa_nil)) (pg_tup (by rfl) (pgs_cons (pg_name (i := 3) sc_lplace.nd rfl (.inl rfl)) (pgs_cons (pg_name (i := 4) sc_lplace.nd rfl (.inl rfl)) pgs_nil))) (pss_one (ps_if (PW.pt (pw_or (PW.pt (pw_and (pt_val (pv 1)) (pw_and1 (pt_val (pe_call (ok_lless T) (hr.mono (by decide)) (by rfl) T.g_lless T.F_lless.kp T.b_lless .nil pass0 (pa_cons (pv 4) (pa_cons (pe_ix ix_list (pv 0) (pv 2) (fun _ _ => rfl)) pa_nil))))))) (pw_or1 (PW.pt (pw_and (pt_not (pt_val (pv 1))) (pw_and1 (pt_val (pe_call (ok_lless T) (hr.mono (by decide)) (by rfl) T.g_lless T.F_lless.kp T.b_lless .nil pass0 (pa_cons (pe_ix ix_list (pv 0) (pv 2) (fun _ _ => rfl)) (pa_cons (pv 4) pa_nil)))))))))) (pss_one (ps_set (i := 2) sc_lplace.nd rfl (.inl rfl) (pv 3))) pss_nil)))
        (pss_one (ps_ret (pv 2))))), ?_⟩
    have pos : ∀ q ∈ ps, 0 < q.2 := fun q hq => (hk q hq).1
    have rl := hP.1
    obtain ⟨F, eF⟩ : ∃ F : Nat → Nat → Nat, F = (if b = true then flF ps else fgF ps) := ⟨_, rfl⟩
    have Flt : ∀ i, i ≤ ps.length → (List.range i).foldl F 0 < ps.length := fun i hi => by
      rw [eF]
      cases b
      · exact fgr_lt pos hi h0
      · exact fls_lt pos hi h0
    have Ftk : ∀ i, (List.range (i + 1)).foldl F 0 = F ((List.range i).foldl F 0) i := fun i => by
      rw [List.range_succ, List.foldl_append]
      rfl
    refine ⟨_, rfl, true, l, rs, rfl, .inl (.inl hR), for_it (walk_enB (K := K) (b := true) (a := l) (xs := rs) (k := 0)) (fun i σ H' => ∃ y z, σ = [some (.ref l), some (.bl b), some (.int ((List.range i).foldl F 0 : Nat)), y, z] ∧ Same H H') ⟨none, none, rfl, Same.refl _⟩ (fun i σ H' _ ⟨_, _, _, s⟩ => .inl (.inl (s _ _ hR))) ?_ ?_⟩
    · rintro i x σ H' H'' hi ⟨y, z, rfl, s1⟩ ⟨t, v1, v2, rfl, nt, rfl, ev1, ev2⟩
      have ev1 : some (V.int (0 + (i : Nat))) = some v1 := ev1
      rw [Int.zero_add] at ev1
      obtain rfl : V.int (i : Nat) = v1 := Option.some.inj ev1
      have hi : i < rs.length := hi
      have ev2 : rs[i]? = some v2 := ev2
      have s2 : Same H (upd H' t (.tup [.int (i : Nat), v2])) := s1.trans (same_new nt)
      refine ⟨t, _, rfl, .inl (.inl upd_same), rfl, _, _, rfl, _, _, rfl, rfl, ?_⟩
      have fl := Flt i (by omega)
      have et := Ftk i
      generalize (List.range i).foldl F 0 = f at *
      obtain ⟨u1, e1, m1, t1⟩ := (hP.k (kt_same s2)).at fl
      obtain ⟨u2, e2, m2, t2⟩ := (hP.k (kt_same s2)).at (show i < ps.length by omega)
      rw [ev2] at e2
      obtain rfl := Option.some.inj e2
      have o1 := hk _ m1
      have o2 := hk _ m2
      have hR2 := s2 _ _ hR
      rw [et, eF]
      cases b with
      | true =>
        refine ⟨_, rfl, true, rfl, iteT ?_⟩
        refine ⟨_, rfl, _, rfl, _, rfl, l, _, f, _, rfl, rfl, .inl (.inl hR2), atI_nat e1, ?_⟩
        refine ⟨_, _, _, _, _, _, rfl, t2, t1, o2.2.1.mono (by decide), o2.2.2.mono (by decide), o1.2.1.mono (by decide), o1.2.2.mono (by decide), ?_⟩
        have eg : ltp (gp ps i) (gp ps f) = decide ((gp ps i).1 * (gp ps f).2 < (gp ps f).1 * (gp ps i).2) := rfl
        rw [← eg]
        refine ⟨_, rfl, ?_⟩
        cases c : ltp (gp ps i) (gp ps f) with
        | true =>
          have ef : (if (true : Bool) = true then flF ps else fgF ps) f i = i := by
            show flF ps f i = i
            unfold flF
            rw [c]
            rfl
          rw [ef]
          exact iteT (iteT ⟨_, rfl, _, _, rfl, s2⟩)
        | false =>
          have ef : (if (true : Bool) = true then flF ps else fgF ps) f i = f := by
            show flF ps f i = f
            unfold flF
            rw [c]
            rfl
          rw [ef]
          refine iteF ?_
          refine ⟨_, rfl, true, rfl, iteF (iteF ?_)⟩
          exact ⟨_, _, rfl, s2⟩
      | false =>
        refine ⟨_, rfl, false, rfl, iteF (iteF ?_)⟩
        refine ⟨_, rfl, false, rfl, iteT ?_⟩
        refine ⟨_, rfl, _, rfl, l, _, f, _, rfl, rfl, .inl (.inl hR2), atI_nat e1, _, rfl, ?_⟩
        refine ⟨_, _, _, _, _, _, rfl, t1, t2, o1.2.1.mono (by decide), o1.2.2.mono (by decide), o2.2.1.mono (by decide), o2.2.2.mono (by decide), ?_⟩
        have eg : ltp (gp ps f) (gp ps i) = decide ((gp ps f).1 * (gp ps i).2 < (gp ps i).1 * (gp ps f).2) := rfl
        rw [← eg]
        refine ⟨_, rfl, ?_⟩
        cases c : ltp (gp ps f) (gp ps i) with
        | true =>
          have ef : (if (false : Bool) = true then flF ps else fgF ps) f i = i := by
            show fgF ps f i = i
            unfold fgF
            rw [c]
            rfl
          rw [ef]
          exact iteT ⟨_, rfl, _, _, rfl, s2⟩
        | false =>
          have ef : (if (false : Bool) = true then flF ps else fgF ps) f i = f := by
            show fgF ps f i = f
            unfold fgF
            rw [c]
            rfl
          rw [ef]
          exact iteF ⟨_, _, rfl, s2⟩
    · rintro σ H' ⟨y, z, rfl, s1⟩
      have e : (List.range rs.length).foldl F 0 = if b then fls ps else fgr ps := by rw [rl, eF]; cases b <;> rfl
      exact ⟨_, rfl, q H' _ s1 e⟩
end
end WS
set_option Elab.async false
set_option linter.all false
set_option maxRecDepth 100000
set_option maxHeartbeats 4000000
namespace WS
open PySem PySem.Spec PyProof.Rows L2
section
variable {P : Program} {w : World} {K : PySem.W.Frag} {mg : Str → Option Value} {base : Heap}
open TL
theorem ok_ldue (T : Tx K mg base) : FnOk P w K mg base CX0 5 T.f_ldue T.d_ldue ["_law_seats"] (spDue45 K) := by
  refine T.F_ldue.ok sc_ldue (fun vs H Q E h => ?_) (fun cdv A outer s H vs Q E hr h => ?_)
  · obtain ⟨u, D, W, ss, rfl, _⟩ := h
    rfl
  · obtain ⟨u, D, W, ss, rfl, hu, lk, q⟩ := h
    obtain ⟨S, vs, rfl, hS, hV⟩ := dp_tup hu
    refine ⟨_, (pss_cons (ps_setLc (i := 1) (own := [("_law_one", 10)]) (g := gName 10) (by rfl) sc_ldue.nd rfl rfl (sw_true rfl rfl rfl (by decide +kernel)) (pi_tup (pv 0)) (blkOk_by (own := [("_law_one", 10)]) (N := ["_law_seats", "_law_folk", "_law_average_here", "_law_gaps", "_law_found", "_law_turn", "_law_at", "_law_to", "_law_amount", "_law_lacks", "_law_one", "_law_gap"]) (sc := defScope s_ldue) (by decide +kernel)) (fun _ _ _ _ _ => (pg_name (i := 10) sc_ldue.nd rfl (.inl rfl))) (fun _ _ _ _ _ => (pts_one (pt_cmpR op_ne (pe_ix (show IxR _ (rIxT K) from ix_tup) (pv 10) pe_int (fun _ _ => rfl)) pe_str (nomark _)))) (fun _ _ _ _ _ => (pe_ix (show IxR _ (rIxT K) from ix_tup) (pv 10) pe_int (fun _ _ => rfl))))
        (pss_cons (ps_set (i := 2) sc_ldue.nd rfl (.inr rfl) (pe_call (ok_laverage T) (hr.mono (by decide)) (by rfl) T.g_laverage T.F_laverage.kp T.b_laverage .nil pass0 (pa_cons (pv 0) pa_nil)))
        (pss_cons (ps_setLc (i := 3) (own := [("_law_one", 10)]) (g := gName 10) (by rfl) sc_ldue.nd rfl rfl (sw_true rfl rfl rfl (by decide +kernel)) (pi_tup (pv 0)) (blkOk_by (own := [("_law_one", 10)]) (N := ["_law_seats", "_law_folk", "_law_average_here", "_law_gaps", "_law_found", "_law_turn", "_law_at", "_law_to", "_law_amount", "_law_lacks", "_law_one", "_law_gap"]) (sc := defScope s_ldue) (by decide +kernel)) (fun _ _ _ _ _ => (pg_name (i := 10) sc_ldue.nd rfl (.inl rfl))) (fun _ _ _ _ _ => (pts_one (pt_cmpR op_ne (pe_ix (show IxR _ (rIxT K) from ix_tup) (pv 10) pe_int (fun _ _ => rfl)) pe_str (nomark _)))) (fun _ _ _ _ _ => (pe_call (ok_lminus T) (hr.mono (by decide)) (by rfl) T.g_lminus T.F_lminus.kp T.b_lminus .nil pass0 (pa_cons (pe_ix (show IxR _ (rIxT K) from ix_tup) (pv 10) pe_int (fun _ _ => rfl)) (pa_cons (pv 2) pa_nil)))))
        (pss_cons (ps_set (i := 4) sc_ldue.nd rfl (.inl rfl) (pe_lst pa_nil))
        (pss_cons (ps_for PassesOwn.never rfl (pi_range1 (by rfl) T.n_range (pa_cons (pe_callB call_len_seq (by rfl) T.n_len (by decide +kernel) (pa_cons (pv 1) pa_nil)) pa_nil)) (pg_name (i := 5) sc_ldue.nd rfl (.inl rfl)) (pss_one (ps_if (pt_cmpR (op_neD hr.units) (pe_lc (own := [("_law_gap", 11)]) (g := gName 11) (by rfl) sc_ldue.nd (pi_list (pv 3)) (blkOk_by (own := [("_law_gap", 11)]) (N := ["_law_seats", "_law_folk", "_law_average_here", "_law_gaps", "_law_found", "_law_turn", "_law_at", "_law_to", "_law_amount", "_law_lacks", "_law_one", "_law_gap"]) (sc := defScope s_ldue) (by decide +kernel)) (fun _ _ _ _ _ => (pg_name (i := 11) sc_ldue.nd rfl (.inl rfl))) (fun _ _ _ _ _ => (pts_one (pt_cmpR (show OpR _ _ (rNeD K) from op_neD hr.units) (pv 11) (pe_tup (pa_cons pe_int (pa_cons pe_int pa_nil))) (nomark _)))) (fun _ _ _ _ _ => (pv 11))) (pe_lst pa_nil) (nomark _)) (pss_cons (ps_par (i := 6) (j := 7) (by rfl) sc_ldue.nd rfl rfl (by decide) rfl rfl (pa_cons (pe_call (ok_lplace T) (hr.mono (by decide)) (by rfl) T.g_lplace T.F_lplace.kp T.b_lplace .nil pass0 (pa_cons (pv 3) (pa_cons pe_bl pa_nil))) (pa_cons (pe_call (ok_lplace T) (hr.mono (by decide)) (by rfl) T.g_lplace T.F_lplace.kp T.b_lplace .nil pass0 (pa_cons (pv 3) (pa_cons pe_bl pa_nil))) pa_nil)) (by rfl))
        (pss_cons (ps_set (i := 8) sc_ldue.nd rfl (.inl rfl) (pe_ix ix_list (pv 3) (pv 6) (fun _ _ => rfl)))
        (pss_cons (ps_set (i := 9) sc_ldue.nd rfl (.inl rfl) (pe_tup (pa_cons (pe_op op_sub pe_int (pe_ix ix_tup (pe_ix ix_list (pv 3) (pv 7) (fun _ _ => rfl)) pe_int (fun _ _ => rfl))) (pa_cons (pe_ix ix_tup (pe_ix ix_list (pv 3) (pv 7) (fun _ _ => rfl)) pe_int (fun _ _ => rfl)) pa_nil))))
        (pss_cons (ps_if (pt_val (pe_call (ok_lless T) (hr.mono (by decide)) (by rfl) T.g_lless T.F_lless.kp T.b_lless .nil pass0 (pa_cons (pv 9) (pa_cons (pv 8) pa_nil)))) (pss_one (ps_set (i := 8) sc_ldue.nd rfl (.inl rfl) (pv 9))) pss_nil)
        (pss_cons (ps_asg (pe_call (ok_lminus T) (hr.mono (by decide)) (by rfl) T.g_lminus T.F_lminus.kp T.b_lminus .nil pass0 (pa_cons (pe_ix ix_list (pv 3) (pv 6) (fun _ _ => rfl)) (pa_cons (pv 8) pa_nil))) (pg_sub (pv 3) (pv 6) set_list))
        (pss_cons (ps_asg (pe_call (ok_lplus T) (hr.mono (by decide)) (by rfl) T.g_lplus T.F_lplus.kp T.b_lplus .nil pass0 (pa_cons (pe_ix ix_list (pv 3) (pv 7) (fun _ _ => rfl)) (pa_cons (pv 8) pa_nil))) (pg_sub (pv 3) (pv 7) set_list))
        (pss_one (ps_expr (pe_bm PySem.F.plainAttrs_list PySem.F.slot_list_append PySem.F.type_list_append mt_append (pv 4) (pa_cons (pe_tup (pa_cons (pe_ix ix_list (pv 1) (pv 6) (fun _ _ => rfl)) (pa_cons (pe_ix ix_list (pv 1) (pv 7) (fun _ _ => rfl)) (pa_cons (pv 8) pa_nil)))) pa_nil)))))))))) pss_nil)))
        (pss_one (ps_ret (pv 4)))))))), ?_⟩
    rw [show L2.start [Str.ofString "_law_seats", Str.ofString "_law_folk", Str.ofString "_law_average_here", Str.ofString "_law_gaps", Str.ofString "_law_found", Str.ofString "_law_turn", Str.ofString "_law_at", Str.ofString "_law_to", Str.ofString "_law_amount", Str.ofString "_law_lacks", Str.ofString "_law_one", Str.ofString "_law_gap"] [V.ref S] = [some (V.ref S), none, none, none, none, none, none, none, none, none, none, none] from rfl]
    have l26 := lk.k.l
    have s26 := sit26 lk
    have el : vs.length = ss.length := by rw [dpall_len hV, List.length_map]
    have gap := lk.gap
    have gl := gap_len ss
    have sitT : ∀ {j : Nat} {st : Seat}, ss[j]? = some st → sitL (ss.take (j + 1)) = sitL (ss.take j) ++ sitL [st] := fun {j st} es => by
      unfold sitL
      rw [List.take_add_one, es, List.filter_append]
      rfl
    have sit0 : ∀ {st : Seat}, st.1 = "" → sitL [st] = [] := fun {st} c => by
      unfold sitL
      rw [List.filter_cons, decide_eq_true c]
      rfl
    have sit1 : ∀ {st : Seat}, st.1 ≠ "" → sitL [st] = [st] := fun {st} c => by
      unfold sitL
      rw [List.filter_cons, decide_eq_false c]
      rfl
    have sitle : ∀ j, (sitL (ss.take j)).length ≤ j := fun j => by
      have l1 : (sitL (ss.take j)).length ≤ (ss.take j).length := List.length_filter_le _ _
      rw [List.length_take] at l1
      omega
    -- who sits
    refine ⟨_, rfl, S, rfl, ⟨_, hS⟩, fun F nF => ?_⟩
    refine lc_tup (K := K) (a := S) (xs := vs) (fun j H' => H' F = some (.lst (((sitL (ss.take j)).map Prod.fst).map V.str)) ∧ Same H H') ⟨upd_same, same_new nF⟩ (fun j H' _ ⟨_, s⟩ => Same.tup s hS) ?_ ?_
    · rintro j x H' hx ⟨hD, s1⟩
      obtain ⟨st, r, y, es, rfl, hr1, hy⟩ := seat_at (hV.sm s1) hx
      have hj : j < ss.length := (List.getElem?_eq_some_iff.mp es).1
      refine ⟨rfl, _, rfl, r, _, 0, _, rfl, rfl, hr1, atI_nat (j := 0) rfl, rfl, _, rfl, ?_⟩
      show if (!decide (V.str st.1 = V.str "")) = true then _ else _
      rw [eqv_strs, sitT es]
      by_cases c : st.1 = ""
      · rw [decide_eq_true c, sit0 c, List.append_nil]
        exact iteF ⟨hD, s1⟩
      · rw [decide_eq_false c, sit1 c, List.map_append, List.map_append]
        refine iteT ⟨_, rfl, r, _, 0, _, rfl, rfl, hr1, atI_nat (j := 0) rfl, _, hD, ?_, upd_same, same_upd s1 nF⟩
        rw [List.length_map, List.length_map]
        have := sitle j
        exact small1000 (by omega)
    rintro H1 ⟨hF, s1⟩
    rw [el, List.take_length, ← names_sit] at hF
    show gName 1 (V.ref F) _ H1 _
    -- the average
    refine ⟨_, rfl, .ref S, D, W, ss, rfl, hu.sm s1, lk, fun av H2 s2 tav => ?_⟩
    have s02 := s1.trans s2
    have hF2 := s2 _ _ hF
    dsimp only [List.set_cons_succ, List.set_cons_zero]
    -- the gaps
    have okA := lk.avk.okp lk.k.d0 lk.b (n := 120) (by decide +kernel) (Nat.le_refl 150)
    refine ⟨_, rfl, S, rfl, ⟨_, Same.tup s02 hS⟩, fun G nG => ?_⟩
    have nGH : H G = none := s02.free nG
    refine lc_tup (K := K) (a := S) (xs := vs) (fun j H' => ∃ us, H' G = some (.lst us) ∧ Parts K H' us ((sitL (ss.take j)).map fun s => mi s.2 (avP ss)) ∧ Same H2 H') ⟨[], upd_same, Parts.nil, same_new nG⟩ (fun j H' _ ⟨_, _, _, s⟩ => Same.tup (s02.trans s) hS) ?_ ?_
    · rintro j x H' hx ⟨us, hD, hU, s3⟩
      obtain ⟨st, r, y, es, rfl, hr1, hy⟩ := seat_at (hV.sm (s02.trans s3)) hx
      have hj : j < ss.length := (List.getElem?_eq_some_iff.mp es).1
      refine ⟨rfl, _, rfl, r, _, 0, _, rfl, rfl, hr1, atI_nat (j := 0) rfl, rfl, _, rfl, ?_⟩
      show if (!decide (V.str st.1 = V.str "")) = true then _ else _
      rw [eqv_strs, sitT es]
      by_cases c : st.1 = ""
      · rw [decide_eq_true c, sit0 c, List.append_nil]
        exact iteF ⟨us, hD, hU, s3⟩
      · rw [decide_eq_false c, sit1 c, List.map_append]
        have oS := ((lk.okv st (List.mem_of_getElem? es)).okp lk.k.d0 lk.b (n := 115) (by decide +kernel) (Nat.le_refl 145)).mono (m := 1000) (by decide)
        refine iteT ⟨_, rfl, r, _, 1, _, rfl, rfl, hr1, atI_nat (j := 1) rfl, _, rfl, _, av, st.2, avP ss, rfl, dp_pd hy, tav.same s3, oS, okA.mono (by decide), fun v4 H4 s4 tv4 => ?_⟩
        have hD4 := s4 _ _ hD
        refine ⟨us, hD4, ?_, us ++ [v4], upd_same, ((hU.k (kt_same s4)).add tv4).k (kt_set hD4), same_upd (s3.trans s4) nG⟩
        rw [hU.1, List.length_map]
        have := sitle j
        exact small1000 (by omega)
    rintro H3 ⟨us0, hG, hU, s3⟩
    rw [el, List.take_length] at hU
    have hU : Parts K H3 us0 (gap0 ss) := hU
    show gName 3 (V.ref G) _ H3 _
    refine ⟨by show 0 ≤ sizeLine; decide, fun R nR => ?_⟩
    obtain ⟨H4, f4, e4, hR⟩ : ∃ B, B = upd H3 R (.lst []) ∧ Same H3 B ∧ B R = some (.lst []) := ⟨_, rfl, same_new nR, upd_same⟩
    show gName 4 (V.ref R) _ (upd H3 R (.lst [])) _
    rw [← f4]
    have s04 := s02.trans (s3.trans e4)
    have nRH : H R = none := (s02.trans s3).free nR
    have hF4 := (s3.trans e4) _ _ hF2
    have hG4 := e4 _ _ hG
    have nFG : F ≠ G := ne_of_none hF2 nG
    have nGR : G ≠ R := ne_of_none hG nR
    have nFR : F ≠ R := ne_of_none ((s3) _ _ hF2) nR
    dsimp only [List.set_cons_succ, List.set_cons_zero]
    have nl : (names ss).length = (sitL ss).length := by rw [names_sit, List.length_map]
    have inl : ∀ (k : Nat), k < (sitL ss).length → ((names ss).map V.str)[k]? = some (V.str (gs (sitL ss) k).1) := fun k hk => by
      rw [names_sit, List.getElem?_map, List.getElem?_map, at_gs hk]
      rfl
    refine ⟨_, rfl, F, _, rfl, .inl (.inl (.inl hF4)), _, rfl, by rw [List.length_map]; omega, by rw [List.length_map]; omega, for_range (lo := 0) (n := ((((names ss).map V.str).length : Nat) : Int).toNat) (fun i σ H' => ∃ us ws y5 y6 y7 y8 y9 y10 y11, σ = [some (.ref S), some (.ref F), some av, some (.ref G), some (.ref R), y5, y6, y7, y8, y9, y10, y11] ∧ H' G = some (.lst us) ∧ Parts K H' us (itG i (gap0 ss)) ∧ H' F = some (.lst ((names ss).map V.str)) ∧ H' R = some (.lst ws) ∧ DpAll K H' ws ((gfG i (gap0 ss)).map (gfD ss)) ∧ Same H H') ⟨us0, [], none, none, none, none, none, none, none, rfl, hG4, hU.k (kt_same e4), hF4, hR, .nil, s04⟩ ?_ ?_⟩
    · rintro i σ H' hi ⟨us, ws, y5, y6, y7, y8, y9, y10, y11, rfl, hG', hU', hF', hR', hW, sH⟩
      obtain ⟨gq, ql, _, glen⟩ := itG_gap gap i
      have nzl := nz_le (gap0 ss)
      have wl : ws.length = (gfG i (gap0 ss)).length := by rw [dpall_len hW, List.length_map]
      have ul : us.length = (sitL ss).length := by rw [hU'.1, ql, gl]
      -- is there anything left
      refine ⟨_, rfl, G, rfl, ⟨_, .inl (.inl hG')⟩, fun C nC => ?_⟩
      refine lc_list (K := K) (a := G) (xs := us) (fun j H'' => ∃ cs, H'' C = some (.lst cs) ∧ Parts K H'' cs (((itG i (gap0 ss)).take j).filter fun q => !decide (q = ((0, 1) : Int × Int))) ∧ Same H' H'') ⟨[], upd_same, Parts.nil, same_new nC⟩ (fun j H'' _ ⟨_, _, _, s⟩ => .inl (.inl (s _ _ hG'))) ?_ ?_
      · rintro j x H'' hx ⟨cs, hC, hCs, s5⟩
        have hj : j < us.length := (List.getElem?_eq_some_iff.mp hx).1
        obtain ⟨p, hp, tp⟩ := hU'.2 j x hx
        refine ⟨rfl, _, rfl, by show 2 ≤ sizeLine; decide, fun t nt => ?_⟩
        have et := same_new (o := .tup [.int 0, .int 1]) nt
        obtain ⟨H6, f6, e6, ht6⟩ : ∃ B, B = upd H'' t (.tup [.int 0, .int 1]) ∧ Same H'' B ∧ TupI K B (.ref t) 0 1 := ⟨_, rfl, et, t, rfl, .inl (.inl upd_same)⟩
        show rNeD K _ _ (upd H'' t (.tup [.int 0, .int 1])) _
        rw [← f6]
        have hC6 := e6 _ _ hC
        refine ⟨_, _, pd_dp (tp.same (s5.trans e6)), pd_dp ht6, rfl, rfl, _, rfl, ?_⟩
        rw [eqv_pairs, List.take_add_one, hp, List.filter_append]
        have : decide (p.1 = 0 ∧ p.2 = 1) = decide (p = ((0, 1) : Int × Int)) := decide_eq_decide.mpr ⟨fun h => Prod.ext h.1 h.2, fun h => by rw [h]; exact ⟨rfl, rfl⟩⟩
        rw [this, Option.toList_some]
        by_cases c : p = ((0, 1) : Int × Int)
        · rw [decide_eq_true c]
          refine iteF ⟨cs, hC6, ?_, s5.trans e6⟩
          rw [List.filter_cons, decide_eq_true c]
          simp only [Bool.not_true, Bool.false_eq_true, if_false, List.filter_nil, List.append_nil]
          exact hCs.k (kt_same e6)
        · rw [decide_eq_false c]
          refine iteT ⟨_, rfl, cs, hC6, ?_, cs ++ [x], upd_same, ?_, same_upd (s5.trans e6) nC⟩
          · have := List.length_filter_le (fun q => !decide (q = ((0, 1) : Int × Int))) ((itG i (gap0 ss)).take j)
            rw [List.length_take] at this
            rw [hCs.1]
            exact small1000 (by omega)
          · rw [List.filter_cons, decide_eq_false c]
            simp only [Bool.not_false, if_true, List.filter_nil]
            exact ((hCs.k (kt_same e6)).add (tp.same (s5.trans e6))).k (kt_set hC6)
      rintro H5 ⟨cs, hC, hCs, s5⟩
      rw [ul, ← gl, ← ql, List.take_length] at hCs
      refine ⟨by show 0 ≤ sizeLine; decide, fun Z nZ => ?_⟩
      obtain ⟨H6, f6, e6, hZ⟩ : ∃ B, B = upd H5 Z (.lst []) ∧ Same H5 B ∧ B Z = some (.lst []) := ⟨_, rfl, same_new nZ, upd_same⟩
      show rNeD K _ _ (upd H5 Z (.lst [])) _
      rw [← f6]
      have s6 := s5.trans e6
      have hG6 := s6 _ _ hG'
      have hU6 := hU'.k (kt_same s6)
      have hF6 := s6 _ _ hF'
      have hR6 := s6 _ _ hR'
      have hW6 := hW.sm s6
      have sH6 := sH.trans s6
      refine ⟨_, _, .lst (.inl (.inl (e6 _ _ hC))) (dpall_parts (hCs.k (kt_same e6))), .lst (.inl (.inl hZ)) .nil, (shaped_parts _).1, by rfl, _, rfl, ?_⟩
      cases na : allN (itG i (gap0 ss)) with
      | true =>
        have e0 : ((itG i (gap0 ss)).filter fun q => !decide (q = ((0, 1) : Int × Int))) = [] := List.filter_eq_nil_iff.mpr fun q hq => by rw [allN_true na q hq]; decide
        rw [e0]
        refine iteF ?_
        have e1 : itG (i + 1) (gap0 ss) = itG i (gap0 ss) := if_pos na
        have e2 : gfG (i + 1) (gap0 ss) = gfG i (gap0 ss) := if_pos na
        refine ⟨us, ws, _, _, _, _, _, _, _, rfl, hG6, ?_, hF6, hR6, ?_, sH6⟩
        · rw [e1]; exact hU6
        · rw [e2]; exact hW6
      | false =>
      obtain ⟨qz, hqz, nqz⟩ := allN_false na
      have e0 : (!PyData.eqv (.list (((itG i (gap0 ss)).filter fun q => !decide (q = ((0, 1) : Int × Int))).map pdP)) (.list [])) = true := by
        have hm : qz ∈ (itG i (gap0 ss)).filter fun q => !decide (q = ((0, 1) : Int × Int)) := List.mem_filter.mpr ⟨hqz, by rw [decide_eq_false nqz]; rfl⟩
        cases e : (itG i (gap0 ss)).filter fun q => !decide (q = ((0, 1) : Int × Int)) with
        | nil => rw [e] at hm; cases hm
        | cons a b => rfl
      rw [e0]
      refine iteT ?_
      have st := gq.step na
      have okq : ∀ q ∈ itG i (gap0 ss), Okp 1000 q := fun q hq => ((gq.ok q hq).okp lk.k.d0 lk.b (n := 121) (by decide +kernel) (Nat.le_refl 151)).mono (by decide)
      have nx := itG_succ na
      generalize eqt : itG i (gap0 ss) = ps at *
      have hi' := st.i
      have hj' := st.j
      refine ⟨_, rfl, G, false, us, ps, rfl, hG6, hU6, okq, by omega, by omega, fun H7 k7 s7 ek7 => ?_⟩
      obtain rfl : k7 = fgr ps := ek7
      refine ⟨_, rfl, G, true, us, ps, rfl, s7 _ _ hG6, hU6.k (kt_same s7), okq, by omega, by omega, fun H8 k8 s8 ek8 => ?_⟩
      obtain rfl : k8 = fls ps := ek8
      refine ⟨_, _, rfl, ?_⟩
      have s68 := s7.trans s8
      have hG8 := s68 _ _ hG6
      have hU8 := hU6.k (kt_same s68)
      have hF8 := s68 _ _ hF6
      have hR8 := s68 _ _ hR6
      have sH8 := sH6.trans s68
      obtain ⟨u1, e1, m1, t1⟩ := hU8.at hi'
      obtain ⟨u2, e2, m2, t2⟩ := hU8.at hj'
      have o1 := okq _ m1
      have o2 := okq _ m2
      have lj := gq.low _ m2
      dsimp only [List.set_cons_succ, List.set_cons_zero]
      obtain ⟨b2, rfl, hb2⟩ := t2
      refine ⟨_, rfl, _, rfl, G, _, _, _, rfl, rfl, .inl (.inl hG8), atI_nat e1, ?_⟩
      refine ⟨_, rfl, _, rfl, G, _, _, _, rfl, rfl, .inl (.inl hG8), atI_nat e2, b2, _, 0, _, rfl, rfl, hb2, atI_nat (j := 0) rfl, _, _, rfl, rfl, _, rfl, _, rfl, G, _, _, _, rfl, rfl, .inl (.inl hG8), atI_nat e2, b2, _, 1, _, rfl, rfl, hb2, atI_nat (j := 1) rfl, by show 2 ≤ sizeLine; decide, fun t nt => ?_⟩
      obtain ⟨H9, f9, e9, ht9⟩ : ∃ B, B = upd H8 t (.tup [.int (0 - (gp ps (fls ps)).1), .int (gp ps (fls ps)).2]) ∧ Same H8 B ∧ TupI K B (.ref t) (ng (gp ps (fls ps))).1 (ng (gp ps (fls ps))).2 := ⟨_, rfl, same_new nt, t, rfl, .inl (.inl upd_same)⟩
      show gName 9 (V.ref t) _ (upd H8 t (.tup [.int (0 - (gp ps (fls ps)).1), .int (gp ps (fls ps)).2])) _
      rw [← f9]
      dsimp only [List.set_cons_succ, List.set_cons_zero]
      refine ⟨_, rfl, _, rfl, .ref t, u1, _, _, _, _, rfl, ht9, t1.same e9, o2.2.1.ng.mono (by decide), o2.2.2.mono (by decide), o1.2.1.mono (by decide), o1.2.2.mono (by decide), _, rfl, ?_⟩
      have eg : decide ((ng (gp ps (fls ps))).1 * (gp ps (fgr ps)).2 < (gp ps (fgr ps)).1 * (ng (gp ps (fls ps))).2) = ltp (ng (gp ps (fls ps))) (gp ps (fgr ps)) := rfl
      rw [eg]
      obtain ⟨va, v1, v0, tva⟩ : ∃ va, (ltp (ng (gp ps (fls ps))) (gp ps (fgr ps)) = true → va = V.ref t) ∧ (ltp (ng (gp ps (fls ps))) (gp ps (fgr ps)) = false → va = u1) ∧ TupI K H9 va (amt ps).1 (amt ps).2 := by
        cases c : ltp (ng (gp ps (fls ps))) (gp ps (fgr ps)) with
        | true =>
          refine ⟨V.ref t, fun _ => rfl, fun z => (by cases z), ?_⟩
          have ea : amt ps = ng (gp ps (fls ps)) := by
            unfold amt
            rw [if_neg]
            intro z
            have a := (ltp_iff (gq.low _ m1).1 (ng_low lj).1).mp z
            have b := (ltp_iff (ng_low lj).1 (gq.low _ m1).1).mp c
            grind
          rw [ea]
          exact ht9
        | false =>
          refine ⟨u1, fun z => (by cases z), fun _ => rfl, ?_⟩
          have ea : amt ps = gp ps (fgr ps) := by
            unfold amt
            by_cases z : ltp (gp ps (fgr ps)) (ng (gp ps (fls ps))) = true
            · rw [if_pos z]
            · rw [if_neg z]
              have a := (ltp_no (ng_low lj).1 (gq.low _ m1).1).mp c
              have b := (ltp_no (gq.low _ m1).1 (ng_low lj).1).mp (Bool.eq_false_iff.mpr z)
              exact rv_inj (ng_low lj) (gq.low _ m1) (Rat.le_antisymm b a)
          rw [ea]
          exact t1.same e9
      refine if_pick (va := va) (u := u1) v1 v0 rfl rfl ?_
      dsimp only [List.set_cons_succ, List.set_cons_zero]
      have hG9 := e9 _ _ hG8
      have hU9 := hU8.k (kt_same e9)
      have og : Okp 1000 (amt ps) := ((st.ok).okp lk.k.d0 lk.b (n := 121) (by decide +kernel) (Nat.le_refl 151)).mono (by decide)
      refine ⟨_, rfl, _, rfl, G, _, _, _, rfl, rfl, .inl (.inl hG9), atI_nat e1, _, rfl, _, _, _, _, rfl, t1.same e9, tva, o1, og, fun w10 H10 s10 tw10 => ?_⟩
      have hG10 := s10 _ _ hG9
      have ul' : us.length = ps.length := hU'.1
      refine ⟨_, rfl, _, rfl, G, us, _, _, rfl, rfl, hG10, ixN_nat (by omega), ?_⟩
      obtain ⟨H11, f11, e11, k11, hG11, oth11⟩ : ∃ B, B = upd H10 G (.lst (us.set (fgr ps) w10)) ∧ Same H B ∧ KT H10 B ∧ B G = some (.lst (us.set (fgr ps) w10)) ∧ (∀ a, a ≠ G → B a = H10 a) := ⟨_, rfl, same_upd (sH8.trans (e9.trans s10)) nGH, kt_set hG10, upd_same, fun a na => upd_ne na⟩
      show ∃ _, _
      rw [← f11]
      have k911 : KT H9 H11 := (kt_same s10).trans k11
      have hU11 : Parts K H11 (us.set (fgr ps) w10) (ps.set (fgr ps) (mi (gp ps (fgr ps)) (amt ps))) := (parts_set (i := fgr ps) (hU9.k (kt_same s10)) tw10).k k11
      have ne := st.ne
      have g3 : gp (ps.set (fgr ps) (mi (gp ps (fgr ps)) (amt ps))) (fls ps) = gp ps (fls ps) := by rw [gp_set hi', if_neg (fun z => ne z.symm)]
      obtain ⟨u3, e3, m3, t3⟩ := hU11.at (show fls ps < (ps.set (fgr ps) (mi (gp ps (fgr ps)) (amt ps))).length by rw [List.length_set]; exact hj')
      rw [g3] at t3
      have tva11 := tva.k k911
      refine ⟨_, rfl, _, rfl, G, _, _, _, rfl, rfl, .inl (.inl hG11), atI_nat e3, _, rfl, ?_⟩
      refine ⟨_, _, _, _, _, _, rfl, t3, tva11, o2.1, og.1, o2.2.1.mono (by decide), o2.2.2.mono (by decide), og.2.1.mono (by decide), og.2.2.mono (by decide), fun w12 H12 s12 tw12 => ?_⟩
      have hG12 := s12 _ _ hG11
      refine ⟨_, rfl, _, rfl, G, _, _, _, rfl, rfl, hG12, ixN_nat (by rw [List.length_set]; omega), ?_⟩
      obtain ⟨H13, f13, e13, k13, hG13, oth13⟩ : ∃ B, B = upd H12 G (.lst ((us.set (fgr ps) w10).set (fls ps) w12)) ∧ Same H B ∧ KT H12 B ∧ B G = some (.lst ((us.set (fgr ps) w10).set (fls ps) w12)) ∧ (∀ a, a ≠ G → B a = H12 a) := ⟨_, rfl, same_upd (e11.trans s12) nGH, kt_set hG12, upd_same, fun a na => upd_ne na⟩
      show ∃ _, _
      rw [← f13]
      have k1113 : KT H11 H13 := (kt_same s12).trans k13
      have hU13 : Parts K H13 ((us.set (fgr ps) w10).set (fls ps) w12) (stepG ps) := by
        have : stepG ps = (ps.set (fgr ps) (mi (gp ps (fgr ps)) (amt ps))).set (fls ps) (pl (gp ps (fls ps)) (amt ps)) := by
          unfold stepG giftR
          rw [g3]
        rw [this]
        exact (parts_set (i := fls ps) (hU11.k (kt_same s12)) tw12).k k13
      have far : ∀ a o, a ≠ G → H8 a = some o → H13 a = some o := fun a o na h => by
        rw [oth13 a na]
        refine s12 _ _ ?_
        rw [oth11 a na]
        exact s10 _ _ (e9 _ _ h)
      have hF13 := far F _ nFG hF8
      have hR13 := far R _ (fun z => nGR z.symm) hR8
      have tva13 := tva11.k k1113
      have k813 : KT H8 H13 := (kt_same e9).trans (k911.trans k1113)
      have hW13 : DpAll K H13 ws ((gfG i (gap0 ss)).map (gfD ss)) := (hW6.sm s68).kt k813 (gifts_imm _)
      -- the gift
      refine ⟨_, rfl, .inl ⟨rfl, _, .inl (.inl hR13)⟩, _, rfl, _, rfl, F, _, _, _, rfl, rfl, .inl (.inl hF13), atI_nat (inl _ (by omega)), _, rfl, _, rfl, F, _, _, _, rfl, rfl, .inl (.inl hF13), atI_nat (inl _ (by omega)), _, rfl, by show 3 ≤ sizeLine; decide, fun b nb => ?_⟩
      obtain ⟨H14, f14, e14, hb14⟩ : ∃ B, B = upd H13 b (.tup [.str (gs (sitL ss) (fgr ps)).1, .str (gs (sitL ss) (fls ps)).1, va]) ∧ Same H13 B ∧ SqT K B b [.str (gs (sitL ss) (fgr ps)).1, .str (gs (sitL ss) (fls ps)).1, va] := ⟨_, rfl, same_new nb, .inl (.inl upd_same)⟩
      have hR14 := e14 _ _ hR13
      refine ⟨R, ws, _, rfl, rfl, by rw [← f14]; exact hR14, small1000 (by omega), ?_⟩
      rw [← f14]
      obtain ⟨H15, f15, e15, k15, hR15, oth15⟩ : ∃ B, B = upd H14 R (.lst (ws ++ [.ref b])) ∧ Same H B ∧ KT H14 B ∧ B R = some (.lst (ws ++ [.ref b])) ∧ (∀ a, a ≠ R → B a = H14 a) := ⟨_, rfl, same_upd (e13.trans e14) nRH, kt_set hR14, upd_same, fun a na => upd_ne na⟩
      rw [← f15]
      refine ⟨(us.set (fgr ps) w10).set (fls ps) w12, ws ++ [.ref b], _, _, _, _, _, _, _, rfl, ?_, ?_, ?_, hR15, ?_, e15⟩
      · rw [oth15 G nGR]
        exact e14 _ _ hG13
      · rw [nx.1]
        exact (hU13.k (kt_same e14)).k k15
      · rw [oth15 F nFR]
        exact e14 _ _ hF13
      · rw [nx.2, List.map_append]
        refine dpall_add ((hW13.sm e14).kt k15 (gifts_imm _)) ?_
        exact .tup (k15.sqt hb14) (.cons (.str _) (.cons (.str _) (.cons (pd_dp ((tva13.same e14).k k15)) .nil)))
    · rintro σ H' ⟨us, ws, y5, y6, y7, y8, y9, y10, y11, rfl, hG', hU', hF', hR', hW, sH⟩
      have en : ((((names ss).map V.str).length : Nat) : Int).toNat = (gap0 ss).length := by rw [List.length_map, nl, gl]; omega
      rw [en] at hW
      exact ⟨_, rfl, q R ws H' sH nRH hR' hW⟩
end
end WS
set_option Elab.async false
set_option linter.all false
set_option maxRecDepth 100000
set_option maxHeartbeats 4000000
namespace WS
open PySem PySem.Spec PyProof.Rows L2
section
variable {P : Program} {w : World} {K : PySem.W.Frag} {mg : Str → Option Value} {base : Heap}
open TL
theorem ok_llevel (T : Tx K mg base) : FnOk P w K mg base CX0 5 T.f_llevel T.d_llevel ["_law_moment"] (spLevel45 K) := by
  refine T.F_llevel.ok sc_llevel (fun vs H Q E h => ?_) (fun cdv A outer s H vs Q E hr h => ?_)
  · obtain ⟨v, D, W, ss, rfl, _⟩ := h
    rfl
  · obtain ⟨v, D, W, ss, rfl, hm, lk, q⟩ := h
    obtain ⟨m, S, vs, rfl, hM, hS, hV⟩ := mom_get hm
    refine ⟨_, (pss_cons (ps_set (i := 1) sc_llevel.nd rfl (.inr rfl) (pe_call (ok_laverage T) (hr.mono (by decide)) (by rfl) T.g_laverage T.F_laverage.kp T.b_laverage .nil pass0 (pa_cons (pe_ix ix_tup (pv 0) pe_int (fun _ _ => rfl)) pa_nil)))
        (pss_one (ps_ret (pe_tup (pa_cons (pe_ix ix_tup (pv 0) pe_int (fun _ _ => rfl)) (pa_cons (pe_callTy call_tuple_of (by rfl) T.n_tuple (by decide +kernel) (pa_cons (pe_lc (own := [("_law_one", 2)]) (g := gName 2) (tt := tYes) (by rfl) sc_llevel.nd (pi_tup (pe_ix ix_tup (pv 0) pe_int (fun _ _ => rfl))) (blkOk_by (own := [("_law_one", 2)]) (N := ["_law_moment", "_law_average_here", "_law_one"]) (sc := defScope s_llevel) (by decide +kernel)) (fun _ _ _ _ _ => (pg_name (i := 2) sc_llevel.nd rfl (.inl rfl))) (fun _ _ _ _ _ => pts_nil) (fun _ _ _ _ _ => (pe_ifExp (pt_cmpR op_eq (pe_ix (show IxR _ (rIxT K) from ix_tup) (pv 2) pe_int (fun _ _ => rfl)) pe_str (nomark _)) (pv 2) (pe_tup (pa_cons (pe_ix (show IxR _ (rIxT K) from ix_tup) (pv 2) pe_int (fun _ _ => rfl)) (pa_cons (pv 1) pa_nil)))))) pa_nil)) pa_nil)))))), ?_⟩
    have l26 := lk.k.l
    have el : vs.length = ss.length := by rw [dpall_len hV, List.length_map]
    refine ⟨_, rfl, m, _, 1, _, rfl, rfl, hM, atI_nat (j := 1) rfl, .ref S, D, W, ss, rfl, .tup hS hV, lk, fun av H1 s1 tav => ?_⟩
    refine ⟨_, rfl, m, _, 0, _, rfl, rfl, Same.tup s1 hM, atI_nat (j := 0) rfl, ?_⟩
    refine ⟨_, rfl, m, _, 1, _, rfl, rfl, Same.tup s1 hM, atI_nat (j := 1) rfl, S, rfl, ⟨_, Same.tup s1 hS⟩, fun G nG => ?_⟩
    refine lc_tup (K := K) (a := S) (xs := vs) (fun j H' => ∃ us, H' G = some (.lst us) ∧ us.length = j ∧ DpAll K H' us (((ss.take j).map fun s : Seat => if s.1 = ("" : Str) then s else ((s.1, avP ss) : Seat)).map seatD) ∧ Same H1 H') ⟨[], upd_same, rfl, .nil, same_new nG⟩ (fun j H' _ ⟨_, _, _, _, s⟩ => Same.tup (s1.trans s) hS) ?_ ?_
    · rintro j x H' hx ⟨us, hD, hl, hU, s3⟩
      have s13 := s1.trans s3
      obtain ⟨st, r, y, es, rfl, hr1, hy⟩ := seat_at (hV.sm s13) hx
      have hj : j < ss.length := (List.getElem?_eq_some_iff.mp es).1
      have et : ((ss.take (j + 1)).map fun s : Seat => if s.1 = ("" : Str) then s else ((s.1, avP ss) : Seat)).map seatD = ((ss.take j).map fun s : Seat => if s.1 = ("" : Str) then s else ((s.1, avP ss) : Seat)).map seatD ++ [seatD (if st.1 = ("" : Str) then st else ((st.1, avP ss) : Seat))] := by
        rw [List.take_add_one, es, List.map_append, List.map_append]
        rfl
      rw [et]
      refine ⟨rfl, tyes (iteT ?_)⟩
      refine ⟨_, rfl, r, _, 0, _, rfl, rfl, hr1, atI_nat (j := 0) rfl, rfl, _, rfl, ?_⟩
      show if (decide (V.str st.1 = V.str "")) = true then _ else _
      rw [eqv_strs]
      by_cases c : st.1 = ("" : Str)
      · rw [decide_eq_true c, if_pos c]
        refine iteT ⟨_, rfl, us, hD, small1000 (by omega), us ++ [.ref r], upd_same, by simp [hl], ?_, same_upd s3 nG⟩
        exact (dpall_add hU (seat_mk hr1 hy)).kt (kt_set hD) (by rw [immAll_app, seats_imm]; rfl)
      · rw [decide_eq_false c, if_neg c]
        refine iteF ⟨_, rfl, r, _, 0, _, rfl, rfl, hr1, atI_nat (j := 0) rfl, _, rfl, by show 2 ≤ sizeLine; decide, fun t nt => ?_⟩
        have et := same_new (o := .tup [.str st.1, av]) nt
        have hD2 := et _ _ hD
        refine ⟨us, hD2, small1000 (by omega), us ++ [.ref t], upd_same, by simp [hl], ?_, same_upd (s3.trans et) nG⟩
        exact (dpall_add (hU.sm et) (seat_mk (s := (st.1, avP ss)) (.inl (.inl upd_same)) (pd_dp (tav.same (s3.trans et))))).kt (kt_set hD2) (by rw [immAll_app, seats_imm]; rfl)
    rintro H2 ⟨us, hD, hl, hU, s2⟩
    rw [el, List.take_length] at hU
    refine ⟨G, us, rfl, .inl ⟨.inl (.inl hD), fun R nR => ?_⟩⟩
    have eR := same_new (o := .tup us) nR
    refine ⟨by show 2 ≤ sizeLine; decide, fun t nt => ?_⟩
    have et := same_new (o := .tup [.int W, .ref R]) nt
    exact q (.ref t) _ (s1.trans (s2.trans (eR.trans et))) (mom_mk (.inl (.inl upd_same)) (Same.tup et (.inl (.inl upd_same))) ((hU.sm eR).sm et))
end
end WS
set_option Elab.async false
set_option linter.all false
set_option maxRecDepth 100000
set_option maxHeartbeats 4000000
namespace WS
open PySem PySem.Spec PyProof.Rows L2
section
variable {P : Program} {w : World} {K : PySem.W.Frag} {mg : Str → Option Value} {base : Heap}
open TL
theorem ok_lno_wider (T : Tx K mg base) : FnOk P w K mg base CX0 3 T.f_lno_wider T.d_lno_wider ["_law_before", "_law_after"] (spNoWider45 K) := by
  refine T.F_lno_wider.ok sc_lno_wider (fun vs H Q E h => ?_) (fun cdv A outer s H vs Q E hr h => ?_)
  · obtain ⟨a, b, rs, us, ss, tt, rfl, _⟩ := h
    rfl
  · obtain ⟨a, b, rs, us, ss, tt, rfl, ha, hb, hP, hU, sa, sb, dm, q⟩ := h
    refine ⟨_, (pss_cons (ps_asg (pe_tup (pa_cons (pe_tup (pa_cons pe_int (pa_cons pe_int pa_nil))) (pa_cons (pe_tup (pa_cons pe_int (pa_cons pe_int pa_nil))) pa_nil))) (pg_tup (by rfl) (pgs_cons (pg_name (i := 2) sc_lno_wider.nd rfl (.inl rfl)) (pgs_cons (pg_name (i := 3) sc_lno_wider.nd rfl (.inl rfl)) pgs_nil))))
        (pss_cons (ps_for PassesOwn.never rfl (pi_zB2 (by rfl) T.n_zip (pa_cons (pe_call (ok_lfirst T) (hr.mono (by decide)) (by rfl) T.g_lfirst T.F_lfirst.kp T.b_lfirst .nil pass0 (pa_cons (pv 0) pa_nil)) (pa_cons (pe_call (ok_lfirst T) (hr.mono (by decide)) (by rfl) T.g_lfirst T.F_lfirst.kp T.b_lfirst .nil pass0 (pa_cons (pv 1) pa_nil)) pa_nil))) (pg_tup (by rfl) (pgs_cons (pg_name (i := 4) sc_lno_wider.nd rfl (.inl rfl)) (pgs_cons (pg_name (i := 5) sc_lno_wider.nd rfl (.inl rfl)) pgs_nil))) (pss_cons (ps_par (i := 2) (j := 3) (by rfl) sc_lno_wider.nd rfl rfl (by decide) rfl rfl (pa_cons (pe_call (ok_lplus T) (hr.mono (by decide)) (by rfl) T.g_lplus T.F_lplus.kp T.b_lplus .nil pass0 (pa_cons (pv 2) (pa_cons (pe_ix ix_list (pv 0) (pv 4) (fun _ _ => rfl)) pa_nil))) (pa_cons (pe_call (ok_lplus T) (hr.mono (by decide)) (by rfl) T.g_lplus T.F_lplus.kp T.b_lplus .nil pass0 (pa_cons (pv 3) (pa_cons (pe_ix ix_list (pv 1) (pv 5) (fun _ _ => rfl)) pa_nil))) pa_nil)) (by rfl))
        (pss_one (ps_if (pt_val (pe_call (ok_lless T) (hr.mono (by decide)) (by rfl) T.g_lless T.F_lless.kp T.b_lless .nil pass0 (pa_cons (pv 2) (pa_cons (pv 3) pa_nil)))) (pss_one (ps_ret pe_bl)) pss_nil))))
        (pss_one (ps_ret pe_bl)))), ?_⟩
    rw [show L2.start [Str.ofString "_law_before", Str.ofString "_law_after", Str.ofString "_law_first_here", Str.ofString "_law_second", Str.ofString "_law_at", Str.ofString "_law_to"] [V.ref a, V.ref b] = [some (V.ref a), some (V.ref b), none, none, none, none] from rfl]
    have el := dm.1
    have lp : (ss.map Prod.snd).length = ss.length := List.length_map _
    have lq : (tt.map Prod.snd).length = tt.length := List.length_map _
    have l1 := sa.l
    have posA : ∀ s ∈ ss, 0 < s.2.2 := fun s hs => (sa.ok _ (List.mem_map_of_mem hs)).1
    have posB : ∀ s ∈ tt, 0 < s.2.2 := fun s hs => (sb.ok _ (List.mem_map_of_mem hs)).1
    refine ⟨by show 2 ≤ sizeLine; decide, fun t1 n1 => ?_⟩
    obtain ⟨H1, f1, e1, ht1⟩ : ∃ B, B = upd H t1 (.tup [.int 0, .int 1]) ∧ Same H B ∧ TupI K B (.ref t1) 0 1 := ⟨_, rfl, same_new n1, t1, rfl, .inl (.inl upd_same)⟩
    show tCons _ _ _ (upd H t1 (.tup [.int 0, .int 1])) _
    rw [← f1]
    refine ⟨by show 2 ≤ sizeLine; decide, fun t2 n2 => ?_⟩
    obtain ⟨H2, f2, e2, ht2⟩ : ∃ B, B = upd H1 t2 (.tup [.int 0, .int 1]) ∧ Same H1 B ∧ TupI K B (.ref t2) 0 1 := ⟨_, rfl, same_new n2, t2, rfl, .inl (.inl upd_same)⟩
    show tNil _ (upd H1 t2 (.tup [.int 0, .int 1])) _
    rw [← f2]
    refine nil2 ⟨by show 2 ≤ sizeLine; decide, fun t3 n3 => ?_⟩
    obtain ⟨H25, f25, e25, ht3⟩ : ∃ B, B = upd H2 t3 (.tup [.ref t1, .ref t2]) ∧ Same H2 B ∧ SqT K B t3 [.ref t1, .ref t2] := ⟨_, rfl, same_new n3, .inl (.inl upd_same)⟩
    rw [← f25]
    refine ⟨t3, _, rfl, ht3, rfl, _, _, rfl, _, _, rfl, rfl, ?_⟩
    dsimp only [List.set_cons_succ, List.set_cons_zero]
    have s02 := e1.trans (e2.trans e25)
    refine ⟨_, rfl, a, rs, _, rfl, .inl (.inl (s02 _ _ ha)), hP.k (kt_same s02), sa.ok, by omega, fun H3 D1 os1 s3 nD1 hD1 rk1 => ?_⟩
    have s03 := s02.trans s3
    refine ⟨_, rfl, b, us, _, rfl, .inl (.inl (s03 _ _ hb)), hU.k (kt_same s03), sb.ok, by omega, fun H4 D2 os2 s4 nD2 hD2 rk2 => ?_⟩
    have s04 := s03.trans s4
    have hD1' := s4 _ _ hD1
    have lt1 : ∀ i ∈ os1, i < (ss.map Prod.snd).length := fun i hi => List.mem_range.mp (rk1.1.mem_iff.mp hi)
    have lt2 : ∀ i ∈ os2, i < (tt.map Prod.snd).length := fun i hi => List.mem_range.mp (rk2.1.mem_iff.mp hi)
    have sk : ∀ (ps : List (Int × Int)) (os : List Nat) (i k : Nat), os[i]? = some k → sumK ps os (i + 1) = pl (sumK ps os i) (gp ps k) := fun ps os i k h => by
      unfold sumK
      rw [List.take_add_one, h, List.map_append, List.foldl_append]
      rfl
    refine ⟨true, true, D1, D2, _, _, rfl, .inl (.inl hD1'), .inl (.inl hD2), for_it (walk_zB2 (K := K) (b1 := true) (b2 := true) (a1 := D1) (a2 := D2) (xs := os1.map fun j : Nat => V.int j) (ys := os2.map fun j : Nat => V.int j)) (fun i σ H' => ∃ u v y z, σ = [some (.ref a), some (.ref b), some u, some v, y, z] ∧ TupI K H' u (sumK (ss.map Prod.snd) os1 i).1 (sumK (ss.map Prod.snd) os1 i).2 ∧ TupI K H' v (sumK (tt.map Prod.snd) os2 i).1 (sumK (tt.map Prod.snd) os2 i).2 ∧ Same H4 H') ⟨_, _, none, none, rfl, ((ht1.same e2).same e25).same (s3.trans s4), (ht2.same e25).same (s3.trans s4), Same.refl _⟩ (fun i σ H' _ ⟨_, _, _, _, _, _, _, s⟩ => ⟨.inl (.inl (s _ _ hD1')), .inl (.inl (s _ _ hD2))⟩) ?_ ?_⟩
    · rintro i x σ H' H'' hi ⟨u, v, y, z, rfl, hu, hv, s5⟩ ⟨T1, v1, v2, rfl, nT, rfl, x1, x2⟩
      have x1 : (os1.map fun j : Nat => V.int j)[i]? = some v1 := x1
      have x2 : (os2.map fun j : Nat => V.int j)[i]? = some v2 := x2
      rw [List.getElem?_map] at x1 x2
      obtain ⟨k1, g1, rfl⟩ : ∃ k : Nat, os1[i]? = some k ∧ V.int k = v1 := by
        cases e : os1[i]? with
        | none => rw [e] at x1; cases x1
        | some z => rw [e] at x1; exact ⟨z, rfl, Option.some.inj x1⟩
      obtain ⟨k2, g2, rfl⟩ : ∃ k : Nat, os2[i]? = some k ∧ V.int k = v2 := by
        cases e : os2[i]? with
        | none => rw [e] at x2; cases x2
        | some z => rw [e] at x2; exact ⟨z, rfl, Option.some.inj x2⟩
      have e6 := same_new (o := .tup [.int (k1 : Nat), .int (k2 : Nat)]) nT
      have s46 := s5.trans e6
      have s06 := s04.trans s46
      refine ⟨T1, _, rfl, .inl (.inl upd_same), rfl, _, _, rfl, _, _, rfl, rfl, ?_⟩
      obtain ⟨w1, h1, m1, tw1⟩ := (hP.k (kt_same s06)).at (lt1 k1 (List.mem_of_getElem? g1))
      obtain ⟨w2, h2, m2, tw2⟩ := (hU.k (kt_same s06)).at (lt2 k2 (List.mem_of_getElem? g2))
      have oa := sa.sumK rk1 i
      have ob := sb.sumK rk2 i
      have o1 := sa.ok _ m1
      have o2 := sb.ok _ m2
      refine ⟨_, rfl, _, rfl, _, rfl, a, _, _, _, rfl, rfl, .inl (.inl (s06 _ _ ha)), atI_nat h1, _, _, _, _, _, _, rfl, hu.same e6, tw1, oa.1, o1.1, oa.2.1.mono (by decide), oa.2.2, o1.2.1.mono (by decide), o1.2.2, fun u' H7 s7 hu' => ?_⟩
      have s07 := s06.trans s7
      refine ⟨_, rfl, _, rfl, _, rfl, b, _, _, _, rfl, rfl, .inl (.inl (s07 _ _ hb)), atI_nat h2, _, _, _, _, _, _, rfl, (hv.same e6).same s7, tw2.same s7, ob.1, o2.1, ob.2.1.mono (by decide), ob.2.2, o2.2.1.mono (by decide), o2.2.2, fun v' H8 s8 hv' => ?_⟩
      have hu8 : TupI K H8 u' (sumK (ss.map Prod.snd) os1 (i + 1)).1 (sumK (ss.map Prod.snd) os1 (i + 1)).2 := by
        rw [sk _ _ _ _ g1]
        exact TupI.same hu' s8
      have hv8 : TupI K H8 v' (sumK (tt.map Prod.snd) os2 (i + 1)).1 (sumK (tt.map Prod.snd) os2 (i + 1)).2 := by
        rw [sk _ _ _ _ g2]
        exact hv'
      have oa' := sa.sumK rk1 (i + 1)
      have ob' := sb.sumK rk2 (i + 1)
      refine nil2 ⟨_, _, rfl, ?_⟩
      dsimp only [List.set_cons_succ, List.set_cons_zero]
      refine ⟨_, rfl, _, rfl, u', v', _, _, _, _, rfl, hu8, hv8, oa'.2.1.mono (by decide), oa'.2.2, ob'.2.1.mono (by decide), ob'.2.2, _, rfl, ?_⟩
      have top := dom_top dm posA posB rk1 rk2 (i + 1)
      rw [← top_ow posA rk1, ← top_ow posB rk2] at top
      have no : decide ((sumK (ss.map Prod.snd) os1 (i + 1)).1 * (sumK (tt.map Prod.snd) os2 (i + 1)).2 < (sumK (tt.map Prod.snd) os2 (i + 1)).1 * (sumK (ss.map Prod.snd) os1 (i + 1)).2) = false := (ltp_no oa'.1 ob'.1).mpr top
      rw [no]
      exact iteF ⟨_, _, _, _, rfl, hu8, hv8, s46.trans (s7.trans s8)⟩
    · rintro σ H' ⟨u, v, y, z, rfl, hu, hv, s5⟩
      exact q H' (s04.trans s5)
end
end WS
set_option Elab.async false
set_option linter.all false
set_option maxRecDepth 100000
set_option maxHeartbeats 4000000
namespace WS
open PySem PySem.Spec PyProof.Rows L2
section
variable {P : Program} {w : World} {K : PySem.W.Frag} {mg : Str → Option Value} {base : Heap}
open TL
theorem ok_common_below (T : Tx K mg base) : FnOk P w K mg base CX0 2 T.f_common_below T.d_common_below ["row"] (spCommon K) := by
  refine T.F_common_below.ok sc_common_below (fun vs H Q E h => ?_) (fun cdv A outer s H vs Q E hr h => ?_)
  · obtain ⟨n, l, rs, ps, rfl, _⟩ := h
    rfl
  · obtain ⟨n, l, rs, ps, rfl, n9, hR, hP, hk, hn, q⟩ := h
    refine ⟨_, (pss_cons (ps_set (i := 1) sc_common_below.nd rfl (.inl rfl) pe_int)
        (pss_cons (ps_for PassesOwn.never rfl (pi_tup (pv 0)) (pg_name (i := 2) sc_common_below.nd rfl (.inl rfl)) (pss_one (ps_set (i := 1) sc_common_below.nd rfl (.inl rfl) (pe_op op_mulW (pe_op op_fdivW (pv 1) (pe_call (ok_greatest_common T) (hr.mono (by decide)) (by rfl) T.g_greatest_common T.F_greatest_common.kp T.b_greatest_common .nil pass0 (pa_cons (pv 1) (pa_cons (pe_ix ix_tup (pv 2) pe_int (fun _ _ => rfl)) pa_nil)))) (pe_ix ix_tup (pv 2) pe_int (fun _ _ => rfl))))))
        (pss_one (ps_ret (pv 1))))), ?_⟩
    refine ⟨_, rfl, l, rfl, ⟨_, hR⟩, for_tup (K := K) (a := l) (xs := rs) (fun i σ H' => ∃ f y, σ = [some (.ref l), some (.int f), y] ∧ H' = H ∧ 0 < f ∧ (∀ p ∈ ps.take i, p.2 ∣ f) ∧ Bt (1 + i * n) f)
      ⟨1, none, rfl, rfl, by decide, fun p hp => by simp at hp, by unfold Bt; simp⟩ (fun i σ H' _ ⟨_, _, _, e, _⟩ => by rw [e]; exact hR) ?_ ?_⟩
    · rintro i x σ H' hx ⟨f, y, rfl, rfl, f0, fd, fb⟩
      obtain ⟨p, hp, t, rfl, ht⟩ := hP.2 i x hx
      have hi : i < ps.length := by
        rcases Nat.lt_or_ge i ps.length with h | h
        · exact h
        · rw [List.getElem?_eq_none h] at hp; cases hp
      obtain ⟨b0, ba, bb⟩ := hk p (List.mem_of_getElem? hp)
      have g0 : (0 : Int) < (Int.gcd f p.2 : Int) := by have := gcd_pos (a := f) (b := p.2) (by omega); omega
      obtain ⟨s0, s1, s2⟩ := lcm_step f0 b0
      have bq : Bt (1 + i * n) (f / (Int.gcd f p.2 : Int)) := fb.of_le (ediv_natAbs_le f _)
      have sz : 1 + i * n + n ≤ 900000 := by
        have h1 : i * n ≤ ps.length * n := Nat.mul_le_mul_right n (by omega)
        have h2 : (ps.length + 2) * (n + 1) = ps.length * n + ps.length + 2 * n + 2 := by grind
        omega
      refine ⟨_, rfl, _, rfl, _, rfl, t, _, 1, _, rfl, rfl, ht, atI_nat (j := 1) rfl, _, _, rfl, Int.le_of_lt f0, Int.le_of_lt b0, _, _, rfl, rfl, Bt.cdiv g0 (gcd_bt b0 bb) n9, _, rfl, t, _, 1, _, rfl, rfl, ht, atI_nat (j := 1) rfl, _, _, rfl, rfl, bq.cmul bb sz, ?_⟩
      refine ⟨_, some (.ref t), rfl, rfl, s0, fun z hz => ?_, (bq.mul bb).mono (by rw [Nat.succ_mul]; omega)⟩
      rw [List.take_add_one, hp] at hz
      rcases List.mem_append.mp hz with hz | hz
      · exact Int.dvd_trans (fd z hz) s1
      · obtain rfl : z = p := by simpa using hz
        exact s2
    · rintro σ H' ⟨f, y, rfl, rfl, f0, fd, fb⟩
      rw [hP.1, List.take_length] at fd
      rw [hP.1] at fb
      exact ⟨_, rfl, q f f0 fd fb⟩
theorem ok_greatest_first (T : Tx K mg base) : FnOk P w K mg base CX0 3 T.f_greatest_first T.d_greatest_first ["row"] (spFirstT K T.TT) := by
  refine fun_cd T.F_greatest_first sc_greatest_first (fun vs H Q E h => ?_) (fun cdv A outer s H vs Q E hcd hr h => ?_)
  · obtain ⟨n, l, rs, ps, rfl, _⟩ := h
    rfl
  · obtain ⟨n, l, rs, ps, rfl, n9, hR, hP, hk, hn, hT, q⟩ := h
    refine ⟨_, (pss_cons (ps_set (i := 1) sc_greatest_first.nd rfl (.inr rfl) (pe_call (ok_common_below T) (hr.mono (by decide)) (by rfl) T.g_common_below T.F_common_below.kp T.b_common_below .nil pass0 (pa_cons (pv 0) pa_nil)))
        (pss_cons (ps_set (i := 2) sc_greatest_first.nd rfl (.inr rfl) (pe_lc (own := [("above", 3), ("below", 4)]) (g := gTup K 2 (gCons (gName 3) (gCons (gName 4) gNil))) (tt := tYes) (by rfl) sc_greatest_first.nd (pi_tup (pv 0)) (blkOk_by (own := [("above", 3), ("below", 4)]) (N := ["row", "common", "aboves", "above", "below"]) (sc := defScope s_greatest_first) (by decide +kernel)) (fun _ _ _ _ _ => (pg_tup (by rfl) (pgs_cons (pg_name (i := 3) sc_greatest_first.nd rfl (.inl rfl)) (pgs_cons (pg_name (i := 4) sc_greatest_first.nd rfl (.inl rfl)) pgs_nil)))) (fun _ _ _ _ _ => pts_nil) (fun _ _ _ _ _ => (pe_op op_mulW (pv 3) (pe_op op_fdivW (pv 1) (pv 4))))))
        (pss_one (ps_ret (pe_sortedLam (T := T.TT) (i := 2) (by rfl) (by rfl) T.n_sorted (pe_callTy cr_range1 (by rfl) T.n_range (by decide +kernel) (pa_cons (pe_callB call_len_seq (by rfl) T.n_len (by decide +kernel) (pa_cons (pv 2) pa_nil)) pa_nil)) hr T.tb0 (by exact hcd.symm.trans T.hc_tab0) List.mem_cons_self (fun p hp _ => by rw [List.mem_singleton.mp hp]; rfl) rfl rfl (by rfl) (fun _ _ _ _ _ _ => rfl) rfl rfl rfl rfl (by decide) (by decide) (by decide) (by decide)))))), ?_⟩
    refine ⟨_, rfl, n, l, rs, ps, rfl, n9, hR, hP, hk, hn, fun c c0 cd cb => ?_⟩
    have hlen : rs.length = ps.length := hP.1
    have sz : 1 + ps.length * n + n ≤ 800000 := by
      have h2 : (ps.length + 2) * (n + 1) = ps.length * n + ps.length + 2 * n + 2 := by grind
      omega
    have hl8 : ps.length + 2 ≤ 800000 := Nat.le_trans (Nat.le_mul_of_pos_right _ (Nat.succ_pos n)) hn
    refine ⟨_, rfl, l, rfl, ⟨_, hR⟩, fun D nD => ?_⟩
    refine lc_tup (K := K) (a := l) (xs := rs) (fun i H' => H' = upd H D (.lst ((ps.take i).map fun p => V.int (overC c p)))) (by simp) (fun i H' _ e => by rw [e]; exact Same.tup (same_new nD) hR) ?_ ?_
    · rintro i x H' hx rfl
      obtain ⟨p, hp, t, rfl, ht⟩ := hP.2 i x hx
      have hi : i < ps.length := by
        rcases Nat.lt_or_ge i ps.length with h | h
        · exact h
        · rw [List.getElem?_eq_none h] at hp; cases hp
      obtain ⟨b0, ba, bb⟩ := hk p (List.mem_of_getElem? hp)
      refine ⟨t, _, rfl, Same.tup (same_new nD) ht, rfl, _, _, rfl, _, _, rfl, rfl, ?_⟩
      refine ⟨rfl, tyes (iteT ?_)⟩
      refine ⟨_, rfl, _, rfl, _, rfl, _, _, rfl, rfl, Bt.cdiv b0 bb n9, _, _, rfl, rfl, ba.cmul (cb.of_le ?_) (by omega), ?_⟩
      · have e : c / p.2 = c / (p.2.natAbs : Int) := by rw [Int.natAbs_of_nonneg (Int.le_of_lt b0)]
        rw [e]
        exact ediv_natAbs_le c _
      · refine ⟨_, upd_same, ?_, ?_⟩
        · rw [List.length_map, List.length_take, sizeLine_eq]
          omega
        · rw [upd_upd, List.take_add_one, hp]
          simp [overC]
    · rintro H' rfl
      rw [hlen, List.take_length]
      have hD : upd H D (.lst (ps.map fun p => V.int (overC c p))) D = some (.lst ((ps.map (overC c)).map V.int)) := by rw [upd_same, List.map_map]; rfl
      generalize hB : upd H D (.lst (ps.map fun p => V.int (overC c p))) = B at *
      have sB : Same H B := by rw [← hB]; exact same_new nD
      have lenE : ((ps.map (overC c)).map V.int).length = (ps.map (overC c)).length := List.length_map _
      refine ⟨_, rfl, D, _, rfl, .inl (.inl (.inl hD)), _, rfl, fun r nr => ?_⟩
      have sR : Same B (upd B r (.rng 0 (((ps.map (overC c)).map V.int).length : Nat))) := same_new nr
      refine ⟨r, D, ps.map (overC c), rfl, by rw [upd_same, lenE], rfl, sR _ _ hD, by rw [List.length_map]; omega, (hT.ext (sB.trans sR)), fun H2 p ord e2 t2 np rk => ?_⟩
      have nH : New H p := fun o z => by
        by_cases ht : ∃ ps, o = .tbl ps
        · exact ht
        · exact absurd (e2 _ _ ((sB.trans sR) _ _ z) (fun tp e => ht ⟨tp, e⟩)) (by rw [np]; simp)
      refine q _ p ord ?_ (t2.ext (same_new np)) nH upd_same ((ranked_c c0 fun p hp => ⟨(hk p hp).1, cd p hp⟩).mp rk)
      exact (ExtN.same (sB.trans sR)).trans (e2.trans (ExtN.same (same_new np)))
theorem ok_sums_ahead (T : Tx K mg base) : FnOk P w K mg base CX0 5 T.f_sums_ahead T.d_sums_ahead ["row"] (spAheadS K T.TT) := by
  refine T.F_sums_ahead.ok sc_sums_ahead (fun vs H Q E h => ?_) (fun cdv A outer s H vs Q E hr h => ?_)
  · obtain ⟨l, ps, rfl, _⟩ := h
    rfl
  · obtain ⟨l, ps, rfl, ⟨rs, hR, hP, sane⟩, hT, q⟩ := h
    refine ⟨_, (pss_cons (ps_set (i := 1) sc_sums_ahead.nd rfl (.inl rfl) (pe_lst (pa_cons (pe_glob (v := .ref T.a_NOUGHT) (by rfl) T.g_NOUGHT rfl) pa_nil)))
        (pss_cons (ps_for PassesOwn.never rfl (pi_list (pe_call (ok_greatest_first T) (hr.mono (by decide)) (by rfl) T.g_greatest_first T.F_greatest_first.kp T.b_greatest_first .nil pass0 (pa_cons (pv 0) pa_nil))) (pg_name (i := 2) sc_sums_ahead.nd rfl (.inl rfl)) (pss_one (ps_expr (pe_bm PySem.F.plainAttrs_list PySem.F.slot_list_append PySem.F.type_list_append mt_append (pv 1) (pa_cons (pe_call (ok_plus T) (hr.mono (by decide)) (by rfl) T.g_plus T.F_plus.kp T.b_plus .nil pass0 (pa_cons (pe_ix ix_list (pv 1) (pe_un un_neg pe_int) (fun _ _ => rfl)) (pa_cons (pe_ix ix_tup (pv 0) (pv 2) (fun _ _ => rfl)) pa_nil))) pa_nil)))))
        (pss_one (ps_ret (pv 1))))), ?_⟩
    refine ⟨by show 1 ≤ sizeLine; decide, fun D nD => ?_⟩
    obtain ⟨B, eB, sB, hD⟩ : ∃ B, B = upd H D (.lst [.ref T.a_NOUGHT]) ∧ Same H B ∧ B D = some (.lst [.ref T.a_NOUGHT]) := ⟨_, rfl, same_new nD, upd_same⟩
    rw [← eB]
    have pl100 := sane.l
    refine ⟨_, rfl, 4400, l, rs, ps, rfl, by decide, Same.tup sB hR, hP.k (kt_same sB), sane.ok, by omega, hT.ext sB, fun H1 p ord e1 t1 np hp rk => ?_⟩
    have hD1 := e1 _ _ hD (fun ps z => by cases z)
    have nDp : D ≠ p := np.ne hD (fun ps z => by cases z)
    have hR1 := (ExtN.kt e1).sqt (Same.tup sB hR)
    have hP1 := (hP.k (kt_same sB)).k (ExtN.kt e1)
    obtain ⟨ol, olt⟩ := rk.lt
    refine ⟨p, rfl, ⟨_, .inl (.inl hp)⟩, for_list (K := K) (a := p) (xs := ord.map fun j : Nat => V.int j) (fun i σ H' => ∃ tz u y, σ = [some (.ref l), some (.ref D), y] ∧ H' D = some (.lst (tz ++ [u])) ∧ Parts K H' (tz ++ [u]) ((List.range (i + 1)).map (sumK ps ord)) ∧ TupI K H' u (sumK ps ord i).1 (sumK ps ord i).2 ∧ SameX D H1 H' ∧ KT H1 H')
      ⟨[], _, none, rfl, hD1, Parts.cons (p := (0, 1)) ⟨_, rfl, T.t_NOUGHT _⟩ Parts.nil, ⟨_, rfl, T.t_NOUGHT _⟩, SameX.refl _ _, KT.refl _⟩ (fun i σ H' _ ⟨_, _, _, _, _, _, _, s, _⟩ => .inl (.inl (s _ _ nDp.symm hp))) ?_ ?_⟩
    · rintro i x σ H' hx ⟨tz, u, y, rfl, hD', hts, hu, sx, kt⟩
      rw [List.getElem?_map] at hx
      obtain ⟨j, hj, rfl⟩ : ∃ j, ord[i]? = some j ∧ V.int (j : Nat) = x := by
        cases z : ord[i]? with
        | none => rw [z] at hx; cases hx
        | some j => rw [z] at hx; exact ⟨j, rfl, Option.some.inj hx⟩
      have hjl : j < ps.length := olt j (List.mem_of_getElem? hj)
      have hil : i < ord.length := (List.getElem?_eq_some_iff.mp hj).1
      obtain ⟨v, hv⟩ : ∃ v, rs[j]? = some v := ⟨_, List.getElem?_eq_getElem (by rw [hP.1]; exact hjl)⟩
      obtain ⟨pj, hpj, tv⟩ := hP1.2 j v hv
      have egp : gp ps j = pj := by unfold gp; rw [List.getD_eq_getElem?_getD, hpj]; rfl
      have o1 := sane.sumK rk i
      have o2 : Okp 4400 pj := sane.ok pj (List.mem_of_getElem? hpj)
      refine ⟨_, rfl, .inl ⟨rfl, _, .inl (.inl hD')⟩, _, rfl, _, rfl, D, _, -1, _, rfl, rfl, .inl (.inl hD'), atI_last tz u, _, rfl, _, rfl, l, _, j, _, rfl, rfl, kt.sqt hR1, atI_nat hv, ?_⟩
      refine ⟨_, _, _, _, _, _, rfl, hu, tv.k kt, o1.1, o2.1, o1.2.1.mono (by decide), o1.2.2, o2.2.1.mono (by decide), o2.2.2, fun t H2 st ht2 => ?_⟩
      have hD2 := st _ _ hD'
      have el : (tz ++ [u]).length = i + 1 := by rw [hts.1, List.length_map, List.length_range]
      refine ⟨D, tz ++ [u], t, rfl, rfl, hD2, by rw [el, sizeLine_eq]; omega, ?_⟩
      have k2 : KT H2 (upd H2 D (.lst (tz ++ [u] ++ [t]))) := kt_set hD2
      have e5 : sumK ps ord (i + 1) = lo ((sumK ps ord i).1 * pj.2 + pj.1 * (sumK ps ord i).2) ((sumK ps ord i).2 * pj.2) := by rw [sumK_succ hj, egp]; rfl
      have ht3 : TupI K (upd H2 D (.lst (tz ++ [u] ++ [t]))) t (sumK ps ord (i + 1)).1 (sumK ps ord (i + 1)).2 := by rw [e5]; exact ht2.k k2
      refine ⟨tz ++ [u], t, _, rfl, upd_same, ?_, ht3, sx.trans ((Same.x st).trans samex_set), kt.trans ((kt_same st).trans k2)⟩
      rw [List.range_succ, List.map_append]
      exact ((hts.k (kt_same st)).k k2).add ht3
    · rintro σ H' ⟨tz, u, y, rfl, hD', hts, hu, sx, kt⟩
      rw [List.length_map, ol] at hts
      refine ⟨_, rfl, q H' D _ ord (fun b o hb nt => ?_) ?_ (New.of nD) hD' hts rk⟩
      · have hb1 := e1 _ _ (sB _ _ hb) nt
        exact sx _ _ (fun z => by rw [z, nD] at hb; cases hb) hb1
      · exact Tabs.lx t1 sx hD1
theorem ok_fall (T : Tx K mg base) : FnOk P w K mg base CX0 6 T.f_fall T.d_fall ["weight", "row"] (spFallS K T.TT) := by
  refine T.F_fall.ok sc_fall (fun vs H Q E h => ?_) (fun cdv A outer s H vs Q E hr h => ?_)
  · obtain ⟨wt, l, ps, rfl, _⟩ := h
    rfl
  · obtain ⟨wt, l, ps, rfl, bw, hrow, hT, q⟩ := h
    refine ⟨_, (pss_cons (ps_for PassesOwn.never rfl (pi_enB (by rfl) T.n_enumerate (pa_cons (pe_call (ok_sums_ahead T) (hr.mono (by decide)) (by rfl) T.g_sums_ahead T.F_sums_ahead.kp T.b_sums_ahead .nil pass0 (pa_cons (pv 1) pa_nil)) pa_nil)) (pg_tup (by rfl) (pgs_cons (pg_name (i := 2) sc_fall.nd rfl (.inl rfl)) (pgs_cons (pg_name (i := 3) sc_fall.nd rfl (.inl rfl)) pgs_nil))) (pss_one (ps_if (pt_val (pe_call (ok_is_less T) (hr.mono (by decide)) (by rfl) T.g_is_less T.F_is_less.kp T.b_is_less .nil pass0 (pa_cons (pe_call (ok_most T) (hr.mono (by decide)) (by rfl) T.g_most T.F_most.kp T.b_most .nil pass0 (pa_cons (pv 0) (pa_cons (pe_callB call_len_seq (by rfl) T.n_len (by decide +kernel) (pa_cons (pv 1) pa_nil)) (pa_cons (pv 2) pa_nil)))) (pa_cons (pv 3) pa_nil)))) (pss_one (ps_ret (pv 2))) pss_nil)))
        (pss_one (ps_ret pe_non))), ?_⟩
    refine ⟨_, rfl, l, ps, rfl, hrow, hT, fun H1 p ts ord e1 t1 np hp hts rk => ?_⟩
    obtain ⟨rs, hR1, hP1, sane⟩ := hrow.k (ExtN.kt e1)
    have pl100 := sane.l
    have tl : ts.length = ps.length + 1 := by rw [hts.1]; unfold sumsP; rw [List.length_map, List.length_range]
    refine ⟨true, p, ts, rfl, .inl (.inl hp), for_it (walk_enB (K := K) (b := true) (a := p) (xs := ts) (k := 0)) (fun i σ H' => ∃ y z, σ = [some (.int wt), some (.ref l), y, z] ∧ Same H1 H' ∧ ∀ k, k < i → fallsAt wt ps ord k = false)
      ⟨none, none, rfl, Same.refl _, fun k hk => absurd hk (Nat.not_lt_zero k)⟩ (fun i σ H' _ ⟨_, _, _, s, _⟩ => .inl (.inl (s _ _ hp))) ?_ ?_⟩
    · rintro i x σ H' H'' hi ⟨y, z, rfl, s1, hf⟩ ⟨t, v1, v2, rfl, nt, rfl, ev1, ev2⟩
      have ev1 : some (V.int (0 + (i : Nat))) = some v1 := ev1
      rw [Int.zero_add] at ev1
      obtain rfl : V.int (i : Nat) = v1 := Option.some.inj ev1
      have hi : i < ts.length := hi
      have ev2 : ts[i]? = some v2 := ev2
      obtain ⟨pk, hpk, tk⟩ := hts.2 i v2 ev2
      have epk : pk = sumK ps ord i := by
        unfold sumsP at hpk
        rw [List.getElem?_map, List.getElem?_range (by omega)] at hpk
        exact (Option.some.inj hpk).symm
      subst epk
      have s2 : Same H1 (upd H' t (.tup [.int (i : Nat), v2])) := s1.trans (same_new nt)
      refine ⟨t, _, rfl, .inl (.inl upd_same), rfl, _, _, rfl, _, _, rfl, rfl, ?_⟩
      have bl : Bt 200 ((rs.length : Nat) : Int) := Bt.of_lt (by omega) (by rw [hP1.1]; omega)
      have bi : Bt 200 ((i : Nat) : Int) := Bt.of_lt (by omega) (by omega)
      refine ⟨_, rfl, _, rfl, l, rs, rfl, .inr (Same.tup s2 hR1), _, rfl, ?_⟩
      refine ⟨_, _, _, rfl, bw, bl, bi, fun mv H2 s3 hm => ?_⟩
      have o1 := sane.sumK rk i
      have bm : Bt 4400 (wt * (i : Nat) * ((rs.length : Nat) - (i : Nat) : Int)) := ((bw.mul bi).mul (bl.sub bi)).mono (by decide)
      have b2 : Bt 4400 (2 : Int) := by unfold Bt; exact Nat.lt_of_lt_of_le (by decide : (2 : Int).natAbs < 2 ^ 2) (Nat.pow_le_pow_right (by decide) (by decide))
      refine ⟨_, rfl, _, _, _, _, _, _, rfl, hm, tk.same (s2.trans s3), bm.lo1.mono (by decide), b2.lo2, o1.2.1.mono (by decide), o1.2.2, ?_⟩
      have ef : fallsAt wt ps ord i = decide ((lo (wt * (i : Nat) * ((rs.length : Nat) - (i : Nat) : Int)) 2).1 * (sumK ps ord i).2 < (sumK ps ord i).1 * (lo (wt * (i : Nat) * ((rs.length : Nat) - (i : Nat) : Int)) 2).2) := by rw [hP1.1]; rfl
      rw [← ef]
      cases hfa : fallsAt wt ps ord i with
      | true =>
        refine ⟨true, rfl, iteT ?_⟩
        refine ⟨_, rfl, ?_⟩
        have hv : fallV wt ps ord = .int (i : Nat) := by
          unfold fallV
          rw [find_at (k := i) (by omega) hfa hf]
        have e3 : LamX.ExtN H H2 := e1.trans (ExtN.same (s2.trans s3))
        have := q H2 ord e3 (t1.ext (s2.trans s3)) rk
        rw [hv] at this
        exact this
      | false =>
        refine ⟨false, rfl, iteF ?_⟩
        refine ⟨_, _, rfl, s2.trans s3, fun k hk => ?_⟩
        rcases Nat.lt_succ_iff_lt_or_eq.mp hk with h | rfl
        · exact hf k h
        · exact hfa
    · rintro σ H' ⟨y, z, rfl, s1, hf⟩
      have hv : fallV wt ps ord = .non := by
        unfold fallV
        rw [find_no fun k hk => hf k (by omega)]
      have := q H' ord (e1.trans (ExtN.same s1)) (t1.ext s1) rk
      rw [hv] at this
      exact this
theorem ok_is_within (T : Tx K mg base) : FnOk P w K mg base CX0 7 T.f_is_within T.d_is_within ["weight", "row"] (spWithinS K T.TT) := by
  refine T.F_is_within.ok sc_is_within (fun vs H Q E h => ?_) (fun cdv A outer s H vs Q E hr h => ?_)
  · obtain ⟨wt, l, ps, rfl, _⟩ := h
    rfl
  · obtain ⟨wt, l, ps, rfl, bw, hrow, hT, q⟩ := h
    refine ⟨_, (pss_one (ps_ret (pe_and (pe_cmpR (op_eqD hr.units) (pe_call (ok_total T) (hr.mono (by decide)) (by rfl) T.g_total T.F_total.kp T.b_total T.vb_total pass0 (pa_cons (pv 1) pa_nil)) (pe_glob (v := .ref T.a_NOUGHT) (by rfl) T.g_NOUGHT rfl) (nomark _)) (pe_one (pe_cmpR op_isN (pe_call (ok_fall T) (hr.mono (by decide)) (by rfl) T.g_fall T.F_fall.kp T.b_fall .nil pass0 (pa_cons (pv 0) (pa_cons (pv 1) pa_nil))) pe_non (nomark _)))))), ?_⟩
    obtain ⟨rs, hR, hP, sane⟩ := hrow
    have p0 : ∀ q ∈ ps, 0 < q.2 := fun q hq => (sane.ok q hq).1
    refine ⟨_, rfl, l, _, 0, 1, rs, ps, rfl, .inr hR, ⟨_, rfl, T.t0 _⟩, hP, sane.ok, sane.pre, fun v H1 s1 hv => ?_⟩
    refine ⟨_, _, pd_dp hv, pd_dp (a := 0) (b := 1) ⟨_, rfl, T.t_NOUGHT _⟩, rfl, rfl, ?_⟩
    rw [eqv_pairs]
    by_cases hz : (ps.foldl pl (0, 1)).1 = 0 ∧ (ps.foldl pl (0, 1)).2 = 1
    · rw [decide_eq_true hz]
      refine ⟨true, rfl, iteT ?_⟩
      have hz : ps.foldl pl (0, 1) = (0, 1) := Prod.ext hz.1 hz.2
      refine ⟨_, rfl, _, rfl, wt, l, ps, rfl, bw, ⟨rs, Same.tup s1 hR, hP.k (kt_same s1), sane⟩, hT.ext s1, fun H2 ord e2 t2 rk => ⟨rfl, ?_⟩⟩
      refine q H2 _ ((ExtN.same s1).trans e2) t2 ?_
      rw [decide_eq_true_eq, fallV_wth rk p0]
      exact ⟨fun f => ⟨(nought_iff p0).mp hz, f⟩, fun f => f.2⟩
    · rw [decide_eq_false hz]
      refine ⟨false, rfl, iteF ?_⟩
      refine q H1 false (ExtN.same s1) (hT.ext s1) ⟨fun z => (by cases z), fun f => ?_⟩
      have := (nought_iff p0).mpr f.1
      exact absurd ⟨congrArg Prod.fst this, congrArg Prod.snd this⟩ hz
end
end WS
set_option Elab.async false
set_option linter.all false
set_option maxRecDepth 100000
set_option maxHeartbeats 4000000
namespace WS
open PySem PySem.Spec PyProof.Rows L2
section
variable {P : Program} {w : World} {K : PySem.W.Frag} {mg : Str → Option Value} {base : Heap}
open TL
theorem ok_is_seat (T : Tx K mg base) : FnOk P w K mg base CX0 3 T.f_is_seat T.d_is_seat ["thing"] (spSeatOk K) := by
  refine T.F_is_seat.ok sc_is_seat (fun vs H Q E h => ?_) (fun cdv A outer s H vs Q E hr h => ?_)
  · obtain ⟨v, st, rfl, _⟩ := h
    rfl
  · obtain ⟨v, st, rfl, hd, nm, lw, q⟩ := h
    refine ⟨_, (pss_cons (ps_if (pt_not (pt_val (pe_call (ok_is_pair T) (hr.mono (by decide)) (by rfl) T.g_is_pair T.F_is_pair.kp T.b_is_pair .nil pass0 (pa_cons (pv 0) pa_nil)))) (pss_one (ps_ret pe_bl)) pss_nil)
        (pss_cons (ps_asg (pv 0) (pg_tup (by rfl) (pgs_cons (pg_name (i := 1) sc_is_seat.nd rfl (.inl rfl)) (pgs_cons (pg_name (i := 2) sc_is_seat.nd rfl (.inl rfl)) pgs_nil))))
        (pss_cons (ps_set (i := 3) sc_is_seat.nd rfl (.inl rfl) (pe_and (pe_callB call_isi (by rfl) T.n_isinstance (by decide +kernel) (pa_cons (pv 1) (pa_cons (pe_bltn (v := .ty "str") (by rfl) T.n_str (by decide +kernel) rfl) pa_nil))) (pe_one (pe_cmpR op_eq (pv 1) (pe_glob (v := .str "") (by rfl) T.g_EMPTY T.r_EMPTY) (nomark _)))))
        (pss_one (ps_ret (pe_and (pe_or (pv 3) (pe_one (pe_call (ok_is_name T) (hr.mono (by decide)) (by rfl) T.g_is_name T.F_is_name.kp T.b_is_name .nil pass0 (pa_cons (pv 1) pa_nil)))) (pe_one (pe_call (ok_is_part T) (hr.mono (by decide)) (by rfl) T.g_is_part T.F_is_part.kp T.b_is_part .nil pass0 (pa_cons (pv 2) pa_nil))))))))), ?_⟩
    obtain ⟨a, x, y, rfl, ha, hx, hy⟩ := dp2 hd
    obtain rfl := dp_str hx
    refine ⟨_, rfl, a, _, _, rfl, ha, fun H1 s1 => ⟨true, rfl, iteF ?_⟩⟩
    have ha1 := Same.tup s1 ha
    refine ⟨_, rfl, a, _, rfl, ha1, rfl, _, _, rfl, _, _, rfl, rfl, ?_⟩
    refine ⟨_, rfl, _, _, _, _, true, rfl, .ty "str", .base (.str _), kit_ty (by decide +kernel), true, rfl, iteT ?_⟩
    refine ⟨_, rfl, rfl, ?_⟩
    rw [eqv_strs]
    have fin : ∀ H2, Same H1 H2 → spPair K [y] H2 (fun v H' => Q v H') E0 := fun H2 s2 => by
      refine ⟨y, _, rfl, pair_of ((dp_pd hy).same (s1.trans s2)), ?_⟩
      rw [decide_eq_true lw.1, decide_eq_true (show ((Int.gcd st.2.1 st.2.2 : Nat) : Int) = 1 by rw [lw.2]; rfl)]
      exact q H2 (s1.trans s2)
    rcases nm with nm | nm
    · rw [decide_eq_true nm]
      exact ⟨_, rfl, true, rfl, iteT ⟨true, rfl, iteT ⟨_, rfl, fin H1 (Same.refl _)⟩⟩⟩
    · rw [decide_eq_false (nm_ne nm)]
      refine ⟨_, rfl, false, rfl, iteF ⟨_, rfl, a, _, .str st.1, rfl, .str _, fun z e => (by cases e; have z8 : st.1.length ≤ 8 := nm.2.1; omega), fun H2 s2 => ?_⟩⟩
      rw [show nmT (.str st.1) = true from decide_eq_true nm]
      exact ⟨true, rfl, iteT ⟨_, rfl, fin H2 s2⟩⟩
theorem ok_is_moment (T : Tx K mg base) : FnOk P w K mg base CX0 8 T.f_is_moment T.d_is_moment ["thing"] (spIsMomS K T.TT) := by
  refine T.F_is_moment.ok sc_is_moment (fun vs H Q E h => ?_) (fun cdv A outer s H vs Q E hr h => ?_)
  · obtain ⟨v, W, ss, rfl, _⟩ := h
    rfl
  · obtain ⟨v, W, ss, rfl, hm, mo, hT, q⟩ := h
    refine ⟨_, (pss_cons (ps_if (pt_not (pt_val (pe_call (ok_is_pair T) (hr.mono (by decide)) (by rfl) T.g_is_pair T.F_is_pair.kp T.b_is_pair .nil pass0 (pa_cons (pv 0) pa_nil)))) (pss_one (ps_ret pe_bl)) pss_nil)
        (pss_cons (ps_asg (pv 0) (pg_tup (by rfl) (pgs_cons (pg_name (i := 1) sc_is_moment.nd rfl (.inl rfl)) (pgs_cons (pg_name (i := 2) sc_is_moment.nd rfl (.inl rfl)) pgs_nil))))
        (pss_cons (ps_if (PW.pt (pw_or (pt_not (pt_val (pe_call (ok_is_weight T) (hr.mono (by decide)) (by rfl) T.g_is_weight T.F_is_weight.kp T.b_is_weight .nil pass0 (pa_cons (pv 1) pa_nil)))) (pw_or1 (pt_not (pt_val (pe_callB call_isi (by rfl) T.n_isinstance (by decide +kernel) (pa_cons (pv 2) (pa_cons (pe_bltn (v := .ty "tuple") (by rfl) T.n_tuple (by decide +kernel) rfl) pa_nil)))))))) (pss_one (ps_ret pe_bl)) pss_nil)
        (pss_cons (ps_if (pt_not (pt_val (pe_callB (cr_all (by rfl)) (by rfl) T.n_all (by decide +kernel) (pa_cons (pe_lc (own := [("seat", 4)]) (g := gName 4) (tt := tYes) (by rfl) sc_is_moment.nd (pi_tup (pv 2)) (blkOk_by (own := [("seat", 4)]) (N := ["thing", "weight", "seats", "sitting", "seat"]) (sc := defScope s_is_moment) (by decide +kernel)) (fun _ _ _ _ _ => (pg_name (i := 4) sc_is_moment.nd rfl (.inl rfl))) (fun _ _ _ _ _ => pts_nil) (fun _ _ _ _ _ => (pe_call (ok_is_seat T) (hr.mono (by decide)) (by rfl) T.g_is_seat T.F_is_seat.kp T.b_is_seat .nil pass0 (pa_cons (pv 4) pa_nil)))) pa_nil)))) (pss_one (ps_ret pe_bl)) pss_nil)
        (pss_cons (ps_set (i := 3) sc_is_moment.nd rfl (.inl rfl) (pe_call (ok_persons T) (hr.mono (by decide)) (by rfl) T.g_persons T.F_persons.kp T.b_persons .nil pass0 (pa_cons (pv 0) pa_nil)))
        (pss_one (ps_ret (pe_and (pe_cmpR op_eq (pe_lenSetL (by rfl) (by rfl) T.n_len (by rfl) T.n_set (pv 3)) (pe_callB call_len_seq (by rfl) T.n_len (by decide +kernel) (pa_cons (pv 3) pa_nil)) (nomark _)) (pe_one (pe_call (ok_is_within T) (hr.mono (by decide)) (by rfl) T.g_is_within T.F_is_within.kp T.b_is_within .nil pass0 (pa_cons (pv 1) (pa_cons (pe_call (ok_owing T) (hr.mono (by decide)) (by rfl) T.g_owing T.F_owing.kp T.b_owing .nil pass0 (pa_cons (pv 0) pa_nil)) pa_nil)))))))))))), ?_⟩
    obtain ⟨t, S, vs, rfl, ht, hS, hV⟩ := mom_get hm
    have el : vs.length = ss.length := by rw [dpall_len hV, List.length_map]
    have l14 : ss.length ≤ 100 := by have := mo.s.l; rwa [List.length_map] at this
    refine ⟨_, rfl, t, _, _, rfl, ht, fun H1 s1 => ⟨true, rfl, iteF ?_⟩⟩
    have ht1 := Same.tup s1 ht
    have hS1 := Same.tup s1 hS
    refine ⟨_, rfl, t, _, rfl, ht1, rfl, _, _, rfl, _, _, rfl, rfl, ?_⟩
    refine ⟨_, rfl, t, _, .int W, rfl, .int W, ?_⟩
    rw [show wOk (.int W) = true from decide_eq_true mo.w]
    refine ⟨true, rfl, iteF ?_⟩
    refine ⟨_, rfl, _, _, _, _, true, rfl, .ty "tuple", sqt_ty hS1, kit_ty (by decide +kernel), true, rfl, iteF ?_⟩
    refine ⟨_, rfl, S, rfl, ⟨_, hS1⟩, fun D nD => ?_⟩
    refine lc_tup (K := K) (a := S) (xs := vs) (fun j H' => H' D = some (.lst ((List.replicate j true).map V.bl)) ∧ Same H1 H') ⟨upd_same, same_new nD⟩ (fun j H' _ ⟨_, s⟩ => Same.tup s hS1) ?_ ?_
    · rintro j x H' hx ⟨hD, s2⟩
      obtain ⟨d, ed, hd⟩ := dpall_at hV hx
      rw [List.getElem?_map] at ed
      obtain ⟨st, es, rfl⟩ : ∃ st, ss[j]? = some st ∧ seatD st = d := by
        cases z : ss[j]? with
        | none => rw [z] at ed; cases ed
        | some st => rw [z] at ed; exact ⟨st, rfl, Option.some.inj ed⟩
      have hj := (List.getElem?_eq_some_iff.mp hx).1
      have hms := List.mem_of_getElem? es
      refine ⟨rfl, tyes (iteT ?_)⟩
      refine ⟨_, rfl, x, st, rfl, hd.sm (s1.trans s2), mo.nm st hms, mo.low st hms, fun H3 s3 => ?_⟩
      refine ⟨_, s3 _ _ hD, by rw [List.length_map, List.length_replicate]; exact small1000 (by omega), ?_, same_upd (s2.trans s3) nD⟩
      rw [upd_same, List.replicate_succ', List.map_append]
      rfl
    rintro H2 ⟨hD, s2⟩
    refine ⟨D, _, rfl, .inl (.inl hD), ?_⟩
    rw [all_true]
    refine ⟨true, rfl, iteF ?_⟩
    have s12 := s1.trans s2
    refine ⟨_, rfl, _, W, ss, rfl, hm.sm s12, by omega, fun F H3 nF s3 hF => ?_⟩
    have fl := names_len ss
    refine ⟨_, rfl, F, names ss, rfl, .inl (.inl hF), mo.nd, by omega, _, rfl, F, _, rfl, .inl (.inl (.inl hF)), ?_⟩
    rw [List.length_map]
    refine ⟨rfl, true, by rw [decide_eq_true rfl], iteT ?_⟩
    have s13 := s12.trans s3
    refine ⟨_, rfl, _, rfl, _, W, ss, rfl, hm.sm s13, by omega, fun r H4 s4 hr4 => ?_⟩
    obtain ⟨l, rs, rfl, hl, hrs⟩ := dp_tup hr4
    have lm : (ss.map Prod.snd).length = ss.length := List.length_map _
    have s14 := s13.trans s4
    refine ⟨W, l, ss.map Prod.snd, rfl, mo.b.mono (by decide), ⟨rs, hl, parts_dp hrs, mo.s⟩, hT.ext s14, fun H5 b x5 t5 hb5 => ?_⟩
    obtain rfl : b = true := hb5.mpr ⟨good_sum mo.g, good_row mo.g⟩
    exact q H5 ((ExtN.same s14).trans x5) t5
end
end WS
set_option Elab.async false
set_option linter.all false
set_option maxRecDepth 100000
set_option maxHeartbeats 4000000
namespace WS
open PySem PySem.Spec PyProof.Rows L2
section
variable {P : Program} {w : World} {K : PySem.W.Frag} {mg : Str → Option Value} {base : Heap}
open TL
theorem ok_lright (T : Tx K mg base) {A : Around} (hg : Calm A) : FnAt A P w K mg base CX0 9 T.f_lright T.d_lright ["_law_moment"] (spRight45 K T.TT) := by
  refine fun_at T.F_lright sc_lright (fun vs H Q E h => ?_) (fun cdv outer s H vs Q E hr h => ?_)
  · obtain ⟨v, D, W, ss, rfl, _⟩ := h
    rfl
  · obtain ⟨v, D, W, ss, rfl, hm, lk, hT, q⟩ := h
    obtain ⟨m, S, vs, rfl, hM, hS, hV⟩ := mom_get hm
    refine ⟨_, PSs.nox (pss_cons (ps_set (i := 1) sc_lright.nd rfl (.inl rfl) (pe_callB (call_reprD (Calm.down hg _) hr.units) (by rfl) T.n_repr (by decide +kernel) (pa_cons (pv 0) pa_nil)))
        (pss_cons (ps_par (i := 2) (j := 3) (by rfl) sc_lright.nd rfl rfl (by decide) rfl rfl (pa_cons (pe_call (ok_ldue T) (hr.mono (by decide)) (by rfl) T.g_ldue T.F_ldue.kp T.b_ldue .nil pass0 (pa_cons (pe_ix ix_tup (pv 0) pe_int (fun _ _ => rfl)) pa_nil)) (pa_cons (pe_call (ok_llevel T) (hr.mono (by decide)) (by rfl) T.g_llevel T.F_llevel.kp T.b_llevel .nil pass0 (pa_cons (pv 0) pa_nil)) pa_nil)) (by rfl))
        (pss_cons (ps_set (i := 4) sc_lright.nd rfl (.inl rfl) (pe_call (ok_levelling T) (hr.mono (by decide)) (by rfl) T.g_levelling T.F_levelling.kp T.b_levelling .nil pass0 (pa_cons (pv 0) pa_nil)))
        (pss_cons (ps_set (i := 6) sc_lright.nd rfl (.inl rfl) (pe_callB call_len_seq (by rfl) T.n_len (by decide +kernel) (pa_cons (pe_lc (own := [("_law_one", 5)]) (g := gName 5) (by rfl) sc_lright.nd (pi_tup (pe_ix ix_tup (pv 0) pe_int (fun _ _ => rfl))) (blkOk_by (own := [("_law_one", 5)]) (N := ["_law_moment", "_law_kept", "_law_due_here", "_law_level_here", "_law_told", "_law_one", "_law_many", "_law_here", "_law_other", "_law_amount", "_law_before", "_law_after"]) (sc := defScope s_lright) (by decide +kernel)) (fun _ _ _ _ _ => (pg_name (i := 5) sc_lright.nd rfl (.inl rfl))) (fun _ _ _ _ _ => (pts_one (pt_cmpR op_ne (pe_ix (show IxR _ (rIxT K) from ix_tup) (pv 5) pe_int (fun _ _ => rfl)) pe_str (nomark _)))) (fun _ _ _ _ _ => (pv 5))) pa_nil)))
        (pss_cons (ps_if (PW.pt (pw_or (pt_not (pt_val (pe_callB call_isi (by rfl) T.n_isinstance (by decide +kernel) (pa_cons (pv 4) (pa_cons (pe_bltn (v := .ty "list") (by rfl) T.n_list (by decide +kernel) rfl) pa_nil))))) (pw_or (pt_cmpR op_ne (pe_callB (call_reprD (Calm.down hg _) hr.units) (by rfl) T.n_repr (by decide +kernel) (pa_cons (pv 4) pa_nil)) (pe_callB (call_reprD (Calm.down hg _) hr.units) (by rfl) T.n_repr (by decide +kernel) (pa_cons (pv 2) pa_nil)) (nomark _)) (pw_or1 (pt_cmpR op_gt (pe_callB call_len_seq (by rfl) T.n_len (by decide +kernel) (pa_cons (pv 4) pa_nil)) (pe_callB (call_max2 (by rfl)) (by rfl) T.n_max (by decide +kernel) (pa_cons pe_int (pa_cons (pe_op op_sub (pv 6) pe_int) pa_nil))) (nomark _)))))) (pss_one (ps_ret pe_bl)) pss_nil)
        (pss_cons (ps_set (i := 7) sc_lright.nd rfl (.inl rfl) (pv 0))
        (pss_cons (ps_for PassesOwn.never rfl (pi_list (pv 4)) (pg_tup (by rfl) (pgs_cons (pg_name (i := 5) sc_lright.nd rfl (.inl rfl)) (pgs_cons (pg_name (i := 8) sc_lright.nd rfl (.inl rfl)) (pgs_cons (pg_name (i := 9) sc_lright.nd rfl (.inl rfl)) pgs_nil)))) (pss_cons (ps_set (i := 7) sc_lright.nd rfl (.inl rfl) (pe_call (ok_with_gift T) (hr.mono (by decide)) (by rfl) T.g_with_gift T.F_with_gift.kp T.b_with_gift .nil pass0 (pa_cons (pv 7) (pa_cons (pv 5) (pa_cons (pv 8) (pa_cons (pv 9) pa_nil))))))
        (pss_one (ps_if (pt_cmpR op_notBl (pe_call (ok_is_moment T) (hr.mono (by decide)) (by rfl) T.g_is_moment T.F_is_moment.kp T.b_is_moment .nil pass0 (pa_cons (pv 7) pa_nil)) pe_bl (nomark _)) (pss_one (ps_ret pe_bl)) pss_nil))))
        (pss_cons (ps_expr (pe_bm0 PySem.F.plainAttrs_list PySem.F.slot_list_clear PySem.F.type_list_clear mt_clear (pv 4)))
        (pss_cons (ps_if (PW.pt (pw_or (pt_cmpR op_ne (pe_callB (call_reprD (Calm.down hg _) hr.units) (by rfl) T.n_repr (by decide +kernel) (pa_cons (pv 7) pa_nil)) (pe_callB (call_reprD (Calm.down hg _) hr.units) (by rfl) T.n_repr (by decide +kernel) (pa_cons (pv 3) pa_nil)) (nomark _)) (pw_or (pt_cmpR op_ne (pe_callB (call_reprD (Calm.down hg _) hr.units) (by rfl) T.n_repr (by decide +kernel) (pa_cons (pe_call (ok_levelled T) (hr.mono (by decide)) (by rfl) T.g_levelled T.F_levelled.kp T.b_levelled .nil pass0 (pa_cons (pv 0) pa_nil)) pa_nil)) (pe_callB (call_reprD (Calm.down hg _) hr.units) (by rfl) T.n_repr (by decide +kernel) (pa_cons (pv 3) pa_nil)) (nomark _)) (pw_or1 (pt_cmpR (op_neD hr.units) (pe_call (ok_levelling T) (hr.mono (by decide)) (by rfl) T.g_levelling T.F_levelling.kp T.b_levelling .nil pass0 (pa_cons (pv 0) pa_nil)) (pv 2) (nomark _)))))) (pss_one (ps_ret pe_bl)) pss_nil)
        (pss_cons (ps_if (PW.pt (pw_or (pt_cmpR (op_neD hr.units) (pe_call (ok_levelling T) (hr.mono (by decide)) (by rfl) T.g_levelling T.F_levelling.kp T.b_levelling .nil pass0 (pa_cons (pv 3) pa_nil)) (pe_lst pa_nil) (nomark _)) (pw_or (pt_cmpR (op_neD hr.units) (pe_call (ok_levelled T) (hr.mono (by decide)) (by rfl) T.g_levelled T.F_levelled.kp T.b_levelled .nil pass0 (pa_cons (pv 3) pa_nil)) (pv 3) (nomark _)) (pw_or1 (pt_cmpR op_notBl (pe_call (ok_is_moment T) (hr.mono (by decide)) (by rfl) T.g_is_moment T.F_is_moment.kp T.b_is_moment .nil pass0 (pa_cons (pv 3) pa_nil)) pe_bl (nomark _)))))) (pss_one (ps_ret pe_bl)) pss_nil)
        (pss_cons (ps_par (i := 10) (j := 11) (by rfl) sc_lright.nd rfl rfl (by decide) rfl rfl (pa_cons (pe_lc (own := [("_law_one", 5)]) (g := gName 5) (tt := tYes) (by rfl) sc_lright.nd (pi_tup (pe_ix ix_tup (pv 0) pe_int (fun _ _ => rfl))) (blkOk_by (own := [("_law_one", 5)]) (N := ["_law_moment", "_law_kept", "_law_due_here", "_law_level_here", "_law_told", "_law_one", "_law_many", "_law_here", "_law_other", "_law_amount", "_law_before", "_law_after"]) (sc := defScope s_lright) (by decide +kernel)) (fun _ _ _ _ _ => (pg_name (i := 5) sc_lright.nd rfl (.inl rfl))) (fun _ _ _ _ _ => pts_nil) (fun _ _ _ _ _ => (pe_ix (show IxR _ (rIxT K) from ix_tup) (pv 5) pe_int (fun _ _ => rfl)))) (pa_cons (pe_lc (own := [("_law_one", 5)]) (g := gName 5) (tt := tYes) (by rfl) sc_lright.nd (pi_tup (pe_ix ix_tup (pv 3) pe_int (fun _ _ => rfl))) (blkOk_by (own := [("_law_one", 5)]) (N := ["_law_moment", "_law_kept", "_law_due_here", "_law_level_here", "_law_told", "_law_one", "_law_many", "_law_here", "_law_other", "_law_amount", "_law_before", "_law_after"]) (sc := defScope s_lright) (by decide +kernel)) (fun _ _ _ _ _ => (pg_name (i := 5) sc_lright.nd rfl (.inl rfl))) (fun _ _ _ _ _ => pts_nil) (fun _ _ _ _ _ => (pe_ix (show IxR _ (rIxT K) from ix_tup) (pv 5) pe_int (fun _ _ => rfl)))) pa_nil)) (by rfl))
        (pss_one (ps_ret (pe_and (pe_cmpR op_eq (pe_callB (call_reprD (Calm.down hg _) hr.units) (by rfl) T.n_repr (by decide +kernel) (pa_cons (pv 0) pa_nil)) (pv 1) (nomark _)) (pe_one (pe_call (ok_lno_wider T) (hr.mono (by decide)) (by rfl) T.g_lno_wider T.F_lno_wider.kp T.b_lno_wider .nil pass0 (pa_cons (pv 10) (pa_cons (pv 11) pa_nil)))))))))))))))))), ?_⟩
    rw [show L2.start [Str.ofString "_law_moment", Str.ofString "_law_kept", Str.ofString "_law_due_here", Str.ofString "_law_level_here", Str.ofString "_law_told", Str.ofString "_law_one", Str.ofString "_law_many", Str.ofString "_law_here", Str.ofString "_law_other", Str.ofString "_law_amount", Str.ofString "_law_before", Str.ofString "_law_after"] [V.ref m] = [some (V.ref m), none, none, none, none, none, none, none, none, none, none, none] from rfl]
    have l26 := lk.k.l
    have s26 := sit26 lk
    have el : vs.length = ss.length := by rw [dpall_len hV, List.length_map]
    obtain ⟨lk2, gap2, dom2, lev2⟩ := lk.lev
    have gl := giftsL_len lk.gap
    rw [gap_len] at gl
    obtain ⟨P1, eP1⟩ : ∃ P1, P1 = momD W ss := ⟨_, rfl⟩
    obtain ⟨a1, a2, a3, a4⟩ := ((lk.k.sh (by decide)).mono (by omega) (by omega) : Sh 1000000 60 (momD W ss)).ok (Nat.le_refl _) (Nat.le_refl _)
    rw [← eP1] at a1 a2 a3 a4
    obtain ⟨P2, eP2⟩ : ∃ P2, P2 = momD W (levS ss) := ⟨_, rfl⟩
    obtain ⟨b1, b2, b3, b4⟩ := ((lk2.k.sh (by decide)).mono (by omega) (by omega) : Sh 1000000 60 (momD W (levS ss))).ok (Nat.le_refl _) (Nat.le_refl _)
    rw [← eP2] at b1 b2 b3 b4
    obtain ⟨P3, eP3⟩ : ∃ P3, P3 = PyData.list ((giftsL (gap0 ss)).map (gfD ss)) := ⟨_, rfl⟩
    obtain ⟨c1, c2, c3, c4⟩ := ((gifts_sh lk).mono (by omega) (by omega) : Sh 1000000 60 (.list ((giftsL (gap0 ss)).map (gfD ss)))).ok (Nat.le_refl _) (Nat.le_refl _)
    rw [← eP3] at c1 c2 c3 c4
    -- kept, due, the level moment, told
    refine ⟨_, rfl, .ref m, P1, rfl, by rw [eP1]; exact hm, a1, a2, a3, a4, ?_⟩
    refine ⟨_, rfl, m, _, 1, _, rfl, rfl, hM, atI_nat (j := 1) rfl, .ref S, D, W, ss, rfl, .tup hS hV, lk, fun R1 ws1 H1 s1 nR1 hR1 hW1 => ?_⟩
    refine ⟨_, rfl, .ref m, D, W, ss, rfl, hm.sm s1, lk, fun lv H2 s2 hlv => ?_⟩
    refine nil2 ⟨_, _, rfl, ?_⟩
    dsimp only [List.set_cons_succ, List.set_cons_zero]
    have s02 := s1.trans s2
    refine ⟨_, rfl, .ref m, D, W, ss, rfl, hm.sm s02, lk, fun R2 ws2 H3 s3 nR2 hR2 hW2 => ?_⟩
    have s03 := s02.trans s3
    have nR2H : H R2 = none := s02.free nR2
    have hR1' := (s2.trans s3) _ _ hR1
    have hW1' := hW1.sm (s2.trans s3)
    have ne12 : R1 ≠ R2 := ne_of_none (s2 _ _ hR1) nR2
    have hM3 := Same.tup s03 hM
    have hS3 := Same.tup s03 hS
    dsimp only [List.set_cons_succ, List.set_cons_zero]
    -- how many
    refine ⟨_, rfl, m, _, 1, _, rfl, rfl, hM3, atI_nat (j := 1) rfl, S, rfl, ⟨_, hS3⟩, fun G nGG => ?_⟩
    refine lc_tup (K := K) (a := S) (xs := vs) (fun j H' => ∃ us, H' G = some (.lst us) ∧ us.length = (sitL (ss.take j)).length ∧ Same H3 H') ⟨[], upd_same, rfl, same_new nGG⟩ (fun j H' _ ⟨_, _, _, s⟩ => Same.tup (s03.trans s) hS) ?_ ?_
    · rintro j x H' hx ⟨us, hD, hU, s4⟩
      obtain ⟨st, r, y, es, rfl, hr1, hy⟩ := seat_at (hV.sm (s03.trans s4)) hx
      have hj : j < ss.length := (List.getElem?_eq_some_iff.mp es).1
      have et : sitL (ss.take (j + 1)) = sitL (ss.take j) ++ sitL [st] := by
        unfold sitL
        rw [List.take_add_one, es, List.filter_append]
        rfl
      refine ⟨rfl, _, rfl, r, _, 0, _, rfl, rfl, hr1, atI_nat (j := 0) rfl, rfl, _, rfl, ?_⟩
      show if (!decide (V.str st.1 = V.str "")) = true then _ else _
      rw [eqv_strs, et]
      by_cases c : st.1 = ""
      · rw [decide_eq_true c]
        have e0 : sitL [st] = [] := by
          unfold sitL
          rw [List.filter_cons, decide_eq_true c]
          rfl
        rw [e0, List.append_nil]
        exact iteF ⟨us, hD, hU, s4⟩
      · rw [decide_eq_false c]
        have e0 : sitL [st] = [st] := by
          unfold sitL
          rw [List.filter_cons, decide_eq_false c]
          rfl
        rw [e0]
        refine iteT ⟨_, rfl, us, hD, ?_, us ++ [.ref r], upd_same, by rw [List.length_append, List.length_append, hU]; rfl, same_upd s4 nGG⟩
        rw [hU]
        have l1 : (sitL (ss.take j)).length ≤ (ss.take j).length := List.length_filter_le _ _
        rw [List.length_take] at l1
        exact small1000 (by omega)
    rintro H4 ⟨us, hG, hU, s4⟩
    rw [el, List.take_length] at hU
    refine ⟨G, us, rfl, .inl (.inl (.inl hG)), ?_⟩
    have s04 := s03.trans s4
    have hR1'' := s4 _ _ hR1'
    have hR2'' := s4 _ _ hR2
    have hW1'' := hW1'.sm s4
    have hW2'' := hW2.sm s4
    have dp2 : Dp K H4 (.ref R2) P3 := by rw [eP3]; exact .lst (.inl (.inl hR2'')) hW2''
    have dp1 : Dp K H4 (.ref R1) P3 := by rw [eP3]; exact .lst (.inl (.inl hR1'')) hW1''
    have wl2 : ws2.length = nG ss := by rw [dpall_len hW2, List.length_map]; rfl
    dsimp only [List.set_cons_succ, List.set_cons_zero]
    refine ⟨_, rfl, _, _, _, _, true, rfl, .ty "list", .base (.lst hR2''), kit_ty (by decide +kernel), true, rfl, iteF ?_⟩
    refine ⟨_, rfl, .ref R2, P3, rfl, dp2, c1, c2, c3, c4, _, rfl, .ref R1, P3, rfl, dp1, c1, c2, c3, c4, rfl, _, rfl, ?_⟩
    rw [decide_eq_true rfl]
    refine iteF ?_
    have lmax : ((ws2.length : Nat) : Int) ≤ (if ((us.length : Nat) : Int) - 1 > 0 then ((us.length : Nat) : Int) - 1 else 0) := by
      have : nG ss = (giftsL (gap0 ss)).length := rfl
      split <;> omega
    refine ⟨_, rfl, R2, ws2, rfl, .inl (.inl (.inl hR2'')), _, rfl, _, _, rfl, rfl, _, _, rfl, _, _, rfl, rfl, _, rfl, ?_⟩
    rw [decide_eq_false (by omega)]
    refine iteF ?_
    -- gift by gift
    refine ⟨_, rfl, ?_⟩
    dsimp only [List.set_cons_succ, List.set_cons_zero]
    have hm4 := hm.sm s04
    have T4 := hT.ext s04
    have ntR2 : ∀ ps, HO.lst ws2 ≠ .tbl ps := fun _ z => by cases z
    refine ⟨_, rfl, R2, rfl, ⟨_, .inl (.inl hR2'')⟩, for_list (K := K) (a := R2) (xs := ws2) (fun i σ H' => ∃ u y5 y8 y9, σ = [some (.ref m), some (.str P1.shown), some (.ref R1), some lv, some (.ref R2), y5, some (.int (us.length : Nat)), some u, y8, y9, none, none] ∧ Dp K H' u (momD W (levT ss i)) ∧ LamX.ExtN H4 H' ∧ LamX.Tabs T.TT H') ⟨.ref m, _, _, _, rfl, hm4, ExtN.same (Same.refl _), T4⟩ (fun i σ H' _ ⟨_, _, _, _, _, _, x, _⟩ => .inl (.inl (x _ _ hR2'' ntR2))) ?_ ?_⟩
    · rintro i x σ H' hx ⟨u, y5, y8, y9, rfl, hu, x5, T5⟩
      have hi : i < nG ss := by rw [← wl2]; exact (List.getElem?_eq_some_iff.mp hx).1
      obtain ⟨xv, ex, dx⟩ := dpall_get (hW2''.kt (ExtN.kt x5) (gifts_imm _)) (i := i) (d := gfD ss (giftAt (itG i (gap0 ss)))) (by rw [List.getElem?_map, (giftsL_at hi).1]; rfl)
      rw [hx] at ex
      obtain rfl := Option.some.inj ex
      obtain ⟨r, zs, rfl, hr1, hZ⟩ := dp_tup dx
      obtain ⟨x1, x2, x3, rfl, d1, d2, d3⟩ : ∃ x1 x2 x3, zs = [x1, x2, x3] ∧ Dp K H' x1 (.str (gs (sitL ss) (fgr (itG i (gap0 ss)))).1) ∧ Dp K H' x2 (.str (gs (sitL ss) (fls (itG i (gap0 ss)))).1) ∧ Dp K H' x3 (pdP (amt (itG i (gap0 ss)))) := by
        cases hZ with
        | cons a b => cases b with
          | cons b c => cases c with
            | cons c d => cases d; exact ⟨_, _, _, rfl, a, b, c⟩
      cases d1
      cases d2
      have o := lev_gift lk hi
      have lv := lev_ok lk i (by omega)
      have lvn := lev_ok lk (i + 1) (by omega)
      have kk := lv.k23 lk
      have kn := lvn.k23 lk
      have ia := o.ia
      have ib := o.ib
      obtain ⟨a1, _, _, a4⟩ := plK_ok lk.k.nd ia
      obtain ⟨b1, _, _, b4⟩ := plK_ok lk.k.nd ib
      have okg : OkV D (2 ^ 120) (amt (itG i (gap0 ss))) := by
        obtain ⟨gq, _, _, _⟩ := itG_gap lk.gap i
        exact (gq.step (giftsL_at hi).2).ok
      have g1 : 0 < (amt (itG i (gap0 ss))).1 := by
        have h0 := o.pos
        have h1 := o.low.1
        have : ltp (0, 1) (amt (itG i (gap0 ss))) = true := (ltp_iff (by decide) h1).mpr (by rw [rv_nought]; exact h0)
        have := of_decide_eq_true this
        have this : (0 : Int) * (amt (itG i (gap0 ss))).2 < (amt (itG i (gap0 ss))).1 * 1 := this
        omega
      refine ⟨r, _, rfl, hr1, rfl, _, _, rfl, _, _, rfl, _, _, rfl, rfl, ?_⟩
      refine ⟨_, rfl, _, rfl, _, rfl, _, rfl, u, x3, W, levT ss i, _, _, amt (itG i (gap0 ss)), rfl, hu, by have := lv.len; omega, by rw [lv.names]; exact a4, by rw [lv.names]; exact b4, dp_pd d3, o.low, g1, ?_, fun s hs => ((kk.ok s hs).2.1.okp (by decide) (by decide)), (okg.okp lk.k.d0 lk.b (n := 121) (by decide +kernel) (Nat.le_refl 151)).mono (by decide), fun v' H6 s6 h6 => ?_⟩
      · rw [lv.idx, lv.idx]
        exact o.le
      rw [lv.idx, lv.idx] at h6
      have h6 : Dp K H6 v' (momD W (levT ss (i + 1))) := h6
      refine ⟨_, rfl, v', W, _, rfl, h6, kn.m (by decide), T5.ext s6, fun H7 x7 T7 => ?_⟩
      refine ⟨_, _, rfl, rfl, _, rfl, iteF ?_⟩
      exact ⟨v', _, _, _, rfl, ExtN.dp x7 h6 (mom_imm _ _), x5.trans ((ExtN.same s6).trans x7), T7⟩
    rintro σ H5 ⟨u, y5, y8, y9, rfl, hu, x5, T5⟩
    rw [wl2, lev_end lk] at hu
    have hR2_5 := x5 _ _ hR2'' ntR2
    have hR1_5 := x5 _ _ hR1'' (fun _ z => by cases z)
    have hW1_5 := hW1''.kt (ExtN.kt x5) (gifts_imm _)
    have x05 : LamX.ExtN H H5 := (ExtN.same s04).trans x5
    dsimp only [List.set_cons_succ, List.set_cons_zero]
    -- the told list is cleared
    refine ⟨_, rfl, .inl ⟨rfl, _, .inl (.inl hR2_5)⟩, R2, ws2, rfl, rfl, hR2_5, ?_⟩
    obtain ⟨H6, f6, x06, k56, hR1_6, T6⟩ : ∃ B, B = upd H5 R2 (.lst []) ∧ LamX.ExtN H B ∧ KT H5 B ∧ B R1 = some (.lst ws1) ∧ LamX.Tabs T.TT B := ⟨_, rfl, extN_new x05 nR2H, kt_set hR2_5, by rw [upd_ne ne12]; exact hR1_5, Tabs.set T5 hR2_5⟩
    rw [← f6]
    have hu6 : Dp K H6 u P2 := by rw [eP2]; exact hu.kt k56 (mom_imm _ _)
    have hlv6 : Dp K H6 lv (momD W (levS ss)) := (ExtN.dp x5 (hlv.sm (s3.trans s4)) (mom_imm _ _)).kt k56 (mom_imm _ _)
    have hlvP : Dp K H6 lv P2 := by rw [eP2]; exact hlv6
    have hm6 := ExtN.dp x06 hm (mom_imm _ _)
    have hW1_6 := hW1_5.kt k56 (gifts_imm _)
    refine ⟨_, rfl, u, P2, rfl, hu6, b1, b2, b3, b4, _, rfl, lv, P2, rfl, hlvP, b1, b2, b3, b4, rfl, _, rfl, ?_⟩
    rw [decide_eq_true rfl]
    refine iteF ?_
    refine ⟨_, rfl, .ref m, D, W, ss, rfl, hm6, lk, fun u7 H7 s7 hu7 => ?_⟩
    have hu7' : Dp K H7 u7 P2 := by rw [eP2]; exact hu7
    refine nil2 ⟨u7, P2, rfl, hu7', b1, b2, b3, b4, _, rfl, lv, P2, rfl, hlvP.sm s7, b1, b2, b3, b4, rfl, _, rfl, ?_⟩
    rw [decide_eq_true rfl]
    refine iteF ?_
    refine ⟨_, rfl, .ref m, D, W, ss, rfl, hm6.sm s7, lk, fun R8 ws8 H8 s8 nR8 hR8 hW8 => ?_⟩
    have s68 := s7.trans s8
    refine ⟨_, rfl, _, _, .lst (.inl (.inl hR8)) hW8, .lst (.inl (.inl (s68 _ _ hR1_6))) (hW1_6.sm s68), shaped_gifts lk, shaped_gifts lk, _, rfl, ?_⟩
    rw [gifts_eqv]
    refine iteF ?_
    dsimp only [List.set_cons_succ, List.set_cons_zero]
    -- the level moment is level
    have hlv8 := hlv6.sm s68
    refine ⟨_, rfl, lv, D, W, levS ss, rfl, hlv8, lk2, fun R9 ws9 H9 s9 nR9 hR9 hW9 => ?_⟩
    rw [lev_gifts lk] at hW9
    refine ⟨by show 0 ≤ sizeLine; decide, fun Z nZ => ?_⟩
    obtain ⟨H10, f10, e10, hZ⟩ : ∃ B, B = upd H9 Z (.lst []) ∧ Same H9 B ∧ B Z = some (.lst []) := ⟨_, rfl, same_new nZ, upd_same⟩
    show rNeD K _ _ (upd H9 Z (.lst [])) _
    rw [← f10]
    refine ⟨_, _, .lst (.inl (.inl (e10 _ _ hR9))) (hW9.sm e10), .lst (.inl (.inl hZ)) .nil, by rfl, by rfl, _, rfl, iteF ?_⟩
    have s8_10 := s9.trans e10
    refine ⟨_, rfl, lv, D, W, levS ss, rfl, hlv8.sm s8_10, lk2, fun u11 H11 s11 hu11 => ?_⟩
    rw [lev2] at hu11
    have s8_11 := s8_10.trans s11
    have hlv11 := hlv8.sm s8_11
    refine ⟨_, rfl, _, _, hu11, hlv11, shaped_mom _ lk2.k.nm, shaped_mom _ lk2.k.nm, false, by rw [(eqv_pln _ _ (pln_momD _ _) (pln_momD _ _)).mpr rfl]; rfl, iteF ?_⟩
    have s6_11 := s68.trans s8_11
    refine ⟨_, rfl, lv, W, _, rfl, hlv11, lk2.k.m (by decide), T6.ext s6_11, fun H12 x12 T12 => ?_⟩
    refine ⟨_, _, rfl, rfl, _, rfl, iteF ?_⟩
    have x0_12 : LamX.ExtN H H12 := x06.trans ((ExtN.same s6_11).trans x12)
    have hlv12 := ExtN.dp x12 hlv11 (mom_imm _ _)
    have hm12 := ExtN.dp x0_12 hm (mom_imm _ _)
    have hM12 := ExtN.sqt x0_12 hM
    have hS12 := ExtN.sqt x0_12 hS
    have hV12 := hV.kt (ExtN.kt x0_12) (seats_imm _)
    obtain ⟨m2, S2, vs2, rfl, hM2, hS2, hV2⟩ := mom_get hlv12
    have el2 : vs2.length = ss.length := by rw [dpall_len hV2, List.length_map]; unfold levS; rw [List.length_map]
    have ls : (levS ss).length = ss.length := by unfold levS; rw [List.length_map]
    dsimp only [List.set_cons_succ, List.set_cons_zero]
    -- no wider
    refine ⟨_, rfl, m, _, 1, _, rfl, rfl, hM12, atI_nat (j := 1) rfl, S, rfl, ⟨_, hS12⟩, fun G1 nG1 => ?_⟩
    refine lc_tup (K := K) (a := S) (xs := vs) (fun j H' => ∃ us, H' G1 = some (.lst us) ∧ us.length = j ∧ Parts K H' us ((ss.take j).map Prod.snd) ∧ Same H12 H') ⟨[], upd_same, rfl, Parts.nil, same_new nG1⟩ (fun j H' _ ⟨_, _, _, _, s⟩ => Same.tup s hS12) ?_ ?_
    · rintro j x H' hx ⟨us, hD, hl, hU, s13⟩
      obtain ⟨st, r, y, es, rfl, hr1, hy⟩ := seat_at (hV12.sm s13) hx
      have hj : j < ss.length := (List.getElem?_eq_some_iff.mp es).1
      refine ⟨rfl, tyes (iteT ?_)⟩
      refine ⟨_, rfl, r, _, 1, _, rfl, rfl, hr1, atI_nat (j := 1) rfl, us, hD, small1000 (by omega), us ++ [y], upd_same, by simp [hl], ?_, same_upd s13 nG1⟩
      rw [List.take_add_one, es, List.map_append]
      exact (hU.add (dp_pd hy)).k (kt_set hD)
    rintro H13 ⟨us1, hG1, hl1, hU1, s13⟩
    rw [el, List.take_length] at hU1
    refine ⟨_, rfl, m2, _, 1, _, rfl, rfl, Same.tup s13 hM2, atI_nat (j := 1) rfl, S2, rfl, ⟨_, Same.tup s13 hS2⟩, fun G2 nG2 => ?_⟩
    refine lc_tup (K := K) (a := S2) (xs := vs2) (fun j H' => ∃ us, H' G2 = some (.lst us) ∧ us.length = j ∧ Parts K H' us (((levS ss).take j).map Prod.snd) ∧ Same H13 H') ⟨[], upd_same, rfl, Parts.nil, same_new nG2⟩ (fun j H' _ ⟨_, _, _, _, s⟩ => Same.tup (s13.trans s) hS2) ?_ ?_
    · rintro j x H' hx ⟨us, hD, hl, hU, s14⟩
      obtain ⟨st, r, y, es, rfl, hr1, hy⟩ := seat_at (hV2.sm (s13.trans s14)) hx
      have hj : j < (levS ss).length := (List.getElem?_eq_some_iff.mp es).1
      refine ⟨rfl, tyes (iteT ?_)⟩
      refine ⟨_, rfl, r, _, 1, _, rfl, rfl, hr1, atI_nat (j := 1) rfl, us, hD, small1000 (by omega), us ++ [y], upd_same, by simp [hl], ?_, same_upd s14 nG2⟩
      rw [List.take_add_one, es, List.map_append]
      exact (hU.add (dp_pd hy)).k (kt_set hD)
    rintro H14 ⟨us2, hG2, hl2, hU2, s14⟩
    rw [el2, ← ls, List.take_length] at hU2
    refine nil2 ⟨_, _, rfl, ?_⟩
    dsimp only [List.set_cons_succ, List.set_cons_zero]
    have s12_14 := s13.trans s14
    have hm14 : Dp K H14 (.ref m) P1 := by rw [eP1]; exact hm12.sm s12_14
    refine ⟨_, rfl, .ref m, P1, rfl, hm14, a1, a2, a3, a4, _, rfl, rfl, ?_⟩
    refine ⟨true, congrArg V.bl (decide_eq_true rfl), iteT ?_⟩
    refine ⟨_, rfl, _, rfl, G1, G2, us1, us2, ss, levS ss, rfl, s14 _ _ hG1, hG2, hU1.k (kt_same s14), hU2, (lk.k.m (by decide)).s, (lk2.k.m (by decide)).s, dom2, fun H15 s15 => ?_⟩
    exact q H15 (x0_12.trans (ExtN.same (s12_14.trans s15))) (T12.ext (s12_14.trans s15))
end
end WS
set_option Elab.async false
set_option linter.all false
set_option maxRecDepth 100000
set_option maxHeartbeats 4000000
namespace WS
open PySem PySem.Spec PyProof.Rows L2
section
variable {P : Program} {w : World} {K : PySem.W.Frag} {mg : Str → Option Value} {base : Heap}
open TL
theorem ok_lrow (T : Tx K mg base) : FnOk P w K mg base CX0 4 T.f_lrow T.d_lrow ["_law_pot_here", "_law_many"] (spRowL45 K) := by
  refine T.F_lrow.ok sc_lrow (fun vs H Q E h => ?_) (fun cdv A outer s H vs Q E hr h => ?_)
  · obtain ⟨p, m, rfl, _⟩ := h
    rfl
  · obtain ⟨p, m, rfl, hp, hm, q⟩ := h
    refine ⟨_, (pss_cons (ps_set (i := 2) sc_lrow.nd rfl (.inl rfl) (pe_lst pa_nil))
        (pss_cons (ps_for PassesOwn.never rfl (pi_range1 (by rfl) T.n_range (pa_cons (pv 1) pa_nil)) (pg_name (i := 3) sc_lrow.nd rfl (.inl rfl)) (pss_cons (ps_set (i := 4) sc_lrow.nd rfl (.inl rfl) (pe_op op_add (pe_op op_sub (pe_call (ok_ldigit T) (hr.mono (by decide)) (by rfl) T.g_ldigit T.F_ldigit.kp T.b_ldigit .nil pass0 (pa_cons (pv 0) (pa_cons (pe_op op_sub (pe_op op_mulW pe_int (pe_op op_pow pe_int pe_int)) pe_int) pa_nil))) (pe_op op_pow pe_int pe_int)) pe_int))
        (pss_cons (ps_set (i := 5) sc_lrow.nd rfl (.inl rfl) (pe_ix ix_list (pe_lst (pa_cons (pe_op op_sub (pe_call (ok_ldigit T) (hr.mono (by decide)) (by rfl) T.g_ldigit T.F_ldigit.kp T.b_ldigit .nil pass0 (pa_cons (pv 0) (pa_cons pe_int pa_nil))) pe_int) (pa_cons (pe_op op_sub (pe_call (ok_ldigit T) (hr.mono (by decide)) (by rfl) T.g_ldigit T.F_ldigit.kp T.b_ldigit .nil pass0 (pa_cons (pv 0) (pa_cons pe_int pa_nil))) pe_int) (pa_cons (pe_op op_sub (pe_call (ok_ldigit T) (hr.mono (by decide)) (by rfl) T.g_ldigit T.F_ldigit.kp T.b_ldigit .nil pass0 (pa_cons (pv 0) (pa_cons pe_int pa_nil))) pe_int) (pa_cons (pv 4) pa_nil))))) (pe_call (ok_ldigit T) (hr.mono (by decide)) (by rfl) T.g_ldigit T.F_ldigit.kp T.b_ldigit .nil pass0 (pa_cons (pv 0) (pa_cons pe_int pa_nil))) (fun _ _ => rfl)))
        (pss_one (ps_expr (pe_bm PySem.F.plainAttrs_list PySem.F.slot_list_append PySem.F.type_list_append mt_append (pv 2) (pa_cons (pe_call (ok_llow T) (hr.mono (by decide)) (by rfl) T.g_llow T.F_llow.kp T.b_llow .nil pass0 (pa_cons (pv 5) (pa_cons (pe_ix ix_list (pe_lst (pa_cons pe_int (pa_cons pe_int (pa_cons pe_int (pa_cons pe_int (pa_cons pe_int (pa_cons pe_int (pa_cons pe_int (pa_cons pe_int pa_nil))))))))) (pe_call (ok_ldigit T) (hr.mono (by decide)) (by rfl) T.g_ldigit T.F_ldigit.kp T.b_ldigit .nil pass0 (pa_cons (pv 0) (pa_cons pe_int pa_nil))) (fun _ _ => rfl)) pa_nil))) pa_nil)))))))
        (pss_cons (ps_if (pt_cmpR (op_neD hr.units) (pv 2) (pe_lst pa_nil) (nomark _)) (pss_cons (ps_set (i := 6) sc_lrow.nd rfl (.inl rfl) (pe_call (ok_ldigit T) (hr.mono (by decide)) (by rfl) T.g_ldigit T.F_ldigit.kp T.b_ldigit .nil pass0 (pa_cons (pv 0) (pa_cons (pv 1) pa_nil))))
        (pss_cons (ps_asg (pe_call (ok_lsum T) (hr.mono (by decide)) (by rfl) T.g_lsum T.F_lsum.kp T.b_lsum .nil pass0 (pa_cons (pv 2) pa_nil)) (pg_tup (by rfl) (pgs_cons (pg_name (i := 5) sc_lrow.nd rfl (.inl rfl)) (pgs_cons (pg_name (i := 7) sc_lrow.nd rfl (.inl rfl)) pgs_nil))))
        (pss_one (ps_asg (pe_call (ok_lplus T) (hr.mono (by decide)) (by rfl) T.g_lplus T.F_lplus.kp T.b_lplus .nil pass0 (pa_cons (pe_ix ix_list (pv 2) (pv 6) (fun _ _ => rfl)) (pa_cons (pe_tup (pa_cons (pe_op op_sub pe_int (pv 5)) (pa_cons (pv 7) pa_nil))) pa_nil))) (pg_sub (pv 2) (pv 6) set_list))))) pss_nil)
        (pss_one (ps_ret (pv 2)))))), ?_⟩
    rw [show L2.start [Str.ofString "_law_pot_here", Str.ofString "_law_many", Str.ofString "_law_row_here", Str.ofString "_law_k", Str.ofString "_law_far", Str.ofString "_law_above", Str.ofString "_law_at", Str.ofString "_law_below"] [V.ref p, V.int ((m : Nat) : Int)] = [some (V.ref p), some (V.int ((m : Nat) : Int)), none, none, none, none, none, none] from rfl]
    have c29 : (10 : Int) ^ (29 : Int).toNat < 2 ^ 97 := by decide +kernel
    have d29 : 1 < (10 : Int) ^ (29 : Int).toNat := by decide +kernel
    have t29 : (10 : Int) ^ (29 : Int).toNat = 10 ^ 29 := by decide +kernel
    refine ⟨by show 0 ≤ sizeLine; decide, fun D nD => ?_⟩
    obtain ⟨H1, f1, e1, hD1⟩ : ∃ B, B = upd H D (.lst []) ∧ Same H B ∧ B D = some (.lst []) := ⟨_, rfl, same_new nD, upd_same⟩
    rw [← f1]
    have nDp : D ≠ p := hp.ne nD
    refine ⟨_, rfl, m, rfl, by omega, by omega, for_range (lo := 0) (n := m) (fun i σ H' => ∃ y3 y4 y5 rs ps, σ = [some (.ref p), some (.int m), some (.ref D), y3, y4, y5, none, none] ∧ H' D = some (.lst rs) ∧ rs.length = i ∧ Parts K H' rs ps ∧ (∀ q ∈ ps, Lowest q.1 q.2 ∧ Ok2 97 6 q ∧ OkV 4620 (2 ^ 97) q) ∧ SameX p H H' ∧ PotAt H' p) ⟨none, none, none, [], [], rfl, hD1, rfl, Parts.nil, fun q hq => by simp at hq, Same.x e1, hp.same e1⟩ ?_ ?_⟩
    · rintro i σ H' hi ⟨y3, y4, y5, rs, ps, rfl, hD, hl, hP, hk, sx, pp⟩
      refine ⟨_, rfl, _, _, rfl, rfl, ⟨by decide, by decide, by decide⟩, _, _, rfl, rfl, ?_, _, _, rfl, rfl, p, _, rfl, pp, by decide +kernel, by unfold Bt; decide +kernel, fun d H1 d0 d1 s1 p1 => ?_⟩
      · exact Bt.cmul (n := 10) (m := 169) (Bt.of_lt (by decide) (by decide)) (by unfold Bt; decide +kernel) (by decide)
      refine ⟨_, _, rfl, rfl, ⟨by decide, by decide, by decide⟩, _, _, rfl, rfl, _, _, rfl, rfl, ?_⟩
      obtain ⟨far, efar⟩ : ∃ far : Int, far = d - 10 ^ (29 : Int).toNat + 1 := ⟨_, rfl⟩
      have bfar : Bt 97 far := by
        rw [efar]
        generalize (10 : Int) ^ (29 : Int).toNat = P at *
        exact Bt.of_lt (by omega) (by omega)
      show gName 4 (V.int (d - 10 ^ (29 : Int).toNat + 1)) _ _ _
      rw [← efar]
      clear d0 d1 efar
      dsimp only [List.set_cons_succ, List.set_cons_zero]
      refine ⟨_, rfl, p, _, rfl, p1, by decide, by unfold Bt; decide +kernel, fun e H2 e0 e1 s2 p2 => ?_⟩
      refine ⟨_, _, rfl, rfl, _, rfl, p, _, rfl, p2, by decide, by unfold Bt; decide +kernel, fun f H3 f0 f1 s3 p3 => ?_⟩
      refine ⟨_, _, rfl, rfl, _, rfl, p, _, rfl, p3, by decide, by unfold Bt; decide +kernel, fun g H4 g0 g1 s4 p4 => ?_⟩
      refine ⟨_, _, rfl, rfl, _, rfl, by show 4 ≤ sizeLine; decide, fun l nl => ?_⟩
      obtain ⟨B, eB, sB, hL⟩ : ∃ B, B = upd H4 l (.lst [.int (e - 3), .int (f - 3), .int (g - 100), .int far]) ∧ Same H4 B ∧ B l = some (.lst [.int (e - 3), .int (f - 3), .int (g - 100), .int far]) := ⟨_, rfl, same_new nl, upd_same⟩
      have p5 : PotAt B p := p4.same sB
      have nlp : l ≠ p := p4.ne nl
      rw [← eB]
      refine ⟨_, rfl, p, _, rfl, p5, by decide, by unfold Bt; decide +kernel, fun k H5 m0 m1 s5 p6 => ?_⟩
      have hL5 := s5.lst (K := K) nlp (.inl (.inl hL))
      obtain ⟨v, hv, hm'⟩ := pick (xs := [V.int (e - 3), V.int (f - 3), V.int (g - 100), V.int far]) m0 (by simpa using m1)
      obtain ⟨a, rfl, ba⟩ : ∃ a : Int, v = .int a ∧ Bt 97 a := by
        simp only [List.mem_cons, List.not_mem_nil, or_false] at hm'
        rcases hm' with rfl | rfl | rfl | rfl
        · exact ⟨_, rfl, Bt.of_lt (by omega) (by omega)⟩
        · exact ⟨_, rfl, Bt.of_lt (by omega) (by omega)⟩
        · exact ⟨_, rfl, Bt.of_lt (by omega) (by omega)⟩
        · exact ⟨_, rfl, bfar⟩
      refine ⟨l, _, k, _, rfl, rfl, hL5, hv, ?_⟩
      have sx5 : SameX p H' H5 := s1.trans (s2.trans (s3.trans (s4.trans ((Same.x sB).trans s5))))
      have hD5 := sx5 _ _ nDp hD
      dsimp only [List.set_cons_succ, List.set_cons_zero]
      refine ⟨_, rfl, .inl ⟨rfl, _, .inl (.inl hD5)⟩, _, rfl, by show 8 ≤ sizeLine; decide, fun l2 nl2 => ?_⟩
      obtain ⟨C, eC, sC, hC⟩ : ∃ B, B = upd H5 l2 (.lst [.int 1, .int 1, .int 2, .int 3, .int 7, .int 11, .int 12, .int 60]) ∧ Same H5 B ∧ B l2 = some (.lst [.int 1, .int 1, .int 2, .int 3, .int 7, .int 11, .int 12, .int 60]) := ⟨_, rfl, same_new nl2, upd_same⟩
      rw [← eC]
      refine ⟨_, rfl, p, _, rfl, p6.same sC, by decide, by unfold Bt; decide +kernel, fun k2 H6 k20 k21 s6 p7 => ?_⟩
      obtain ⟨v2, hv2, hm2⟩ := pick (xs := [V.int 1, V.int 1, V.int 2, V.int 3, V.int 7, V.int 11, V.int 12, V.int 60]) k20 (by simpa using k21)
      obtain ⟨b, rfl, b0, b1, bdv⟩ : ∃ b : Int, v2 = .int b ∧ 0 < b ∧ b ≤ 60 ∧ b ∣ 4620 := by
        simp only [List.mem_cons, List.not_mem_nil, or_false] at hm2
        rcases hm2 with rfl | rfl | rfl | rfl | rfl | rfl | rfl | rfl <;> exact ⟨_, rfl, by decide, by decide, by decide⟩
      have bb : Bt 6 b := Bt.of_lt (by omega) (by omega)
      refine ⟨l2, _, k2, _, rfl, rfl, s6.lst (K := K) (p6.ne nl2) (.inl (.inl hC)), hv2, a, b, rfl, b0, bb.mono (by decide), fun t H7 s7 tv => ?_⟩
      have s57 : SameX p H5 H7 := (Same.x sC).trans (s6.trans (Same.x s7))
      have sx7 := sx5.trans s57
      have hD7 := s57 _ _ nDp hD5
      have k7 := kt_x sx7 pp
      refine ⟨D, _, _, rfl, rfl, hD7, small1000 (by omega), ?_⟩
      refine ⟨_, _, _, rs ++ [t], ps ++ [lo a b], rfl, upd_same, by simp [hl], ((hP.k k7).add tv).k (kt_set hD7), fun q hq => ?_, samex_upd (sx.trans sx7) nD, (p7.same s7).upd nDp⟩
      rcases List.mem_append.mp hq with hq | hq
      · exact hk q hq
      · rw [List.mem_singleton.mp hq]
        exact ⟨lo_lowest b0, ok2_lo b0 ba bb, okV_of (by decide) b0 bdv (Nat.le_of_lt ba)⟩
    · rintro σ H2 ⟨y3, y4, y5, rs, ps, rfl, hD, hl, hP, hkl, sx, pp⟩
      have hk : ∀ q ∈ ps, Ok2 97 6 q := fun q hq => (hkl q hq).2.1
      have hv4 : ∀ q ∈ ps, OkV 4620 (2 ^ 97) q := fun q hq => (hkl q hq).2.2
      have hpl : ps.length = m := by rw [← hP.1]; exact hl
      have shp := (shaped_parts ps).1
      dsimp only [List.set_cons_succ, List.set_cons_zero]
      refine ⟨_, rfl, by show 0 ≤ sizeLine; decide, fun De ne => ?_⟩
      obtain ⟨H3, f3, e3, hDe⟩ : ∃ B, B = upd H2 De (.lst []) ∧ Same H2 B ∧ B De = some (.lst []) := ⟨_, rfl, same_new ne, upd_same⟩
      rw [← f3]
      have hD3 := e3 _ _ hD
      have hP3 := hP.k (kt_same e3)
      have p3 := pp.same e3
      have s03 : SameX p H H3 := sx.trans (Same.x e3)
      refine ⟨_, _, .lst (.inl (.inl hD3)) (dpall_parts hP3), .lst (.inl (.inl hDe)) .nil, shp, by rfl, _, rfl, ?_⟩
      rcases Nat.eq_zero_or_pos m with m0 | m0
      · have e0 : ps = [] := List.eq_nil_of_length_eq_zero (by omega)
        subst e0
        refine iteF ⟨_, rfl, q H3 D rs [] s03 p3 nD hD3 hP3 hpl rfl (fun q hq => by simp at hq) ⟨4620, by decide, by unfold Bt; decide, fun q hq => by simp at hq⟩⟩
      · obtain ⟨q0, qs, e0⟩ : ∃ a l, ps = a :: l := by
          cases ps with
          | nil => simp at hpl; omega
          | cons a l => exact ⟨a, l, rfl⟩
        have et : (!PyData.eqv (.list (ps.map pdP)) (.list [])) = true := by rw [e0]; rfl
        rw [et]
        refine iteT ?_
        refine ⟨_, rfl, _, rfl, p, m, rfl, p3, by omega, (Bt.of_lt (n := 10) (by omega) (by omega)).mono (by decide), fun d H4 d0 d1 s4 p4 => ?_⟩
        obtain ⟨i, rfl⟩ : ∃ i : Nat, d = i := ⟨d.toNat, by omega⟩
        have im : i < ps.length := by omega
        have hD4 := s4 _ _ nDp hD3
        have hP4 := hP3.k (kt_x s4 p3)
        dsimp only [List.set_cons_succ, List.set_cons_zero]
        refine ⟨_, rfl, D, rs, ps, rfl, .inl (.inl hD4), hP4, 97, 6, hk, by omega, by omega, fun wv H5 s5 tw => ?_⟩
        have oW := Ok2.fold (N := 97) (D := 6) ps (0, 1) 0 ⟨by decide, by unfold Bt; decide +kernel, by unfold Bt; decide +kernel⟩ hk
        have oVW := (OkV.fold (by decide) ps (0, 1) 0 (OkV.nought 4620) hv4).mono (M := 26 * 2 ^ 97) (by rw [Nat.zero_add]; exact Nat.mul_le_mul_right _ (by omega))
        have rW := rv_fold ps (0, 1) (by decide) (fun q hq => (hk q hq).1)
        rw [rv_nought, Rat.zero_add] at rW
        rw [hpl, Nat.zero_add] at oW
        generalize ps.foldl pl (0, 1) = W at *
        obtain ⟨wt, rfl, hwt⟩ := tw
        refine ⟨wt, _, rfl, hwt, rfl, _, _, rfl, _, _, rfl, rfl, ?_⟩
        dsimp only [List.set_cons_succ, List.set_cons_zero]
        have hD5 := s5 _ _ hD4
        have hP5 := hP4.k (kt_same s5)
        obtain ⟨v, hv, mv, tv⟩ := hP5.at im
        have ov := hk _ mv
        refine ⟨_, rfl, _, rfl, D, _, i, _, rfl, rfl, .inl (.inl hD5), atI_nat hv, _, rfl, _, _, rfl, rfl, _, rfl, by show 2 ≤ sizeLine; decide, fun t6 nt6 => ?_⟩
        obtain ⟨H6, f6, e6, ht6⟩ : ∃ B, B = upd H5 t6 (.tup [.int (0 - W.1), .int W.2]) ∧ Same H5 B ∧ SqT K B t6 [.int (0 - W.1), .int W.2] := ⟨_, rfl, same_new nt6, .inl (.inl upd_same)⟩
        rw [← f6]
        refine ⟨_, _, _, _, _, _, rfl, tv.same e6, ⟨t6, rfl, ht6⟩, ov.1, oW.1, ov.2.1.mono (by decide), ov.2.2.mono (by decide), oW.2.1.ng.mono (by omega), oW.2.2.mono (by omega), fun v7 H7 s7 tv7 => ?_⟩
        have hD7 := s7 _ _ (e6 _ _ hD5)
        refine ⟨_, rfl, _, rfl, D, rs, i, i, rfl, rfl, hD7, ixN_nat (by omega), ?_⟩
        have s37 : SameX p H3 H7 := s4.trans ((Same.x s5).trans ((Same.x e6).trans (Same.x s7)))
        have oN : Ok2 97 6 (gp ps i) := ov
        have oG : Ok2 (97 + m * (6 + 1) + 1) (m * 6 + 1) (ng W) := ⟨oW.1, oW.2.1.ng, oW.2.2⟩
        have oP := oN.pl oG (M := 104 + 7 * m) (by omega) (by omega)
        have tv7 : TupI K H7 v7 (pl (gp ps i) (ng W)).1 (pl (gp ps i) (ng W)).2 := tv7
        have hP7 := parts_set (i := i) ((hP5.k (kt_same e6)).k (kt_same s7)) tv7
        have vW : OkV 4620 (26 * 2 ^ 97) W := oVW
        have vP : OkV 4620 (2 ^ 102) (pl (gp ps i) (ng W)) := ((hv4 _ mv).pl (by decide) (ng_okv vW)).mono (by decide)
        have all : ∀ z ∈ ps.set i (pl (gp ps i) (ng W)), Lowest z.1 z.2 ∧ OkV 4620 (2 ^ 102) z := fun z hz => by
          rcases List.mem_or_eq_of_mem_set hz with hz | rfl
          · exact ⟨(hkl z hz).1, (hv4 z hz).mono (by decide)⟩
          · exact ⟨pl_low oN.1 oW.1, vP⟩
        refine ⟨_, rfl, q _ D (rs.set i v7) (ps.set i (pl (gp ps i) (ng W))) (samex_upd (s03.trans s37) nD) (((p4.same s5).same e6 |>.same s7).upd nDp) nD upd_same (hP7.k (kt_set hD7)) (by rw [List.length_set]; exact hpl) ?_ (fun z hz => ?_) ⟨4620, by decide, by unfold Bt; decide, all⟩⟩
        · rw [sum_setR rv ps i im, rv_pl oN.1 (q := ng W) oW.1, rv_ng, rW]
          have : gp ps i = ps[i] := by
            unfold gp
            rw [List.getD_eq_getElem?_getD, List.getElem?_eq_getElem im]
            rfl
          rw [this]
          grind
        · have a := (all z hz).2
          obtain ⟨b1, b2⟩ := rv_bdN a.1 a.2.2
          exact ⟨b2, b1⟩
end
end WS
set_option Elab.async false
set_option linter.all false
set_option maxRecDepth 100000
set_option maxHeartbeats 4000000
namespace WS
open PySem PySem.Spec PyProof.Rows L2
section
variable {P : Program} {w : World} {K : PySem.W.Frag} {mg : Str → Option Value} {base : Heap}
open TL
theorem ok_lweight (T : Tx K mg base) : FnOk P w K mg base CX0 4 T.f_lweight T.d_lweight ["_law_row_here"] (spWeightL45 K) := by
  refine T.F_lweight.ok sc_lweight (fun vs H Q E h => ?_) (fun cdv A outer s H vs Q E hr h => ?_)
  · obtain ⟨l, rs, ps, d, rfl, _⟩ := h
    rfl
  · obtain ⟨l, rs, ps, d, rfl, hR, hP, d0, db, hk, hn, hz, hbd, q⟩ := h
    refine ⟨_, (pss_cons (ps_set (i := 1) sc_lweight.nd rfl (.inl rfl) pe_int)
        (pss_cons (ps_set (i := 2) sc_lweight.nd rfl (.inl rfl) (pe_call (ok_lfirst T) (hr.mono (by decide)) (by rfl) T.g_lfirst T.F_lfirst.kp T.b_lfirst .nil pass0 (pa_cons (pv 0) pa_nil)))
        (pss_cons (ps_for PassesOwn.never rfl (pi_range2 (by rfl) T.n_range (pa_cons pe_int (pa_cons (pe_callB call_len_seq (by rfl) T.n_len (by decide +kernel) (pa_cons (pv 0) pa_nil)) pa_nil))) (pg_name (i := 3) sc_lweight.nd rfl (.inl rfl)) (pss_cons (ps_asg (pe_call (ok_lsum T) (hr.mono (by decide)) (by rfl) T.g_lsum T.F_lsum.kp T.b_lsum .nil pass0 (pa_cons (pe_lc (own := [("_law_at", 7)]) (g := gName 7) (tt := tYes) (by rfl) sc_lweight.nd (pi_list (pe_slice sl_list (pv 2) po_none (po_some (pv 3)))) (blkOk_by (own := [("_law_at", 7)]) (N := ["_law_row_here", "_law_weight_here", "_law_order", "_law_k", "_law_above", "_law_below", "_law_by", "_law_at"]) (sc := defScope s_lweight) (by decide +kernel)) (fun _ _ _ _ _ => (pg_name (i := 7) sc_lweight.nd rfl (.inl rfl))) (fun _ _ _ _ _ => pts_nil) (fun _ _ _ _ _ => (pe_ix (show IxR _ (rIxL K) from ix_list) (pv 0) (pv 7) (fun _ _ => rfl)))) pa_nil)) (pg_tup (by rfl) (pgs_cons (pg_name (i := 4) sc_lweight.nd rfl (.inl rfl)) (pgs_cons (pg_name (i := 5) sc_lweight.nd rfl (.inl rfl)) pgs_nil))))
        (pss_cons (ps_set (i := 6) sc_lweight.nd rfl (.inl rfl) (pe_op op_mulW (pe_op op_mulW (pv 5) (pv 3)) (pe_op op_sub (pe_callB call_len_seq (by rfl) T.n_len (by decide +kernel) (pa_cons (pv 0) pa_nil)) (pv 3))))
        (pss_one (ps_set (i := 1) sc_lweight.nd rfl (.inl rfl) (pe_callB (call_max2 (by rfl)) (by rfl) T.n_max (by decide +kernel) (pa_cons (pv 1) (pa_cons (pe_op op_fdivW (pe_op op_sub (pe_op op_add (pe_op op_mulW pe_int (pv 4)) (pv 6)) pe_int) (pv 6)) pa_nil))))))))
        (pss_one (ps_ret (pv 1)))))), ?_⟩
    refine ⟨_, rfl, l, rs, ps, rfl, hR, hP, fun z hz => ((hk z hz).oq13 d0 db).okp (by decide) (by decide), by omega, fun H1 O os s1 nO hO hrk => ?_⟩
    have hos : ∀ j ∈ os, j < ps.length := fun j hj => List.mem_range.mp (hrk.1.mem_iff.mp hj)
    have hR1 := s1.seq hR
    have hP1 := hP.k (kt_same s1)
    refine ⟨_, rfl, l, rs, rfl, .inl hR1, 1, _, rfl, ⟨by decide, by decide, by omega, by rw [hP.1]; omega⟩, for_range (lo := 1) (n := ((rs.length : Int) - 1).toNat) (fun i σ H' => ∃ wt k a b y z, σ = [some (.ref l), some (.int wt), some (.ref O), k, a, b, y, z] ∧ Same H1 H' ∧ 1 ≤ wt ∧ wt ≤ 2 * ((2 ^ 107 : Nat) : Int) ∧ ∀ k, k ≤ i → sumF (fun j => rv (gp ps j)) (os.take k) ≤ mostR wt ps.length k)
      ⟨1, none, none, none, none, none, rfl, Same.refl _, by decide, by decide, fun k hk => ?_⟩ ?_ ?_⟩
    · have : k = 0 := by omega
      subst this
      exact most_zero _ _ _ _
    · rintro i σ H' hi ⟨wt, k, a, b, y, z, rfl, sH, w1, bw, hin⟩
      have hil : i + 1 < ps.length := by rw [← hP.1]; omega
      refine ⟨_, rfl, _, rfl, _, rfl, O, _, rfl, .inl (.inl (sH _ _ hO)), fun C nC => ?_⟩
      have ei : (1 : Int) + (i : Nat) = ((i + 1 : Nat) : Int) := by omega
      rw [ei]
      rw [cutV_take, ← List.map_take]
      obtain ⟨B, eB, sB, hC⟩ : ∃ B, B = upd H' C (.lst ((os.take (i + 1)).map fun j : Nat => V.int j)) ∧ Same H' B ∧ B C = some (.lst ((os.take (i + 1)).map fun j : Nat => V.int j)) := ⟨_, rfl, same_new nC, upd_same⟩
      rw [← eB]
      have osl : os.length = ps.length := by rw [hrk.1.length_eq, List.length_range]
      have cl : ((os.take (i + 1)).map fun j : Nat => V.int j).length ≤ i + 1 := by rw [List.length_map, List.length_take]; omega
      refine ⟨C, rfl, ⟨_, .inl (.inl hC)⟩, fun D nD => ?_⟩
      have sHB := sH.trans sB
      refine lc_list (K := K) (a := C) (xs := (os.take (i + 1)).map fun j : Nat => V.int j) (fun j H'' => ∃ rs2 ps2, H'' D = some (.lst rs2) ∧ rs2.length = j ∧ Parts K H'' rs2 ps2 ∧ ps2 = ((os.take (i + 1)).take j).map (gp ps) ∧ (∀ q ∈ ps2, OkV d (2 ^ 102) q) ∧ Same B H'')
        ⟨[], [], upd_same, rfl, Parts.nil, rfl, fun q hq => by simp at hq, same_new nD⟩ (fun j H'' _ ⟨_, _, _, _, _, _, _, s⟩ => .inl (.inl (s _ _ hC))) ?_ ?_
      · rintro j x H'' hx ⟨rs2, ps2, hD2, hl2, hP2, he2, hk2, sH2⟩
        have hj := (List.getElem?_eq_some_iff.mp hx).1
        rw [List.getElem?_map] at hx
        obtain ⟨k', ek', rfl⟩ : ∃ k' : Nat, (os.take (i + 1))[j]? = some k' ∧ V.int k' = x := by
          cases e : (os.take (i + 1))[j]? with
          | none => rw [e] at hx; cases hx
          | some z => rw [e] at hx; exact ⟨z, rfl, Option.some.inj hx⟩
        have hk' := hos k' (List.mem_of_mem_take (List.mem_of_getElem? ek'))
        obtain ⟨v, hv, mv, tv⟩ := (hP1.k (kt_same (sHB.trans sH2))).at hk'
        refine ⟨rfl, tyes (iteT ?_)⟩
        refine ⟨_, rfl, _, rfl, l, _, k', _, rfl, rfl, (sHB.trans sH2).seq hR1, atI_nat hv, ?_⟩
        refine ⟨rs2, hD2, small1000 (by omega), rs2 ++ [v], ps2 ++ [gp ps k'], upd_same, by simp [hl2], (hP2.add tv).k (kt_set hD2), ?_, ?_, same_upd sH2 nD⟩
        · rw [he2, List.take_add_one (l := os.take (i + 1)), ek', List.map_append]
          rfl
        intro q hq
        rcases List.mem_append.mp hq with hq | hq
        · exact hk2 q hq
        · rw [List.mem_singleton.mp hq]
          exact hk _ mv
      · rintro H'' ⟨rs2, ps2, hD2, hl2, hP2, he2, hk2, sH2⟩
        have hl3 : ps2.length ≤ 25 := by rw [← hP2.1, hl2]; omega
        rw [List.length_map, List.take_length] at he2
        refine ⟨D, rs2, ps2, rfl, .inl (.inl hD2), hP2, 116, 13, fun z hz => (hk2 z hz).ok13 d0 db, by omega, by omega, fun v H3 s3 tv => ?_⟩
        have vW := (OkV.fold d0 ps2 (0, 1) 0 (OkV.nought d) hk2).mono (M := 26 * 2 ^ 102) (by have := Nat.mul_le_mul_right (2 ^ 102) hl3; omega)
        have oW : Okq 1200 1000 (ps2.foldl pl (0, 1)) := vW.okp d0 db (n := 108) (by decide +kernel) (Nat.le_refl 121) |>.mono (m := 1000) (by decide) |> fun o => ⟨o.1, o.2.1.mono (by decide), o.2.2⟩
        have hrW : rv (ps2.foldl pl (0, 1)) = sumF (fun j => rv (gp ps j)) (os.take (i + 1)) := by
          rw [he2, sumF_gp (fun q hq => (hk q hq).1)]
        generalize ps2.foldl pl (0, 1) = W at *
        obtain ⟨t, rfl, ht⟩ := tv
        have sAll := sHB.trans (sH2.trans s3)
        refine ⟨t, _, rfl, ht, rfl, _, _, rfl, _, _, rfl, rfl, ?_⟩
        have bk : Bt 10 ((i + 1 : Nat) : Int) := Bt.of_lt (by omega) (by omega)
        have bl : Bt 10 ((rs.length : Nat) : Int) := Bt.of_lt (by omega) (by rw [hP.1]; omega)
        have b1 : Bt 1010 (W.2 * ((i + 1 : Nat) : Int)) := oW.2.2.mul bk
        have b2 := b1.mul (bl.sub bk)
        have pos : 0 < W.2 * ((i + 1 : Nat) : Int) * ((rs.length : Int) - ((i + 1 : Nat) : Int)) := Int.mul_pos (Int.mul_pos oW.1 (by omega)) (by rw [hP.1]; omega)
        refine ⟨_, rfl, _, rfl, _, _, rfl, rfl, oW.2.2.cmul bk (by decide), _, rfl, l, rs, rfl, .inl (sAll.seq hR1), _, rfl, _, _, rfl, rfl, _, _, rfl, rfl, b1.cmul (bl.sub bk) (by decide), ?_⟩
        obtain ⟨by_, hby⟩ : ∃ z : Int, W.2 * ((i + 1 : Nat) : Int) * ((rs.length : Int) - ((i + 1 : Nat) : Int)) = z := ⟨_, rfl⟩
        rw [hby] at pos b2
        have b2a : Bt 1300 (2 * W.1) := ((Bt.of_lt (n := 2) (by decide) (by decide) : Bt 2 2).mul oW.2.1).mono (by decide)
        have b3 : Bt 1301 (2 * W.1 + by_) := b2a.add (b2.mono (by decide))
        have b4 : Bt 1302 (2 * W.1 + by_ - 1) := b3.sub ((Bt.of_lt (n := 2) (by decide) (by decide) : Bt 2 1).mono (by decide))
        refine ⟨_, rfl, _, rfl, _, _, rfl, rfl, (Bt.of_lt (n := 2) (by decide) (by decide) : Bt 2 2).cmul oW.2.1 (by decide), _, rfl, _, _, rfl, rfl, _, _, rfl, rfl, _, rfl, _, _, rfl, rfl, (by rw [hby]; exact Bt.cdiv pos b2 (by decide)), _, _, rfl, ?_⟩
        have sb := sum_bd (n := 102) ((os.take (i + 1)).map fun j => rv (gp ps j)) (fun x hx => by
          obtain ⟨j, hj, rfl⟩ := List.mem_map.mp hx
          exact hbd _ (gp_mem (hos j (List.mem_of_mem_take hj))))
        have sl : ((((os.take (i + 1)).map fun j => rv (gp ps j)).length : Nat) : Int) ≤ 26 := by
          rw [List.length_map, List.length_take]
          omega
        have sl2 : (((((os.take (i + 1)).map fun j => rv (gp ps j)).length : Nat) : Int) : Rat) ≤ 26 := cast_le.mpr sl
        have wb : (W.1 : Rat) / W.2 ≤ (((2 ^ 107 : Nat) : Int) : Rat) := by
          have e1 : (W.1 : Rat) / W.2 = rv W := rfl
          have e2 : sumF (fun j => rv (gp ps j)) (os.take (i + 1)) = ((os.take (i + 1)).map fun j => rv (gp ps j)).sum := rfl
          rw [e1, hrW, e2]
          have h16 : (((2 ^ 107 : Nat) : Int) : Rat) = 32 * (((2 ^ 102 : Nat) : Int) : Rat) := by
            rw [show ((2 ^ 107 : Nat) : Int) = 32 * ((2 ^ 102 : Nat) : Int) by decide, cast_mul]
            rfl
          have h0 : (0 : Rat) ≤ (((2 ^ 102 : Nat) : Int) : Rat) := cast_nn (by decide)
          have := Rat.mul_le_mul_of_nonneg_right sl2 h0
          rw [h16]
          grind
        have kk : (1 : Int) ≤ ((i + 1 : Nat) : Int) * ((rs.length : Int) - ((i + 1 : Nat) : Int)) := Int.le_trans (by decide : (1 : Int) ≤ 1 * 1) (Int.mul_le_mul (by omega) (by rw [hP.1]; omega) (by decide) (by omega))
        have bge : W.2 ≤ by_ := by
          rw [← hby, Int.mul_assoc]
          have := Int.mul_le_mul_of_nonneg_left kk (Int.le_of_lt oW.1)
          rw [Int.mul_one] at this
          exact this
        have bq := weigh_bd (by_ := by_) oW.1 bge wb
        have wle : ∀ w' : Int, wt ≤ w' → (2 * W.1 + by_ - 1) / by_ ≤ w' → ∀ k, k ≤ i + 1 → sumF (fun j => rv (gp ps j)) (os.take k) ≤ mostR w' ps.length k := fun w' h1 h2 k hk2 => by
          by_cases hke : k = i + 1
          · subst hke
            rw [← hrW]
            refine most_of oW.1 ?_
            have := ceil_le (x := 2 * W.1) pos h2
            rw [← hby, hP.1] at this
            exact this
          · exact Rat.le_trans (hin k (by omega)) (mostR_mono (cast_le.mpr h1) (by omega))
        refine ⟨_, _, _, _, _, _, rfl, sAll, ?_, ?_, ?_⟩
        · rw [hby]
          split <;> omega
        · rw [hby]
          split
          · exact bq
          · exact bw
        · rw [hby]
          split
          · exact wle _ (by omega) (Int.le_refl _)
          · exact wle _ (Int.le_refl _) (by omega)
    · rintro σ H' ⟨wt, k, a, b, y, z, rfl, sH, w1, bw, hin⟩
      refine ⟨_, rfl, q H' wt (s1.trans sH) w1 (Bt.of_lt (by omega) (Int.lt_of_le_of_lt bw (by decide))) ?_⟩
      refine wth_of hrk.1 (ranked_desc hrk fun q hq => (hk q hq).1) fun k hk2 => ?_
      by_cases hkn : k = ps.length
      · subst hkn
        rw [List.take_of_length_le (by rw [hrk.1.length_eq, List.length_range]; exact Nat.le_refl _), sumF_perm hrk.1, sum_range_gp, hz]
        exact most_full _ _
      · exact hin k (by rw [hP.1]; omega)
end
end WS
set_option Elab.async false
set_option linter.all false
set_option maxRecDepth 100000
set_option maxHeartbeats 4000000
namespace WS
open PySem PySem.Spec PyProof.Rows L2
section
variable {P : Program} {w : World} {K : PySem.W.Frag} {mg : Str → Option Value} {base : Heap}
open TL
theorem ok_lseated (T : Tx K mg base) : FnOk P w K mg base CX0 5 T.f_lseated T.d_lseated ["_law_pot_here", "_law_names_here"] (spSeatedL45 K) := by
  refine T.F_lseated.ok sc_lseated (fun vs H Q E h => ?_) (fun cdv A outer s H vs Q E hr h => ?_)
  · obtain ⟨p, N, us, rfl, _⟩ := h
    rfl
  · obtain ⟨p, N, us, rfl, hp, nNp, hN, u10, und, unm, q⟩ := h
    refine ⟨_, (pss_cons (ps_set (i := 2) sc_lseated.nd rfl (.inl rfl) (pe_call (ok_lrow T) (hr.mono (by decide)) (by rfl) T.g_lrow T.F_lrow.kp T.b_lrow .nil pass0 (pa_cons (pv 0) (pa_cons (pe_call (ok_ldigit T) (hr.mono (by decide)) (by rfl) T.g_ldigit T.F_ldigit.kp T.b_ldigit .nil pass0 (pa_cons (pv 0) (pa_cons (pe_op op_add (pe_callB call_len_seq (by rfl) T.n_len (by decide +kernel) (pa_cons (pv 1) pa_nil)) pe_int) pa_nil))) pa_nil))))
        (pss_cons (ps_setLc (i := 3) (own := [("_law_one", 6)]) (g := gName 6) (tt := tYes) (by rfl) sc_lseated.nd rfl rfl (sw_true rfl rfl rfl (by decide +kernel)) (pi_list (pv 2)) (blkOk_by (own := [("_law_one", 6)]) (N := ["_law_pot_here", "_law_names_here", "_law_row_here", "_law_empty", "_law_weight_here", "_law_seats", "_law_one", "_law_name_here", "_law_gone"]) (sc := defScope s_lseated) (by decide +kernel)) (fun _ _ _ _ _ => (pg_name (i := 6) sc_lseated.nd rfl (.inl rfl))) (fun _ _ _ _ _ => pts_nil) (fun _ _ _ _ _ => (pe_cmpR op_eq (pe_call (ok_ldigit T) (hr.mono (by decide)) (by rfl) T.g_ldigit T.F_ldigit.kp T.b_ldigit .nil pass0 (pa_cons (pv 0) (pa_cons (pe_ix (show IxR _ (rIxL K) from ix_list) (pe_lst (pa_cons pe_int (pa_cons pe_int pa_nil))) (pe_op op_fdivW (pe_call (ok_ldigit T) (hr.mono (by decide)) (by rfl) T.g_ldigit T.F_ldigit.kp T.b_ldigit .nil pass0 (pa_cons (pv 0) (pa_cons pe_int pa_nil))) pe_int) (fun _ _ => rfl)) pa_nil))) pe_int (nomark _))))
        (pss_cons (ps_set (i := 4) sc_lseated.nd rfl (.inl rfl) (pe_op op_add (pe_call (ok_lweight T) (hr.mono (by decide)) (by rfl) T.g_lweight T.F_lweight.kp T.b_lweight .nil pass0 (pa_cons (pv 2) pa_nil)) (pe_ix ix_list (pe_lst (pa_cons pe_int (pa_cons pe_int (pa_cons pe_int (pa_cons (pe_call (ok_ldigit T) (hr.mono (by decide)) (by rfl) T.g_ldigit T.F_ldigit.kp T.b_ldigit .nil pass0 (pa_cons (pv 0) (pa_cons (pe_op op_pow pe_int pe_int) pa_nil))) pa_nil))))) (pe_call (ok_ldigit T) (hr.mono (by decide)) (by rfl) T.g_ldigit T.F_ldigit.kp T.b_ldigit .nil pass0 (pa_cons (pv 0) (pa_cons pe_int pa_nil))) (fun _ _ => rfl))))
        (pss_cons (ps_setLc (i := 5) (own := [("_law_name_here", 7), ("_law_gone", 8), ("_law_one", 6)]) (g := gTup K 3 (gCons (gName 7) (gCons (gName 8) (gCons (gName 6) gNil)))) (tt := tYes) (by rfl) sc_lseated.nd rfl rfl (sw_true rfl rfl rfl (by decide +kernel)) (pi_zB3 (by rfl) T.n_zip (pa_cons (pv 1) (pa_cons (pv 3) (pa_cons (pv 2) pa_nil)))) (blkOk_by (own := [("_law_name_here", 7), ("_law_gone", 8), ("_law_one", 6)]) (N := ["_law_pot_here", "_law_names_here", "_law_row_here", "_law_empty", "_law_weight_here", "_law_seats", "_law_one", "_law_name_here", "_law_gone"]) (sc := defScope s_lseated) (by decide +kernel)) (fun _ _ _ _ _ => (pg_tup (by rfl) (pgs_cons (pg_name (i := 7) sc_lseated.nd rfl (.inl rfl)) (pgs_cons (pg_name (i := 8) sc_lseated.nd rfl (.inl rfl)) (pgs_cons (pg_name (i := 6) sc_lseated.nd rfl (.inl rfl)) pgs_nil))))) (fun _ _ _ _ _ => pts_nil) (fun _ _ _ _ _ => (pe_tup (pa_cons (pe_ifExp (pt_val (pv 8)) pe_str (pv 7)) (pa_cons (pv 6) pa_nil)))))
        (pss_one (ps_ret (pe_tup (pa_cons (pv 4) (pa_cons (pe_callTy call_tuple_of (by rfl) T.n_tuple (by decide +kernel) (pa_cons (pv 5) pa_nil)) pa_nil))))))))), ?_⟩
    rw [show L2.start [Str.ofString "_law_pot_here", Str.ofString "_law_names_here", Str.ofString "_law_row_here", Str.ofString "_law_empty", Str.ofString "_law_weight_here", Str.ofString "_law_seats", Str.ofString "_law_one", Str.ofString "_law_name_here", Str.ofString "_law_gone"] [V.ref p, V.ref N] = [some (V.ref p), some (V.ref N), none, none, none, none, none, none, none] from rfl]
    have b4 : Bt 8999 4 := by unfold Bt; decide +kernel
    have b2 : Bt 8999 2 := by unfold Bt; decide +kernel
    have b5 : Bt 8999 5 := by unfold Bt; decide +kernel
    have hTen : (10 : Int) ^ (29 : Int).toNat < 2 ^ 97 := by decide +kernel
    refine ⟨_, rfl, _, rfl, _, rfl, N, _, rfl, .inl (.inl (.inl hN)), _, _, rfl, rfl, p, _, rfl, hp, by omega, (Bt.of_lt (n := 10) (by rw [List.length_map]; omega) (by rw [List.length_map]; omega) : Bt 10 _).mono (by decide), fun d H2 d0 d1 s2 p2 => ?_⟩
    rw [List.length_map] at d1
    obtain ⟨k, rfl⟩ : ∃ k : Nat, d = k := ⟨d.toNat, by omega⟩
    refine ⟨p, k, rfl, p2, by omega, fun H3 R rs ps s3 p3 nR hR hP pl pz bd okd => ?_⟩
    obtain ⟨dd, d0', db', okv⟩ := okd
    have okr : ∀ q ∈ ps, Lowest q.1 q.2 ∧ Okq 190 90 q := fun q hq => ⟨(okv q hq).1, (okv q hq).2.oq13 d0' db'⟩
    have nRp : R ≠ p := p2.ne nR
    have rl : rs.length = k := by rw [hP.1]; exact pl
    have hN3 := s3 _ _ nNp (s2 _ _ nNp hN)
    refine ⟨_, rfl, R, rfl, ⟨_, .inl (.inl hR)⟩, fun G nG => ?_⟩
    have nGp : G ≠ p := p3.ne nG
    refine lc_list (K := K) (a := R) (xs := rs) (fun j H' => ∃ bs : List Bool, H' G = some (.lst (bs.map V.bl)) ∧ bs.length = j ∧ SameX p H3 H' ∧ PotAt H' p) ⟨[], upd_same, rfl, Same.x (same_new nG), p3.same (same_new nG)⟩ (fun j H' _ ⟨_, _, _, s, _⟩ => .inl (.inl (s _ _ nRp hR))) ?_ ?_
    · rintro j x H' hx ⟨bs, hG, hbl, sx, px⟩
      have hj : j < rs.length := (List.getElem?_eq_some_iff.mp hx).1
      refine ⟨rfl, tyes (iteT ?_)⟩
      refine ⟨_, rfl, by show 2 ≤ sizeLine; decide, fun l nl => ?_⟩
      obtain ⟨B, fB, eB, hL⟩ : ∃ B, B = upd H' l (.lst [.int 5, .int 2]) ∧ Same H' B ∧ B l = some (.lst [.int 5, .int 2]) := ⟨_, rfl, same_new nl, upd_same⟩
      rw [← fB]
      have nlp : l ≠ p := px.ne nl
      refine ⟨_, rfl, p, _, rfl, px.same eB, by decide, b4, fun d H4 d0 d1 s4 p4 => ?_⟩
      have bd : Bt 3 d := Bt.of_lt (by omega) (by omega)
      refine ⟨_, _, rfl, rfl, (show Bt 3 (3 : Int) by unfold Bt; decide).cdiv (by decide) (by decide), ?_⟩
      obtain ⟨v2, hv, hm2⟩ := pick (xs := [V.int 5, V.int 2]) (d := d / 3) (by omega) (by show d / 3 < 2; omega)
      obtain ⟨w2, rfl, w0, bw⟩ : ∃ w2 : Int, v2 = .int w2 ∧ 0 < w2 ∧ Bt 8999 w2 := by
        simp only [List.mem_cons, List.not_mem_nil, or_false] at hm2
        rcases hm2 with rfl | rfl
        · exact ⟨_, rfl, by decide, b5⟩
        · exact ⟨_, rfl, by decide, b2⟩
      refine ⟨l, _, _, _, rfl, rfl, .inl (.inl (s4 _ _ nlp hL)), hv, p, w2, rfl, p4, w0, bw, fun d2 H5 d20 d21 s5 p5 => ?_⟩
      have sm : SameX p H' H5 := (Same.x eB).trans (s4.trans s5)
      refine ⟨rfl, _, sm _ _ nGp hG, by rw [List.length_map]; exact small1000 (by omega), bs ++ [decide (V.int d2 = V.int 0)], by rw [upd_same, List.map_append]; rfl, by simp [hbl], samex_upd (sx.trans sm) nG, p5.upd nGp⟩
    rintro H4 ⟨bs, hG, hbl, s4, p4⟩
    have hR4 := s4 _ _ nRp hR
    have k34 := kt_x s4 p3
    have hP4 := hP.k k34
    have okp : ∀ q ∈ ps, Okp 190 q := fun q hq => (okr q hq).2.okp (by decide) (by decide)
    refine ⟨_, rfl, R, rs, ps, dd, rfl, .inl (.inl hR4), hP4, d0', db', fun q hq => (okv q hq).2, by omega, pz, bd, fun H5 W0 s5 w1 bw wth => ?_⟩
    have p5 := p4.same s5
    refine ⟨_, rfl, _, _, rfl, rfl, ⟨by decide, by decide, by decide⟩, p, _, rfl, p5, by decide +kernel, by unfold Bt; decide +kernel, fun f H6 f0 f1 s6 p6 => ?_⟩
    have f1 : f < 2 ^ 97 := Int.lt_trans f1 hTen
    clear hTen
    refine ⟨by show 4 ≤ sizeLine; decide, fun l nl => ?_⟩
    obtain ⟨B, fB, eB, hL⟩ : ∃ B, B = upd H6 l (.lst [.int 0, .int 0, .int 1, .int f]) ∧ Same H6 B ∧ B l = some (.lst [.int 0, .int 0, .int 1, .int f]) := ⟨_, rfl, same_new nl, upd_same⟩
    rw [← fB]
    have nlp : l ≠ p := p6.ne nl
    refine ⟨_, rfl, p, _, rfl, p6.same eB, by decide, b4, fun g H7 g0 g1 s7 p7 => ?_⟩
    obtain ⟨v2, hv, hm2⟩ := pick (xs := [V.int 0, V.int 0, V.int 1, V.int f]) g0 (by simpa using g1)
    obtain ⟨w2, rfl, w0, bw2⟩ : ∃ w2 : Int, v2 = .int w2 ∧ 0 ≤ w2 ∧ Bt 97 w2 := by
      simp only [List.mem_cons, List.not_mem_nil, or_false] at hm2
      rcases hm2 with rfl | rfl | rfl | rfl
      · exact ⟨_, rfl, by decide, by unfold Bt; decide +kernel⟩
      · exact ⟨_, rfl, by decide, by unfold Bt; decide +kernel⟩
      · exact ⟨_, rfl, by decide, by unfold Bt; decide +kernel⟩
      · exact ⟨_, rfl, f0, Bt.of_lt (by omega) f1⟩
    refine ⟨l, _, _, _, rfl, rfl, .inl (.inl (s7 _ _ nlp hL)), hv, _, _, rfl, rfl, ?_⟩
    have bW : Bt 110 (W0 + w2) := (bw.add (bw2.mono (by decide))).mono (by decide)
    have W1 : 1 ≤ W0 + w2 := by omega
    show gName 4 (V.int (W0 + w2)) _ _ _
    have wth : WthF ((W0 + w2 : Int) : Rat) ps.length fun j => rv (gp ps j) := wth.up (cast_le.mpr (by omega))
    generalize W0 + w2 = W at bW W1 wth
    have s47 : SameX p H4 H7 := (Same.x s5).trans (s6.trans ((Same.x eB).trans s7))
    have s37 := s4.trans s47
    have hG7 := s47 _ _ nGp hG
    have hR7 := s37 _ _ nRp hR
    have hN7 := s37 _ _ nNp hN3
    have hP7 := hP4.k (kt_x s47 p4)
    dsimp only [List.set_cons_succ, List.set_cons_zero]
    refine ⟨_, rfl, _, rfl, _, rfl, true, true, true, N, G, R, _, _, _, rfl, .inl (.inl hN7), .inl (.inl hG7), .inl (.inl hR7), fun D nD => ?_⟩
    refine lc_it (walk_zB3 (K := K) (b1 := true) (b2 := true) (b3 := true) (a1 := N) (a2 := G) (a3 := R) (xs := us.map V.str) (ys := bs.map V.bl) (zs := rs)) (fun j H' => ∃ (ws : List V) (ss : List Seat), H' D = some (.lst ws) ∧ DpAll K H' ws (ss.map seatD) ∧ ss.length = j ∧ ss.map Prod.snd = ps.take j ∧ (∀ s ∈ ss, Okp 190 s.2 ∧ Nm0 s.1) ∧ (names ss).Sublist (us.take j) ∧ Same H7 H')
      ⟨[], [], upd_same, .nil, rfl, rfl, fun _ h => (List.not_mem_nil h).elim, List.Sublist.slnil, same_new nD⟩ (fun j H' _ ⟨_, _, _, _, _, _, _, _, s⟩ => ⟨.inl (.inl (s _ _ hN7)), .inl (.inl (s _ _ hG7)), .inl (.inl (s _ _ hR7))⟩) ?_ ?_
    · rintro j x H' H'' hj ⟨ws, ss, hD, hV, hsl, hps, hok, hsub, s8⟩ ⟨T1, v1, v2, v3, rfl, nT, rfl, e1, e2, e3⟩
      have e1 : (us.map V.str)[j]? = some v1 := e1
      have e2 : (bs.map V.bl)[j]? = some v2 := e2
      have e3 : rs[j]? = some v3 := e3
      rw [List.getElem?_map] at e1 e2
      obtain ⟨z, ez, rfl⟩ : ∃ z, us[j]? = some z ∧ V.str z = v1 := by
        cases e : us[j]? with
        | none => rw [e] at e1; cases e1
        | some z => rw [e] at e1; exact ⟨z, rfl, Option.some.inj e1⟩
      obtain ⟨b, eb, rfl⟩ : ∃ b, bs[j]? = some b ∧ V.bl b = v2 := by
        cases e : bs[j]? with
        | none => rw [e] at e2; cases e2
        | some z => rw [e] at e2; exact ⟨z, rfl, Option.some.inj e2⟩
      have hjr : j < rs.length := (List.getElem?_eq_some_iff.mp e3).1
      obtain ⟨q3, hq3, t3⟩ := hP7.2 j v3 e3
      have e0 := same_new (o := .tup [.str z, .bl b, v3]) nT
      have hwl : ws.length = j := by rw [dpall_len hV, List.length_map, hsl]
      refine ⟨T1, _, rfl, .inl (.inl upd_same), rfl, _, _, rfl, _, _, rfl, _, _, rfl, rfl, rfl, tyes (iteT ?_)⟩
      refine ⟨_, rfl, _, rfl, ?_⟩
      have fin : ∀ (y : Str) (u : Addr), (y = z ∨ y = "") → (upd H' T1 (.tup [.str z, .bl b, v3])) u = none → ∃ (ws' : List V) (ss' : List Seat), upd (upd (upd H' T1 (.tup [.str z, .bl b, v3])) u (.tup [.str y, v3])) D (.lst (ws ++ [.ref u])) D = some (.lst ws') ∧ DpAll K (upd (upd (upd H' T1 (.tup [.str z, .bl b, v3])) u (.tup [.str y, v3])) D (.lst (ws ++ [.ref u]))) ws' (ss'.map seatD) ∧ ss'.length = j + 1 ∧ ss'.map Prod.snd = ps.take (j + 1) ∧ (∀ s ∈ ss', Okp 190 s.2 ∧ Nm0 s.1) ∧ (names ss').Sublist (us.take (j + 1)) ∧ Same H7 (upd (upd (upd H' T1 (.tup [.str z, .bl b, v3])) u (.tup [.str y, v3])) D (.lst (ws ++ [.ref u]))) := by
        intro y u hy nu
        have eu := same_new (o := .tup [.str y, v3]) nu
        have s9 := e0.trans eu
        have hD9 := s9 _ _ hD
        refine ⟨ws ++ [.ref u], ss ++ [(y, q3)], upd_same, ?_, by simp [hsl], by rw [List.map_append, hps, List.take_add_one, hq3]; rfl, fun x hx => ?_, ?_, same_upd (s8.trans s9) nD⟩
        · rw [List.map_append]
          refine (dpall_add (hV.sm s9) (seat_mk (s := (y, q3)) (.inl (.inl upd_same)) (pd_dp ((t3.same s8).same s9)))).kt (kt_set hD9) ?_
          rw [immAll_app, seats_imm]
          rfl
        · rcases List.mem_append.mp hx with h | h
          · exact hok x h
          · rw [List.mem_singleton.mp h]
            refine ⟨okp q3 (List.mem_of_getElem? hq3), ?_⟩
            rcases hy with rfl | rfl
            · exact .inr (unm _ (List.mem_of_getElem? ez))
            · exact .inl rfl
        · rw [names_app, List.take_add_one, ez]
          refine List.Sublist.append hsub ?_
          rcases hy with rfl | rfl
          · exact List.filter_sublist
          · exact List.nil_sublist _
      refine ite2 (fun _ => ?_) (fun _ => ?_)
      · refine ⟨_, rfl, by show 2 ≤ sizeLine; decide, fun u nu => ?_⟩
        exact ⟨_, same_new nu _ _ (e0 _ _ hD), small1000 (by omega), fin "" u (.inr rfl) nu⟩
      · refine ⟨_, rfl, _, rfl, by show 2 ≤ sizeLine; decide, fun u nu => ?_⟩
        exact ⟨_, same_new nu _ _ (e0 _ _ hD), small1000 (by omega), fin z u (.inl rfl) nu⟩
    rintro H8 ⟨ws, ss, hD, hV, hsl, hps, hok, hsub, s8⟩
    have emin : min (min (us.map V.str).length (bs.map V.bl).length) rs.length = k := by
      simp only [List.length_map]
      omega
    rw [emin] at hsl hsub hps
    rw [List.take_of_length_le (by omega)] at hps
    refine ⟨_, rfl, _, rfl, D, ws, rfl, .inl ⟨.inl (.inl hD), fun S nS => ?_⟩⟩
    have eS := same_new (o := .tup ws) nS
    refine ⟨by show 2 ≤ sizeLine; decide, fun t nt => ?_⟩
    have et := same_new (o := .tup [.int W, .ref S]) nt
    have s8t := s8.trans (eS.trans et)
    have hps' : ∀ s ∈ ss, s.2 ∈ ps := fun s hs => by rw [← hps]; exact List.mem_map_of_mem hs
    exact q (.ref t) W ss _ dd (mom_mk (.inl (.inl upd_same)) (Same.tup et (.inl (.inl upd_same))) ((hV.sm eS).sm et)) ⟨by omega, W1, bW, und.sublist (hsub.trans (List.take_sublist _ _)), fun s hs => (hok s hs).2, fun s hs => ⟨(okr _ (hps' s hs)).1, (okr _ (hps' s hs)).2, (okv _ (hps' s hs)).2.2.1⟩, good_mk hps wth pz, d0', db'.mono (by decide)⟩ db' (by omega) (hsub.trans (List.take_sublist _ _)) (s2.trans (s3.trans (s37.trans (Same.x s8t)))) (p7.same s8t)
end
end WS
set_option Elab.async false
set_option linter.all false
set_option maxRecDepth 100000
set_option maxHeartbeats 4000000
namespace WS
open PySem PySem.Spec PyProof.Rows L2
section
variable {P : Program} {w : World} {K : PySem.W.Frag} {mg : Str → Option Value} {base : Heap}
open TL
theorem ok_law (T : Tx K mg base) {A : Around} (hg : Calm A) : FnAt A P w K mg base CX0 10 T.f_law T.d_law ["_law_script"] (spLawTs K T.TT) := by
  refine fun_at T.F_law sc_law (fun vs H Q E h => ?_) (fun cdv outer s H vs Q E hr h => ?_)
  · obtain ⟨a, ns, rfl, _⟩ := h
    rfl
  · obtain ⟨a, ns, rfl, hS, hlen, hT, q⟩ := h
    refine ⟨_, PSs.nox (pss_cons (ps_for PassesOwn.never rfl (pi_range1 (by rfl) T.n_range (pa_cons (pe_callB (call_max2 (by rfl)) (by rfl) T.n_max (by decide +kernel) (pa_cons pe_int (pa_cons (pe_callB (call_min2 (by rfl)) (by rfl) T.n_min (by decide +kernel) (pa_cons (pe_callB call_len_seq (by rfl) T.n_len (by decide +kernel) (pa_cons (pv 0) pa_nil)) (pa_cons pe_int pa_nil))) pa_nil))) pa_nil)) (pg_name (i := 1) sc_law.nd rfl (.inl rfl)) (pss_cons (ps_set (i := 2) sc_law.nd rfl (.inl rfl) (pe_call (ok_lpot T) (hr.mono (by decide)) (by rfl) T.g_lpot T.F_lpot.kp T.b_lpot .nil pass0 (pa_cons (pv 0) (pa_cons (pv 1) pa_nil))))
        (pss_cons (ps_set (i := 3) sc_law.nd rfl (.inl rfl) (pe_call (ok_lnames T) (hr.mono (by decide)) (by rfl) T.g_lnames T.F_lnames.kp T.b_lnames .nil pass0 (pa_cons (pv 2) (pa_cons (pe_ix ix_list (pe_lst (pa_cons pe_int (pa_cons pe_int pa_nil))) (pe_callTy call_int1 (by rfl) T.n_int (by decide +kernel) (pa_cons (pe_cmpR op_eq (pe_call (ok_ldigit T) (hr.mono (by decide)) (by rfl) T.g_ldigit T.F_ldigit.kp T.b_ldigit .nil pass0 (pa_cons (pv 2) (pa_cons pe_int pa_nil))) pe_int (nomark _)) pa_nil)) (fun _ _ => rfl)) pa_nil))))
        (pss_one (ps_if (pt_not (pt_val (pe_callA (ok_lright T (Calm.down hg _)) (hr.mono (by decide)) (by rfl) T.g_lright T.F_lright.kp T.b_lright .nil pass0 (pa_cons (pe_call (ok_lseated T) (hr.mono (by decide)) (by rfl) T.g_lseated T.F_lseated.kp T.b_lseated .nil pass0 (pa_cons (pv 2) (pa_cons (pv 3) pa_nil))) pa_nil)))) (pss_one (ps_ret pe_bl)) pss_nil)))))
        (pss_one (ps_ret pe_bl))), ?_⟩
    rw [show L2.start [Str.ofString "_law_script", Str.ofString "_law_k", Str.ofString "_law_pot_here", Str.ofString "_law_names_here"] [V.ref a] = [some (V.ref a), none, none, none] from rfl]
    have b8 : Bt 8999 8 := by unfold Bt; decide +kernel
    refine ⟨_, rfl, a, _, rfl, .inl hS, _, _, rfl, _, _, rfl, ?_⟩
    rw [List.length_map]
    obtain ⟨M, eM⟩ : ∃ M : Int, M = (if (if (4 : Int) < ns.length then (4 : Int) else ns.length) > 1 then (if (4 : Int) < ns.length then (4 : Int) else ns.length) else 1) := ⟨_, rfl⟩
    have M1 : 1 ≤ M ∧ M ≤ 4 := by rw [eM]; constructor <;> (split <;> (try split) <;> omega)
    refine ⟨M, by rw [eM], by omega, by omega, ?_⟩
    refine for_range (lo := 0) (n := M.toNat) (fun i σ H' => ∃ y1 y2 y3, σ = [some (.ref a), y1, y2, y3] ∧ (∀ o, H a = some o → (∀ ps, o ≠ .tbl ps) → H' a = some o) ∧ LamX.Tabs T.TT H') ⟨none, none, none, rfl, fun _ e _ => e, hT⟩ ?_ ?_
    · rintro i σ H' hi ⟨y1, y2, y3, rfl, kp, t'⟩
      refine ⟨_, rfl, _, rfl, a, ns, _, rfl, seq_keepN hS kp, by omega, by omega, fun p H2 s2 np hp => ?_⟩
      dsimp only [List.set_cons_succ, List.set_cons_zero]
      refine ⟨_, rfl, by show 2 ≤ sizeLine; decide, fun l nl => ?_⟩
      obtain ⟨H3, f3, e3, hl⟩ : ∃ B, B = upd H2 l (.lst [.int 10, .int 26]) ∧ Same H2 B ∧ B l = some (.lst [.int 10, .int 26]) := ⟨_, rfl, same_new nl, upd_same⟩
      rw [← f3]
      have nlp : l ≠ p := hp.ne nl
      refine ⟨_, rfl, p, _, rfl, hp.same e3, by decide, b8, fun d3 H4 d30 d31 s4 p4 => ?_⟩
      refine ⟨rfl, .inr ⟨_, rfl, ?_⟩⟩
      obtain ⟨up, hup, up1, up26⟩ : ∃ up : Nat, atI [V.int 10, V.int 26] (if decide (V.int d3 = V.int 7) = true then 1 else 0) = some (.int (up : Nat)) ∧ 1 ≤ up ∧ up ≤ 26 := by
        split
        · exact ⟨26, rfl, by decide, by decide⟩
        · exact ⟨10, rfl, by decide, by decide⟩
      refine ⟨l, _, _, _, rfl, rfl, .inl (.inl (s4 _ _ nlp hl)), hup, ?_⟩
      refine ⟨p, up, rfl, p4, by omega, fun N us H5 nN hN ul und unm s5 p5 => ?_⟩
      have nNp : N ≠ p := p4.ne nN
      dsimp only [List.set_cons_succ, List.set_cons_zero]
      refine ⟨_, rfl, _, rfl, p, N, us, rfl, p5, nNp, hN, by omega, und, unm, fun v W ss H6 D hv hk bD _ _ s6 p6 => ?_⟩
      obtain ⟨D', lk⟩ := LK.of hk bD
      have sp : SameX p H2 H6 := (Same.x e3).trans (s4.trans (s5.trans s6))
      have t6 : LamX.Tabs T.TT H6 := Tabs.x (t'.ext s2) sp hp
      refine nil2 ⟨v, D', W, ss, rfl, hv, lk, t6, fun H7 x7 t7 => ?_⟩
      refine ⟨_, rfl, iteF ⟨_, _, _, rfl, fun o e nt => ?_, t7⟩⟩
      exact x7 a o (sp a o (ne_of_none (kp o e nt) np) (s2 a o (kp o e nt))) nt
    · rintro σ H' ⟨y1, y2, y3, rfl, kp, t'⟩
      exact q H'
end
end WS
set_option Elab.async false
set_option linter.all false
set_option maxRecDepth 100000
set_option maxHeartbeats 4000000
namespace WS
open PySem PySem.Spec PyProof.Rows L2
theorem all_mk {l : PySem.W.OpenLaw} {w : World} {K : PySem.W.Frag} {h : Heap} {mg : Str → Option Value} {fa : Addr} (X : K.In h) (G : h.Ns mainGlobals mg) (hfa : mg "law" = some (.ref fa))
    {f_is_whole : Addr} {od_is_whole an_is_whole : Option Addr} {sl_is_whole : Array (Option Value)} {oc_is_whole dc_is_whole pm_is_whole cd_is_whole ct_is_whole : Value} {kV_is_whole : Value}
    {f_greatest_common : Addr} {od_greatest_common an_greatest_common : Option Addr} {sl_greatest_common : Array (Option Value)} {oc_greatest_common dc_greatest_common pm_greatest_common cd_greatest_common ct_greatest_common : Value} {kV_greatest_common : Value}
    {f_is_part : Addr} {od_is_part an_is_part : Option Addr} {sl_is_part : Array (Option Value)} {oc_is_part dc_is_part pm_is_part cd_is_part ct_is_part : Value} {kV_is_part : Value}
    {f_part : Addr} {od_part an_part : Option Addr} {sl_part : Array (Option Value)} {oc_part dc_part pm_part cd_part ct_part : Value} {kV_part : Value}
    {dT_part : Addr} {do_part : Option Addr} {dn_part : Nat} {ds_part : Array (Option Value)} {dt_part : Tok}
    {f_plus : Addr} {od_plus an_plus : Option Addr} {sl_plus : Array (Option Value)} {oc_plus dc_plus pm_plus cd_plus ct_plus : Value} {kV_plus : Value}
    {f_minus : Addr} {od_minus an_minus : Option Addr} {sl_minus : Array (Option Value)} {oc_minus dc_minus pm_minus cd_minus ct_minus : Value} {kV_minus : Value}
    {f_shared : Addr} {od_shared an_shared : Option Addr} {sl_shared : Array (Option Value)} {oc_shared dc_shared pm_shared cd_shared ct_shared : Value} {kV_shared : Value}
    {f_is_less : Addr} {od_is_less an_is_less : Option Addr} {sl_is_less : Array (Option Value)} {oc_is_less dc_is_less pm_is_less cd_is_less ct_is_less : Value} {kV_is_less : Value}
    {f_total : Addr} {od_total an_total : Option Addr} {sl_total : Array (Option Value)} {oc_total dc_total pm_total cd_total ct_total : Value}
    {kD_total : Addr}
    {f_common_below : Addr} {od_common_below an_common_below : Option Addr} {sl_common_below : Array (Option Value)} {oc_common_below dc_common_below pm_common_below cd_common_below ct_common_below : Value} {kV_common_below : Value}
    {f_greatest_first : Addr} {od_greatest_first an_greatest_first : Option Addr} {sl_greatest_first : Array (Option Value)} {oc_greatest_first dc_greatest_first pm_greatest_first cd_greatest_first ct_greatest_first : Value} {kV_greatest_first : Value}
    {f_sums_ahead : Addr} {od_sums_ahead an_sums_ahead : Option Addr} {sl_sums_ahead : Array (Option Value)} {oc_sums_ahead dc_sums_ahead pm_sums_ahead cd_sums_ahead ct_sums_ahead : Value} {kV_sums_ahead : Value}
    {f_most : Addr} {od_most an_most : Option Addr} {sl_most : Array (Option Value)} {oc_most dc_most pm_most cd_most ct_most : Value} {kV_most : Value}
    {f_fall : Addr} {od_fall an_fall : Option Addr} {sl_fall : Array (Option Value)} {oc_fall dc_fall pm_fall cd_fall ct_fall : Value} {kV_fall : Value}
    {f_is_within : Addr} {od_is_within an_is_within : Option Addr} {sl_is_within : Array (Option Value)} {oc_is_within dc_is_within pm_is_within cd_is_within ct_is_within : Value} {kV_is_within : Value}
    {f_is_name : Addr} {od_is_name an_is_name : Option Addr} {sl_is_name : Array (Option Value)} {oc_is_name dc_is_name pm_is_name cd_is_name ct_is_name : Value} {kV_is_name : Value}
    {f_is_weight : Addr} {od_is_weight an_is_weight : Option Addr} {sl_is_weight : Array (Option Value)} {oc_is_weight dc_is_weight pm_is_weight cd_is_weight ct_is_weight : Value} {kV_is_weight : Value}
    {f_is_pair : Addr} {od_is_pair an_is_pair : Option Addr} {sl_is_pair : Array (Option Value)} {oc_is_pair dc_is_pair pm_is_pair cd_is_pair ct_is_pair : Value} {kV_is_pair : Value}
    {f_is_seat : Addr} {od_is_seat an_is_seat : Option Addr} {sl_is_seat : Array (Option Value)} {oc_is_seat dc_is_seat pm_is_seat cd_is_seat ct_is_seat : Value} {kV_is_seat : Value}
    {f_is_moment : Addr} {od_is_moment an_is_moment : Option Addr} {sl_is_moment : Array (Option Value)} {oc_is_moment dc_is_moment pm_is_moment cd_is_moment ct_is_moment : Value} {kV_is_moment : Value}
    {f_owing : Addr} {od_owing an_owing : Option Addr} {sl_owing : Array (Option Value)} {oc_owing dc_owing pm_owing cd_owing ct_owing : Value} {kV_owing : Value}
    {f_with_row : Addr} {od_with_row an_with_row : Option Addr} {sl_with_row : Array (Option Value)} {oc_with_row dc_with_row pm_with_row cd_with_row ct_with_row : Value} {kV_with_row : Value}
    {f_persons : Addr} {od_persons an_persons : Option Addr} {sl_persons : Array (Option Value)} {oc_persons dc_persons pm_persons cd_persons ct_persons : Value} {kV_persons : Value}
    {f_sits : Addr} {od_sits an_sits : Option Addr} {sl_sits : Array (Option Value)} {oc_sits dc_sits pm_sits cd_sits ct_sits : Value} {kV_sits : Value}
    {f_seat_of : Addr} {od_seat_of an_seat_of : Option Addr} {sl_seat_of : Array (Option Value)} {oc_seat_of dc_seat_of pm_seat_of cd_seat_of ct_seat_of : Value} {kV_seat_of : Value}
    {f_owes : Addr} {od_owes an_owes : Option Addr} {sl_owes : Array (Option Value)} {oc_owes dc_owes pm_owes cd_owes ct_owes : Value} {kV_owes : Value}
    {f_may_be_given : Addr} {od_may_be_given an_may_be_given : Option Addr} {sl_may_be_given : Array (Option Value)} {oc_may_be_given dc_may_be_given pm_may_be_given cd_may_be_given ct_may_be_given : Value} {kV_may_be_given : Value}
    {f_row_with_gift : Addr} {od_row_with_gift an_row_with_gift : Option Addr} {sl_row_with_gift : Array (Option Value)} {oc_row_with_gift dc_row_with_gift pm_row_with_gift cd_row_with_gift ct_row_with_gift : Value} {kV_row_with_gift : Value}
    {f_with_gift : Addr} {od_with_gift an_with_gift : Option Addr} {sl_with_gift : Array (Option Value)} {oc_with_gift dc_with_gift pm_with_gift cd_with_gift ct_with_gift : Value} {kV_with_gift : Value}
    {f_first_greatest : Addr} {od_first_greatest an_first_greatest : Option Addr} {sl_first_greatest : Array (Option Value)} {oc_first_greatest dc_first_greatest pm_first_greatest cd_first_greatest ct_first_greatest : Value} {kV_first_greatest : Value}
    {f_first_least : Addr} {od_first_least an_first_least : Option Addr} {sl_first_least : Array (Option Value)} {oc_first_least dc_first_least pm_first_least cd_first_least ct_first_least : Value} {kV_first_least : Value}
    {f_lesser : Addr} {od_lesser an_lesser : Option Addr} {sl_lesser : Array (Option Value)} {oc_lesser dc_lesser pm_lesser cd_lesser ct_lesser : Value} {kV_lesser : Value}
    {f_above_average : Addr} {od_above_average an_above_average : Option Addr} {sl_above_average : Array (Option Value)} {oc_above_average dc_above_average pm_above_average cd_above_average ct_above_average : Value} {kV_above_average : Value}
    {f_levelling : Addr} {od_levelling an_levelling : Option Addr} {sl_levelling : Array (Option Value)} {oc_levelling dc_levelling pm_levelling cd_levelling ct_levelling : Value} {kV_levelling : Value}
    {f_levelled : Addr} {od_levelled an_levelled : Option Addr} {sl_levelled : Array (Option Value)} {oc_levelled dc_levelled pm_levelled cd_levelled ct_levelled : Value} {kV_levelled : Value}
    {f_lpot : Addr} {od_lpot an_lpot : Option Addr} {sl_lpot : Array (Option Value)} {oc_lpot dc_lpot pm_lpot cd_lpot ct_lpot : Value} {kV_lpot : Value}
    {f_ldigit : Addr} {od_ldigit an_ldigit : Option Addr} {sl_ldigit : Array (Option Value)} {oc_ldigit dc_ldigit pm_ldigit cd_ldigit ct_ldigit : Value} {kV_ldigit : Value}
    {f_lname : Addr} {od_lname an_lname : Option Addr} {sl_lname : Array (Option Value)} {oc_lname dc_lname pm_lname cd_lname ct_lname : Value} {kV_lname : Value}
    {f_lnames : Addr} {od_lnames an_lnames : Option Addr} {sl_lnames : Array (Option Value)} {oc_lnames dc_lnames pm_lnames cd_lnames ct_lnames : Value} {kV_lnames : Value}
    {f_llow : Addr} {od_llow an_llow : Option Addr} {sl_llow : Array (Option Value)} {oc_llow dc_llow pm_llow cd_llow ct_llow : Value} {kV_llow : Value}
    {f_lplus : Addr} {od_lplus an_lplus : Option Addr} {sl_lplus : Array (Option Value)} {oc_lplus dc_lplus pm_lplus cd_lplus ct_lplus : Value} {kV_lplus : Value}
    {f_lless : Addr} {od_lless an_lless : Option Addr} {sl_lless : Array (Option Value)} {oc_lless dc_lless pm_lless cd_lless ct_lless : Value} {kV_lless : Value}
    {f_lsum : Addr} {od_lsum an_lsum : Option Addr} {sl_lsum : Array (Option Value)} {oc_lsum dc_lsum pm_lsum cd_lsum ct_lsum : Value} {kV_lsum : Value}
    {f_lfirst : Addr} {od_lfirst an_lfirst : Option Addr} {sl_lfirst : Array (Option Value)} {oc_lfirst dc_lfirst pm_lfirst cd_lfirst ct_lfirst : Value} {kV_lfirst : Value}
    {f_lweight : Addr} {od_lweight an_lweight : Option Addr} {sl_lweight : Array (Option Value)} {oc_lweight dc_lweight pm_lweight cd_lweight ct_lweight : Value} {kV_lweight : Value}
    {f_lrow : Addr} {od_lrow an_lrow : Option Addr} {sl_lrow : Array (Option Value)} {oc_lrow dc_lrow pm_lrow cd_lrow ct_lrow : Value} {kV_lrow : Value}
    {f_lseated : Addr} {od_lseated an_lseated : Option Addr} {sl_lseated : Array (Option Value)} {oc_lseated dc_lseated pm_lseated cd_lseated ct_lseated : Value} {kV_lseated : Value}
    {f_lminus : Addr} {od_lminus an_lminus : Option Addr} {sl_lminus : Array (Option Value)} {oc_lminus dc_lminus pm_lminus cd_lminus ct_lminus : Value} {kV_lminus : Value}
    {f_laverage : Addr} {od_laverage an_laverage : Option Addr} {sl_laverage : Array (Option Value)} {oc_laverage dc_laverage pm_laverage cd_laverage ct_laverage : Value} {kV_laverage : Value}
    {f_lplace : Addr} {od_lplace an_lplace : Option Addr} {sl_lplace : Array (Option Value)} {oc_lplace dc_lplace pm_lplace cd_lplace ct_lplace : Value} {kV_lplace : Value}
    {f_ldue : Addr} {od_ldue an_ldue : Option Addr} {sl_ldue : Array (Option Value)} {oc_ldue dc_ldue pm_ldue cd_ldue ct_ldue : Value} {kV_ldue : Value}
    {f_llevel : Addr} {od_llevel an_llevel : Option Addr} {sl_llevel : Array (Option Value)} {oc_llevel dc_llevel pm_llevel cd_llevel ct_llevel : Value} {kV_llevel : Value}
    {f_lno_wider : Addr} {od_lno_wider an_lno_wider : Option Addr} {sl_lno_wider : Array (Option Value)} {oc_lno_wider dc_lno_wider pm_lno_wider cd_lno_wider ct_lno_wider : Value} {kV_lno_wider : Value}
    {f_lright : Addr} {od_lright an_lright : Option Addr} {sl_lright : Array (Option Value)} {oc_lright dc_lright pm_lright cd_lright ct_lright : Value} {kV_lright : Value}
    {f_law : Addr} {od_law an_law : Option Addr} {sl_law : Array (Option Value)} {oc_law dc_law pm_law cd_law ct_law : Value} {kV_law : Value}
    {a_NOUGHT : Addr} {ao_NOUGHT : Option Addr} {an_NOUGHT : Nat} {as_NOUGHT : Array (Option Value)} {at0_NOUGHT at1_NOUGHT : Tok}
    {te_EMPTY : Tok}
    {c_tab0 P_tab0 : Addr}
    (a_is_whole : PySem.W.nsIn K mainGlobals "is_whole" = some (some (.ref f_is_whole)))
    (l_is_whole : K.lookup f_is_whole = some ⟨oc_is_whole, od_is_whole, .func (PySem.W.fnOf "is_whole" "is_whole" (defArgs s_is_whole) (defBody s_is_whole) (defScope s_is_whole) .none kV_is_whole dc_is_whole pm_is_whole an_is_whole cd_is_whole ct_is_whole), sl_is_whole⟩)
    (c_is_whole : PySem.W.codeIn K cd_is_whole "is_whole" = true) (k_is_whole : PySem.W.keepIn K (.ref f_is_whole) = true)
    (a_greatest_common : PySem.W.nsIn K mainGlobals "greatest_common" = some (some (.ref f_greatest_common)))
    (l_greatest_common : K.lookup f_greatest_common = some ⟨oc_greatest_common, od_greatest_common, .func (PySem.W.fnOf "greatest_common" "greatest_common" (defArgs s_greatest_common) (defBody s_greatest_common) (defScope s_greatest_common) .none kV_greatest_common dc_greatest_common pm_greatest_common an_greatest_common cd_greatest_common ct_greatest_common), sl_greatest_common⟩)
    (c_greatest_common : PySem.W.codeIn K cd_greatest_common "greatest_common" = true) (k_greatest_common : PySem.W.keepIn K (.ref f_greatest_common) = true)
    (a_is_part : PySem.W.nsIn K mainGlobals "is_part" = some (some (.ref f_is_part)))
    (l_is_part : K.lookup f_is_part = some ⟨oc_is_part, od_is_part, .func (PySem.W.fnOf "is_part" "is_part" (defArgs s_is_part) (defBody s_is_part) (defScope s_is_part) .none kV_is_part dc_is_part pm_is_part an_is_part cd_is_part ct_is_part), sl_is_part⟩)
    (c_is_part : PySem.W.codeIn K cd_is_part "is_part" = true) (k_is_part : PySem.W.keepIn K (.ref f_is_part) = true)
    (a_part : PySem.W.nsIn K mainGlobals "part" = some (some (.ref f_part)))
    (l_part : K.lookup f_part = some ⟨oc_part, od_part, .func (PySem.W.fnOf "part" "part" (defArgs s_part) (defBody s_part) (defScope s_part) (.ref dT_part) kV_part dc_part pm_part an_part cd_part ct_part), sl_part⟩)
    (c_part : PySem.W.codeIn K cd_part "part" = true) (k_part : PySem.W.keepIn K (.ref f_part) = true)
    (q_part : K.lookup dT_part = some ⟨.type "tuple", do_part, .seq #[.int 1 dt_part] dn_part, ds_part⟩)
    (a_plus : PySem.W.nsIn K mainGlobals "plus" = some (some (.ref f_plus)))
    (l_plus : K.lookup f_plus = some ⟨oc_plus, od_plus, .func (PySem.W.fnOf "plus" "plus" (defArgs s_plus) (defBody s_plus) (defScope s_plus) .none kV_plus dc_plus pm_plus an_plus cd_plus ct_plus), sl_plus⟩)
    (c_plus : PySem.W.codeIn K cd_plus "plus" = true) (k_plus : PySem.W.keepIn K (.ref f_plus) = true)
    (a_minus : PySem.W.nsIn K mainGlobals "minus" = some (some (.ref f_minus)))
    (l_minus : K.lookup f_minus = some ⟨oc_minus, od_minus, .func (PySem.W.fnOf "minus" "minus" (defArgs s_minus) (defBody s_minus) (defScope s_minus) .none kV_minus dc_minus pm_minus an_minus cd_minus ct_minus), sl_minus⟩)
    (c_minus : PySem.W.codeIn K cd_minus "minus" = true) (k_minus : PySem.W.keepIn K (.ref f_minus) = true)
    (a_shared : PySem.W.nsIn K mainGlobals "shared" = some (some (.ref f_shared)))
    (l_shared : K.lookup f_shared = some ⟨oc_shared, od_shared, .func (PySem.W.fnOf "shared" "shared" (defArgs s_shared) (defBody s_shared) (defScope s_shared) .none kV_shared dc_shared pm_shared an_shared cd_shared ct_shared), sl_shared⟩)
    (c_shared : PySem.W.codeIn K cd_shared "shared" = true) (k_shared : PySem.W.keepIn K (.ref f_shared) = true)
    (a_is_less : PySem.W.nsIn K mainGlobals "is_less" = some (some (.ref f_is_less)))
    (l_is_less : K.lookup f_is_less = some ⟨oc_is_less, od_is_less, .func (PySem.W.fnOf "is_less" "is_less" (defArgs s_is_less) (defBody s_is_less) (defScope s_is_less) .none kV_is_less dc_is_less pm_is_less an_is_less cd_is_less ct_is_less), sl_is_less⟩)
    (c_is_less : PySem.W.codeIn K cd_is_less "is_less" = true) (k_is_less : PySem.W.keepIn K (.ref f_is_less) = true)
    (a_total : PySem.W.nsIn K mainGlobals "total" = some (some (.ref f_total)))
    (l_total : K.lookup f_total = some ⟨oc_total, od_total, .func (PySem.W.fnOf "total" "total" (defArgs s_total) (defBody s_total) (defScope s_total) .none (.ref kD_total) dc_total pm_total an_total cd_total ct_total), sl_total⟩)
    (c_total : PySem.W.codeIn K cd_total "total" = true) (k_total : PySem.W.keepIn K (.ref f_total) = true)
    (kd_total : PySem.W.nsIn K kD_total "start" = some (some (.ref a_NOUGHT)))
    (a_common_below : PySem.W.nsIn K mainGlobals "common_below" = some (some (.ref f_common_below)))
    (l_common_below : K.lookup f_common_below = some ⟨oc_common_below, od_common_below, .func (PySem.W.fnOf "common_below" "common_below" (defArgs s_common_below) (defBody s_common_below) (defScope s_common_below) .none kV_common_below dc_common_below pm_common_below an_common_below cd_common_below ct_common_below), sl_common_below⟩)
    (c_common_below : PySem.W.codeIn K cd_common_below "common_below" = true) (k_common_below : PySem.W.keepIn K (.ref f_common_below) = true)
    (a_greatest_first : PySem.W.nsIn K mainGlobals "greatest_first" = some (some (.ref f_greatest_first)))
    (l_greatest_first : K.lookup f_greatest_first = some ⟨oc_greatest_first, od_greatest_first, .func (PySem.W.fnOf "greatest_first" "greatest_first" (defArgs s_greatest_first) (defBody s_greatest_first) (defScope s_greatest_first) .none kV_greatest_first dc_greatest_first pm_greatest_first an_greatest_first cd_greatest_first ct_greatest_first), sl_greatest_first⟩)
    (c_greatest_first : PySem.W.codeIn K cd_greatest_first "greatest_first" = true) (k_greatest_first : PySem.W.keepIn K (.ref f_greatest_first) = true)
    (a_sums_ahead : PySem.W.nsIn K mainGlobals "sums_ahead" = some (some (.ref f_sums_ahead)))
    (l_sums_ahead : K.lookup f_sums_ahead = some ⟨oc_sums_ahead, od_sums_ahead, .func (PySem.W.fnOf "sums_ahead" "sums_ahead" (defArgs s_sums_ahead) (defBody s_sums_ahead) (defScope s_sums_ahead) .none kV_sums_ahead dc_sums_ahead pm_sums_ahead an_sums_ahead cd_sums_ahead ct_sums_ahead), sl_sums_ahead⟩)
    (c_sums_ahead : PySem.W.codeIn K cd_sums_ahead "sums_ahead" = true) (k_sums_ahead : PySem.W.keepIn K (.ref f_sums_ahead) = true)
    (a_most : PySem.W.nsIn K mainGlobals "most" = some (some (.ref f_most)))
    (l_most : K.lookup f_most = some ⟨oc_most, od_most, .func (PySem.W.fnOf "most" "most" (defArgs s_most) (defBody s_most) (defScope s_most) .none kV_most dc_most pm_most an_most cd_most ct_most), sl_most⟩)
    (c_most : PySem.W.codeIn K cd_most "most" = true) (k_most : PySem.W.keepIn K (.ref f_most) = true)
    (a_fall : PySem.W.nsIn K mainGlobals "fall" = some (some (.ref f_fall)))
    (l_fall : K.lookup f_fall = some ⟨oc_fall, od_fall, .func (PySem.W.fnOf "fall" "fall" (defArgs s_fall) (defBody s_fall) (defScope s_fall) .none kV_fall dc_fall pm_fall an_fall cd_fall ct_fall), sl_fall⟩)
    (c_fall : PySem.W.codeIn K cd_fall "fall" = true) (k_fall : PySem.W.keepIn K (.ref f_fall) = true)
    (a_is_within : PySem.W.nsIn K mainGlobals "is_within" = some (some (.ref f_is_within)))
    (l_is_within : K.lookup f_is_within = some ⟨oc_is_within, od_is_within, .func (PySem.W.fnOf "is_within" "is_within" (defArgs s_is_within) (defBody s_is_within) (defScope s_is_within) .none kV_is_within dc_is_within pm_is_within an_is_within cd_is_within ct_is_within), sl_is_within⟩)
    (c_is_within : PySem.W.codeIn K cd_is_within "is_within" = true) (k_is_within : PySem.W.keepIn K (.ref f_is_within) = true)
    (a_is_name : PySem.W.nsIn K mainGlobals "is_name" = some (some (.ref f_is_name)))
    (l_is_name : K.lookup f_is_name = some ⟨oc_is_name, od_is_name, .func (PySem.W.fnOf "is_name" "is_name" (defArgs s_is_name) (defBody s_is_name) (defScope s_is_name) .none kV_is_name dc_is_name pm_is_name an_is_name cd_is_name ct_is_name), sl_is_name⟩)
    (c_is_name : PySem.W.codeIn K cd_is_name "is_name" = true) (k_is_name : PySem.W.keepIn K (.ref f_is_name) = true)
    (a_is_weight : PySem.W.nsIn K mainGlobals "is_weight" = some (some (.ref f_is_weight)))
    (l_is_weight : K.lookup f_is_weight = some ⟨oc_is_weight, od_is_weight, .func (PySem.W.fnOf "is_weight" "is_weight" (defArgs s_is_weight) (defBody s_is_weight) (defScope s_is_weight) .none kV_is_weight dc_is_weight pm_is_weight an_is_weight cd_is_weight ct_is_weight), sl_is_weight⟩)
    (c_is_weight : PySem.W.codeIn K cd_is_weight "is_weight" = true) (k_is_weight : PySem.W.keepIn K (.ref f_is_weight) = true)
    (a_is_pair : PySem.W.nsIn K mainGlobals "is_pair" = some (some (.ref f_is_pair)))
    (l_is_pair : K.lookup f_is_pair = some ⟨oc_is_pair, od_is_pair, .func (PySem.W.fnOf "is_pair" "is_pair" (defArgs s_is_pair) (defBody s_is_pair) (defScope s_is_pair) .none kV_is_pair dc_is_pair pm_is_pair an_is_pair cd_is_pair ct_is_pair), sl_is_pair⟩)
    (c_is_pair : PySem.W.codeIn K cd_is_pair "is_pair" = true) (k_is_pair : PySem.W.keepIn K (.ref f_is_pair) = true)
    (a_is_seat : PySem.W.nsIn K mainGlobals "is_seat" = some (some (.ref f_is_seat)))
    (l_is_seat : K.lookup f_is_seat = some ⟨oc_is_seat, od_is_seat, .func (PySem.W.fnOf "is_seat" "is_seat" (defArgs s_is_seat) (defBody s_is_seat) (defScope s_is_seat) .none kV_is_seat dc_is_seat pm_is_seat an_is_seat cd_is_seat ct_is_seat), sl_is_seat⟩)
    (c_is_seat : PySem.W.codeIn K cd_is_seat "is_seat" = true) (k_is_seat : PySem.W.keepIn K (.ref f_is_seat) = true)
    (a_is_moment : PySem.W.nsIn K mainGlobals "is_moment" = some (some (.ref f_is_moment)))
    (l_is_moment : K.lookup f_is_moment = some ⟨oc_is_moment, od_is_moment, .func (PySem.W.fnOf "is_moment" "is_moment" (defArgs s_is_moment) (defBody s_is_moment) (defScope s_is_moment) .none kV_is_moment dc_is_moment pm_is_moment an_is_moment cd_is_moment ct_is_moment), sl_is_moment⟩)
    (c_is_moment : PySem.W.codeIn K cd_is_moment "is_moment" = true) (k_is_moment : PySem.W.keepIn K (.ref f_is_moment) = true)
    (a_owing : PySem.W.nsIn K mainGlobals "owing" = some (some (.ref f_owing)))
    (l_owing : K.lookup f_owing = some ⟨oc_owing, od_owing, .func (PySem.W.fnOf "owing" "owing" (defArgs s_owing) (defBody s_owing) (defScope s_owing) .none kV_owing dc_owing pm_owing an_owing cd_owing ct_owing), sl_owing⟩)
    (c_owing : PySem.W.codeIn K cd_owing "owing" = true) (k_owing : PySem.W.keepIn K (.ref f_owing) = true)
    (a_with_row : PySem.W.nsIn K mainGlobals "with_row" = some (some (.ref f_with_row)))
    (l_with_row : K.lookup f_with_row = some ⟨oc_with_row, od_with_row, .func (PySem.W.fnOf "with_row" "with_row" (defArgs s_with_row) (defBody s_with_row) (defScope s_with_row) .none kV_with_row dc_with_row pm_with_row an_with_row cd_with_row ct_with_row), sl_with_row⟩)
    (c_with_row : PySem.W.codeIn K cd_with_row "with_row" = true) (k_with_row : PySem.W.keepIn K (.ref f_with_row) = true)
    (a_persons : PySem.W.nsIn K mainGlobals "persons" = some (some (.ref f_persons)))
    (l_persons : K.lookup f_persons = some ⟨oc_persons, od_persons, .func (PySem.W.fnOf "persons" "persons" (defArgs s_persons) (defBody s_persons) (defScope s_persons) .none kV_persons dc_persons pm_persons an_persons cd_persons ct_persons), sl_persons⟩)
    (c_persons : PySem.W.codeIn K cd_persons "persons" = true) (k_persons : PySem.W.keepIn K (.ref f_persons) = true)
    (a_sits : PySem.W.nsIn K mainGlobals "sits" = some (some (.ref f_sits)))
    (l_sits : K.lookup f_sits = some ⟨oc_sits, od_sits, .func (PySem.W.fnOf "sits" "sits" (defArgs s_sits) (defBody s_sits) (defScope s_sits) .none kV_sits dc_sits pm_sits an_sits cd_sits ct_sits), sl_sits⟩)
    (c_sits : PySem.W.codeIn K cd_sits "sits" = true) (k_sits : PySem.W.keepIn K (.ref f_sits) = true)
    (a_seat_of : PySem.W.nsIn K mainGlobals "seat_of" = some (some (.ref f_seat_of)))
    (l_seat_of : K.lookup f_seat_of = some ⟨oc_seat_of, od_seat_of, .func (PySem.W.fnOf "seat_of" "seat_of" (defArgs s_seat_of) (defBody s_seat_of) (defScope s_seat_of) .none kV_seat_of dc_seat_of pm_seat_of an_seat_of cd_seat_of ct_seat_of), sl_seat_of⟩)
    (c_seat_of : PySem.W.codeIn K cd_seat_of "seat_of" = true) (k_seat_of : PySem.W.keepIn K (.ref f_seat_of) = true)
    (a_owes : PySem.W.nsIn K mainGlobals "owes" = some (some (.ref f_owes)))
    (l_owes : K.lookup f_owes = some ⟨oc_owes, od_owes, .func (PySem.W.fnOf "owes" "owes" (defArgs s_owes) (defBody s_owes) (defScope s_owes) .none kV_owes dc_owes pm_owes an_owes cd_owes ct_owes), sl_owes⟩)
    (c_owes : PySem.W.codeIn K cd_owes "owes" = true) (k_owes : PySem.W.keepIn K (.ref f_owes) = true)
    (a_may_be_given : PySem.W.nsIn K mainGlobals "may_be_given" = some (some (.ref f_may_be_given)))
    (l_may_be_given : K.lookup f_may_be_given = some ⟨oc_may_be_given, od_may_be_given, .func (PySem.W.fnOf "may_be_given" "may_be_given" (defArgs s_may_be_given) (defBody s_may_be_given) (defScope s_may_be_given) .none kV_may_be_given dc_may_be_given pm_may_be_given an_may_be_given cd_may_be_given ct_may_be_given), sl_may_be_given⟩)
    (c_may_be_given : PySem.W.codeIn K cd_may_be_given "may_be_given" = true) (k_may_be_given : PySem.W.keepIn K (.ref f_may_be_given) = true)
    (a_row_with_gift : PySem.W.nsIn K mainGlobals "row_with_gift" = some (some (.ref f_row_with_gift)))
    (l_row_with_gift : K.lookup f_row_with_gift = some ⟨oc_row_with_gift, od_row_with_gift, .func (PySem.W.fnOf "row_with_gift" "row_with_gift" (defArgs s_row_with_gift) (defBody s_row_with_gift) (defScope s_row_with_gift) .none kV_row_with_gift dc_row_with_gift pm_row_with_gift an_row_with_gift cd_row_with_gift ct_row_with_gift), sl_row_with_gift⟩)
    (c_row_with_gift : PySem.W.codeIn K cd_row_with_gift "row_with_gift" = true) (k_row_with_gift : PySem.W.keepIn K (.ref f_row_with_gift) = true)
    (a_with_gift : PySem.W.nsIn K mainGlobals "with_gift" = some (some (.ref f_with_gift)))
    (l_with_gift : K.lookup f_with_gift = some ⟨oc_with_gift, od_with_gift, .func (PySem.W.fnOf "with_gift" "with_gift" (defArgs s_with_gift) (defBody s_with_gift) (defScope s_with_gift) .none kV_with_gift dc_with_gift pm_with_gift an_with_gift cd_with_gift ct_with_gift), sl_with_gift⟩)
    (c_with_gift : PySem.W.codeIn K cd_with_gift "with_gift" = true) (k_with_gift : PySem.W.keepIn K (.ref f_with_gift) = true)
    (a_first_greatest : PySem.W.nsIn K mainGlobals "first_greatest" = some (some (.ref f_first_greatest)))
    (l_first_greatest : K.lookup f_first_greatest = some ⟨oc_first_greatest, od_first_greatest, .func (PySem.W.fnOf "first_greatest" "first_greatest" (defArgs s_first_greatest) (defBody s_first_greatest) (defScope s_first_greatest) .none kV_first_greatest dc_first_greatest pm_first_greatest an_first_greatest cd_first_greatest ct_first_greatest), sl_first_greatest⟩)
    (c_first_greatest : PySem.W.codeIn K cd_first_greatest "first_greatest" = true) (k_first_greatest : PySem.W.keepIn K (.ref f_first_greatest) = true)
    (a_first_least : PySem.W.nsIn K mainGlobals "first_least" = some (some (.ref f_first_least)))
    (l_first_least : K.lookup f_first_least = some ⟨oc_first_least, od_first_least, .func (PySem.W.fnOf "first_least" "first_least" (defArgs s_first_least) (defBody s_first_least) (defScope s_first_least) .none kV_first_least dc_first_least pm_first_least an_first_least cd_first_least ct_first_least), sl_first_least⟩)
    (c_first_least : PySem.W.codeIn K cd_first_least "first_least" = true) (k_first_least : PySem.W.keepIn K (.ref f_first_least) = true)
    (a_lesser : PySem.W.nsIn K mainGlobals "lesser" = some (some (.ref f_lesser)))
    (l_lesser : K.lookup f_lesser = some ⟨oc_lesser, od_lesser, .func (PySem.W.fnOf "lesser" "lesser" (defArgs s_lesser) (defBody s_lesser) (defScope s_lesser) .none kV_lesser dc_lesser pm_lesser an_lesser cd_lesser ct_lesser), sl_lesser⟩)
    (c_lesser : PySem.W.codeIn K cd_lesser "lesser" = true) (k_lesser : PySem.W.keepIn K (.ref f_lesser) = true)
    (a_above_average : PySem.W.nsIn K mainGlobals "above_average" = some (some (.ref f_above_average)))
    (l_above_average : K.lookup f_above_average = some ⟨oc_above_average, od_above_average, .func (PySem.W.fnOf "above_average" "above_average" (defArgs s_above_average) (defBody s_above_average) (defScope s_above_average) .none kV_above_average dc_above_average pm_above_average an_above_average cd_above_average ct_above_average), sl_above_average⟩)
    (c_above_average : PySem.W.codeIn K cd_above_average "above_average" = true) (k_above_average : PySem.W.keepIn K (.ref f_above_average) = true)
    (a_levelling : PySem.W.nsIn K mainGlobals "levelling" = some (some (.ref f_levelling)))
    (l_levelling : K.lookup f_levelling = some ⟨oc_levelling, od_levelling, .func (PySem.W.fnOf "levelling" "levelling" (defArgs s_levelling) (defBody s_levelling) (defScope s_levelling) .none kV_levelling dc_levelling pm_levelling an_levelling cd_levelling ct_levelling), sl_levelling⟩)
    (c_levelling : PySem.W.codeIn K cd_levelling "levelling" = true) (k_levelling : PySem.W.keepIn K (.ref f_levelling) = true)
    (a_levelled : PySem.W.nsIn K mainGlobals "levelled" = some (some (.ref f_levelled)))
    (l_levelled : K.lookup f_levelled = some ⟨oc_levelled, od_levelled, .func (PySem.W.fnOf "levelled" "levelled" (defArgs s_levelled) (defBody s_levelled) (defScope s_levelled) .none kV_levelled dc_levelled pm_levelled an_levelled cd_levelled ct_levelled), sl_levelled⟩)
    (c_levelled : PySem.W.codeIn K cd_levelled "levelled" = true) (k_levelled : PySem.W.keepIn K (.ref f_levelled) = true)
    (a_lpot : PySem.W.nsIn K mainGlobals "_law_pot" = some (some (.ref f_lpot)))
    (l_lpot : K.lookup f_lpot = some ⟨oc_lpot, od_lpot, .func (PySem.W.fnOf "_law_pot" "_law_pot" (defArgs s_lpot) (defBody s_lpot) (defScope s_lpot) .none kV_lpot dc_lpot pm_lpot an_lpot cd_lpot ct_lpot), sl_lpot⟩)
    (c_lpot : PySem.W.codeIn K cd_lpot "_law_pot" = true) (k_lpot : PySem.W.keepIn K (.ref f_lpot) = true)
    (a_ldigit : PySem.W.nsIn K mainGlobals "_law_digit" = some (some (.ref f_ldigit)))
    (l_ldigit : K.lookup f_ldigit = some ⟨oc_ldigit, od_ldigit, .func (PySem.W.fnOf "_law_digit" "_law_digit" (defArgs s_ldigit) (defBody s_ldigit) (defScope s_ldigit) .none kV_ldigit dc_ldigit pm_ldigit an_ldigit cd_ldigit ct_ldigit), sl_ldigit⟩)
    (c_ldigit : PySem.W.codeIn K cd_ldigit "_law_digit" = true) (k_ldigit : PySem.W.keepIn K (.ref f_ldigit) = true)
    (a_lname : PySem.W.nsIn K mainGlobals "_law_name" = some (some (.ref f_lname)))
    (l_lname : K.lookup f_lname = some ⟨oc_lname, od_lname, .func (PySem.W.fnOf "_law_name" "_law_name" (defArgs s_lname) (defBody s_lname) (defScope s_lname) .none kV_lname dc_lname pm_lname an_lname cd_lname ct_lname), sl_lname⟩)
    (c_lname : PySem.W.codeIn K cd_lname "_law_name" = true) (k_lname : PySem.W.keepIn K (.ref f_lname) = true)
    (a_lnames : PySem.W.nsIn K mainGlobals "_law_names" = some (some (.ref f_lnames)))
    (l_lnames : K.lookup f_lnames = some ⟨oc_lnames, od_lnames, .func (PySem.W.fnOf "_law_names" "_law_names" (defArgs s_lnames) (defBody s_lnames) (defScope s_lnames) .none kV_lnames dc_lnames pm_lnames an_lnames cd_lnames ct_lnames), sl_lnames⟩)
    (c_lnames : PySem.W.codeIn K cd_lnames "_law_names" = true) (k_lnames : PySem.W.keepIn K (.ref f_lnames) = true)
    (a_llow : PySem.W.nsIn K mainGlobals "_law_low" = some (some (.ref f_llow)))
    (l_llow : K.lookup f_llow = some ⟨oc_llow, od_llow, .func (PySem.W.fnOf "_law_low" "_law_low" (defArgs s_llow) (defBody s_llow) (defScope s_llow) .none kV_llow dc_llow pm_llow an_llow cd_llow ct_llow), sl_llow⟩)
    (c_llow : PySem.W.codeIn K cd_llow "_law_low" = true) (k_llow : PySem.W.keepIn K (.ref f_llow) = true)
    (a_lplus : PySem.W.nsIn K mainGlobals "_law_plus" = some (some (.ref f_lplus)))
    (l_lplus : K.lookup f_lplus = some ⟨oc_lplus, od_lplus, .func (PySem.W.fnOf "_law_plus" "_law_plus" (defArgs s_lplus) (defBody s_lplus) (defScope s_lplus) .none kV_lplus dc_lplus pm_lplus an_lplus cd_lplus ct_lplus), sl_lplus⟩)
    (c_lplus : PySem.W.codeIn K cd_lplus "_law_plus" = true) (k_lplus : PySem.W.keepIn K (.ref f_lplus) = true)
    (a_lless : PySem.W.nsIn K mainGlobals "_law_less" = some (some (.ref f_lless)))
    (l_lless : K.lookup f_lless = some ⟨oc_lless, od_lless, .func (PySem.W.fnOf "_law_less" "_law_less" (defArgs s_lless) (defBody s_lless) (defScope s_lless) .none kV_lless dc_lless pm_lless an_lless cd_lless ct_lless), sl_lless⟩)
    (c_lless : PySem.W.codeIn K cd_lless "_law_less" = true) (k_lless : PySem.W.keepIn K (.ref f_lless) = true)
    (a_lsum : PySem.W.nsIn K mainGlobals "_law_sum" = some (some (.ref f_lsum)))
    (l_lsum : K.lookup f_lsum = some ⟨oc_lsum, od_lsum, .func (PySem.W.fnOf "_law_sum" "_law_sum" (defArgs s_lsum) (defBody s_lsum) (defScope s_lsum) .none kV_lsum dc_lsum pm_lsum an_lsum cd_lsum ct_lsum), sl_lsum⟩)
    (c_lsum : PySem.W.codeIn K cd_lsum "_law_sum" = true) (k_lsum : PySem.W.keepIn K (.ref f_lsum) = true)
    (a_lfirst : PySem.W.nsIn K mainGlobals "_law_first" = some (some (.ref f_lfirst)))
    (l_lfirst : K.lookup f_lfirst = some ⟨oc_lfirst, od_lfirst, .func (PySem.W.fnOf "_law_first" "_law_first" (defArgs s_lfirst) (defBody s_lfirst) (defScope s_lfirst) .none kV_lfirst dc_lfirst pm_lfirst an_lfirst cd_lfirst ct_lfirst), sl_lfirst⟩)
    (c_lfirst : PySem.W.codeIn K cd_lfirst "_law_first" = true) (k_lfirst : PySem.W.keepIn K (.ref f_lfirst) = true)
    (a_lweight : PySem.W.nsIn K mainGlobals "_law_weight" = some (some (.ref f_lweight)))
    (l_lweight : K.lookup f_lweight = some ⟨oc_lweight, od_lweight, .func (PySem.W.fnOf "_law_weight" "_law_weight" (defArgs s_lweight) (defBody s_lweight) (defScope s_lweight) .none kV_lweight dc_lweight pm_lweight an_lweight cd_lweight ct_lweight), sl_lweight⟩)
    (c_lweight : PySem.W.codeIn K cd_lweight "_law_weight" = true) (k_lweight : PySem.W.keepIn K (.ref f_lweight) = true)
    (a_lrow : PySem.W.nsIn K mainGlobals "_law_row" = some (some (.ref f_lrow)))
    (l_lrow : K.lookup f_lrow = some ⟨oc_lrow, od_lrow, .func (PySem.W.fnOf "_law_row" "_law_row" (defArgs s_lrow) (defBody s_lrow) (defScope s_lrow) .none kV_lrow dc_lrow pm_lrow an_lrow cd_lrow ct_lrow), sl_lrow⟩)
    (c_lrow : PySem.W.codeIn K cd_lrow "_law_row" = true) (k_lrow : PySem.W.keepIn K (.ref f_lrow) = true)
    (a_lseated : PySem.W.nsIn K mainGlobals "_law_seated" = some (some (.ref f_lseated)))
    (l_lseated : K.lookup f_lseated = some ⟨oc_lseated, od_lseated, .func (PySem.W.fnOf "_law_seated" "_law_seated" (defArgs s_lseated) (defBody s_lseated) (defScope s_lseated) .none kV_lseated dc_lseated pm_lseated an_lseated cd_lseated ct_lseated), sl_lseated⟩)
    (c_lseated : PySem.W.codeIn K cd_lseated "_law_seated" = true) (k_lseated : PySem.W.keepIn K (.ref f_lseated) = true)
    (a_lminus : PySem.W.nsIn K mainGlobals "_law_minus" = some (some (.ref f_lminus)))
    (l_lminus : K.lookup f_lminus = some ⟨oc_lminus, od_lminus, .func (PySem.W.fnOf "_law_minus" "_law_minus" (defArgs s_lminus) (defBody s_lminus) (defScope s_lminus) .none kV_lminus dc_lminus pm_lminus an_lminus cd_lminus ct_lminus), sl_lminus⟩)
    (c_lminus : PySem.W.codeIn K cd_lminus "_law_minus" = true) (k_lminus : PySem.W.keepIn K (.ref f_lminus) = true)
    (a_laverage : PySem.W.nsIn K mainGlobals "_law_average" = some (some (.ref f_laverage)))
    (l_laverage : K.lookup f_laverage = some ⟨oc_laverage, od_laverage, .func (PySem.W.fnOf "_law_average" "_law_average" (defArgs s_laverage) (defBody s_laverage) (defScope s_laverage) .none kV_laverage dc_laverage pm_laverage an_laverage cd_laverage ct_laverage), sl_laverage⟩)
    (c_laverage : PySem.W.codeIn K cd_laverage "_law_average" = true) (k_laverage : PySem.W.keepIn K (.ref f_laverage) = true)
    (a_lplace : PySem.W.nsIn K mainGlobals "_law_place" = some (some (.ref f_lplace)))
    (l_lplace : K.lookup f_lplace = some ⟨oc_lplace, od_lplace, .func (PySem.W.fnOf "_law_place" "_law_place" (defArgs s_lplace) (defBody s_lplace) (defScope s_lplace) .none kV_lplace dc_lplace pm_lplace an_lplace cd_lplace ct_lplace), sl_lplace⟩)
    (c_lplace : PySem.W.codeIn K cd_lplace "_law_place" = true) (k_lplace : PySem.W.keepIn K (.ref f_lplace) = true)
    (a_ldue : PySem.W.nsIn K mainGlobals "_law_due" = some (some (.ref f_ldue)))
    (l_ldue : K.lookup f_ldue = some ⟨oc_ldue, od_ldue, .func (PySem.W.fnOf "_law_due" "_law_due" (defArgs s_ldue) (defBody s_ldue) (defScope s_ldue) .none kV_ldue dc_ldue pm_ldue an_ldue cd_ldue ct_ldue), sl_ldue⟩)
    (c_ldue : PySem.W.codeIn K cd_ldue "_law_due" = true) (k_ldue : PySem.W.keepIn K (.ref f_ldue) = true)
    (a_llevel : PySem.W.nsIn K mainGlobals "_law_level" = some (some (.ref f_llevel)))
    (l_llevel : K.lookup f_llevel = some ⟨oc_llevel, od_llevel, .func (PySem.W.fnOf "_law_level" "_law_level" (defArgs s_llevel) (defBody s_llevel) (defScope s_llevel) .none kV_llevel dc_llevel pm_llevel an_llevel cd_llevel ct_llevel), sl_llevel⟩)
    (c_llevel : PySem.W.codeIn K cd_llevel "_law_level" = true) (k_llevel : PySem.W.keepIn K (.ref f_llevel) = true)
    (a_lno_wider : PySem.W.nsIn K mainGlobals "_law_no_wider" = some (some (.ref f_lno_wider)))
    (l_lno_wider : K.lookup f_lno_wider = some ⟨oc_lno_wider, od_lno_wider, .func (PySem.W.fnOf "_law_no_wider" "_law_no_wider" (defArgs s_lno_wider) (defBody s_lno_wider) (defScope s_lno_wider) .none kV_lno_wider dc_lno_wider pm_lno_wider an_lno_wider cd_lno_wider ct_lno_wider), sl_lno_wider⟩)
    (c_lno_wider : PySem.W.codeIn K cd_lno_wider "_law_no_wider" = true) (k_lno_wider : PySem.W.keepIn K (.ref f_lno_wider) = true)
    (a_lright : PySem.W.nsIn K mainGlobals "_law_right" = some (some (.ref f_lright)))
    (l_lright : K.lookup f_lright = some ⟨oc_lright, od_lright, .func (PySem.W.fnOf "_law_right" "_law_right" (defArgs s_lright) (defBody s_lright) (defScope s_lright) .none kV_lright dc_lright pm_lright an_lright cd_lright ct_lright), sl_lright⟩)
    (c_lright : PySem.W.codeIn K cd_lright "_law_right" = true) (k_lright : PySem.W.keepIn K (.ref f_lright) = true)
    (a_law : PySem.W.nsIn K mainGlobals "law" = some (some (.ref f_law)))
    (l_law : K.lookup f_law = some ⟨oc_law, od_law, .func (PySem.W.fnOf "law" "law" (defArgs s_law) (defBody s_law) (defScope s_law) .none kV_law dc_law pm_law an_law cd_law ct_law), sl_law⟩)
    (c_law : PySem.W.codeIn K cd_law "law" = true) (k_law : PySem.W.keepIn K (.ref f_law) = true)
    (g_NOUGHT : PySem.W.nsIn K mainGlobals "NOUGHT" = some (some (.ref a_NOUGHT))) (t_NOUGHT : K.lookup a_NOUGHT = some ⟨.type "tuple", ao_NOUGHT, .seq #[.int 0 at0_NOUGHT, .int 1 at1_NOUGHT] an_NOUGHT, as_NOUGHT⟩)
    (g_EMPTY : PySem.W.nsIn K mainGlobals "EMPTY" = some (some (.str "" te_EMPTY)))
    (n_abs : PySem.W.nsIn K mainGlobals "abs" = some none)
    (n_all : PySem.W.nsIn K mainGlobals "all" = some none)
    (n_any : PySem.W.nsIn K mainGlobals "any" = some none)
    (n_bool : PySem.W.nsIn K mainGlobals "bool" = some none)
    (n_divmod : PySem.W.nsIn K mainGlobals "divmod" = some none)
    (n_enumerate : PySem.W.nsIn K mainGlobals "enumerate" = some none)
    (n_int : PySem.W.nsIn K mainGlobals "int" = some none)
    (n_isinstance : PySem.W.nsIn K mainGlobals "isinstance" = some none)
    (n_len : PySem.W.nsIn K mainGlobals "len" = some none)
    (n_list : PySem.W.nsIn K mainGlobals "list" = some none)
    (n_max : PySem.W.nsIn K mainGlobals "max" = some none)
    (n_min : PySem.W.nsIn K mainGlobals "min" = some none)
    (n_range : PySem.W.nsIn K mainGlobals "range" = some none)
    (n_repr : PySem.W.nsIn K mainGlobals "repr" = some none)
    (n_set : PySem.W.nsIn K mainGlobals "set" = some none)
    (n_sorted : PySem.W.nsIn K mainGlobals "sorted" = some none)
    (n_str : PySem.W.nsIn K mainGlobals "str" = some none)
    (n_tuple : PySem.W.nsIn K mainGlobals "tuple" = some none)
    (n_zip : PySem.W.nsIn K mainGlobals "zip" = some none)
    (t_tab0 : PySem.W.tabIn K "greatest_first" = some (c_tab0, P_tab0)) (u_tab0 : K.lookup P_tab0 = none) (v_tab0 : cd_greatest_first = .ref c_tab0)
    : ∃ (fd : FuncData) (Ts : List (Str × Addr × Addr)) (sp : Sp), (∀ t ∈ Ts, t.1 ∈ (["greatest_first"] : List Str) ∧ PySem.W.tabIn K t.1 = some t.2 ∧ K.lookup t.2.2 = none) ∧ (∀ (s : Shared) (v : Value), BindsTo s fd ⟨[v], []⟩ [("_law_script", v)]) ∧
        (∀ (H : Hp) (a : Addr) (ns : List Int), ns.length ≤ 63 → (∀ t ∈ Ts, H t.2.2 = some (.tbl #[])) → SqL K H a (ns.map V.int) → sp [.ref a] H (fun v _ => v = .bl true) fun _ _ _ => False) ∧
        ∀ base : Heap, K.In base → base.Ns mainGlobals mg → (∀ t ∈ Ts, LamX.TabB base mg t.2.1 t.2.2) → FnAt callerA l.prog w K mg base CX0 10 fa fd ["_law_script"] sp := by
  have e := hfa.symm.trans (PySem.W.mg_of X G a_law)
  cases e
  have F_is_whole := fun_mk (st := s_is_whole) l_is_whole c_is_whole k_is_whole
  have F_greatest_common := fun_mk (st := s_greatest_common) l_greatest_common c_greatest_common k_greatest_common
  have F_is_part := fun_mk (st := s_is_part) l_is_part c_is_part k_is_part
  have F_part : FunD K "part" "part" (defArgs s_part) (defBody s_part) (defScope s_part) [.int 1] [] f_part _ := ⟨⟨_, _, _, _, _, _, _, _, _, _, rfl, l_part, c_part, .inr ⟨by simp, dT_part, _, [.int 1 dt_part], _, rfl, q_part, rfl, .cons ⟨_, rfl⟩ .nil⟩, .inl rfl⟩, k_part⟩
  obtain ⟨ds_part2, vd_part2, b_part⟩ := F_part.binds1 (ps := ["above", "below"]) 2 1 (by simp) rfl (fun T kV doc pm an cdv ct us its h1 h2 => match us, its, h1, h2 with | [_, _], [_], _, _ => ⟨_, rfl, rfl⟩)
  cases vd_part2
  obtain ⟨ds_part1, vd_part1, b1_part⟩ := F_part.binds1 (ps := ["above", "below"]) 1 0 (by simp) rfl (fun T kV doc pm an cdv ct us its h1 h2 => match us, its, h1, h2 with | [_], [_], _, _ => ⟨_, rfl, rfl⟩)
  have F_plus := fun_mk (st := s_plus) l_plus c_plus k_plus
  have F_minus := fun_mk (st := s_minus) l_minus c_minus k_minus
  have F_shared := fun_mk (st := s_shared) l_shared c_shared k_shared
  have F_is_less := fun_mk (st := s_is_less) l_is_less c_is_less k_is_less
  have F_total : FunD K "total" "total" (defArgs s_total) (defBody s_total) (defScope s_total) [] [("start", .ref a_NOUGHT)] f_total _ := ⟨⟨_, _, _, _, _, _, _, _, _, _, rfl, l_total, c_total, .inl ⟨rfl, rfl⟩, .inr ⟨kD_total, rfl, fun q hq => by rw [List.mem_singleton.mp hq]; exact ⟨_, kd_total, rfl⟩⟩⟩, k_total⟩
  obtain ⟨v_total, vb_total, b_total⟩ := F_total.binds0 (ps := ["row", "start"]) 1 (by simp) rfl (fun D doc pm an cdv ct us ks h1 h2 => match us, ks, h1, h2 with | [_], [_], _, _ => ⟨_, _, _, _, _, _, rfl, rfl, rfl⟩)
  have F_common_below := fun_mk (st := s_common_below) l_common_below c_common_below k_common_below
  have F_greatest_first := fun_mk (st := s_greatest_first) l_greatest_first c_greatest_first k_greatest_first
  have F_sums_ahead := fun_mk (st := s_sums_ahead) l_sums_ahead c_sums_ahead k_sums_ahead
  have F_most := fun_mk (st := s_most) l_most c_most k_most
  have F_fall := fun_mk (st := s_fall) l_fall c_fall k_fall
  have F_is_within := fun_mk (st := s_is_within) l_is_within c_is_within k_is_within
  have F_is_name := fun_mk (st := s_is_name) l_is_name c_is_name k_is_name
  have F_is_weight := fun_mk (st := s_is_weight) l_is_weight c_is_weight k_is_weight
  have F_is_pair := fun_mk (st := s_is_pair) l_is_pair c_is_pair k_is_pair
  have F_is_seat := fun_mk (st := s_is_seat) l_is_seat c_is_seat k_is_seat
  have F_is_moment := fun_mk (st := s_is_moment) l_is_moment c_is_moment k_is_moment
  have F_owing := fun_mk (st := s_owing) l_owing c_owing k_owing
  have F_with_row := fun_mk (st := s_with_row) l_with_row c_with_row k_with_row
  have F_persons := fun_mk (st := s_persons) l_persons c_persons k_persons
  have F_sits := fun_mk (st := s_sits) l_sits c_sits k_sits
  have F_seat_of := fun_mk (st := s_seat_of) l_seat_of c_seat_of k_seat_of
  have F_owes := fun_mk (st := s_owes) l_owes c_owes k_owes
  have F_may_be_given := fun_mk (st := s_may_be_given) l_may_be_given c_may_be_given k_may_be_given
  have F_row_with_gift := fun_mk (st := s_row_with_gift) l_row_with_gift c_row_with_gift k_row_with_gift
  have F_with_gift := fun_mk (st := s_with_gift) l_with_gift c_with_gift k_with_gift
  have F_first_greatest := fun_mk (st := s_first_greatest) l_first_greatest c_first_greatest k_first_greatest
  have F_first_least := fun_mk (st := s_first_least) l_first_least c_first_least k_first_least
  have F_lesser := fun_mk (st := s_lesser) l_lesser c_lesser k_lesser
  have F_above_average := fun_mk (st := s_above_average) l_above_average c_above_average k_above_average
  have F_levelling := fun_mk (st := s_levelling) l_levelling c_levelling k_levelling
  have F_levelled := fun_mk (st := s_levelled) l_levelled c_levelled k_levelled
  have F_lpot := fun_mk (st := s_lpot) l_lpot c_lpot k_lpot
  have F_ldigit := fun_mk (st := s_ldigit) l_ldigit c_ldigit k_ldigit
  have F_lname := fun_mk (st := s_lname) l_lname c_lname k_lname
  have F_lnames := fun_mk (st := s_lnames) l_lnames c_lnames k_lnames
  have F_llow := fun_mk (st := s_llow) l_llow c_llow k_llow
  have F_lplus := fun_mk (st := s_lplus) l_lplus c_lplus k_lplus
  have F_lless := fun_mk (st := s_lless) l_lless c_lless k_lless
  have F_lsum := fun_mk (st := s_lsum) l_lsum c_lsum k_lsum
  have F_lfirst := fun_mk (st := s_lfirst) l_lfirst c_lfirst k_lfirst
  have F_lweight := fun_mk (st := s_lweight) l_lweight c_lweight k_lweight
  have F_lrow := fun_mk (st := s_lrow) l_lrow c_lrow k_lrow
  have F_lseated := fun_mk (st := s_lseated) l_lseated c_lseated k_lseated
  have F_lminus := fun_mk (st := s_lminus) l_lminus c_lminus k_lminus
  have F_laverage := fun_mk (st := s_laverage) l_laverage c_laverage k_laverage
  have F_lplace := fun_mk (st := s_lplace) l_lplace c_lplace k_lplace
  have F_ldue := fun_mk (st := s_ldue) l_ldue c_ldue k_ldue
  have F_llevel := fun_mk (st := s_llevel) l_llevel c_llevel k_llevel
  have F_lno_wider := fun_mk (st := s_lno_wider) l_lno_wider c_lno_wider k_lno_wider
  have F_lright := fun_mk (st := s_lright) l_lright c_lright k_lright
  have F_law := fun_mk (st := s_law) l_law c_law k_law
  refine ⟨_, [("greatest_first", c_tab0, P_tab0)], spLawTs K [(P_tab0, qLam)], ?_, fun s v => .of_eq rfl, fun H a ns hl hP hS => ⟨a, ns, rfl, hS, hl, ?_, fun _ => rfl⟩, fun base _ _ TB => ok_law (P := l.prog) (w := w) (base := base) ({
      f_is_whole := f_is_whole, d_is_whole := _, g_is_whole := PySem.W.mg_of X G a_is_whole, F_is_whole := F_is_whole, b_is_whole := F_is_whole.binds (ps := ["thing"]) (fun _ _ _ _ _ _ us hl => match us, hl with | [_], _ => rfl),
      f_greatest_common := f_greatest_common, d_greatest_common := _, g_greatest_common := PySem.W.mg_of X G a_greatest_common, F_greatest_common := F_greatest_common, b_greatest_common := F_greatest_common.binds (ps := ["one", "other"]) (fun _ _ _ _ _ _ us hl => match us, hl with | [_, _], _ => rfl),
      f_is_part := f_is_part, d_is_part := _, g_is_part := PySem.W.mg_of X G a_is_part, F_is_part := F_is_part, b_is_part := F_is_part.binds (ps := ["thing"]) (fun _ _ _ _ _ _ us hl => match us, hl with | [_], _ => rfl),
      f_part := f_part, d_part := _, g_part := PySem.W.mg_of X G a_part, F_part := F_part, b_part := b_part, v_part := ds_part1, vb_part := vd_part1, b1_part := b1_part,
      f_plus := f_plus, d_plus := _, g_plus := PySem.W.mg_of X G a_plus, F_plus := F_plus, b_plus := F_plus.binds (ps := ["one", "other"]) (fun _ _ _ _ _ _ us hl => match us, hl with | [_, _], _ => rfl),
      f_minus := f_minus, d_minus := _, g_minus := PySem.W.mg_of X G a_minus, F_minus := F_minus, b_minus := F_minus.binds (ps := ["one", "other"]) (fun _ _ _ _ _ _ us hl => match us, hl with | [_, _], _ => rfl),
      f_shared := f_shared, d_shared := _, g_shared := PySem.W.mg_of X G a_shared, F_shared := F_shared, b_shared := F_shared.binds (ps := ["one", "many"]) (fun _ _ _ _ _ _ us hl => match us, hl with | [_, _], _ => rfl),
      f_is_less := f_is_less, d_is_less := _, g_is_less := PySem.W.mg_of X G a_is_less, F_is_less := F_is_less, b_is_less := F_is_less.binds (ps := ["one", "other"]) (fun _ _ _ _ _ _ us hl => match us, hl with | [_, _], _ => rfl),
      f_total := f_total, d_total := _, g_total := PySem.W.mg_of X G a_total, a0 := a_NOUGHT, F_total := F_total, t0 := fun H => .inr ⟨_, _, _, t_NOUGHT, rfl, rfl, by show 2 ≤ sizeLine; decide, (.cons ⟨_, rfl⟩ (.cons ⟨_, rfl⟩ .nil))⟩, v_total := v_total, vb_total := vb_total, b_total := b_total, kb_total := ⟨(fun s us ws _ h1 h2 => match us, ws, h1, h2 with | [_], [_], _, _ => .of_eq rfl), (fun r1 r2 => r1.append r2)⟩,
      f_common_below := f_common_below, d_common_below := _, g_common_below := PySem.W.mg_of X G a_common_below, F_common_below := F_common_below, b_common_below := F_common_below.binds (ps := ["row"]) (fun _ _ _ _ _ _ us hl => match us, hl with | [_], _ => rfl),
      f_greatest_first := f_greatest_first, d_greatest_first := _, g_greatest_first := PySem.W.mg_of X G a_greatest_first, F_greatest_first := F_greatest_first, b_greatest_first := F_greatest_first.binds (ps := ["row"]) (fun _ _ _ _ _ _ us hl => match us, hl with | [_], _ => rfl),
      f_sums_ahead := f_sums_ahead, d_sums_ahead := _, g_sums_ahead := PySem.W.mg_of X G a_sums_ahead, F_sums_ahead := F_sums_ahead, b_sums_ahead := F_sums_ahead.binds (ps := ["row"]) (fun _ _ _ _ _ _ us hl => match us, hl with | [_], _ => rfl),
      f_most := f_most, d_most := _, g_most := PySem.W.mg_of X G a_most, F_most := F_most, b_most := F_most.binds (ps := ["weight", "seats", "many"]) (fun _ _ _ _ _ _ us hl => match us, hl with | [_, _, _], _ => rfl),
      f_fall := f_fall, d_fall := _, g_fall := PySem.W.mg_of X G a_fall, F_fall := F_fall, b_fall := F_fall.binds (ps := ["weight", "row"]) (fun _ _ _ _ _ _ us hl => match us, hl with | [_, _], _ => rfl),
      f_is_within := f_is_within, d_is_within := _, g_is_within := PySem.W.mg_of X G a_is_within, F_is_within := F_is_within, b_is_within := F_is_within.binds (ps := ["weight", "row"]) (fun _ _ _ _ _ _ us hl => match us, hl with | [_, _], _ => rfl),
      f_is_name := f_is_name, d_is_name := _, g_is_name := PySem.W.mg_of X G a_is_name, F_is_name := F_is_name, b_is_name := F_is_name.binds (ps := ["thing"]) (fun _ _ _ _ _ _ us hl => match us, hl with | [_], _ => rfl),
      f_is_weight := f_is_weight, d_is_weight := _, g_is_weight := PySem.W.mg_of X G a_is_weight, F_is_weight := F_is_weight, b_is_weight := F_is_weight.binds (ps := ["thing"]) (fun _ _ _ _ _ _ us hl => match us, hl with | [_], _ => rfl),
      f_is_pair := f_is_pair, d_is_pair := _, g_is_pair := PySem.W.mg_of X G a_is_pair, F_is_pair := F_is_pair, b_is_pair := F_is_pair.binds (ps := ["thing"]) (fun _ _ _ _ _ _ us hl => match us, hl with | [_], _ => rfl),
      f_is_seat := f_is_seat, d_is_seat := _, g_is_seat := PySem.W.mg_of X G a_is_seat, F_is_seat := F_is_seat, b_is_seat := F_is_seat.binds (ps := ["thing"]) (fun _ _ _ _ _ _ us hl => match us, hl with | [_], _ => rfl),
      f_is_moment := f_is_moment, d_is_moment := _, g_is_moment := PySem.W.mg_of X G a_is_moment, F_is_moment := F_is_moment, b_is_moment := F_is_moment.binds (ps := ["thing"]) (fun _ _ _ _ _ _ us hl => match us, hl with | [_], _ => rfl),
      f_owing := f_owing, d_owing := _, g_owing := PySem.W.mg_of X G a_owing, F_owing := F_owing, b_owing := F_owing.binds (ps := ["moment"]) (fun _ _ _ _ _ _ us hl => match us, hl with | [_], _ => rfl),
      f_with_row := f_with_row, d_with_row := _, g_with_row := PySem.W.mg_of X G a_with_row, F_with_row := F_with_row, b_with_row := F_with_row.binds (ps := ["moment", "row"]) (fun _ _ _ _ _ _ us hl => match us, hl with | [_, _], _ => rfl),
      f_persons := f_persons, d_persons := _, g_persons := PySem.W.mg_of X G a_persons, F_persons := F_persons, b_persons := F_persons.binds (ps := ["moment"]) (fun _ _ _ _ _ _ us hl => match us, hl with | [_], _ => rfl),
      f_sits := f_sits, d_sits := _, g_sits := PySem.W.mg_of X G a_sits, F_sits := F_sits, b_sits := F_sits.binds (ps := ["moment", "person"]) (fun _ _ _ _ _ _ us hl => match us, hl with | [_, _], _ => rfl),
      f_seat_of := f_seat_of, d_seat_of := _, g_seat_of := PySem.W.mg_of X G a_seat_of, F_seat_of := F_seat_of, b_seat_of := F_seat_of.binds (ps := ["moment", "person"]) (fun _ _ _ _ _ _ us hl => match us, hl with | [_, _], _ => rfl),
      f_owes := f_owes, d_owes := _, g_owes := PySem.W.mg_of X G a_owes, F_owes := F_owes, b_owes := F_owes.binds (ps := ["moment", "person"]) (fun _ _ _ _ _ _ us hl => match us, hl with | [_, _], _ => rfl),
      f_may_be_given := f_may_be_given, d_may_be_given := _, g_may_be_given := PySem.W.mg_of X G a_may_be_given, F_may_be_given := F_may_be_given, b_may_be_given := F_may_be_given.binds (ps := ["given", "difference"]) (fun _ _ _ _ _ _ us hl => match us, hl with | [_, _], _ => rfl),
      f_row_with_gift := f_row_with_gift, d_row_with_gift := _, g_row_with_gift := PySem.W.mg_of X G a_row_with_gift, F_row_with_gift := F_row_with_gift, b_row_with_gift := F_row_with_gift.binds (ps := ["row", "giver", "taker", "given"]) (fun _ _ _ _ _ _ us hl => match us, hl with | [_, _, _, _], _ => rfl),
      f_with_gift := f_with_gift, d_with_gift := _, g_with_gift := PySem.W.mg_of X G a_with_gift, F_with_gift := F_with_gift, b_with_gift := F_with_gift.binds (ps := ["moment", "one", "other", "part"]) (fun _ _ _ _ _ _ us hl => match us, hl with | [_, _, _, _], _ => rfl),
      f_first_greatest := f_first_greatest, d_first_greatest := _, g_first_greatest := PySem.W.mg_of X G a_first_greatest, F_first_greatest := F_first_greatest, b_first_greatest := F_first_greatest.binds (ps := ["row"]) (fun _ _ _ _ _ _ us hl => match us, hl with | [_], _ => rfl),
      f_first_least := f_first_least, d_first_least := _, g_first_least := PySem.W.mg_of X G a_first_least, F_first_least := F_first_least, b_first_least := F_first_least.binds (ps := ["row"]) (fun _ _ _ _ _ _ us hl => match us, hl with | [_], _ => rfl),
      f_lesser := f_lesser, d_lesser := _, g_lesser := PySem.W.mg_of X G a_lesser, F_lesser := F_lesser, b_lesser := F_lesser.binds (ps := ["one", "other"]) (fun _ _ _ _ _ _ us hl => match us, hl with | [_, _], _ => rfl),
      f_above_average := f_above_average, d_above_average := _, g_above_average := PySem.W.mg_of X G a_above_average, F_above_average := F_above_average, b_above_average := F_above_average.binds (ps := ["row"]) (fun _ _ _ _ _ _ us hl => match us, hl with | [_], _ => rfl),
      f_levelling := f_levelling, d_levelling := _, g_levelling := PySem.W.mg_of X G a_levelling, F_levelling := F_levelling, b_levelling := F_levelling.binds (ps := ["moment"]) (fun _ _ _ _ _ _ us hl => match us, hl with | [_], _ => rfl),
      f_levelled := f_levelled, d_levelled := _, g_levelled := PySem.W.mg_of X G a_levelled, F_levelled := F_levelled, b_levelled := F_levelled.binds (ps := ["moment"]) (fun _ _ _ _ _ _ us hl => match us, hl with | [_], _ => rfl),
      f_lpot := f_lpot, d_lpot := _, g_lpot := PySem.W.mg_of X G a_lpot, F_lpot := F_lpot, b_lpot := F_lpot.binds (ps := ["_law_script", "_law_k"]) (fun _ _ _ _ _ _ us hl => match us, hl with | [_, _], _ => rfl),
      f_ldigit := f_ldigit, d_ldigit := _, g_ldigit := PySem.W.mg_of X G a_ldigit, F_ldigit := F_ldigit, b_ldigit := F_ldigit.binds (ps := ["_law_pot_here", "_law_many"]) (fun _ _ _ _ _ _ us hl => match us, hl with | [_, _], _ => rfl),
      f_lname := f_lname, d_lname := _, g_lname := PySem.W.mg_of X G a_lname, F_lname := F_lname, b_lname := F_lname.binds (ps := ["_law_pot_here", "_law_used"]) (fun _ _ _ _ _ _ us hl => match us, hl with | [_, _], _ => rfl),
      f_lnames := f_lnames, d_lnames := _, g_lnames := PySem.W.mg_of X G a_lnames, F_lnames := F_lnames, b_lnames := F_lnames.binds (ps := ["_law_pot_here", "_law_many"]) (fun _ _ _ _ _ _ us hl => match us, hl with | [_, _], _ => rfl),
      f_llow := f_llow, d_llow := _, g_llow := PySem.W.mg_of X G a_llow, F_llow := F_llow, b_llow := F_llow.binds (ps := ["_law_above", "_law_below"]) (fun _ _ _ _ _ _ us hl => match us, hl with | [_, _], _ => rfl),
      f_lplus := f_lplus, d_lplus := _, g_lplus := PySem.W.mg_of X G a_lplus, F_lplus := F_lplus, b_lplus := F_lplus.binds (ps := ["_law_one", "_law_other"]) (fun _ _ _ _ _ _ us hl => match us, hl with | [_, _], _ => rfl),
      f_lless := f_lless, d_lless := _, g_lless := PySem.W.mg_of X G a_lless, F_lless := F_lless, b_lless := F_lless.binds (ps := ["_law_one", "_law_other"]) (fun _ _ _ _ _ _ us hl => match us, hl with | [_, _], _ => rfl),
      f_lsum := f_lsum, d_lsum := _, g_lsum := PySem.W.mg_of X G a_lsum, F_lsum := F_lsum, b_lsum := F_lsum.binds (ps := ["_law_parts"]) (fun _ _ _ _ _ _ us hl => match us, hl with | [_], _ => rfl),
      f_lfirst := f_lfirst, d_lfirst := _, g_lfirst := PySem.W.mg_of X G a_lfirst, F_lfirst := F_lfirst, b_lfirst := F_lfirst.binds (ps := ["_law_row_here"]) (fun _ _ _ _ _ _ us hl => match us, hl with | [_], _ => rfl),
      f_lweight := f_lweight, d_lweight := _, g_lweight := PySem.W.mg_of X G a_lweight, F_lweight := F_lweight, b_lweight := F_lweight.binds (ps := ["_law_row_here"]) (fun _ _ _ _ _ _ us hl => match us, hl with | [_], _ => rfl),
      f_lrow := f_lrow, d_lrow := _, g_lrow := PySem.W.mg_of X G a_lrow, F_lrow := F_lrow, b_lrow := F_lrow.binds (ps := ["_law_pot_here", "_law_many"]) (fun _ _ _ _ _ _ us hl => match us, hl with | [_, _], _ => rfl),
      f_lseated := f_lseated, d_lseated := _, g_lseated := PySem.W.mg_of X G a_lseated, F_lseated := F_lseated, b_lseated := F_lseated.binds (ps := ["_law_pot_here", "_law_names_here"]) (fun _ _ _ _ _ _ us hl => match us, hl with | [_, _], _ => rfl),
      f_lminus := f_lminus, d_lminus := _, g_lminus := PySem.W.mg_of X G a_lminus, F_lminus := F_lminus, b_lminus := F_lminus.binds (ps := ["_law_one", "_law_other"]) (fun _ _ _ _ _ _ us hl => match us, hl with | [_, _], _ => rfl),
      f_laverage := f_laverage, d_laverage := _, g_laverage := PySem.W.mg_of X G a_laverage, F_laverage := F_laverage, b_laverage := F_laverage.binds (ps := ["_law_seats"]) (fun _ _ _ _ _ _ us hl => match us, hl with | [_], _ => rfl),
      f_lplace := f_lplace, d_lplace := _, g_lplace := PySem.W.mg_of X G a_lplace, F_lplace := F_lplace, b_lplace := F_lplace.binds (ps := ["_law_row_here", "_law_turned"]) (fun _ _ _ _ _ _ us hl => match us, hl with | [_, _], _ => rfl),
      f_ldue := f_ldue, d_ldue := _, g_ldue := PySem.W.mg_of X G a_ldue, F_ldue := F_ldue, b_ldue := F_ldue.binds (ps := ["_law_seats"]) (fun _ _ _ _ _ _ us hl => match us, hl with | [_], _ => rfl),
      f_llevel := f_llevel, d_llevel := _, g_llevel := PySem.W.mg_of X G a_llevel, F_llevel := F_llevel, b_llevel := F_llevel.binds (ps := ["_law_moment"]) (fun _ _ _ _ _ _ us hl => match us, hl with | [_], _ => rfl),
      f_lno_wider := f_lno_wider, d_lno_wider := _, g_lno_wider := PySem.W.mg_of X G a_lno_wider, F_lno_wider := F_lno_wider, b_lno_wider := F_lno_wider.binds (ps := ["_law_before", "_law_after"]) (fun _ _ _ _ _ _ us hl => match us, hl with | [_, _], _ => rfl),
      f_lright := f_lright, d_lright := _, g_lright := PySem.W.mg_of X G a_lright, F_lright := F_lright, b_lright := F_lright.binds (ps := ["_law_moment"]) (fun _ _ _ _ _ _ us hl => match us, hl with | [_], _ => rfl),
      f_law := _, d_law := _, g_law := PySem.W.mg_of X G a_law, F_law := F_law, b_law := F_law.binds (ps := ["_law_script"]) (fun _ _ _ _ _ _ us hl => match us, hl with | [_], _ => rfl),
      a_NOUGHT := a_NOUGHT, g_NOUGHT := PySem.W.mg_of X G g_NOUGHT, t_NOUGHT := fun H => .inr ⟨_, _, _, t_NOUGHT, rfl, rfl, by show 2 ≤ sizeLine; decide, (.cons ⟨_, rfl⟩ (.cons ⟨_, rfl⟩ .nil))⟩,
      v_EMPTY := _, g_EMPTY := PySem.W.mg_of X G g_EMPTY, r_EMPTY := ⟨_, rfl⟩,
      n_abs := PySem.W.mg_none_of X G n_abs,
      n_all := PySem.W.mg_none_of X G n_all,
      n_any := PySem.W.mg_none_of X G n_any,
      n_bool := PySem.W.mg_none_of X G n_bool,
      n_divmod := PySem.W.mg_none_of X G n_divmod,
      n_enumerate := PySem.W.mg_none_of X G n_enumerate,
      n_int := PySem.W.mg_none_of X G n_int,
      n_isinstance := PySem.W.mg_none_of X G n_isinstance,
      n_len := PySem.W.mg_none_of X G n_len,
      n_list := PySem.W.mg_none_of X G n_list,
      n_max := PySem.W.mg_none_of X G n_max,
      n_min := PySem.W.mg_none_of X G n_min,
      n_range := PySem.W.mg_none_of X G n_range,
      n_repr := PySem.W.mg_none_of X G n_repr,
      n_set := PySem.W.mg_none_of X G n_set,
      n_sorted := PySem.W.mg_none_of X G n_sorted,
      n_str := PySem.W.mg_none_of X G n_str,
      n_tuple := PySem.W.mg_none_of X G n_tuple,
      n_zip := PySem.W.mg_none_of X G n_zip,
      c_tab0 := c_tab0, P_tab0 := P_tab0, hc_tab0 := v_tab0, tb0 := TB ("greatest_first", c_tab0, P_tab0) List.mem_cons_self } : Tx K mg base) rfl⟩
  · intro t ht
    simp only [List.mem_cons, List.not_mem_nil, or_false] at ht
    rcases ht with rfl
    · exact ⟨by simp, t_tab0, u_tab0⟩
  · intro t ht
    simp only [List.mem_cons, List.not_mem_nil, or_false] at ht
    rcases ht with rfl
    · exact LamX.TabS.nil (hP _ List.mem_cons_self)
end WS
open PySem PySem.W PyProof.Rows
set_option maxHeartbeats 0 in
theorem PySem.Challenge.cw_whoserves_k45_whole_levelled_by_fewer_gi_holds : PySem.Challenge.rw_whoserves_k45_whole_levelled_by_fewer_gi.Holds := by
  w_on; o_law; k_head; (case hw => w_witness2)
  k_fill
  refine WS.walk_Ts (l := PySem.Challenge.rw_whoserves_k45_whole_levelled_by_fewer_gi) (n := 63) (k := 10) (x := "_law_script") ["greatest_first"] rfl (by decide) rfl ⟨rfl, by decide, by decide⟩ (by intro g hg; simp only [List.mem_cons, List.not_mem_nil, or_false] at hg; rcases hg with rfl <;> exact ⟨_, rfl⟩) (fun w h Y => PySem.W.km_in_of Y) ?F
  case F =>
    intro w mg fa h KX G hmg
    refine' WS.all_mk KX G hmg ?a_is_whole ?l_is_whole ?c_is_whole ?k_is_whole ?a_greatest_common ?l_greatest_common ?c_greatest_common ?k_greatest_common ?a_is_part ?l_is_part ?c_is_part ?k_is_part ?a_part ?l_part ?c_part ?k_part ?q_part ?a_plus ?l_plus ?c_plus ?k_plus ?a_minus ?l_minus ?c_minus ?k_minus ?a_shared ?l_shared ?c_shared ?k_shared ?a_is_less ?l_is_less ?c_is_less ?k_is_less ?a_total ?l_total ?c_total ?k_total ?kd_total ?a_common_below ?l_common_below ?c_common_below ?k_common_below ?a_greatest_first ?l_greatest_first ?c_greatest_first ?k_greatest_first ?a_sums_ahead ?l_sums_ahead ?c_sums_ahead ?k_sums_ahead ?a_most ?l_most ?c_most ?k_most ?a_fall ?l_fall ?c_fall ?k_fall ?a_is_within ?l_is_within ?c_is_within ?k_is_within ?a_is_name ?l_is_name ?c_is_name ?k_is_name ?a_is_weight ?l_is_weight ?c_is_weight ?k_is_weight ?a_is_pair ?l_is_pair ?c_is_pair ?k_is_pair ?a_is_seat ?l_is_seat ?c_is_seat ?k_is_seat ?a_is_moment ?l_is_moment ?c_is_moment ?k_is_moment ?a_owing ?l_owing ?c_owing ?k_owing ?a_with_row ?l_with_row ?c_with_row ?k_with_row ?a_persons ?l_persons ?c_persons ?k_persons ?a_sits ?l_sits ?c_sits ?k_sits ?a_seat_of ?l_seat_of ?c_seat_of ?k_seat_of ?a_owes ?l_owes ?c_owes ?k_owes ?a_may_be_given ?l_may_be_given ?c_may_be_given ?k_may_be_given ?a_row_with_gift ?l_row_with_gift ?c_row_with_gift ?k_row_with_gift ?a_with_gift ?l_with_gift ?c_with_gift ?k_with_gift ?a_first_greatest ?l_first_greatest ?c_first_greatest ?k_first_greatest ?a_first_least ?l_first_least ?c_first_least ?k_first_least ?a_lesser ?l_lesser ?c_lesser ?k_lesser ?a_above_average ?l_above_average ?c_above_average ?k_above_average ?a_levelling ?l_levelling ?c_levelling ?k_levelling ?a_levelled ?l_levelled ?c_levelled ?k_levelled ?a_lpot ?l_lpot ?c_lpot ?k_lpot ?a_ldigit ?l_ldigit ?c_ldigit ?k_ldigit ?a_lname ?l_lname ?c_lname ?k_lname ?a_lnames ?l_lnames ?c_lnames ?k_lnames ?a_llow ?l_llow ?c_llow ?k_llow ?a_lplus ?l_lplus ?c_lplus ?k_lplus ?a_lless ?l_lless ?c_lless ?k_lless ?a_lsum ?l_lsum ?c_lsum ?k_lsum ?a_lfirst ?l_lfirst ?c_lfirst ?k_lfirst ?a_lweight ?l_lweight ?c_lweight ?k_lweight ?a_lrow ?l_lrow ?c_lrow ?k_lrow ?a_lseated ?l_lseated ?c_lseated ?k_lseated ?a_lminus ?l_lminus ?c_lminus ?k_lminus ?a_laverage ?l_laverage ?c_laverage ?k_laverage ?a_lplace ?l_lplace ?c_lplace ?k_lplace ?a_ldue ?l_ldue ?c_ldue ?k_ldue ?a_llevel ?l_llevel ?c_llevel ?k_llevel ?a_lno_wider ?l_lno_wider ?c_lno_wider ?k_lno_wider ?a_lright ?l_lright ?c_lright ?k_lright ?a_law ?l_law ?c_law ?k_law ?g_NOUGHT ?t_NOUGHT ?g_EMPTY ?n_abs ?n_all ?n_any ?n_bool ?n_divmod ?n_enumerate ?n_int ?n_isinstance ?n_len ?n_list ?n_max ?n_min ?n_range ?n_repr ?n_set ?n_sorted ?n_str ?n_tuple ?n_zip ?t_tab0 ?u_tab0 ?v_tab0
    (case a_is_whole => k_is)
    (case l_is_whole => k_is)
    (case c_is_whole => k_is)
    (case k_is_whole => k_is)
    (case a_greatest_common => k_is)
    (case l_greatest_common => k_is)
    (case c_greatest_common => k_is)
    (case k_greatest_common => k_is)
    (case a_is_part => k_is)
    (case l_is_part => k_is)
    (case c_is_part => k_is)
    (case k_is_part => k_is)
    (case a_part => k_is)
    (case l_part => k_is)
    (case c_part => k_is)
    (case k_part => k_is)
    (case q_part => k_is)
    (case a_plus => k_is)
    (case l_plus => k_is)
    (case c_plus => k_is)
    (case k_plus => k_is)
    (case a_minus => k_is)
    (case l_minus => k_is)
    (case c_minus => k_is)
    (case k_minus => k_is)
    (case a_shared => k_is)
    (case l_shared => k_is)
    (case c_shared => k_is)
    (case k_shared => k_is)
    (case a_is_less => k_is)
    (case l_is_less => k_is)
    (case c_is_less => k_is)
    (case k_is_less => k_is)
    (case a_total => k_is)
    (case l_total => k_is)
    (case c_total => k_is)
    (case k_total => k_is)
    (case kd_total => k_is)
    (case a_common_below => k_is)
    (case l_common_below => k_is)
    (case c_common_below => k_is)
    (case k_common_below => k_is)
    (case a_greatest_first => k_is)
    (case l_greatest_first => k_is)
    (case c_greatest_first => k_is)
    (case k_greatest_first => k_is)
    (case a_sums_ahead => k_is)
    (case l_sums_ahead => k_is)
    (case c_sums_ahead => k_is)
    (case k_sums_ahead => k_is)
    (case a_most => k_is)
    (case l_most => k_is)
    (case c_most => k_is)
    (case k_most => k_is)
    (case a_fall => k_is)
    (case l_fall => k_is)
    (case c_fall => k_is)
    (case k_fall => k_is)
    (case a_is_within => k_is)
    (case l_is_within => k_is)
    (case c_is_within => k_is)
    (case k_is_within => k_is)
    (case a_is_name => k_is)
    (case l_is_name => k_is)
    (case c_is_name => k_is)
    (case k_is_name => k_is)
    (case a_is_weight => k_is)
    (case l_is_weight => k_is)
    (case c_is_weight => k_is)
    (case k_is_weight => k_is)
    (case a_is_pair => k_is)
    (case l_is_pair => k_is)
    (case c_is_pair => k_is)
    (case k_is_pair => k_is)
    (case a_is_seat => k_is)
    (case l_is_seat => k_is)
    (case c_is_seat => k_is)
    (case k_is_seat => k_is)
    (case a_is_moment => k_is)
    (case l_is_moment => k_is)
    (case c_is_moment => k_is)
    (case k_is_moment => k_is)
    (case a_owing => k_is)
    (case l_owing => k_is)
    (case c_owing => k_is)
    (case k_owing => k_is)
    (case a_with_row => k_is)
    (case l_with_row => k_is)
    (case c_with_row => k_is)
    (case k_with_row => k_is)
    (case a_persons => k_is)
    (case l_persons => k_is)
    (case c_persons => k_is)
    (case k_persons => k_is)
    (case a_sits => k_is)
    (case l_sits => k_is)
    (case c_sits => k_is)
    (case k_sits => k_is)
    (case a_seat_of => k_is)
    (case l_seat_of => k_is)
    (case c_seat_of => k_is)
    (case k_seat_of => k_is)
    (case a_owes => k_is)
    (case l_owes => k_is)
    (case c_owes => k_is)
    (case k_owes => k_is)
    (case a_may_be_given => k_is)
    (case l_may_be_given => k_is)
    (case c_may_be_given => k_is)
    (case k_may_be_given => k_is)
    (case a_row_with_gift => k_is)
    (case l_row_with_gift => k_is)
    (case c_row_with_gift => k_is)
    (case k_row_with_gift => k_is)
    (case a_with_gift => k_is)
    (case l_with_gift => k_is)
    (case c_with_gift => k_is)
    (case k_with_gift => k_is)
    (case a_first_greatest => k_is)
    (case l_first_greatest => k_is)
    (case c_first_greatest => k_is)
    (case k_first_greatest => k_is)
    (case a_first_least => k_is)
    (case l_first_least => k_is)
    (case c_first_least => k_is)
    (case k_first_least => k_is)
    (case a_lesser => k_is)
    (case l_lesser => k_is)
    (case c_lesser => k_is)
    (case k_lesser => k_is)
    (case a_above_average => k_is)
    (case l_above_average => k_is)
    (case c_above_average => k_is)
    (case k_above_average => k_is)
    (case a_levelling => k_is)
    (case l_levelling => k_is)
    (case c_levelling => k_is)
    (case k_levelling => k_is)
    (case a_levelled => k_is)
    (case l_levelled => k_is)
    (case c_levelled => k_is)
    (case k_levelled => k_is)
    (case a_lpot => k_is)
    (case l_lpot => k_is)
    (case c_lpot => k_is)
    (case k_lpot => k_is)
    (case a_ldigit => k_is)
    (case l_ldigit => k_is)
    (case c_ldigit => k_is)
    (case k_ldigit => k_is)
    (case a_lname => k_is)
    (case l_lname => k_is)
    (case c_lname => k_is)
    (case k_lname => k_is)
    (case a_lnames => k_is)
    (case l_lnames => k_is)
    (case c_lnames => k_is)
    (case k_lnames => k_is)
    (case a_llow => k_is)
    (case l_llow => k_is)
    (case c_llow => k_is)
    (case k_llow => k_is)
    (case a_lplus => k_is)
    (case l_lplus => k_is)
    (case c_lplus => k_is)
    (case k_lplus => k_is)
    (case a_lless => k_is)
    (case l_lless => k_is)
    (case c_lless => k_is)
    (case k_lless => k_is)
    (case a_lsum => k_is)
    (case l_lsum => k_is)
    (case c_lsum => k_is)
    (case k_lsum => k_is)
    (case a_lfirst => k_is)
    (case l_lfirst => k_is)
    (case c_lfirst => k_is)
    (case k_lfirst => k_is)
    (case a_lweight => k_is)
    (case l_lweight => k_is)
    (case c_lweight => k_is)
    (case k_lweight => k_is)
    (case a_lrow => k_is)
    (case l_lrow => k_is)
    (case c_lrow => k_is)
    (case k_lrow => k_is)
    (case a_lseated => k_is)
    (case l_lseated => k_is)
    (case c_lseated => k_is)
    (case k_lseated => k_is)
    (case a_lminus => k_is)
    (case l_lminus => k_is)
    (case c_lminus => k_is)
    (case k_lminus => k_is)
    (case a_laverage => k_is)
    (case l_laverage => k_is)
    (case c_laverage => k_is)
    (case k_laverage => k_is)
    (case a_lplace => k_is)
    (case l_lplace => k_is)
    (case c_lplace => k_is)
    (case k_lplace => k_is)
    (case a_ldue => k_is)
    (case l_ldue => k_is)
    (case c_ldue => k_is)
    (case k_ldue => k_is)
    (case a_llevel => k_is)
    (case l_llevel => k_is)
    (case c_llevel => k_is)
    (case k_llevel => k_is)
    (case a_lno_wider => k_is)
    (case l_lno_wider => k_is)
    (case c_lno_wider => k_is)
    (case k_lno_wider => k_is)
    (case a_lright => k_is)
    (case l_lright => k_is)
    (case c_lright => k_is)
    (case k_lright => k_is)
    (case a_law => k_is)
    (case l_law => k_is)
    (case c_law => k_is)
    (case k_law => k_is)
    (case g_NOUGHT => k_is)
    (case t_NOUGHT => k_is)
    (case g_EMPTY => k_is)
    (case n_abs => k_is)
    (case n_all => k_is)
    (case n_any => k_is)
    (case n_bool => k_is)
    (case n_divmod => k_is)
    (case n_enumerate => k_is)
    (case n_int => k_is)
    (case n_isinstance => k_is)
    (case n_len => k_is)
    (case n_list => k_is)
    (case n_max => k_is)
    (case n_min => k_is)
    (case n_range => k_is)
    (case n_repr => k_is)
    (case n_set => k_is)
    (case n_sorted => k_is)
    (case n_str => k_is)
    (case n_tuple => k_is)
    (case n_zip => k_is)
    (case t_tab0 => first | k_is | rfl)
    (case u_tab0 => first | k_is | rfl)
    (case v_tab0 => first | k_is | rfl)
