import PyProof.Rows.All
import Wide.All
import OpenK.AllK
import Wide.FinOn
import KE.KDictZip
import KE.GoesZip
import KE.GoesMore
import KE.GoesEnum
import PyProof.TupleOfGen
import HandS.Base
import HandS.ForMost
import HandS.ForExc
import HandS.Wide
import HandS.WideBits
import HandS.Defaults
import HandS.IsInst
import HandS.TryOnly
import HandS.ExcIs
import HandS.Codes
import PyProof.ReprRoads
import HandS.FStrTup
import HandS.Sort
import HandS.Conv
import HandS.SortKw
import HandS.Lambda
import HandS.EndTab
import HandS.ExcValue
import KE.SortKeyHeap
import HandS.Walk
import HandS.Style
import HandS.SortInts
import HandS.TupAny
import PyProof.StrLawsRepr
import HandS.Zip
import KE.GoesEnumKw
import HandS.HotCalls
import HandS.ExcCtx
import PyProof.Rows.StrOr
import KE.KIntText
import HandS.FStr
import HandS.Text
import HandS.More
import KE.DataMinMax
import KE.DataFind
import HandS.SetFor
import PyProof.Claim2Refuses
import HandS.Strs
import HandS.Dict
import KE.KDictPairs
import HandS.DictComp
import KE.SortData
import PyProof.Transfer
import HandS.ExcInit
import HandS.ExcField
import HandS.ExcInitHot
import KE.KExcIs
import PyProof.StrOps2
import PyProof.EqKinds
import KE.KEqDict
import HandS.Flt
import HandS.TupMul
import HandS.SetBool
import HandS.Star
import HandS.NamedTupGet
import HandS.DeepEq
import PySem.Challenge.RW_whoserves_k10_refusals_by_themselves
set_option Elab.async false
set_option linter.all false
set_option maxRecDepth 100000
set_option maxHeartbeats 4000000
namespace WS
open PySem PySem.Spec PyProof.Rows L2
/-! list(zip(a, b)), tuple(zip(a, b)): each of both a list or a tuple -/
structure ZlG (P1 P2 : Nat → Value → Prop) (lo : Addr) (h : Heap) (as : List Addr) : Prop where
  rise : as.Pairwise (· < ·)
  above : ∀ a ∈ as, lo < a
  pairs : ∀ (j : Nat) (a : Addr), as[j]? = some a → ∃ x y, P1 j x ∧ P2 j y ∧ IsTupOf2 h a x y
theorem ZlG.there {P1 P2 : Nat → Value → Prop} {lo : Addr} {h : Heap} {as : List Addr} (g : ZlG P1 P2 lo h as) {a : Addr} (ha : a ∈ as) : a < h.objs.size := by
  obtain ⟨j, hj⟩ := List.mem_iff_getElem?.mp ha
  obtain ⟨_, _, _, _, e⟩ := g.pairs j a hj
  exact Heap.lt_size e
end WS
namespace WS
/-! lowest terms -/
def lo (a b : Int) : Int × Int := (a / (Int.gcd a b : Int), b / (Int.gcd a b : Int))
def Lowest (a b : Int) : Prop := 0 < b ∧ Int.gcd a b = 1
theorem gcd_pos {a b : Int} (h : b ≠ 0) : 0 < Int.gcd a b := by
  have := (Int.gcd_pos_iff (a := a) (b := b)).mpr (Or.inr h)
  exact this
theorem lo_fst (a b : Int) : (lo a b).1 * (Int.gcd a b : Int) = a := Int.ediv_mul_cancel (Int.gcd_dvd_left a b)
theorem lo_snd (a b : Int) : (lo a b).2 * (Int.gcd a b : Int) = b := Int.ediv_mul_cancel (Int.gcd_dvd_right a b)
theorem lo_lowest {a b : Int} (h : 0 < b) : Lowest (lo a b).1 (lo a b).2 := by
  have g : 0 < Int.gcd a b := gcd_pos (by omega)
  refine ⟨?_, Int.gcd_ediv_gcd_ediv_gcd g⟩
  have e := lo_snd a b
  apply Decidable.byContradiction
  intro n
  have : (lo a b).2 * (Int.gcd a b : Int) ≤ 0 := Int.mul_nonpos_of_nonpos_of_nonneg (by omega) (by omega)
  omega
theorem lo_cross (a b : Int) : (lo a b).1 * b = a * (lo a b).2 := by
  have e1 := lo_fst a b
  have e2 := lo_snd a b
  have h1 : (lo a b).1 * b = (lo a b).1 * ((lo a b).2 * (Int.gcd a b : Int)) := by rw [e2]
  have h2 : a * (lo a b).2 = ((lo a b).1 * (Int.gcd a b : Int)) * (lo a b).2 := by rw [e1]
  rw [h1, h2]
  simp only [Int.mul_assoc, Int.mul_comm, Int.mul_left_comm]
theorem dvd_cop {a b y : Int} (hg : Int.gcd a b = 1) (h : b ∣ a * y) : b ∣ y := by
  have h1 : b.natAbs ∣ a.natAbs * y.natAbs := by
    rw [← Int.natAbs_mul]
    exact Int.natAbs_dvd_natAbs.mpr h
  have c : Nat.Coprime b.natAbs a.natAbs := by
    have : Nat.gcd a.natAbs b.natAbs = 1 := hg
    exact (Nat.gcd_comm _ _).trans this
  exact Int.natAbs_dvd_natAbs.mp (c.dvd_of_dvd_mul_left h1)
theorem lowest_unique {a b x y : Int} (h : Lowest a b) (k : Lowest x y) (e : x * b = a * y) : x = a ∧ y = b := by
  have d1 : b ∣ y := dvd_cop h.2 (by rw [← e]; exact Int.dvd_mul_left _ _)
  have d2 : y ∣ b := dvd_cop k.2 (by rw [e]; exact Int.dvd_mul_left _ _)
  have hb := h.1
  have hy := k.1
  have l1 : b ≤ y := Int.le_of_dvd hy d1
  have l2 : y ≤ b := Int.le_of_dvd hb d2
  have ey : y = b := by omega
  refine ⟨?_, ey⟩
  rw [ey] at e
  exact Int.eq_of_mul_eq_mul_right (by omega) e
theorem lo_eq {a b x y : Int} (h : Lowest a b) (hy : 0 < y) (e : x * b = a * y) : lo x y = (a, b) := by
  have k := lo_lowest (a := x) hy
  have c := lo_cross x y
  have g : (lo x y).1 * b = a * (lo x y).2 := by
    have : ((lo x y).1 * b) * y = (a * (lo x y).2) * y := by
      calc ((lo x y).1 * b) * y = ((lo x y).1 * y) * b := by simp only [Int.mul_assoc, Int.mul_comm, Int.mul_left_comm]
        _ = (x * (lo x y).2) * b := by rw [c]
        _ = (x * b) * (lo x y).2 := by simp only [Int.mul_assoc, Int.mul_comm, Int.mul_left_comm]
        _ = (a * y) * (lo x y).2 := by rw [e]
        _ = (a * (lo x y).2) * y := by simp only [Int.mul_assoc, Int.mul_comm, Int.mul_left_comm]
    exact Int.eq_of_mul_eq_mul_right (by omega) this
  have u := lowest_unique h k g
  exact Prod.ext u.1 u.2
theorem lo_of {a b : Int} (h : Lowest a b) : lo a b = (a, b) := lo_eq h h.1 rfl
theorem ediv_natAbs_le (a : Int) (g : Nat) : (a / (g : Int)).natAbs ≤ a.natAbs := by
  cases g with
  | zero => simp
  | succ g => exact Int.natAbs_ediv_le_natAbs _ _
theorem lo_fst_le (a b : Int) : (lo a b).1.natAbs ≤ a.natAbs := ediv_natAbs_le a _
theorem lo_snd_le (a b : Int) : (lo a b).2.natAbs ≤ b.natAbs := ediv_natAbs_le b _
/-! bits -/
def Bt (n : Nat) (a : Int) : Prop := a.natAbs < 2 ^ n
theorem Bt.mono {n m : Nat} {a : Int} (h : Bt n a) (k : n ≤ m) : Bt m a := Nat.lt_of_lt_of_le h (Nat.pow_le_pow_right (by decide) k)
theorem Bt.of_le {n : Nat} {a b : Int} (h : Bt n b) (k : a.natAbs ≤ b.natAbs) : Bt n a := Nat.lt_of_le_of_lt k h
theorem Bt.mul {n m : Nat} {a b : Int} (h : Bt n a) (k : Bt m b) : Bt (n + m) (a * b) := by
  unfold Bt
  rw [Int.natAbs_mul, Nat.pow_add]
  exact Nat.mul_lt_mul'' h k
theorem Bt.add {n : Nat} {a b : Int} (h : Bt n a) (k : Bt n b) : Bt (n + 1) (a + b) := by
  unfold Bt at *
  have := Int.natAbs_add_le a b
  rw [Nat.pow_succ]
  omega
theorem Bt.sub {n : Nat} {a b : Int} (h : Bt n a) (k : Bt n b) : Bt (n + 1) (a - b) := by
  unfold Bt at *
  have : (a - b).natAbs ≤ a.natAbs + b.natAbs := Int.natAbs_sub_le a b
  rw [Nat.pow_succ]
  omega
theorem Bt.lo1 {n : Nat} {a b : Int} (h : Bt n a) : Bt n (lo a b).1 := h.of_le (lo_fst_le a b)
theorem Bt.lo2 {n : Nat} {a b : Int} (h : Bt n b) : Bt n (lo a b).2 := h.of_le (lo_snd_le a b)
theorem Bt.of_lt {n : Nat} {a : Int} (h0 : -(2 ^ n) < a) (h : a < 2 ^ n) : Bt n a := by
  unfold Bt
  have e : ((2 ^ n : Nat) : Int) = 2 ^ n := by simp
  omega
/-! the loop of the greatest number that goes into both -/
theorem gcd_step {x y : Int} (hx : 0 ≤ x) (hy : 0 < y) : Int.gcd y (x % y) = Int.gcd x y := by
  show Nat.gcd y.natAbs (x % y).natAbs = Nat.gcd x.natAbs y.natAbs
  have e : (x % y).natAbs = x.natAbs % y.natAbs := by
    have : x % y = ((x.natAbs % y.natAbs : Nat) : Int) := by
      rw [Int.natCast_emod]
      rw [Int.natAbs_of_nonneg hx, Int.natAbs_of_nonneg (by omega)]
    rw [this]
    rfl
  rw [e, Nat.gcd_comm y.natAbs, ← Nat.gcd_rec, Nat.gcd_comm]
theorem gcd_zero {x : Int} (hx : 0 ≤ x) : (Int.gcd x 0 : Int) = x := by
  have : Int.gcd x 0 = x.natAbs := Int.gcd_zero_right x
  rw [this]
  exact Int.natAbs_of_nonneg hx
theorem gcd_abs (a b : Int) : Int.gcd (if a < 0 then -a else a) b = Int.gcd a b := by
  split
  · exact Int.neg_gcd
  · rfl
/-! sums of parts -/
def pl (p q : Int × Int) : Int × Int := lo (p.1 * q.2 + q.1 * p.2) (p.2 * q.2)
end WS
set_option Elab.async false
set_option linter.all false
set_option maxRecDepth 100000
set_option maxHeartbeats 4000000
namespace WS
open PySem PySem.Spec PyProof.Rows L2
/-! heaps: what is new beside what stood; a pot that changes -/
theorem same_new {H : Hp} {p : Addr} {o : HO} (h : H p = none) : Same H (upd H p o) := fun b x e => by
  rw [upd_ne (ne_of_none e h)]
  exact e
theorem Same.tup {K : PySem.W.Frag} {H H' : Hp} {a : Addr} {xs : List V} (e : Same H H') (h : SqT K H a xs) : SqT K H' a xs := by
  rcases h with (h | ⟨o, h⟩) | h
  · exact .inl (.inl (e _ _ h))
  · exact .inl (.inr ⟨o, e _ _ h⟩)
  · exact .inr h
def SameX (p : Addr) (H H' : Hp) : Prop := ∀ b o, b ≠ p → H b = some o → H' b = some o
theorem SameX.refl (p : Addr) (H : Hp) : SameX p H H := fun _ _ _ h => h
theorem SameX.trans {p : Addr} {H H1 H2 : Hp} (a : SameX p H H1) (b : SameX p H1 H2) : SameX p H H2 := fun c o n h => b c o n (a c o n h)
theorem Same.x {p : Addr} {H H1 : Hp} (a : Same H H1) : SameX p H H1 := fun c o _ h => a c o h
theorem samex_set {p : Addr} {H : Hp} {o : HO} : SameX p H (upd H p o) := fun b x n e => by
  rw [upd_ne n]
  exact e
/-- a pot: two numbers, from which digits are drawn -/
def PotAt (H : Hp) (p : Addr) : Prop := ∃ x y : Int, H p = some (.lst [.int x, .int y]) ∧ 0 ≤ x ∧ 0 ≤ y ∧ y < 2147483648
theorem SameX.tup {K : PySem.W.Frag} {p : Addr} {H H' : Hp} {a : Addr} {xs : List V} (e : SameX p H H') (hp : PotAt H p) (h : SqT K H a xs) : SqT K H' a xs := by
  obtain ⟨x, y, hp, _⟩ := hp
  rcases h with (h | ⟨o, h⟩) | h
  · exact .inl (.inl (e _ _ (ne_of h hp (by intro z; cases z)) h))
  · exact .inl (.inr ⟨o, e _ _ (ne_of h hp (by intro z; cases z)) h⟩)
  · exact .inr h
theorem SameX.lst {K : PySem.W.Frag} {p : Addr} {H H' : Hp} {a : Addr} {xs : List V} (e : SameX p H H') (n : a ≠ p) (h : SqL K H a xs) : SqL K H' a xs := by
  rcases h with (h | ⟨o, h⟩) | h
  · exact .inl (.inl (e _ _ n h))
  · exact .inl (.inr ⟨o, e _ _ n h⟩)
  · exact .inr h
theorem PotAt.same {H H' : Hp} {p : Addr} (h : PotAt H p) (s : Same H H') : PotAt H' p := by
  obtain ⟨x, y, e, r⟩ := h
  exact ⟨x, y, s _ _ e, r⟩
/-! pairs of numbers -/
def TupI (K : PySem.W.Frag) (H : Hp) (v : V) (a b : Int) : Prop := ∃ t, v = .ref t ∧ SqT K H t [.int a, .int b]
theorem TupI.same {K : PySem.W.Frag} {H H' : Hp} {v : V} {a b : Int} (h : TupI K H v a b) (s : Same H H') : TupI K H' v a b := by
  obtain ⟨t, e, h⟩ := h
  exact ⟨t, e, Same.tup s h⟩
theorem TupI.x {K : PySem.W.Frag} {H H' : Hp} {p : Addr} {v : V} {a b : Int} (h : TupI K H v a b) (s : SameX p H H') (hp : PotAt H p) : TupI K H' v a b := by
  obtain ⟨t, e, h⟩ := h
  exact ⟨t, e, SameX.tup s hp h⟩
theorem TupI.new {K : PySem.W.Frag} {H : Hp} {p : Addr} {a b : Int} : TupI K (upd H p (.tup [.int a, .int b])) (.ref p) a b := ⟨p, rfl, .inl (.inl upd_same)⟩
def NewT (K : PySem.W.Frag) (H : Hp) (x y : Int) (Q : VK) : Prop := ∀ v H', Same H H' → TupI K H' v x y → Q v H'
/-! kinds -/
theorem sqt_ty {K : PySem.W.Frag} {H : Hp} {a : Addr} {xs : List V} (h : SqT K H a xs) : TyX K H (.ref a) (.type "tuple") := by
  rcases h with (h | ⟨o, h⟩) | ⟨o, its, n, h1, h2, _⟩
  · exact .base (.tup h)
  · exact .fTuple h
  · exact .kTuple h1 h2
/-- whether a thing is a whole number -/
def WholeIs (K : PySem.W.Frag) (H : Hp) (v : V) (b : Bool) : Prop := ∃ t b1 b2, TyX K H v t ∧ PySem.W.kitOne K t (.type "int") = some b1 ∧ PySem.W.kitOne K t (.type "bool") = some b2 ∧ b = (b1 && !b2)
/-! sizes -/
theorem Bt.cdiv {n : Nat} {i j : Int} (h : 0 < j) (hb : Bt n j) (h9 : n ≤ 8999) : CDivW i j := wide_div (b := n + 1) h (hb.mono (Nat.le_succ n)) (Nat.succ_pos n) (by omega)
theorem Bt.cmul {n m : Nat} {i j : Int} (ha : Bt n i) (hb : Bt m j) (h : n + m ≤ 900000) : CMulW i j := wide_mul (a := n + 1) (b := m + 1) (ha.mono (Nat.le_succ n)) (hb.mono (Nat.le_succ m)) (Nat.succ_pos n) (Nat.succ_pos m) (by omega)
theorem gcd_bt {n : Nat} {a b : Int} (h : 0 < b) (hb : Bt n b) : Bt n (Int.gcd a b : Int) := by
  refine hb.of_le ?_
  have : Int.gcd a b ≤ b.natAbs := Nat.le_of_dvd (by omega) (Nat.gcd_dvd_right a.natAbs b.natAbs)
  simpa using this
/-! promises -/
def spLow (K : PySem.W.Frag) : Sp := fun vs H Q _ => ∃ a b : Int, vs = [.int a, .int b] ∧ 0 < b ∧ Bt 8999 b ∧ NewT K H (lo a b).1 (lo a b).2 Q
def spDigit : Sp := fun vs H Q _ => ∃ p m, vs = [.ref p, .int m] ∧ PotAt H p ∧ 0 < m ∧ Bt 8999 m ∧ ∀ d H', 0 ≤ d → d < m → SameX p H H' → PotAt H' p → Q (.int d) H'
def spPot (K : PySem.W.Frag) : Sp := fun vs H Q _ => ∃ (a : Addr) (ns : List Int) (k : Int), vs = [.ref a, .int k] ∧ SqL K H a (ns.map V.int) ∧ 0 ≤ k ∧ k < 100 ∧ ∀ p H', Same H H' → H p = none → PotAt H' p → Q (.ref p) H'
/-! all tuples stay -/
def KT (H H' : Hp) : Prop := (∀ a xs, H a = some (.tup xs) → H' a = some (.tup xs)) ∧ (∀ a o xs, H a = some (.frz o (.tup xs)) → H' a = some (.frz o (.tup xs)))
theorem KT.refl (H : Hp) : KT H H := ⟨fun _ _ h => h, fun _ _ _ h => h⟩
theorem KT.trans {H H1 H2 : Hp} (a : KT H H1) (b : KT H1 H2) : KT H H2 := ⟨fun c o h => b.1 c o (a.1 c o h), fun c o x h => b.2 c o x (a.2 c o x h)⟩
theorem kt_same {H H' : Hp} (s : Same H H') : KT H H' := ⟨fun _ _ h => s _ _ h, fun _ _ _ h => s _ _ h⟩
theorem kt_x {p : Addr} {H H' : Hp} (s : SameX p H H') (hp : PotAt H p) : KT H H' := by
  obtain ⟨x, y, hp, _⟩ := hp
  exact ⟨fun a xs h => s _ _ (ne_of h hp (by intro z; cases z)) h, fun a o xs h => s _ _ (ne_of h hp (by intro z; cases z)) h⟩
theorem kt_set {H : Hp} {D : Addr} {xs ys : List V} (h : H D = some (.lst xs)) : KT H (upd H D (.lst ys)) :=
  ⟨fun a zs e => by rw [upd_ne (ne_of e h (by intro z; cases z))]; exact e, fun a o zs e => by rw [upd_ne (ne_of e h (by intro z; cases z))]; exact e⟩
theorem KT.sqt {K : PySem.W.Frag} {H H' : Hp} {a : Addr} {xs : List V} (e : KT H H') (h : SqT K H a xs) : SqT K H' a xs := by
  rcases h with (h | ⟨o, h⟩) | h
  · exact .inl (.inl (e.1 _ _ h))
  · exact .inl (.inr ⟨o, e.2 _ _ _ h⟩)
  · exact .inr h
theorem TupI.k {K : PySem.W.Frag} {H H' : Hp} {v : V} {a b : Int} (h : TupI K H v a b) (s : KT H H') : TupI K H' v a b := by
  obtain ⟨t, e, h⟩ := h
  exact ⟨t, e, s.sqt h⟩
/-- values that are pairs -/
def Parts (K : PySem.W.Frag) (H : Hp) (rs : List V) (ps : List (Int × Int)) : Prop := rs.length = ps.length ∧ ∀ (i : Nat) v, rs[i]? = some v → ∃ p, ps[i]? = some p ∧ TupI K H v p.1 p.2
theorem Parts.k {K : PySem.W.Frag} {H H' : Hp} {rs : List V} {ps : List (Int × Int)} (h : Parts K H rs ps) (s : KT H H') : Parts K H' rs ps :=
  ⟨h.1, fun i v e => by obtain ⟨p, e1, e2⟩ := h.2 i v e; exact ⟨p, e1, e2.k s⟩⟩
theorem Parts.nil {K : PySem.W.Frag} {H : Hp} : Parts K H [] [] := ⟨rfl, fun i v e => by simp at e⟩
theorem Parts.cons {K : PySem.W.Frag} {H : Hp} {v : V} {rs : List V} {p : Int × Int} {ps : List (Int × Int)} (h : TupI K H v p.1 p.2) (k : Parts K H rs ps) : Parts K H (v :: rs) (p :: ps) :=
  ⟨by simp [k.1], fun i x e => by
    cases i with
    | zero => exact ⟨p, rfl, by have e : v = x := Option.some.inj e; rw [← e]; exact h⟩
    | succ i => exact k.2 i x e⟩
theorem Parts.add {K : PySem.W.Frag} {H : Hp} {v : V} {rs : List V} {p : Int × Int} {ps : List (Int × Int)} (k : Parts K H rs ps) (h : TupI K H v p.1 p.2) : Parts K H (rs ++ [v]) (ps ++ [p]) :=
  ⟨by simp [k.1], fun i x e => by
    by_cases hi : i < rs.length
    · rw [List.getElem?_append_left hi] at e
      obtain ⟨q, e1, e2⟩ := k.2 i x e
      exact ⟨q, by rw [List.getElem?_append_left (by rw [← k.1]; exact hi)]; exact e1, e2⟩
    · rw [List.getElem?_append_right (by omega)] at e
      have hl := k.1
      have z : i - rs.length = 0 := by
        cases hz : i - rs.length with
        | zero => rfl
        | succ n => rw [hz] at e; simp at e
      rw [z] at e
      have e : v = x := Option.some.inj e
      refine ⟨p, ?_, by rw [← e]; exact h⟩
      rw [List.getElem?_append_right (by omega), show i - ps.length = 0 by omega]
      rfl⟩
/-- a number with a below, of at most n bits -/
def Okp (n : Nat) (p : Int × Int) : Prop := 0 < p.2 ∧ Bt n p.1 ∧ Bt n p.2
theorem Okp.mono {n m : Nat} {p : Int × Int} (h : Okp n p) (k : n ≤ m) : Okp m p := ⟨h.1, h.2.1.mono k, h.2.2.mono k⟩
theorem Okp.pl {n m : Nat} {p q : Int × Int} (h : Okp n p) (k : Okp m q) : Okp (n + m + 1) (pl p q) := by
  have hy : 0 < p.2 * q.2 := Int.mul_pos h.1 k.1
  refine ⟨(lo_lowest hy).1, Bt.lo1 ?_, Bt.lo2 ?_⟩
  · have a := h.2.1.mul k.2.2
    have b := (k.2.1.mul h.2.2).mono (show m + n ≤ n + m by omega)
    exact a.add b
  · exact (h.2.2.mul k.2.2).mono (by omega)
theorem pick {xs : List V} {d : Int} (h0 : 0 ≤ d) (h : d < xs.length) : ∃ v, atI xs d = some v ∧ v ∈ xs :=
  ⟨xs[d.toNat]'(by omega), at_of (j := d.toNat) (by omega) (List.getElem?_eq_getElem _), List.getElem_mem _⟩
theorem PotAt.ne {H : Hp} {p z : Addr} (h : PotAt H p) (n : H z = none) : z ≠ p := by
  obtain ⟨x, y, e, _⟩ := h
  intro q
  rw [q, e] at n
  cases n
/-! promises that are kept where no repr is under way -/
def Calm (A : Around) : Prop := A.guards = some []
structure FnAt (A : Around) (P : Program) (w : World) (K : PySem.W.Frag) (mg : Str → Option Value) (base : Heap) (CX : CXT) (k : Nat) (f : Addr) (fd : FuncData) (ps : List Str) (sp : Sp) : Prop where
  len : ∀ vs H Q E, sp vs H Q E → vs.length = ps.length
  go : ∀ (outer : List Env) (s : Shared) (H : Hp) (args : Args) (us : List Value) (vs : List V) (Q : VK) (E : XK),
    Room k A → Env0 P w K mg base A outer s H → BindsTo s fd args (ps.zip us) → Vals vs us → sp vs H Q E →
    codeAny (model P w) A (.call (.ref f) args) (CR CX outer P w H s Q E) s
/-- a def by its body, at one place -/
theorem fun_at {A : Around} {P : Program} {w : World} {K : PySem.W.Frag} {mg : Str → Option Value} {base : Heap} {CX : CXT} {x qual : Str} {st : Stmt} {f : Addr} {fd : FuncData} {N ps : List Str} {k : Nat} {sp : Sp}
    (F : Fun K x qual st f fd) (S : FnScope N ps (defScope st)) (len : ∀ vs H Q E, sp vs H Q E → vs.length = ps.length)
    (B : ∀ (cdv : Value) (outer : List Env) (s : Shared) (H : Hp) (vs : List V) (Q : VK) (E : XK),
      Room k (A.deeper (envOfC qual (defScope st) s.heap.objs.size f cdv)) → sp vs H Q E →
      ∃ t, PSs (cxOf CX P w K mg base N qual (defScope st) f cdv A outer s H E) (defBody st) t ∧ t ⟨fun _ H' => Q .non H', Q, fun _ _ => False, fun _ _ => False⟩ (start N vs) H) :
    FnAt A P w K mg base CX (k + 1) f fd ps sp := by
  obtain ⟨oc, od, kV, doc, pm, an, cdv, ct, osl, rfl, at_f, code⟩ := F.ex
  refine ⟨len, ?_⟩
  intro outer s H args us vs Q E room env0 bt vals want
  have inK : K.In s.heap := env0.mod.kin.keeps (fun b o e => (env0.bs b o e).1)
  have kinds : ∀ y ∈ ps.zip us, (defScope st).names.lookup y.1 = some .local ∨ ((defScope st).names.lookup y.1 = some .cell ∧ ((cellsFrom (s.heap.objs.size + 1) (defScope st).names []).lookup y.1).isSome = true) := by
    rintro ⟨n, v⟩ hy
    rcases S.par n (List.of_mem_zip hy).1 with l | c
    · exact .inl l
    · exact .inr ⟨c, PySem.W.cellsFrom_some _ _ _ (.inl c)⟩
  refine codeAny_call_function room.depth (inK _ _ at_f) rfl S.co S.gen rfl (PySem.W.codeRec_of inK code) (bt _ _ _ _ ?_)
  refine wpAny_newFunctionEnv_cells S.kind kinds ?_
  rintro env rfl s1 ic
  refine ⟨(env0.mod.nolimit.keeps fun b o e => (env0.bs b o e).1).keeps ic.toInCall.keep, codeAny_func ?_⟩
  obtain ⟨t, pss, reading⟩ := B cdv outer s H vs Q E (room.deeper _) want
  have inv := inv_start (CX := CX) (E := E) S room.hd env0 (len _ _ _ _ want) vals ic
  refine wpAny_mono (pss.run [] s1 (start N vs) H _ inv reading) ?_ (fun _ _ z => z)
  intro fl s' z
  match fl, z with
  | .ret u, ⟨v, σ', H', J, rv, q⟩ => exact ⟨v, H', J.os, J.bare, J.base, J.hok, rv, q⟩
  | .next, ⟨σ', H', J, q⟩ => exact ⟨.non, H', J.os, J.bare, J.base, J.hok, rfl, q⟩
  | .brk, ⟨_, _, _, q⟩ => exact q.elim
  | .cont, ⟨_, _, _, q⟩ => exact q.elim
/-- repr of data -/
def rRepr (X : Cx) : List V → Hp → VK → Prop := fun xs H Q => ∃ v d, xs = [v] ∧ Dp X.K H v d ∧ d.showable = true ∧ d.hasDict = false ∧ d.depth ≤ 60 ∧ d.shown.length ≤ sizeLine ∧ Q (.str d.shown) H
theorem call_reprD {X : Cx} (g : Calm X.A) (hu : X.A.units + 64 < cLine) : CallR X (.builtin "repr") (rRepr X) := by
  intro pins s σ H xs us Q inv vals want
  obtain ⟨v, d, rfl, dp, sh, nd, dep, len, q⟩ := want
  cases vals with
  | cons rv rest =>
    cases rest
    obtain ⟨as, rd⟩ := Dp.reads inv d v _ dp rv
    have nomod : d.hasDict = true → sysModules ∉ as := fun e => by rw [nd] at e; cases e
    cases dp with
    | non => cases rv; exact PySem.P.repr_of_none ⟨.str _, H, inv.tok _, ⟨_, rfl⟩, q⟩
    | bl b => cases rv; exact PySem.P.repr_of_bool ⟨.str _, H, inv.tok _, ⟨_, rfl⟩, q⟩
    | int i =>
      obtain ⟨t, rfl⟩ := rv
      exact PySem.P.repr_of_int (of_decide_eq_true sh) ⟨.str _, H, inv.tok _, ⟨_, rfl⟩, q⟩
    | str z =>
      obtain ⟨t, rfl⟩ := rv
      exact PySem.P.repr_of_str ⟨.str _, H, inv.tok _, ⟨_, rfl⟩, q⟩ len
    | lst h1 h2 =>
      cases rv
      exact repr_of_reads' rd sh nomod g (by omega) (fun _ _ z => z) (fun h' u tk keep => ⟨.str _, H, inv.kept keep, ⟨_, rfl⟩, q⟩) len
    | tup h1 h2 =>
      cases rv
      exact repr_of_reads' rd sh nomod g (by omega) (fun _ _ z => z) (fun h' u tk keep => ⟨.str _, H, inv.kept keep, ⟨_, rfl⟩, q⟩) len
/-! the end of a law whose def keeps its promise where the law is called -/
theorem begin_at {P : Program} {w : World} {K : PySem.W.Frag} {mg mb : Str → Option Value} {k : Nat} {fa a : Addr} {fd : FuncData} {x : Str} {sp : Sp} {s : Shared} {vs : List Value} {H : Hp}
    (inK : K.In s.heap) (gns : s.heap.Ns mainGlobals mg) (bns : s.heap.Ns builtinsNs mb) (bb : ∀ x : Str, x ≠ "__name__" → mb x = bootBuiltins x) (lim : s.heap.NoLimit) (nogen : s.gens = #[])
    (script : s.heap.get? a = some { cls := .type "list", data := .seq vs.toArray }) (room : Room k callerA)
    (F : ∀ base : Heap, K.In base → base.Ns mainGlobals mg → FnAt callerA P w K mg base CX0 k fa fd [x] sp) (bind1 : ∀ (s : Shared) (u : Value), BindsTo s fd ⟨[u], []⟩ [(x, u)])
    (only : ∀ b u, H b = some u → b = a ∧ K.lookup a = none ∧ ∃ o xs, u = .frz o (.lst xs)) (fits : HOk P w H s.heap)
    (want : sp [.ref a] H (fun v _ => v = .bl true) fun _ _ _ => False) :
    codeAny (model P w) callerA (.call (.ref fa) ⟨[.ref a], []⟩) (fun r s' => r = .ok (.ret (.bool true)) ∧ OldK s.heap s'.heap ∧ s'.os = s.os ∧ AllBare s'.gens) s := by
  have plain : ∀ {b : Addr}, b ≠ a → H b = none := fun {b} nb => by
    cases z : H b with
    | none => rfl
    | some u => exact absurd (only b u z).1 nb
  have noDict : ∀ {b : Addr} {o : Obj} {es : Array DictEntry} {ep : Nat}, s.heap.get? b = some o → o.data = .dict es ep → H b = none := by
    intro b o es ep e de
    refine plain ?_
    rintro rfl
    rw [script] at e
    cases e
    cases de
  have nsb : ∀ {b : Addr} {m : Str → Option Value}, s.heap.Ns b m → (hidT s.heap H).Ns b m := by
    rintro b m ⟨o, es, ep, e, de, rest⟩
    exact ⟨o, es, ep, hidT_get e (noDict e de), de, rest⟩
  have kb : K.In (hidT s.heap H) := by
    intro b o e
    refine hidT_get (inK b o e) ?_
    cases z : H b with
    | none => rfl
    | some u =>
      obtain ⟨rfl, nk, _⟩ := only b u z
      rw [nk] at e
      cases e
  obtain ⟨mc, l1, l2⟩ := lim
  have modu : Mod K mg (hidT s.heap H) := ⟨kb, nsb gns, ⟨mb, nsb bns, bb⟩, ⟨mc, nsb l1, l2⟩⟩
  have noEnv : ∀ b ∈ frs [], H b = none := fun b z => absurd (show b ∈ ([] : List Addr) from z) List.not_mem_nil
  have env0 : Env0 P w K mg (hidT s.heap H) callerA [] s H := ⟨rfl, modu, fun b o e => of_hidT e, Nat.le_of_eq (hidT_size _ _), trivial, noEnv, fits, .of_eq nogen⟩
  refine codeAny_mono ((F _ kb (nsb gns)).go [] s H ⟨[.ref a], []⟩ [.ref a] [.ref a] _ _ room env0 (bind1 s (.ref a)) (.cons rfl .nil) want) ?_
  intro r s' z
  match r, z with
  | .error er, z => exact z.elim
  | .ok .next, z => exact z.elim
  | .ok .brk, z => exact z.elim
  | .ok .cont, z => exact z.elim
  | .ok (.ret u), ⟨v, H', os, bare, un, fits', rel, q⟩ =>
    have q : v = .bl true := q
    subst q
    obtain rfl : u = Value.bool true := rel
    refine ⟨rfl, OldK.of_keep ?_, os, bare⟩
    intro b o e
    cases zb : H b with
    | none => exact un.keep b o e zb (fun z => absurd (show b ∈ ([] : List Addr) from z) List.not_mem_nil) List.not_mem_nil
    | some u =>
      obtain ⟨_, _, ob, xs, rfl⟩ := only b u zb
      have now := (fits' b _ (un.frzs b ob _ zb)).1
      have then_ := (fits b _ zb).1
      rw [e] at then_
      cases then_
      exact now
theorem walk_G {l : PySem.W.OpenLaw} {n k : Nat} {q : Program} {loose : List Str} {XP : (Str → Option Value) → Heap → Prop} {YP : World → Heap → Prop} {d : DefRec} {K : Params → PySem.W.Frag} {sp : World → Sp} {x : Str}
    (most : l.most = some n) (small : n ≤ sizeLine) (nodefault : d.params.defaults = []) (room : Room k callerA)
    (Y : ∀ (w : World) (h : Heap), YP w h → (K w.params).In h)
    (F : ∀ (w : World) (mg : Str → Option Value) (fa : Addr) (h : Heap), (K w.params).In h → h.Ns mainGlobals mg → mg d.name = some (.ref fa) →
      ∃ fd : FuncData, (∀ (s : Shared) (u : Value), BindsTo s fd ⟨[u], []⟩ [(x, u)]) ∧ ∀ base : Heap, (K w.params).In base → base.Ns mainGlobals mg → FnAt callerA l.prog w (K w.params) mg base CX0 k fa fd [x] (sp w))
    (want : ∀ (w : World) (H : Hp) (a : Addr) (ns : List Int), ns.length ≤ n → SqL (K w.params) H a (ns.map V.int) → sp w [.ref a] H (fun v _ => v = .bl true) fun _ _ _ => False) :
    PySem.W.WalkO q loose XP YP l.row.toRowW d [] (fun f vs => PySem.call f vs) := by
  refine Att.attach_call most nodefault ?_
  intro w s0 s mg mb fa o pm cd doc a vs ns G y _ _ _ at_law script hi len nogen
  have inK := Y w _ y
  obtain ⟨fd, b1, f⟩ := F w mg fa _ inK G.T.g at_law
  have rel : Vals (ns.map V.int) vs := vals_ints hi
  have sz : ns.length ≤ sizeLine := Nat.le_trans len small
  cases look : (K w.params).lookup a with
  | some ob =>
    have same := inK a ob look
    rw [script] at same
    cases same
    refine begin_at (H := fun _ => none) inK G.T.g G.T.b G.T.builtins G.T.nolimit nogen script room f b1 (fun b u z => ?_) (fun b u z => ?_) (want w _ a ns len (.inr ⟨_, vs.toArray, _, look, rfl, rfl, rfl, ?_, ?_⟩))
    · have z : (none : Option HO) = some u := z
      cases z
    · have z : (none : Option HO) = some u := z
      cases z
    · rw [List.size_toArray, hi.length]
      exact sz
    · simpa using rel
  | none =>
    have here : ∀ b u, (if b = a then some (HO.frz { cls := .type "list", data := .seq vs.toArray } (.lst (ns.map V.int))) else none) = some u → b = a ∧ u = HO.frz { cls := .type "list", data := .seq vs.toArray } (.lst (ns.map V.int)) := by
      intro b u z
      by_cases hb : b = a
      · rw [if_pos hb] at z
        exact ⟨hb, (Option.some.inj z).symm⟩
      · rw [if_neg hb] at z
        cases z
    refine begin_at (H := fun b => if b = a then some (.frz { cls := .type "list", data := .seq vs.toArray } (.lst (ns.map V.int))) else none) inK G.T.g G.T.b G.T.builtins G.T.nolimit nogen script room f b1 (fun b u z => ?_) (fun b u z => ?_) (want w _ a ns len (.inl (.inr ⟨_, if_pos rfl⟩)))
    · obtain ⟨e1, e2⟩ := here b u z
      exact ⟨e1, look, _, _, e2⟩
    · obtain ⟨rfl, rfl⟩ := here b u z
      exact ⟨script, by rw [List.length_map]; exact sz, vs, _, rel, script⟩
theorem tyes {σ : L2.St} {H : Hp} {F : Bool → Hp → Prop} (h : F true H) : tYes σ H F := h
theorem all_true : ∀ n : Nat, (List.replicate n true).all id = true
  | 0 => rfl
  | n + 1 => by simp [List.replicate_succ]
def spLaw (K : PySem.W.Frag) : Sp := fun vs H Q _ => ∃ (a : Addr) (ns : List Int), vs = [.ref a] ∧ SqL K H a (ns.map V.int) ∧ ns.length ≤ 63 ∧ ∀ H', Q (.bl true) H'
/-! parts by what they stand for -/
theorem lo_congr {x y x' y' : Int} (hy : 0 < y) (hy' : 0 < y') (e : x * y' = x' * y) : lo x y = lo x' y' := by
  have c := lo_cross x' y'
  refine (lo_eq (lo_lowest (a := x') hy') hy ?_).trans (Prod.eta _)
  have h : (x * (lo x' y').2) * y' = ((lo x' y').1 * y) * y' := by
    calc (x * (lo x' y').2) * y' = (x * y') * (lo x' y').2 := by simp only [Int.mul_assoc, Int.mul_comm, Int.mul_left_comm]
      _ = (x' * y) * (lo x' y').2 := by rw [e]
      _ = (x' * (lo x' y').2) * y := by simp only [Int.mul_assoc, Int.mul_comm, Int.mul_left_comm]
      _ = ((lo x' y').1 * y') * y := by rw [c]
      _ = ((lo x' y').1 * y) * y' := by simp only [Int.mul_assoc, Int.mul_comm, Int.mul_left_comm]
  exact Int.eq_of_mul_eq_mul_right (by omega) h
/-! how long a repr is -/
theorem text_len : ∀ (ts : List Str) (k : Nat) (acc : Str), (textFrom k acc ts).length ≤ acc.length + piled ts
  | [], k, acc => by show acc.length ≤ _; omega
  | t :: r, k, acc => by
    have ih := text_len r (k + 1) (acc ++ (if k > 0 then ", " else "" : String) ++ t)
    have e : ((if k > 0 then ", " else "" : String) : Str).length ≤ 2 := by split <;> decide +kernel
    show (textFrom (k + 1) (acc ++ (if k > 0 then ", " else "" : String) ++ t) r).length ≤ _
    rw [strLen_append, strLen_append] at ih
    rw [piled_cons]
    omega
theorem shown_int_len {n : Nat} {i : Int} (hn : 0 < n) (h : Bt n i) : (PyData.shown (.int i)).length ≤ n + 1 := by
  have e := int_text_length_le (a := i) hn (PySem.Flt.log2_lt_of hn h)
  show (Str.ofString (toString i)).length ≤ n + 1
  rw [PySem.ofString_length]
  exact e
theorem shown_tup_len (ds : List PyData) : (PyData.shown (.tuple ds)).length ≤ piled (PyData.shownAll ds) + 2 := PySem.fmt_text _
theorem shown_lst_len (ds : List PyData) : (PyData.shown (.list ds)).length ≤ piled (PyData.shownAll ds) + 2 := by
  show (textFrom 0 "[" (PyData.shownAll ds) ++ ("]" : Str)).length ≤ _
  have h := text_len (PyData.shownAll ds) 0 "["
  have e1 : (("[" : String) : Str).length = 1 := rfl
  have e2 : (("]" : String) : Str).length = 1 := rfl
  rw [strLen_append]
  omega
/-- the pair as data -/
def pd (a b : Int) : PyData := .tuple [.int a, .int b]
theorem bt_show {i : Int} (h : Bt 1900 i) : (PyData.int i).showable = true := decide_eq_true (Nat.lt_of_lt_of_le (PySem.Flt.log2_lt_of (by decide) h) (by decide))
theorem pd_dp {K : PySem.W.Frag} {H : Hp} {v : V} {a b : Int} (h : TupI K H v a b) : Dp K H v (pd a b) := by
  obtain ⟨t, rfl, h⟩ := h
  exact .tup h (.cons (.int a) (.cons (.int b) .nil))
/-! behind the last argument -/
/-! a value that stands for x / y -/
def Rp (K : PySem.W.Frag) (H : Hp) (v : V) (x y : Int) (n : Nat) : Prop := TupI K H v (lo x y).1 (lo x y).2 ∧ 0 < y ∧ Bt n x ∧ Bt n y
theorem Rp.same {K : PySem.W.Frag} {H H' : Hp} {v : V} {x y : Int} {n : Nat} (h : Rp K H v x y n) (s : Same H H') : Rp K H' v x y n := ⟨h.1.same s, h.2⟩
theorem Rp.k {K : PySem.W.Frag} {H H' : Hp} {v : V} {x y : Int} {n : Nat} (h : Rp K H v x y n) (s : KT H H') : Rp K H' v x y n := ⟨h.1.k s, h.2⟩
theorem Rp.x {K : PySem.W.Frag} {H H' : Hp} {p : Addr} {v : V} {x y : Int} {n : Nat} (h : Rp K H v x y n) (s : SameX p H H') (hp : PotAt H p) : Rp K H' v x y n := ⟨h.1.x s hp, h.2⟩
theorem Rp.mono {K : PySem.W.Frag} {H : Hp} {v : V} {x y : Int} {n m : Nat} (h : Rp K H v x y n) (k : n ≤ m) : Rp K H v x y m := ⟨h.1, h.2.1, h.2.2.1.mono k, h.2.2.2.mono k⟩
theorem Rp.of {K : PySem.W.Frag} {H : Hp} {v : V} {a b : Int} {n : Nat} (h : TupI K H v a b) (l : Lowest a b) (ba : Bt n a) (bb : Bt n b) : Rp K H v a b n := ⟨by rw [lo_of l]; exact h, l.1, ba, bb⟩
end WS
set_option Elab.async false
set_option linter.all false
set_option maxRecDepth 100000
set_option maxHeartbeats 4000000
set_option Elab.async false
set_option linter.all false
set_option maxRecDepth 100000
set_option maxHeartbeats 4000000
namespace WS
open PySem PySem.Spec PyProof.Rows L2
/-! ### a def whose code object is known; the end of a law with one table -/
/-! ### tables through steps -/
open LamX in
theorem TabS.x {p P : Addr} {q : Str} {H H' : Hp} (t : TabS H P q) (s : SameX p H H') (hp : PotAt H p) : TabS H' P q := by
  obtain ⟨x, y, e, _⟩ := hp
  obtain ⟨ps, h1, h2, h3⟩ := t
  refine ⟨ps, s _ _ (fun z => ?_) h1, h2, fun pos cv hc => ?_⟩
  · rw [z, e] at h1
    cases h1
  · obtain ⟨c, e1, e2⟩ := h3 pos cv hc
    refine ⟨c, e1, s _ _ (fun z => ?_) e2⟩
    rw [z, e] at e2
    unfold CodeO at e2
    cases e2
open LamX in
theorem TabS.set {P D : Addr} {q : Str} {H : Hp} {xs ys : List V} (t : TabS H P q) (h : H D = some (.lst xs)) : TabS (upd H D (.lst ys)) P q := by
  obtain ⟨ps, h1, h2, h3⟩ := t
  refine ⟨ps, ?_, h2, fun pos cv hc => ?_⟩
  · rw [upd_ne (fun z => by rw [z, h] at h1; cases h1)]
    exact h1
  · obtain ⟨c, e1, e2⟩ := h3 pos cv hc
    refine ⟨c, e1, ?_⟩
    rw [upd_ne (fun z => by rw [z, h] at e2; unfold CodeO at e2; cases e2)]
    exact e2
open LamX in
theorem TabS.tabs {P : Addr} {q : Str} {H : Hp} (t : TabS H P q) : Tabs [(P, q)] H := fun p hp => by
  obtain rfl := List.mem_singleton.mp hp
  exact t
open LamX in
theorem ExtN.same {H H' : Hp} (e : Same H H') : ExtN H H' := fun b o h _ => e b o h
open LamX in
theorem ExtN.kt {H H' : Hp} (e : ExtN H H') : KT H H' := ⟨fun _ _ h => e _ _ h (fun _ z => by cases z), fun _ _ _ h => e _ _ h (fun _ z => by cases z)⟩
open LamX in
theorem ExtN.pot {H H' : Hp} {p : Addr} (e : ExtN H H') (h : PotAt H p) : PotAt H' p := by
  obtain ⟨x, y, z, r⟩ := h
  exact ⟨x, y, e _ _ z (fun _ z => by cases z), r⟩
end WS
set_option Elab.async false
set_option linter.all false
set_option maxRecDepth 100000
set_option maxHeartbeats 4000000
namespace WS
open PySem PySem.Spec PyProof.Rows L2
/-! ### rows by their greatest -/
def RankedP (ps : List (Int × Int)) (ord : List Nat) : Prop := ord.Perm (List.range ps.length) ∧ ord.Pairwise fun i j =>
  (ps.getD j (0, 1)).1 * (ps.getD i (0, 1)).2 < (ps.getD i (0, 1)).1 * (ps.getD j (0, 1)).2 ∨ ((ps.getD i (0, 1)).1 * (ps.getD j (0, 1)).2 = (ps.getD j (0, 1)).1 * (ps.getD i (0, 1)).2 ∧ i < j)
def overC (c : Int) (p : Int × Int) : Int := p.1 * (c / p.2)
/-- what stands at p, if anything, is a table -/
def New (H : Hp) (p : Addr) : Prop := ∀ o, H p = some o → ∃ ps, o = .tbl ps
theorem New.ne {H : Hp} {p b : Addr} {o : HO} (n : New H p) (h : H b = some o) (t : ∀ ps, o ≠ .tbl ps) : b ≠ p := by
  rintro rfl
  obtain ⟨ps, e⟩ := n o h
  exact t ps e
theorem New.of {H : Hp} {p : Addr} (h : H p = none) : New H p := fun o e => by rw [h] at e; cases e
end WS
set_option Elab.async false
set_option linter.all false
set_option maxRecDepth 100000
set_option maxHeartbeats 4000000
namespace WS
open PySem PySem.Spec PyProof.Rows L2
/-! ### sets of places, and the greatest -/
def gd (xs : List Int) (i : Nat) : Int := xs.getD i 0
/-! ### sums of parts over one below -/
theorem lo_zero {c : Int} (hc : 0 < c) : lo 0 c = (0, 1) := lo_eq ⟨by decide, by decide⟩ hc (by omega)
/-- a number into which all belows go -/
def cmul : List (Int × Int) → Int
  | [] => 1
  | q :: qs => q.2 * cmul qs
def gp (ps : List (Int × Int)) (i : Nat) : Int × Int := ps.getD i (0, 1)
theorem gp_mem {ps : List (Int × Int)} {i : Nat} (h : i < ps.length) : gp ps i ∈ ps := by
  unfold gp
  rw [List.getD_eq_getElem?_getD, List.getElem?_eq_getElem h]
  exact List.getElem_mem h
end WS
set_option Elab.async false
set_option linter.all false
set_option maxRecDepth 100000
set_option maxHeartbeats 4000000
namespace WS
open PySem PySem.Spec PyProof.Rows L2
/-! ### promises of sums_ahead, fall, is_within -/
def sumK (ps : List (Int × Int)) (ord : List Nat) (k : Nat) : Int × Int := ((ord.take k).map (gp ps)).foldl pl (0, 1)
/-- a row at l whose parts are ps, small enough -/
def RowAt (K : PySem.W.Frag) (H : Hp) (l : Addr) (ps : List (Int × Int)) : Prop := ∃ (n : Nat) (rs : List V), SqT K H l rs ∧ Parts K H rs ps ∧ (∀ q ∈ ps, Okp n q) ∧ (ps.length + 2) * (n + 1) ≤ 4400
theorem RowAt.k {K : PySem.W.Frag} {H H' : Hp} {l : Addr} {ps : List (Int × Int)} (h : RowAt K H l ps) (s : KT H H') : RowAt K H' l ps := by
  obtain ⟨n, rs, a, b, c⟩ := h
  exact ⟨n, rs, s.sqt a, b.k s, c⟩
def fallsAt (w : Int) (ps : List (Int × Int)) (ord : List Nat) (k : Nat) : Bool := decide ((lo (w * k * ((ps.length : Int) - k)) 2).1 * (sumK ps ord k).2 < (sumK ps ord k).1 * (lo (w * k * ((ps.length : Int) - k)) 2).2)
def fallV (w : Int) (ps : List (Int × Int)) (ord : List Nat) : V := match (List.range (ps.length + 1)).find? (fallsAt w ps ord) with
  | some k => .int (k : Nat)
  | none => .non
theorem RankedP.lt {ps : List (Int × Int)} {ord : List Nat} (h : RankedP ps ord) : ord.length = ps.length ∧ ∀ i ∈ ord, i < ps.length :=
  ⟨by rw [h.1.length_eq, List.length_range], fun _ hi => List.mem_range.mp (h.1.mem_iff.mp hi)⟩
end WS
set_option Elab.async false
set_option linter.all false
set_option maxRecDepth 100000
set_option maxHeartbeats 4000000
namespace WS
open PySem PySem.Spec PyProof.Rows L2
/-! ### lists of numbers, of parts, of lists -/
theorem same_upd {H H' : Hp} {F : Addr} {o : HO} (s : Same H H') (n : H F = none) : Same H (upd H' F o) := fun b x e => by
  rw [upd_ne (ne_of_none e n)]
  exact s b x e
theorem dpall_ints {K : PySem.W.Frag} {H : Hp} : ∀ ns : List Int, DpAll K H (ns.map V.int) (ns.map PyData.int)
  | [] => .nil
  | n :: ns => .cons (.int n) (dpall_ints ns)
theorem ints_dp {K : PySem.W.Frag} {H : Hp} {l : Addr} {ns : List Int} (h : SqL K H l (ns.map V.int)) : Dp K H (.ref l) (.list (ns.map PyData.int)) := .lst h (dpall_ints ns)
def pdP (p : Int × Int) : PyData := pd p.1 p.2
/-- lists of places -/
def Lists (H : Hp) (vs : List V) (ss : List (List Nat)) : Prop := vs.length = ss.length ∧ ∀ (i : Nat) v, vs[i]? = some v → ∃ a s, v = .ref a ∧ ss[i]? = some s ∧ H a = some (.lst (s.map fun j : Nat => V.int j))
theorem Lists.same {H H' : Hp} {vs : List V} {ss : List (List Nat)} (h : Lists H vs ss) (s : Same H H') : Lists H' vs ss := ⟨h.1, fun i v e => by
  obtain ⟨a, t, h1, h2, h3⟩ := h.2 i v e
  exact ⟨a, t, h1, h2, s _ _ h3⟩⟩
theorem Lists.upd {H : Hp} {D : Addr} {o : HO} {vs : List V} {ss : List (List Nat)} (h : Lists H vs ss) (n : ∀ v ∈ vs, v ≠ .ref D) : Lists (upd H D o) vs ss := ⟨h.1, fun i v e => by
  obtain ⟨a, t, h1, h2, h3⟩ := h.2 i v e
  refine ⟨a, t, h1, h2, ?_⟩
  rw [upd_ne fun z => n v (List.mem_of_getElem? e) (by rw [h1, z])]
  exact h3⟩
theorem Lists.add {H : Hp} {vs : List V} {ss : List (List Nat)} {a : Addr} {s : List Nat} (h : Lists H vs ss) (ha : H a = some (.lst (s.map fun j : Nat => V.int j))) : Lists H (vs ++ [.ref a]) (ss ++ [s]) := by
  refine ⟨by simp [h.1], fun i v e => ?_⟩
  rcases Nat.lt_or_ge i vs.length with hi | hi
  · rw [List.getElem?_append_left hi] at e
    obtain ⟨b, t, h1, h2, h3⟩ := h.2 i v e
    exact ⟨b, t, h1, by rw [List.getElem?_append_left (by rw [← h.1]; exact hi)]; exact h2, h3⟩
  · rw [List.getElem?_append_right hi] at e
    have hi2 : i - vs.length = 0 := by
      rcases Nat.eq_zero_or_pos (i - vs.length) with z | z
      · exact z
      · rw [List.getElem?_eq_none (show [V.ref a].length ≤ _ from z)] at e; cases e
    rw [hi2] at e
    refine ⟨a, s, by simpa using e.symm, ?_, ha⟩
    rw [List.getElem?_append_right (by rw [← h.1]; exact hi), ← h.1, hi2]
    rfl
theorem Lists.append {H : Hp} {vs vs' : List V} {ss ss' : List (List Nat)} (h : Lists H vs ss) (k : Lists H vs' ss') : Lists H (vs ++ vs') (ss ++ ss') := by
  refine ⟨by simp [h.1, k.1], fun i v e => ?_⟩
  rcases Nat.lt_or_ge i vs.length with hi | hi
  · rw [List.getElem?_append_left hi] at e
    obtain ⟨b, t, h1, h2, h3⟩ := h.2 i v e
    exact ⟨b, t, h1, by rw [List.getElem?_append_left (by rw [← h.1]; exact hi)]; exact h2, h3⟩
  · rw [List.getElem?_append_right hi] at e
    obtain ⟨b, t, h1, h2, h3⟩ := k.2 _ v e
    exact ⟨b, t, h1, by rw [List.getElem?_append_right (by rw [← h.1]; exact hi), ← h.1]; exact h2, h3⟩
theorem Parts.at {K : PySem.W.Frag} {H : Hp} {rs : List V} {ps : List (Int × Int)} (h : Parts K H rs ps) {i : Nat} (hi : i < ps.length) : ∃ v, rs[i]? = some v ∧ gp ps i ∈ ps ∧ TupI K H v (gp ps i).1 (gp ps i).2 := by
  obtain ⟨v, hv⟩ : ∃ v, rs[i]? = some v := ⟨_, List.getElem?_eq_getElem (by rw [h.1]; exact hi)⟩
  obtain ⟨p, hp, t⟩ := h.2 i v hv
  have e : gp ps i = p := by unfold gp; rw [List.getD_eq_getElem?_getD, hp]; rfl
  exact ⟨v, hv, gp_mem hi, by rw [e]; exact t⟩
end WS
set_option Elab.async false
set_option linter.all false
set_option maxRecDepth 100000
set_option maxHeartbeats 4000000
namespace WS
open PySem PySem.Spec PyProof.Rows L2
/-! ### bounds of sums over small belows; due -/
def Okq (n d : Nat) (p : Int × Int) : Prop := 0 < p.2 ∧ Bt n p.1 ∧ Bt d p.2
theorem Okq.pl {n d m e : Nat} {p q : Int × Int} (h : Okq n d p) (k : Okq m e q) : Okq (max (n + e) (m + d) + 1) (d + e) (pl p q) := by
  have hp : 0 < p.2 * q.2 := Int.mul_pos h.1 k.1
  refine ⟨(lo_lowest hp).1, ?_, (h.2.2.mul k.2.2).lo2⟩
  exact (((h.2.1.mul k.2.2).mono (Nat.le_max_left _ _)).add ((k.2.1.mul h.2.2).mono (Nat.le_max_right _ _))).lo1
theorem Okq.mono {n d m e : Nat} {p : Int × Int} (h : Okq n d p) (a : n ≤ m) (b : d ≤ e) : Okq m e p := ⟨h.1, h.2.1.mono a, h.2.2.mono b⟩
theorem Okq.okp {n d m : Nat} {p : Int × Int} (h : Okq n d p) (a : n ≤ m) (b : d ≤ m) : Okp m p := ⟨h.1, h.2.1.mono a, h.2.2.mono b⟩
theorem Parts.erase {K : PySem.W.Frag} {H : Hp} {rs : List V} {ps : List (Int × Int)} (h : Parts K H rs ps) (k : Nat) : Parts K H (rs.eraseIdx k) (ps.eraseIdx k) := by
  refine ⟨by rw [List.length_eraseIdx, List.length_eraseIdx, h.1], fun i v e => ?_⟩
  rw [List.getElem?_eraseIdx] at e ⊢
  split at e
  · rename_i c
    rw [if_pos c]
    exact h.2 i v e
  · rename_i c
    rw [if_neg c]
    exact h.2 _ v e
end WS
set_option Elab.async false
set_option linter.all false
set_option maxRecDepth 100000
set_option maxHeartbeats 4000000
namespace WS
open PySem PySem.Spec PyProof.Rows L2
/-! ### reprs of rows; the best of the sets; sorted places -/
def setSum (ps : List (Int × Int)) (s : List Nat) : Int × Int := (s.map (gp ps)).foldl pl (0, 1)
def valC (ps : List (Int × Int)) (s : List Nat) : Int := (s.map (gd (ps.map (overC (cmul ps))))).sum
/-- v is the best of the sets of k places among ss -/
def BestOf (K : PySem.W.Frag) (H : Hp) (ps : List (Int × Int)) (ss : List (List Nat)) (k : Nat) (v : V) : Prop :=
  (v = .non ∧ ∀ s ∈ ss, s.length ≠ k) ∨ ∃ s ∈ ss, s.length = k ∧ TupI K H v (setSum ps s).1 (setSum ps s).2 ∧ ∀ s' ∈ ss, s'.length = k → valC ps s' ≤ valC ps s
theorem BestOf.k {K : PySem.W.Frag} {H H' : Hp} {ps : List (Int × Int)} {ss : List (List Nat)} {k : Nat} {v : V} (h : BestOf K H ps ss k v) (s : KT H H') : BestOf K H' ps ss k v := by
  rcases h with h | ⟨t, a, b, c, d⟩
  · exact .inl h
  · exact .inr ⟨t, a, b, c.k s, d⟩
theorem BestOf.put {K : PySem.W.Frag} {H : Hp} {ps : List (Int × Int)} {ss : List (List Nat)} {st : List Nat} {k : Nat} {t : V} (l : st.length = k) (tt : TupI K H t (setSum ps st).1 (setSum ps st).2) (mx : ∀ s' ∈ ss, s'.length = k → valC ps s' ≤ valC ps st) : BestOf K H ps (ss ++ [st]) k t := by
  refine .inr ⟨st, List.mem_append_right _ (List.mem_singleton.mpr rfl), l, tt, fun s hs l => ?_⟩
  rcases List.mem_append.mp hs with hs | hs
  · exact mx s hs l
  · rw [List.mem_singleton.mp hs]; exact Int.le_refl _
theorem eqvall_refl_ints : ∀ ns : List Int, PyData.eqvAll (ns.map PyData.int) (ns.map PyData.int) = true
  | [] => by simp [PyData.eqvAll]
  | n :: ns => by
    have := eqvall_refl_ints ns
    simp [PyData.eqvAll, PyData.eqv, this]
theorem eqv_refl_ints (ns : List Int) : PyData.eqv (.list (ns.map PyData.int)) (.list (ns.map PyData.int)) = true := by
  rw [show PyData.eqv (.list (ns.map PyData.int)) (.list (ns.map PyData.int)) = PyData.eqvAll (ns.map PyData.int) (ns.map PyData.int) from by simp only [PyData.eqv]]
  exact eqvall_refl_ints ns
theorem rankedP_one {ps : List (Int × Int)} {a b : List Nat} (ha : RankedP ps a) (hb : RankedP ps b) : a = b := by
  refine List.Perm.eq_of_pairwise (fun i j _ _ h1 h2 => ?_) ha.2 hb.2 (ha.1.trans hb.1.symm)
  omega
/-- what stands in H but p and the tables stands in H' -/
def ExtX (p : Addr) (H H' : Hp) : Prop := ∀ b o, b ≠ p → H b = some o → (∀ ps, o ≠ .tbl ps) → H' b = some o
theorem ExtX.trans {p : Addr} {H H1 H2 : Hp} (a : ExtX p H H1) (b : ExtX p H1 H2) : ExtX p H H2 := fun c o n h t => b c o n (a c o n h t) t
theorem ExtX.x {p : Addr} {H H1 : Hp} (s : SameX p H H1) : ExtX p H H1 := fun c o n h _ => s c o n h
theorem ExtX.n {p : Addr} {H H1 : Hp} (s : LamX.ExtN H H1) : ExtX p H H1 := fun c o _ h t => s c o h t
theorem ExtX.s {p : Addr} {H H1 : Hp} (s : Same H H1) : ExtX p H H1 := fun c o _ h _ => s c o h
theorem ExtX.w {p Z : Addr} {H H1 H2 : Hp} {o' : HO} (a : ExtX p H H1) (b : ExtX p H1 H2) (n : New H1 Z) : ExtX p H (upd H2 Z o') := fun c o nc h t => by
  have h1 := a c o nc h t
  rw [upd_ne (n.ne h1 t)]
  exact b c o nc h1 t
end WS
set_option Elab.async false
set_option linter.all false
set_option maxRecDepth 100000
set_option maxHeartbeats 4000000
namespace WS
open PySem PySem.Spec PyProof.Rows L2
/-! ### t[::-1] of a tuple -/
section
variable {prog : Program} {w : World} {A : Around} {E : Value → Shared → Prop} {s : Shared}
theorem fm_congr {α β : Type} {f g : α → Option β} : ∀ {l : List α}, (∀ x ∈ l, f x = g x) → l.filterMap f = l.filterMap g
  | [], _ => rfl
  | x :: l, h => by rw [List.filterMap_cons, List.filterMap_cons, h x List.mem_cons_self, fm_congr fun y hy => h y (List.mem_cons_of_mem _ hy)]
end
/-! ### t[lo:hi] of a tuple, the whole of it or not -/
def AllParts (K : PySem.W.Frag) (H : Hp) (rs : List V) : Prop := ∀ v ∈ rs, ∃ a b, TupI K H v a b ∧ Bt 4400 a ∧ Bt 4400 b
def Okl (p : Int × Int) : Prop := Lowest p.1 p.2 ∧ Okp 202 p
theorem Parts.all {K : PySem.W.Frag} {H : Hp} {rs : List V} {ps : List (Int × Int)} (h : Parts K H rs ps) (hk : ∀ q ∈ ps, Okl q) : AllParts K H rs := fun v hv => by
  obtain ⟨i, hi⟩ := List.getElem?_of_mem hv
  obtain ⟨p, hp, t⟩ := h.2 i v hi
  have := (hk p (List.mem_of_getElem? hp)).2
  exact ⟨_, _, t, this.2.1.mono (by decide), this.2.2.mono (by decide)⟩
end WS
set_option Elab.async false
set_option linter.all false
set_option maxRecDepth 100000
set_option maxHeartbeats 4000000
namespace WS
open PySem PySem.Spec PyProof.Rows L2
/-! data: values that never change, as PyData -/
mutual
def imm : PyData → Bool
  | .list _ | .dict _ => false
  | .tuple xs => immAll xs
  | _ => true
def immAll : List PyData → Bool
  | [] => true
  | x :: xs => imm x && immAll xs
end
mutual
theorem dp_k {K : PySem.W.Frag} {H H' : Hp} (s : KT H H') : ∀ (d : PyData) (v : V), imm d = true → Dp K H v d → Dp K H' v d
  | .none, _, _, h => by cases h; exact .non
  | .bool b, _, _, h => by cases h; exact .bl b
  | .int i, _, _, h => by cases h; exact .int i
  | .str x, _, _, h => by cases h; exact .str x
  | .list xs, _, e, _ => by unfold imm at e; cases e
  | .dict xs, _, e, _ => by unfold imm at e; cases e
  | .tuple xs, _, e, h => by
    unfold imm at e
    cases h with
    | tup h0 h1 => exact .tup (s.sqt h0) (dpall_k s xs _ e h1)
theorem dpall_k {K : PySem.W.Frag} {H H' : Hp} (s : KT H H') : ∀ (ds : List PyData) (vs : List V), immAll ds = true → DpAll K H vs ds → DpAll K H' vs ds
  | [], _, _, h => by cases h; exact .nil
  | d :: ds, _, e, h => by
    unfold immAll at e
    rw [Bool.and_eq_true] at e
    cases h with
    | cons h0 h1 => exact .cons (dp_k s d _ e.1 h0) (dpall_k s ds _ e.2 h1)
end
mutual
theorem dp_same {K : PySem.W.Frag} {H H' : Hp} (s : Same H H') : ∀ (d : PyData) (v : V), Dp K H v d → Dp K H' v d
  | .none, _, h => by cases h; exact .non
  | .bool b, _, h => by cases h; exact .bl b
  | .int i, _, h => by cases h; exact .int i
  | .str x, _, h => by cases h; exact .str x
  | .list xs, _, h => by
    cases h with
    | lst h0 h1 => exact .lst (s.seq h0) (dpall_same s xs _ h1)
  | .dict xs, _, h => by cases h
  | .tuple xs, _, h => by
    cases h with
    | tup h0 h1 => exact .tup (Same.tup s h0) (dpall_same s xs _ h1)
theorem dpall_same {K : PySem.W.Frag} {H H' : Hp} (s : Same H H') : ∀ (ds : List PyData) (vs : List V), DpAll K H vs ds → DpAll K H' vs ds
  | [], _, h => by cases h; exact .nil
  | d :: ds, _, h => by
    cases h with
    | cons h0 h1 => exact .cons (dp_same s d _ h0) (dpall_same s ds _ h1)
end
theorem _root_.L2.Dp.sm {K : PySem.W.Frag} {H H' : Hp} {v : V} {d : PyData} (h : Dp K H v d) (s : Same H H') : Dp K H' v d := dp_same s d v h
theorem _root_.L2.Dp.kt {K : PySem.W.Frag} {H H' : Hp} {v : V} {d : PyData} (h : Dp K H v d) (s : KT H H') (e : imm d = true) : Dp K H' v d := dp_k s d v e h
theorem _root_.L2.DpAll.sm {K : PySem.W.Frag} {H H' : Hp} {vs : List V} {ds : List PyData} (h : DpAll K H vs ds) (s : Same H H') : DpAll K H' vs ds := dpall_same s ds vs h
theorem _root_.L2.DpAll.kt {K : PySem.W.Frag} {H H' : Hp} {vs : List V} {ds : List PyData} (h : DpAll K H vs ds) (s : KT H H') (e : immAll ds = true) : DpAll K H' vs ds := dpall_k s ds vs e h
theorem dpall_app {K : PySem.W.Frag} {H : Hp} : ∀ {vs ws : List V} {ds es : List PyData}, DpAll K H vs ds → DpAll K H ws es → DpAll K H (vs ++ ws) (ds ++ es)
  | _, _, [], _, h, k => by cases h; exact k
  | _, _, d :: ds, _, h, k => by
    cases h with
    | cons a b => exact .cons a (dpall_app b k)
theorem dpall_add {K : PySem.W.Frag} {H : Hp} {vs : List V} {v : V} {ds : List PyData} {d : PyData} (h : DpAll K H vs ds) (k : Dp K H v d) : DpAll K H (vs ++ [v]) (ds ++ [d]) := dpall_app h (.cons k .nil)
theorem immAll_map {α : Type} {f : α → PyData} (h : ∀ x, imm (f x) = true) : ∀ l : List α, immAll (l.map f) = true
  | [] => rfl
  | x :: l => by
    show (imm (f x) && immAll (l.map f)) = true
    rw [h x, immAll_map h l]
    rfl
/-! what can be shown -/
def Sh (n k : Nat) (d : PyData) : Prop := d.showable = true ∧ d.hasDict = false ∧ d.depth ≤ k ∧ d.shown.length ≤ n
theorem Sh.mono {n k m l : Nat} {d : PyData} (h : Sh n k d) (a : n ≤ m) (b : k ≤ l) : Sh m l d := ⟨h.1, h.2.1, Nat.le_trans h.2.2.1 b, Nat.le_trans h.2.2.2 a⟩
theorem Sh.int {m : Nat} {i : Int} (h0 : 0 < m) (h1 : m ≤ 1900) (h : Bt m i) : Sh (m + 1) 1 (.int i) := ⟨bt_show (h.mono h1), rfl, by simp [PyData.depth], shown_int_len h0 h⟩
theorem Sh.str {z : Str} (hz : ∀ c ∈ z.cps.toList, c < 16 ^ 8) : Sh (10 * z.length + 2) 1 (.str z) := ⟨rfl, rfl, by simp [PyData.depth], StrLaws.reprText_len z hz⟩
theorem sh_all {n k : Nat} : ∀ (ds : List PyData), (∀ d ∈ ds, Sh n k d) → PyData.showableAll ds = true ∧ PyData.hasDictAll ds = false ∧ PyData.depthAll ds ≤ k ∧ piled (PyData.shownAll ds) ≤ ds.length * (n + 2)
  | [], _ => ⟨rfl, rfl, Nat.zero_le _, by simp [PyData.shownAll, piled]⟩
  | d :: ds, h => by
    obtain ⟨a, b, c, e⟩ := sh_all ds (fun x hx => h x (List.mem_cons_of_mem _ hx))
    obtain ⟨a', b', c', e'⟩ := h d List.mem_cons_self
    refine ⟨?_, ?_, ?_, ?_⟩
    · simp [PyData.showableAll, a, a']
    · simp [PyData.hasDictAll, b, b']
    · simp only [PyData.depthAll]
      omega
    · simp only [PyData.shownAll, piled, List.length_cons, Nat.add_mul, List.map_cons, List.sum_cons] at e ⊢
      omega
theorem Sh.tup {n k m : Nat} {ds : List PyData} (h : ∀ d ∈ ds, Sh n k d) (hl : ds.length ≤ m) : Sh (m * (n + 2) + 2) (k + 1) (.tuple ds) := by
  obtain ⟨a, b, c, e⟩ := sh_all ds h
  refine ⟨a, b, ?_, ?_⟩
  · simp only [PyData.depth]
    omega
  · have := shown_tup_len ds
    have := Nat.mul_le_mul_right (n + 2) hl
    omega
theorem Sh.lst {n k m : Nat} {ds : List PyData} (h : ∀ d ∈ ds, Sh n k d) (hl : ds.length ≤ m) : Sh (m * (n + 2) + 2) (k + 1) (.list ds) := by
  obtain ⟨a, b, c, e⟩ := sh_all ds h
  refine ⟨a, b, ?_, ?_⟩
  · simp only [PyData.depth]
    omega
  · have := shown_lst_len ds
    have := Nat.mul_le_mul_right (n + 2) hl
    omega
theorem Sh.pd {m : Nat} {a b : Int} (h0 : 0 < m) (h1 : m ≤ 1900) (h : Bt m a) (k : Bt m b) : Sh (2 * (m + 3) + 2) 2 (pd a b) := by
  refine Sh.tup (n := m + 1) (k := 1) (fun d hd => ?_) (Nat.le_refl 2)
  simp only [List.mem_cons, List.not_mem_nil, or_false] at hd
  rcases hd with rfl | rfl
  · exact Sh.int h0 h1 h
  · exact Sh.int h0 h1 k
end WS
set_option Elab.async false
set_option linter.all false
set_option maxRecDepth 100000
set_option maxHeartbeats 4000000
namespace WS
open PySem PySem.Spec PyProof.Rows L2
/-! walks over lists and tuples alike: enumerate, zip of two, zip of three -/
def SqB (K : PySem.W.Frag) (b : Bool) (H : Hp) (a : Addr) (xs : List V) : Prop := match b with | true => SqL K H a xs | false => SqT K H a xs
def ItB (b : Bool) (h : Heap) (it a : Addr) (i : Nat) : Prop := match b with | true => h.IsListIter it a i | false => h.IsTupleIter it a i
def IsB (b : Bool) (h : Heap) (a : Addr) (its : Array Value) : Prop := match b with | true => h.IsList a its | false => h.IsTuple a its
def oB (b : Bool) (a : Addr) : Obj := match b with | true => { cls := .type "list_iterator", data := .fields #[.ref a, .int 0 0] } | false => { cls := .type "tuple_iterator", data := .fields #[.ref a, .int 0 0] }
theorem sqb_get {X : Cx} {pins : List (Addr × Obj)} {σ : L2.St} {H : Hp} {s : Shared} {b : Bool} {a : Addr} {xs : List V} (I : Inv X pins σ H s) (h : SqB X.K b H a xs) : ∃ its : List Value, Vals xs its ∧ IsB b s.heap a its.toArray := by
  cases b with
  | true =>
    obtain ⟨its, r, p, _⟩ := I.list h
    exact ⟨its, r, p.isList⟩
  | false =>
    obtain ⟨its, r, ⟨o, e, c, n, d⟩, _⟩ := I.tuple h
    exact ⟨its, r, o, e, c, n, d⟩
theorem sqb_inj {X : Cx} {pins : List (Addr × Obj)} {σ : L2.St} {H : Hp} {s : Shared} {b : Bool} {a : Addr} {xs ys : List V} (I : Inv X pins σ H s) (h : SqB X.K b H a xs) (h' : SqB X.K b H a ys) : xs = ys := by
  cases b with
  | true => exact I.list_inj h h'
  | false => exact I.tuple_inj h h'
theorem itb_obj {b : Bool} {h : Heap} {it a : Addr} {i : Nat} (x : ItB b h it a i) : ∃ o, h.get? it = some o ∧ ∀ v, o.data ≠ .cell v := by
  cases b <;> (obtain ⟨o, e, c, d⟩ := x; exact ⟨o, e, fun v z => by rw [d] at z; cases z⟩)
theorem itb_keep {b : Bool} {h h' : Heap} {it a : Addr} {i : Nat} (x : ItB b h it a i) (k : ∀ o, h.get? it = some o → h'.get? it = some o) : ItB b h' it a i := by
  cases b <;> (obtain ⟨o, e, r⟩ := x; exact ⟨o, k o e, r⟩)
theorem itb_draws {b : Bool} {prog : Program} {w : World} {A : Around} (hh : A.handled = none) (it a : Addr) (hne : a ≠ it) (its : Array Value) :
    Draws prog w A it [it, a] its.size (fun i v => its[i]? = some v) (fun i h => ItB b h it a i ∧ IsB b h a its) := by
  cases b with
  | true => exact Draws.list hh it a hne its
  | false => exact Draws.tuple hh it a hne its
theorem itb_begins (b : Bool) (a : Addr) (its : Array Value) : Begins (.ref a) (oB b a) (fun h => IsB b h a its) := by
  cases b with
  | true => exact begins_list a its
  | false => exact begins_tuple a its
theorem itb_start {b : Bool} {h : Heap} {it a : Addr} (e : h.get? it = some (oB b a)) : ItB b h it a 0 := by
  cases b <;> exact ⟨_, e, rfl, rfl⟩
theorem isb_ne {b c : Bool} {h : Heap} {it a a' : Addr} {i : Nat} {its : Array Value} (x : IsB b h a its) (y : ItB c h it a' i) : a ≠ it := by
  intro z
  subst z
  cases b <;> cases c <;> (obtain ⟨o, e, k, _⟩ := x; obtain ⟨o', e', k', _⟩ := y; rw [e] at e'; cases e'; rw [k] at k'; simp at k')
/-- a walk told turn by turn -/
theorem turn_gen {P : Program} {w : World} {K : PySem.W.Frag} {elts : List Expr} {kk : Nat} {tpos : Pos} {J : It} {fp : List Addr} {e : Addr} {tn : Nat → Heap → Prop} (hm : e ∈ fp)
    (obj : ∀ i h, tn i h → ∀ b ∈ fp, ∃ o, h.get? b = some o ∧ ∀ v, o.data ≠ .cell v)
    (keep : ∀ i h h', tn i h → (∀ b ∈ fp, ∀ o, h.get? b = some o → h'.get? b = some o) → tn i h')
    (each : ∀ (X : Cx), X.prog = P → X.w = w → X.K = K → X.calm = true → ∀ (i : Nat) (pins : List (Addr × Obj)) (s : Shared) (σ : L2.St) (H : Hp), Inv X pins σ H s → (∀ b ∈ fp, FpOk X pins H b) → tn i s.heap → J.go i H →
      ∃ (FP wr : List Addr) (n : Nat) (Pt : Nat → Array Value → Prop) (St : Nat → Heap → Prop) (Mid : Nat → Addr → Heap → Prop), WalksT P w X.A e FP wr n Pt St Mid ∧ (∀ b ∈ wr, b ∈ fp) ∧ i < n ∧ St i s.heap ∧ (∀ h, St (i + 1) h → tn (i + 1) h) ∧
        ∀ vals, Pt i vals → ∃ xs : List V, Vals xs vals.toList ∧ xs.length ≤ sizeLine ∧ ∀ T, H T = none → J.yld i H (.ref T) (upd H T (.tup xs)))
    (fin : ∀ (X : Cx), X.prog = P → X.w = w → X.K = K → X.calm = true → ∀ (i : Nat) (pins : List (Addr × Obj)) (s : Shared) (σ : L2.St) (H : Hp), Inv X pins σ H s → (∀ b ∈ fp, FpOk X pins H b) → tn i s.heap → J.stop i H →
      ∃ (FP wr : List Addr) (n : Nat) (Pt : Nat → Array Value → Prop) (St : Nat → Heap → Prop) (Mid : Nat → Addr → Heap → Prop), WalksT P w X.A e FP wr n Pt St Mid ∧ (∀ b ∈ wr, b ∈ fp) ∧ St n s.heap)
    (self : ∀ (A : Around) (i : Nat) (s : Shared) (Q : Value → Shared → Prop) (E : Value → Shared → Prop), tn i s.heap → Q (.ref e) s → wpAny (model P w) A (pyIter (.ref e)) Q E s) :
    Turn P w K (.Tuple elts kk tpos) J fp e tn where
  mem := hm
  obj := obj
  keep := keep
  item := fun X hP hw hK hc i pins s σ H E I hf st hg => by
    obtain ⟨FP, wr, n, Pt, St, Mid, W, hwr, hi, h0, hn, hv⟩ := each X hP hw hK hc i pins s σ H I hf st hg
    subst hP hw hK
    refine W.item i s _ E hi h0 fun T vals h1 tk hp hT hI hMid hk => ⟨.ref T, rfl, ?_⟩
    refine W.go elts kk tpos i T _ _ _ hMid fun h2 st2 hk2 => ?_
    obtain ⟨xs, rv, hz, hy⟩ := hv vals hp
    obtain ⟨oT, eT, cT, n', dT⟩ := hI
    have eT2 : h2.get? T = some oT := hk2 T oT (W.apart i T _ hMid) eT
    have new : ObjOk X.prog X.w (upd H T (.tup xs)) h2 T (.tup xs) := ⟨hz, vals.toList, rv, oT, eT2, cT, n', by simpa using dT⟩
    have I2 : Inv X pins σ (upd H T (.tup xs)) { s with heap := h2, toks := tk } := I.turnedNew (t' := tk) (ch := fp) (fun b o hb q => hk2 b o (fun z => hb (hwr b z)) (hk b o (fun z => hb (hwr b z)) q)) hf hT new
    have fT : H T = none := I.hok.fresh hT
    refine ⟨.ref T, _, I2, rfl, hy T fT, hn _ st2, fun b hb => ?_⟩
    have nb : b ≠ T := fun z => by
      obtain ⟨o, eo, _⟩ := obj i s.heap st b hb
      have := Heap.lt_size eo
      rw [z] at this
      exact absurd (Nat.lt_of_lt_of_le this hT) (Nat.lt_irrefl _)
    rw [upd_ne nb]
    exact (hf b hb).1
  done := fun X hP hw hK hc i pins s σ H E I hf st hg => by
    obtain ⟨FP, wr, n, Pt, St, Mid, W, hwr, h0⟩ := fin X hP hw hK hc i pins s σ H I hf st hg
    subst hP hw hK
    exact W.done s _ E h0 fun h1 tk hk => ⟨rfl, I.turnedL (t' := tk) (ch := fp) (fun b o hb q => hk b o (fun z => hb (hwr b z)) q) hf⟩
  self := self
/-- the items with their numbers from k on -/
def ItE (K : PySem.W.Frag) (b : Bool) (a : Addr) (k : Int) : It :=
  ⟨fun i H => ∃ (xs : List V) (x : V), SqB K b H a xs ∧ xs[i]? = some x,
   fun i H v H' => ∃ T x, v = .ref T ∧ H T = none ∧ H' = upd H T (.tup [.int (k + (i : Nat)), x]) ∧ ∀ xs, SqB K b H a xs → xs[i]? = some x,
   fun i H => ∃ xs : List V, SqB K b H a xs ∧ xs.length = i⟩
theorem turn_enumB {P : Program} {w : World} {K : PySem.W.Frag} {elts : List Expr} {kk : Nat} {tpos : Pos} {b : Bool} {k : Int} (a e it : Addr) (hei : e ≠ it) :
    Turn P w K (.Tuple elts kk tpos) (ItE K b a k) [e, it] e (fun i h => (∃ old, IsEnum h e it (k + (i : Nat)) old) ∧ ItB b h it a i) := by
  have two : ∀ {c : Addr}, c ∈ [e, it] → c = e ∨ c = it := fun h => by simpa using h
  refine turn_gen (by simp) ?_ ?_ ?_ ?_ ?_
  · rintro i h ⟨⟨old, he⟩, hi⟩ c hc
    rcases two hc with rfl | rfl
    · exact ⟨_, he, fun v q => nomatch q⟩
    · exact itb_obj hi
  · rintro i h h' ⟨⟨old, he⟩, hi⟩ kp
    exact ⟨⟨old, kp e (by simp) _ he⟩, itb_keep hi fun o q => kp it (by simp) o q⟩
  · rintro X hP hw hK hc i pins s σ H I hf ⟨⟨old, he⟩, hi⟩ ⟨xs, x, hq, hx⟩
    subst hP hw hK
    obtain ⟨its, rv, hB⟩ := sqb_get I hq
    have hne := isb_ne hB hi
    have hae : a ≠ e := fun z => by
      subst z
      cases b <;> (obtain ⟨o, q, c, _⟩ := hB; rw [he] at q; cases q; simp at c)
    obtain ⟨u, hu, ru⟩ := rv.get hx
    have D := itb_draws (b := b) (prog := X.prog) (w := X.w) (A := X.A.in1) (I.ok.hd hc) it a hne its.toArray
    have hlt : i < its.toArray.size := by
      have := (List.getElem?_eq_some_iff.mp hu).1
      simpa using this
    refine ⟨_, _, _, _, _, _, WalksT.enumFrom k D e hei (by simp [hei, Ne.symm hae]) (by simp), fun c hc => hc, hlt, ⟨⟨old, he⟩, hi, hB⟩, fun h st => ⟨st.1, st.2.1⟩, ?_⟩
    rintro vals ⟨t, y, hy, rfl⟩
    have ey : y = u := by
      have : its[i]? = some y := by simpa using hy
      rw [hu] at this
      exact (Option.some.inj this).symm
    subst ey
    refine ⟨[.int (k + (i : Nat)), x], .cons ⟨_, rfl⟩ (.cons ru .nil), by show 2 ≤ sizeLine; decide, fun T hT => ⟨T, x, rfl, hT, rfl, fun ys hys => by rw [sqb_inj I hys hq]; exact hx⟩⟩
  · rintro X hP hw hK hc i pins s σ H I hf ⟨⟨old, he⟩, hi⟩ ⟨xs, hq, hx⟩
    subst hP hw hK
    obtain ⟨its, rv, hB⟩ := sqb_get I hq
    have hne := isb_ne hB hi
    have hae : a ≠ e := fun z => by
      subst z
      cases b <;> (obtain ⟨o, q, c, _⟩ := hB; rw [he] at q; cases q; simp at c)
    have D := itb_draws (b := b) (prog := X.prog) (w := X.w) (A := X.A.in1) (I.ok.hd hc) it a hne its.toArray
    have hl : its.toArray.size = i := by
      have := rv.length
      simp
      omega
    refine ⟨_, _, _, _, _, _, WalksT.enumFrom k D e hei (by simp [hei, Ne.symm hae]) (by simp), fun c hc => hc, ?_⟩
    rw [hl]
    exact ⟨⟨old, he⟩, hi, hB⟩
  · rintro A i s Q E ⟨⟨old, he⟩, _⟩ h
    exact wpAny_pyIter_enum he h
end WS
set_option Elab.async false
set_option linter.all false
set_option maxRecDepth 100000
set_option maxHeartbeats 4000000
namespace WS
open PySem PySem.Spec PyProof.Rows L2
/-! enumerate(x), x a list or a tuple; its cells -/
set_option maxHeartbeats 1000000 in
theorem meets_en1 {x : Value} {ob : Obj} {Ah : Heap → Prop} (B : Begins x ob Ah) : Meets (Builtin.«enumerate.__new__» ⟨[.type "enumerate", x], []⟩)
    (fun _ Rk z => Ah z.heap ∧ Rk (.ok (.ret (.ref (z.heap.push ob).objs.size))) { z with heap := (z.heap.push ob).push { cls := .type "enumerate", data := .fields #[.none, .bool false, .ref z.heap.objs.size, rawInt 0, .none, .none] } }) := by
  refine .of_wp fun prog w A Rk z hz => ?_
  obtain ⟨hp, g, d, tk, os⟩ := z
  obtain ⟨h1, hz⟩ := hz
  have hsub := sub_enumerate
  have q1 : ∀ {A1 : Around} {E1 : Value → Shared → Prop} {Q1 : Value → Shared → Prop}, Q1 (.ref hp.objs.size) ⟨hp.push ob, g, d, tk, os⟩ →
      wpAny (model prog w) A1 (pyIter x) Q1 E1 ⟨hp, g, d, tk, os⟩ := fun q => B.iter prog w _ _ ⟨hp, g, d, tk, os⟩ _ h1 q
  wp_walk using q1
  refine wpAny_stack_any (fun stk => wpAny_pure ?_)
  split
  · rename_i c0 _ _ _ _ _
    cases (c0 == Value.type "enumerate") <;> (wp_walk using q1; exact ⟨_, rfl, hz⟩)
  · wp_walk using q1
    exact ⟨_, rfl, hz⟩
section
variable {prog : Program} {w : World} {A : Around} {E : Value → Shared → Prop} {s : Shared}
theorem en1_call {x : Value} {ob : Obj} {Ah : Heap → Prop} {Q : Value → Shared → Prop} (B : Begins x ob Ah) (h1 : Ah s.heap)
    (hQ : ∀ h', IsEnum h' (s.heap.objs.size + 1) s.heap.objs.size 0 .none → h'.get? s.heap.objs.size = some ob → (∀ c o, s.heap.get? c = some o → h'.get? c = some o) → Q (.ref (s.heap.objs.size + 1)) { s with heap := h' }) :
    wpAny (model prog w) A (call (.type "enumerate") [x]) Q E s := by
  have sz : (s.heap.push ob).objs.size = s.heap.objs.size + 1 := Heap.size_push ..
  refine callType_new F.called_enumerate (by decide) (F.typeCall_enumerate_1 x) (F.newCall_enumerate_1 x) (fun obj => F.args_object_init_2 obj x) F.entry_enumerate_new (meets_en1 B) ⟨h1, ?_⟩
  have got := Heap.get?_push_size (s.heap.push ob) (o := { cls := .type "enumerate", data := .fields #[.none, .bool false, .ref s.heap.objs.size, rawInt 0, .none, .none] }) rfl
  rw [sz] at got
  show _ ∧ _
  rw [sz]
  exact ⟨⟨_, got, rfl⟩, hQ _ got (Heap.get?_push_of_some _ (Heap.get?_push_size _ B.free)) fun c o z => Heap.get?_push_of_some _ (Heap.get?_push_of_some _ z)⟩
end
def iEnB (K : PySem.W.Frag) (ta : TA) : TI := fun σ H R => ta σ H fun vs H1 => ∃ b a xs, vs = [.ref a] ∧ SqB K b H1 a xs ∧ R (ItE K b a 0) H1
theorem pi_enB {X : Cx} {e : Expr} {ta : TA} {p pos tpos : Pos} {elts : List Expr} {kk : Nat} (hg : Gl X "enumerate") (hm : X.mg "enumerate" = none) (ha : PA X [e] ta)
    (hs : starEach [e] X.env = [(false, eval e X.env)] := by rfl) : PI X (.Tuple elts kk tpos) (.Call (.Name "enumerate" p) [e] [] pos) (iEnB X.K ta) := by
  constructor
  intro pins s σ H R I h
  refine Call_ (ld_blt I hg hm boot_enumerate (PyProof.Rows.callWith_type1 (thn (ha.run pos pins s σ H _ I h) fun us s1 ⟨vs, H1, I1, r1, q1⟩ => ?_) hs rfl))
  obtain ⟨b, a, xs, rfl, hq, q⟩ := q1
  obtain _ | ⟨r, rr⟩ := r1
  cases rr
  cases r
  obtain ⟨its, rv, hB⟩ := sqb_get I1 hq
  refine en1_call (itb_begins b a its.toArray) hB fun h' he hi hk => wpAny_pyIter_enum he ?_
  have I2 : Inv X pins σ H1 { s1 with heap := h' } := I1.kept (t' := s1.toks) hk
  refine ⟨_, [s1.heap.objs.size + 1, s1.heap.objs.size], _, _, H1, rfl, I2, turn_enumB (b := b) (k := 0) a (s1.heap.objs.size + 1) s1.heap.objs.size (Nat.succ_ne_self _), ⟨⟨.none, he⟩, itb_start hi⟩, fun c hc => ?_, q⟩
  have hle : s1.heap.objs.size ≤ c := by
    have z : c = s1.heap.objs.size + 1 ∨ c = s1.heap.objs.size := by simpa using hc
    rcases z with rfl | rfl
    · exact Nat.le_succ _
    · exact Nat.le_refl _
  exact I1.fpOk hle (I1.hok.fresh hle)
theorem walk_enB {K : PySem.W.Frag} {b : Bool} {a : Addr} {xs : List V} {k : Int} : Walk (ItE K b a k) xs.length (fun H => SqB K b H a xs) (YPair (fun i => some (.int (k + (i : Nat)))) (fun i => xs[i]?)) where
  goes := fun i H hi h => ⟨xs, xs[i], h, by simp [hi]⟩
  stops := fun H h => ⟨xs, h, rfl⟩
  yields := fun i H x H' hi h y => by
    obtain ⟨T, v, e1, e2, e3, e4⟩ := y
    exact ⟨T, _, v, e1, e2, e3, rfl, e4 xs h⟩
end WS
set_option Elab.async false
set_option linter.all false
set_option maxRecDepth 100000
set_option maxHeartbeats 4000000
set_option Elab.async false
set_option linter.all false
set_option maxRecDepth 100000
set_option maxHeartbeats 4000000
namespace WS
open PySem PySem.Spec PyProof.Rows L2
/-! within an except suite -/
/-! isinstance of the exception that is handled -/
/-! a def called there, of the exception p that is handled -/
structure FnHot (A : Around) (p : Addr × Obj) (P : Program) (w : World) (K : PySem.W.Frag) (mg : Str → Option Value) (base : Heap) (k : Nat) (f : Addr) (fd : FuncData) (ps : List Str) (sp : Sp) : Prop where
  len : ∀ vs H Q E, sp vs H Q E → vs.length = ps.length
  go : ∀ (outer : List Env) (s : Shared) (H : Hp) (args : Args) (us : List Value) (vs : List V) (Q : VK),
    L2H.RoomH k A → L2H.PinOk outer H s p → Env0 P w K mg base A outer s H → BindsTo s fd args (ps.zip us) → Vals vs us → sp vs H Q E0 →
    codeAny (model P w) A (.call (.ref f) args) (CR CX0 outer P w H s Q E0) s
theorem fun_hot {A : Around} {p : Addr × Obj} {P : Program} {w : World} {K : PySem.W.Frag} {mg : Str → Option Value} {base : Heap} {x qual : Str} {st : Stmt} {f : Addr} {fd : FuncData} {N ps : List Str} {k : Nat} {sp : Sp}
    (F : Fun K x qual st f fd) (S : FnScope N ps (defScope st)) (len : ∀ vs H Q E, sp vs H Q E → vs.length = ps.length)
    (B : ∀ (cdv : Value) (outer : List Env) (s : Shared) (H : Hp) (vs : List V) (Q : VK),
      L2H.RoomH k (A.deeper (envOfC qual (defScope st) s.heap.objs.size f cdv)) → sp vs H Q E0 →
      ∃ t, PSs (L2H.cxH CX0 P w K mg base N qual (defScope st) f cdv A outer s H E0 p) (defBody st) t ∧ t ⟨fun _ H' => Q .non H', Q, fun _ _ => False, fun _ _ => False⟩ (start N vs) H) :
    FnHot A p P w K mg base (k + 1) f fd ps sp := by
  obtain ⟨oc, od, kV, doc, pm, an, cdv, ct, osl, rfl, at_f, code⟩ := F.ex
  refine ⟨len, ?_⟩
  intro outer s H args us vs Q room pin env0 bt vals want
  have inK : K.In s.heap := env0.mod.kin.keeps (fun b o e => (env0.bs b o e).1)
  have kinds : ∀ y ∈ ps.zip us, (defScope st).names.lookup y.1 = some .local ∨ ((defScope st).names.lookup y.1 = some .cell ∧ ((cellsFrom (s.heap.objs.size + 1) (defScope st).names []).lookup y.1).isSome = true) := by
    rintro ⟨n, v⟩ hy
    rcases S.par n (List.of_mem_zip hy).1 with l | c
    · exact .inl l
    · exact .inr ⟨c, PySem.W.cellsFrom_some _ _ _ (.inl c)⟩
  refine codeAny_call_function room.depth (inK _ _ at_f) rfl S.co S.gen rfl (PySem.W.codeRec_of inK code) (bt _ _ _ _ ?_)
  refine wpAny_newFunctionEnv_cells S.kind kinds ?_
  rintro env rfl s1 ic
  refine ⟨(env0.mod.nolimit.keeps fun b o e => (env0.bs b o e).1).keeps ic.toInCall.keep, codeAny_func ?_⟩
  obtain ⟨t, pss, reading⟩ := B cdv outer s H vs Q (room.deeper _) want
  have inv := L2H.inv_startH (CX := CX0) (E := E0) S pin env0 (len _ _ _ _ want) vals ic
  refine wpAny_mono (pss.run [] s1 (start N vs) H _ inv reading) ?_ (fun _ _ z => z)
  intro fl s' z
  match fl, z with
  | .ret u, ⟨v, σ', H', J, rv, q⟩ => exact ⟨v, H', J.os, J.bare, J.base, J.hok, rv, q⟩
  | .next, ⟨σ', H', J, q⟩ => exact ⟨.non, H', J.os, J.bare, J.base, J.hok, rfl, q⟩
  | .brk, ⟨_, _, _, q⟩ => exact q.elim
  | .cont, ⟨_, _, _, q⟩ => exact q.elim
theorem pe_callHot {X : Cx} {k : Nat} {p : Addr × Obj} {f : Addr} {fd : FuncData} {ps : List Str} {sp : Sp} {x : Str} {p1 pos : Pos} {e : Expr} {es : List Expr} {t : TA}
    (F : FnHot X.A p X.prog X.w X.K X.mg X.base k f fd ps sp) (room : L2H.RoomH k X.A) (hp : p ∈ X.pn) (gl : Gl X x) (at_x : X.mg x = some (.ref f)) (kp : PySem.W.keepIn X.K (.ref f) = true)
    (bi : Binds X.K fd ps []) (args : PA X (e :: es) t)
    (nodbg : (x == ("__debug__" : Str)) = false := by decide) (one : starEach (e :: es) X.env = (false, eval e X.env) :: starEach es X.env := by rfl) (nostar : (backTo pos (starEach es X.env)).any (·.1) = false := by rfl) :
    PE X (.Call (.Name x p1) (e :: es) [] pos) (tCall sp [] E0 t) := by
  constructor
  intro pins s σ H Q inv want
  refine wpAny_Call_Name_kw (ld_glob inv gl at_x ?_ nodbg)
  refine PySem.W.callWith_K (h₀ := X.base) inv.ok.mod.kin kp (thn (args.run pos pins s σ H _ inv want) ?_) one nostar
  rintro us s1 ⟨vs, H1, inv1, vals, want1⟩
  refine ⟨inv1.kIn, ?_⟩
  rw [List.append_nil] at want1
  have size : us.length = ps.length := vals.length.symm.trans (F.len _ _ _ _ want1)
  have bt := bi s1 us inv1.kIn (by rw [List.append_nil]; exact size)
  rw [List.append_nil] at bt
  obtain ⟨g1, g2, g3, g4, g5⟩ := inv1.pin p (List.mem_append_left _ hp)
  have pin : L2H.PinOk X.stack H1 s1 p := ⟨g1, g2, fun z => (List.mem_cons.mp (inv1.stkSub p.1 z)).elim g3 g4, g5⟩
  refine wpAny_call (codeAny_mono (F.go X.stack s1 H1 ⟨us, []⟩ us vs Q room pin inv1.env0 bt vals want1) ?_)
  intro r s' z
  match r, z with
  | .error er, z => exact z.elim
  | .ok (.ret u), z => exact inv1.after z
  | .ok .next, z => exact z.elim
  | .ok .brk, z => exact z.elim
  | .ok .cont, z => exact z.elim
end WS
set_option Elab.async false
set_option linter.all false
set_option maxRecDepth 100000
set_option maxHeartbeats 4000000
namespace WS
open PySem PySem.Spec PyProof.Rows L2
/-! calls with defaults where what is raised is wished for at the caller's slots -/
theorem takes0N {X : Cx} : L2N.Takes X (fun _ _ _ _ => False) := fun _ _ x => by
  obtain ⟨_, _, _, _, _, _, _, _, _, _, _, _, _, _, _, _, z⟩ := x
  exact z.elim
theorem hot_of {A : Around} {a : Addr} {oe : Obj} {cls : Value} {d : Option Addr} (hz : L2N.Zn cls d oe) (hf : ∃ vs, oe.data = .fields vs) : L2H.Hot1 (A.mark (some (.ref a))) (a, oe) := by
  obtain ⟨vs, e⟩ := hf
  exact ⟨rfl, vs, e, hz.2.2 vs e⟩
theorem room_hot {k : Nat} {A : Around} {v : Option Value} (hr : Room k A) : L2H.RoomH k (A.mark v) := ⟨hr.dp, hr.un⟩
/-! classes that are no base of D -/
theorem ve_kit {K : PySem.W.Frag} {D : Addr} (h : PySem.W.subIn K (.ref D) (.type "ValueError") = some true) : PySem.W.kitOne K (.ref D) (.type "ValueError") = some true := by
  show (if (Value.ref D == Value.type "ValueError") = true then some true else (if PySem.W.kitMeta "ValueError" = true then PySem.W.subIn K (.ref D) (.type "ValueError") else none)) = some true
  rw [if_neg (show ¬ (Value.ref D == Value.type "ValueError") = true from Bool.false_ne_true), if_pos (by decide +kernel)]
  exact h
/-! things that are no whole numbers -/
def Odd (p : Addr) (K : PySem.W.Frag) (H : Hp) (v : V) : Prop := v = .non ∨ (∃ b, v = .bl b) ∨ (∃ z, v = .str z) ∨ ∃ a, v = .ref a ∧ ((∃ xs, SqT K H a xs) ∨ (a ≠ p ∧ ∃ xs, H a = some (.lst xs)) ∨ (a ≠ p ∧ ∃ kvs, H a = some (.dK kvs)))
theorem Odd.x {p : Addr} {K : PySem.W.Frag} {H H' : Hp} {v : V} (h : Odd p K H v) (s : SameX p H H') (hp : PotAt H p) : Odd p K H' v := by
  rcases h with rfl | ⟨b, rfl⟩ | ⟨z, rfl⟩ | ⟨a, rfl, ⟨xs, h⟩ | ⟨n, xs, h⟩ | ⟨n, kvs, h⟩⟩
  · exact .inl rfl
  · exact .inr (.inl ⟨b, rfl⟩)
  · exact .inr (.inr (.inl ⟨z, rfl⟩))
  · exact .inr (.inr (.inr ⟨a, rfl, .inl ⟨xs, s.tup hp h⟩⟩))
  · exact .inr (.inr (.inr ⟨a, rfl, .inr (.inl ⟨n, xs, s a _ n h⟩)⟩))
  · exact .inr (.inr (.inr ⟨a, rfl, .inr (.inr ⟨n, kvs, s a _ n h⟩)⟩))
/-- a whole number, or none -/
def Thing (p : Addr) (K : PySem.W.Frag) (H : Hp) (v : V) : Prop := (∃ i : Int, v = .int i ∧ Bt 400 i) ∨ Odd p K H v
theorem Thing.x {p : Addr} {K : PySem.W.Frag} {H H' : Hp} {v : V} (h : Thing p K H v) (s : SameX p H H') (hp : PotAt H p) : Thing p K H' v := h.elim .inl fun h => .inr (h.x s hp)
/-! the part that two numbers make -/
/-! what is a part -/
def PairIs (K : PySem.W.Frag) (H : Hp) (v : V) (b : Bool) : Prop :=
  (b = false ∧ ∃ t, TyX K H v t ∧ PySem.W.kitOne K t (.type "tuple") = some false) ∨
  ∃ a xs, v = .ref a ∧ SqT K H a xs ∧ ((b = false ∧ xs.length ≠ 2) ∨ ∃ x y, xs = [x, y] ∧ ((b = false ∧ WholeIs K H x false) ∨ (∃ i, x = .int i ∧ b = false ∧ WholeIs K H y false) ∨ ∃ i j : Int, x = .int i ∧ y = .int j ∧ b = (decide (0 < j) && decide ((Int.gcd i j : Int) = 1))))
theorem ty_same {K : PySem.W.Frag} {H H' : Hp} {v : V} {t : Value} (h : TyX K H v t) (s : Same H H') : TyX K H' v t := by
  cases h with
  | base h =>
    cases h with
    | non => exact .base .non
    | bl x => exact .base (.bl x)
    | int i => exact .base (.int i)
    | str z => exact .base (.str z)
    | flt z => exact .base (.flt z)
    | lst e => exact .base (.lst (s _ _ e))
    | frz e => exact .base (.frz (s _ _ e))
    | tup e => exact .base (.tup (s _ _ e))
    | dK e => exact .base (.dK (s _ _ e))
    | dT e => exact .base (.dT (s _ _ e))
    | ins e a b c d f => exact .base (.ins (s _ _ e) a b c d f)
  | byt b => exact .byt b
  | set e => exact .set (s _ _ e)
  | kList e c => exact .kList e c
  | kTuple e c => exact .kTuple e c
  | kDict e c => exact .kDict e c
  | fTuple e => exact .fTuple (s _ _ e)
  | fDict e => exact .fDict (s _ _ e)
theorem WholeIs.same {K : PySem.W.Frag} {H H' : Hp} {v : V} {b : Bool} (h : WholeIs K H v b) (s : Same H H') : WholeIs K H' v b := by
  obtain ⟨t, b1, b2, ty, r⟩ := h
  exact ⟨t, b1, b2, ty_same ty s, r⟩
theorem PairIs.same {K : PySem.W.Frag} {H H' : Hp} {v : V} {b : Bool} (h : PairIs K H v b) (s : Same H H') : PairIs K H' v b := by
  rcases h with ⟨e, t, ty, k⟩ | ⟨a, xs, e, ht, h⟩
  · exact .inl ⟨e, t, ty_same ty s, k⟩
  · refine .inr ⟨a, xs, e, Same.tup s ht, ?_⟩
    rcases h with h | ⟨x, y, e, h⟩
    · exact .inl h
    · refine .inr ⟨x, y, e, ?_⟩
      rcases h with ⟨e1, w⟩ | ⟨i, e1, e2, w⟩ | h
      · exact .inl ⟨e1, w.same s⟩
      · exact .inr (.inl ⟨i, e1, e2, w.same s⟩)
      · exact .inr (.inr h)
end WS
set_option Elab.async false
set_option linter.all false
set_option maxRecDepth 100000
set_option maxHeartbeats 4000000
namespace WS
open PySem PySem.Spec PyProof.Rows L2
/-! defs that let exceptions out, of any kind -/
/-! things of two dozen sorts that are no whole numbers, and no parts -/
def Odd2 (p : Addr) (K : PySem.W.Frag) (H : Hp) (v : V) : Prop := v = .non ∨ (∃ b, v = .bl b) ∨ (∃ z, v = .str z) ∨ ∃ a, v = .ref a ∧ ((∃ xs, SqT K H a xs ∧ (xs.length ≠ 2 ∨ (∃ y, xs = [.non, y]) ∨ (∃ z y, xs = [.str z, y]) ∨ xs = [.int 2, .int 2])) ∨ (a ≠ p ∧ ∃ xs, H a = some (.lst xs)) ∨ (a ≠ p ∧ ∃ kvs, H a = some (.dK kvs)))
theorem Odd2.x {p : Addr} {K : PySem.W.Frag} {H H' : Hp} {v : V} (h : Odd2 p K H v) (s : SameX p H H') (hp : PotAt H p) : Odd2 p K H' v := by
  rcases h with h | h | h | ⟨a, e, ⟨xs, h, r⟩ | ⟨n, xs, h⟩ | ⟨n, kvs, h⟩⟩
  · exact .inl h
  · exact .inr (.inl h)
  · exact .inr (.inr (.inl h))
  · exact .inr (.inr (.inr ⟨a, e, .inl ⟨xs, s.tup hp h, r⟩⟩))
  · exact .inr (.inr (.inr ⟨a, e, .inr (.inl ⟨n, xs, s a _ n h⟩)⟩))
  · exact .inr (.inr (.inr ⟨a, e, .inr (.inr ⟨n, kvs, s a _ n h⟩)⟩))
end WS
set_option Elab.async false
set_option linter.all false
set_option maxRecDepth 100000
set_option maxHeartbeats 4000000
set_option Elab.async false
set_option linter.all false
set_option maxRecDepth 100000
set_option maxHeartbeats 4000000
namespace WS
open PySem PySem.Spec PyProof.Rows L2
/-! vouchers -/
structure VR where
  w : Int
  a : Int
  b : Int
  l : Int × Int
  m : Int × Int
  c : Int × Int
def VRow (K : PySem.W.Frag) (H : Hp) (v : V) (r : VR) : Prop := ∃ t x y z, v = .ref t ∧ SqT K H t [.int r.w, .int r.a, .int r.b, x, y, z] ∧ TupI K H x r.l.1 r.l.2 ∧ TupI K H y r.m.1 r.m.2 ∧ TupI K H z r.c.1 r.c.2
theorem VRow.k {K : PySem.W.Frag} {H H' : Hp} {v : V} {r : VR} (h : VRow K H v r) (s : KT H H') : VRow K H' v r := by
  obtain ⟨t, x, y, z, e, h0, h1, h2, h3⟩ := h
  exact ⟨t, x, y, z, e, s.sqt h0, h1.k s, h2.k s, h3.k s⟩
def VRows (K : PySem.W.Frag) (H : Hp) (vs : List V) (rs : List VR) : Prop := vs.length = rs.length ∧ ∀ (i : Nat) v, vs[i]? = some v → ∃ r, rs[i]? = some r ∧ VRow K H v r
theorem VRows.k {K : PySem.W.Frag} {H H' : Hp} {vs : List V} {rs : List VR} (h : VRows K H vs rs) (s : KT H H') : VRows K H' vs rs := ⟨h.1, fun i v e => by
  obtain ⟨r, e1, h1⟩ := h.2 i v e
  exact ⟨r, e1, h1.k s⟩⟩
theorem VRows.nil {K : PySem.W.Frag} {H : Hp} : VRows K H [] [] := ⟨rfl, fun i v e => by simp at e⟩
theorem VRows.add {K : PySem.W.Frag} {H : Hp} {v : V} {vs : List V} {r : VR} {rs : List VR} (k : VRows K H vs rs) (h : VRow K H v r) : VRows K H (vs ++ [v]) (rs ++ [r]) := by
  refine ⟨by simp [k.1], fun i x e => ?_⟩
  rw [List.getElem?_append] at e ⊢
  have hl := k.1
  split at e
  · rename_i hi
    obtain ⟨r', e1, h1⟩ := k.2 i x e
    rw [if_pos (by omega)]
    exact ⟨r', e1, h1⟩
  · rename_i hi
    rw [if_neg (by omega)]
    have e0 : i - vs.length = 0 := by
      cases hj : i - vs.length with
      | zero => rfl
      | succ j => rw [hj] at e; simp at e
    rw [e0] at e
    rw [← hl, e0]
    simp only [List.getElem?_cons_zero, Option.some.injEq] at e ⊢
    subst e
    exact ⟨r, rfl, h⟩
def ltp (p q : Int × Int) : Bool := decide (p.1 * q.2 < q.1 * p.2)
def mo (W n k : Int) : Int × Int := lo (W * k * (n - k)) 2
def mi (p q : Int × Int) : Int × Int := lo (p.1 * q.2 - q.1 * p.2) (p.2 * q.2)
def Okv (p : Int × Int) : Prop := Lowest p.1 p.2 ∧ Okq 204 92 p
def Vch (K : PySem.W.Frag) (H : Hp) (v : V) (n k : Int) (s : Int × Int) (rs : List VR) : Prop := ∃ t u R vs, v = .ref t ∧ SqT K H t [.int n, .int k, u, .ref R] ∧ TupI K H u s.1 s.2 ∧ SqT K H R vs ∧ VRows K H vs rs
theorem Vch.k {K : PySem.W.Frag} {H H' : Hp} {v : V} {n k : Int} {s : Int × Int} {rs : List VR} (h : Vch K H v n k s rs) (e : KT H H') : Vch K H' v n k s rs := by
  obtain ⟨t, u, R, vs, e1, h1, h2, h3, h4⟩ := h
  exact ⟨t, u, R, vs, e1, e.sqt h1, h2.k e, e.sqt h3, h4.k e⟩
theorem Okv.okp {m : Nat} {p : Int × Int} (h : Okv p) (hm : 204 ≤ m) : Okp m p := h.2.okp hm (by omega)
theorem Okq.mi {n d m e : Nat} {p q : Int × Int} (h : Okq n d p) (k : Okq m e q) : Okq (max (n + e) (m + d) + 1) (d + e) (mi p q) := by
  refine ⟨(lo_lowest (Int.mul_pos h.1 k.1)).1, Bt.lo1 ?_, (h.2.2.mul k.2.2).lo2⟩
  exact Bt.sub ((h.2.1.mul k.2.2).mono (Nat.le_max_left _ _)) ((k.2.1.mul h.2.2).mono (Nat.le_max_right _ _))
end WS
set_option Elab.async false
set_option linter.all false
set_option maxRecDepth 100000
set_option maxHeartbeats 4000000
set_option Elab.async false
set_option linter.all false
set_option maxRecDepth 100000
set_option maxHeartbeats 4000000
namespace WS
open PySem PySem.Spec PyProof.Rows L2
/-! parts as rational numbers -/
def rv (p : Int × Int) : Rat := (p.1 : Rat) / (p.2 : Rat)
theorem cast_pos {b : Int} (h : 0 < b) : (0 : Rat) < b := by exact_mod_cast h
theorem cast_nn {b : Int} (h : 0 ≤ b) : (0 : Rat) ≤ b := by exact_mod_cast h
theorem cast_ne {b : Int} (h : 0 < b) : (b : Rat) ≠ 0 := by exact_mod_cast (by omega : b ≠ 0)
theorem cast_le {a b : Int} : (a : Rat) ≤ b ↔ a ≤ b := by exact_mod_cast Iff.rfl
theorem cast_mul (a b : Int) : ((a * b : Int) : Rat) = a * b := Rat.intCast_mul a b
theorem cast_add (a b : Int) : ((a + b : Int) : Rat) = a + b := Rat.intCast_add a b
theorem cast_sub (a b : Int) : ((a - b : Int) : Rat) = a - b := Rat.intCast_sub a b
theorem rv_lo {a b : Int} (hb : 0 < b) : rv (lo a b) = (a : Rat) / b := by
  have h1 := cast_ne hb
  have h2 := cast_ne (lo_lowest (a := a) hb).1
  have e' : ((lo a b).1 : Rat) * b = a * (lo a b).2 := by
    have := lo_cross a b
    exact_mod_cast this
  unfold rv
  grind
theorem rv_pl {p q : Int × Int} (hp : 0 < p.2) (hq : 0 < q.2) : rv (pl p q) = rv p + rv q := by
  unfold pl
  rw [rv_lo (Int.mul_pos hp hq), cast_add, cast_mul, cast_mul, cast_mul]
  have h1 := cast_ne hp
  have h2 := cast_ne hq
  unfold rv
  grind
theorem rv_mi {p q : Int × Int} (hp : 0 < p.2) (hq : 0 < q.2) : rv (mi p q) = rv p - rv q := by
  unfold mi
  rw [rv_lo (Int.mul_pos hp hq), cast_sub, cast_mul, cast_mul, cast_mul]
  have h1 := cast_ne hp
  have h2 := cast_ne hq
  unfold rv
  grind
theorem rv_mo (W n k : Int) : rv (mo W n k) = (W : Rat) * k * (n - k) / 2 := by
  unfold mo
  rw [rv_lo (by decide), cast_mul, cast_mul, cast_sub]
  rfl
theorem ltp_iff {p q : Int × Int} (hp : 0 < p.2) (hq : 0 < q.2) : ltp p q = true ↔ rv p < rv q := by
  unfold ltp rv
  rw [decide_eq_true_iff]
  have h1 := cast_pos hp
  have h2 := cast_pos hq
  have e : (p.1 * q.2 < q.1 * p.2) ↔ (p.1 : Rat) * q.2 < q.1 * p.2 := by exact_mod_cast Iff.rfl
  rw [e, Rat.div_lt_iff h1]
  have : (q.1 : Rat) / q.2 * p.2 = (q.1 * p.2) / q.2 := by grind
  rw [this, Rat.lt_div_iff h2]
theorem ltp_no {p q : Int × Int} (hp : 0 < p.2) (hq : 0 < q.2) : ltp p q = false ↔ rv q ≤ rv p := by
  rw [← Bool.not_eq_true, ltp_iff hp hq, Rat.not_lt]
theorem row_bound {W n k a b S L M C : Rat} (hW : 0 < W) (ha : 0 ≤ a) (hb : 0 ≤ b) (hs : S ≤ W * k * (n - k) / 2) (hl : L ≤ W * (k - a) * (n - (k - a)) / 2) (hm : M ≤ W * (k + b) * (n - (k + b)) / 2) (hx : (S - L) * b ≤ (M - S) * a) (hc : C ≤ a * b / 2) :
    W * C ≤ W * k * (n - k) / 2 - S := by
  have h1 := Rat.mul_le_mul_of_nonneg_left hl hb
  have h2 := Rat.mul_le_mul_of_nonneg_left hm ha
  have h3 : (a + b) * S ≤ (a + b) * (W * k * (n - k) / 2 - W * a * b / 2) := by grind
  have h4 := Rat.mul_le_mul_of_nonneg_left hc (Rat.le_of_lt hW)
  by_cases hab : 0 < a + b
  · have h5 : S ≤ W * k * (n - k) / 2 - W * a * b / 2 := Rat.le_of_mul_le_mul_left h3 hab
    grind
  · have ea : a = 0 := by grind
    have eb : b = 0 := by grind
    subst ea eb
    grind
end WS
set_option Elab.async false
set_option linter.all false
set_option maxRecDepth 100000
set_option maxHeartbeats 4000000
namespace WS
open PySem PySem.Spec PyProof.Rows L2
theorem samex_upd {p F : Addr} {H H' : Hp} {o : HO} (s : SameX p H H') (n : H F = none) : SameX p H (upd H' F o) := fun b x nb e => by
  rw [upd_ne (ne_of_none e n)]
  exact s b x nb e
theorem PotAt.upd {H : Hp} {p F : Addr} {o : HO} (h : PotAt H p) (n : F ≠ p) : PotAt (upd H F o) p := by
  obtain ⟨x, y, e, r⟩ := h
  exact ⟨x, y, by rw [upd_ne n.symm]; exact e, r⟩
theorem PotAt.nel {H : Hp} {p F : Addr} {xs : List V} (h : PotAt H p) (hF : H F = some (.lst xs)) (n : xs.length ≠ 2) : F ≠ p := by
  obtain ⟨x, y, e, r⟩ := h
  intro z
  subst z
  rw [hF] at e
  cases e
  exact n rfl
end WS
set_option Elab.async false
set_option linter.all false
set_option maxRecDepth 100000
set_option maxHeartbeats 4000000
namespace WS
open PySem PySem.Spec PyProof.Rows L2
open TL
/-! names -/
def Nm (z : Str) : Prop := 1 ≤ (tl z).length ∧ (tl z).length ≤ 8 ∧ ∀ c ∈ tl z, 97 ≤ c ∧ c ≤ 122
def Nm0 (z : Str) : Prop := z = "" ∨ Nm z
theorem nm_ne {z : Str} (h : Nm z) : z ≠ "" := fun e => by
  rw [e] at h
  exact absurd h.1 (by decide)
theorem nm_sh {z : Str} (h : Nm0 z) : Sh 82 1 (.str z) := by
  have hl : z.length ≤ 8 := by
    rw [len_tl]
    rcases h with rfl | h
    · decide
    · exact h.2.1
  refine (Sh.str (z := z) fun c hc => ?_).mono (by omega) (Nat.le_refl _)
  rcases h with rfl | h
  · exact absurd hc (by decide +revert)
  · have := h.2.2 c hc
    omega
theorem inV_str (z : Str) (us : List Str) : inV (.str z) (us.map V.str) = decide (z ∈ us) := by
  unfold inV
  rw [List.any_map]
  induction us with
  | nil => simp
  | cons u us ih =>
    simp only [List.any_cons, Function.comp, List.mem_cons, ih]
    show ((u == z) || decide (z ∈ us)) = decide (z = u ∨ z ∈ us)
    by_cases h : z = u
    · subst h; simp
    · have : (u == z) = false := by simp [Ne.symm h]
      rw [this, Bool.false_or]
      simp [h]
theorem flat_strs (us : List Str) : (us.map V.str).all flatV = true := by
  rw [List.all_eq_true]
  intro v hv
  obtain ⟨u, _, rfl⟩ := List.mem_map.mp hv
  rfl
theorem join_one (ys : List Str) : tl (Str.join "" ys) = (ys.map tl).flatten := by
  rw [tl_join]
  show joinL [] (ys.map tl) = _
  induction ys.map tl with
  | nil => rfl
  | cons p r ih =>
    cases r with
    | nil => simp [joinL]
    | cons q r =>
      show p ++ ([] ++ joinL [] (q :: r)) = _
      rw [ih]
      simp
def sg1 (c : Nat) : Str := ⟨#[c]⟩
theorem join_nm {cs : List Nat} (h1 : 1 ≤ cs.length) (h2 : cs.length ≤ 8) (hc : ∀ c ∈ cs, 97 ≤ c ∧ c ≤ 122) : Nm (Str.join "" (cs.map sg1)) := by
  have e : tl (Str.join "" (cs.map sg1)) = cs := by
    rw [join_one, List.map_map]
    induction cs with
    | nil => rfl
    | cons c cs ih =>
      simp only [List.map_cons, List.flatten_cons]
      show [c] ++ _ = _
      cases cs with
      | nil => simp
      | cons d ds => rw [ih (by simp) (by simp at h2 ⊢; omega) (fun x hx => hc x (List.mem_cons_of_mem _ hx))]; rfl
  unfold Nm
  rw [e]
  exact ⟨h1, h2, hc⟩
theorem sg_len : ∀ cs : List Nat, ((cs.map sg1).map (·.length)).sum ≤ cs.length
  | [] => Nat.le_refl _
  | c :: cs => by
    have := sg_len cs
    simp only [List.map_cons, List.sum_cons, List.length_cons]
    have e : (sg1 c).length = 1 := rfl
    omega
abbrev abc : Str := "abcdefghijklmnopqrstuvwxyz"
theorem abc_at {d : Int} (h0 : 0 ≤ d) (h1 : d < 26) : ∃ c, atI abc.cps.toList d = some c ∧ 97 ≤ c ∧ c ≤ 122 := by
  obtain ⟨n, rfl⟩ : ∃ n : Nat, d = n := ⟨d.toNat, by omega⟩
  have hn : n < 26 := by omega
  have : ∀ m, m < 26 → ∃ c, abc.cps.toList[m]? = some c ∧ 97 ≤ c ∧ c ≤ 122 := by decide +kernel
  obtain ⟨c, e, r⟩ := this n hn
  exact ⟨c, atI_nat e, r⟩
theorem sg1_inj {c d : Nat} (h : sg1 c = sg1 d) : c = d := by
  have : tl (sg1 c) = tl (sg1 d) := by rw [h]
  exact List.head_eq_of_cons_eq this
theorem nodup_in {α : Type} [DecidableEq α] : ∀ {l m : List α}, l.Nodup → (∀ x ∈ l, x ∈ m) → l.length ≤ m.length
  | [], _, _, _ => Nat.zero_le _
  | x :: l, m, hn, hs => by
    have hx := hs x List.mem_cons_self
    have ih := nodup_in (l := l) (m := m.erase x) (List.nodup_cons.mp hn).2 (fun y hy => by
      have hne : y ≠ x := fun e => (List.nodup_cons.mp hn).1 (e ▸ hy)
      exact (List.mem_erase_of_ne hne).mpr (hs y (List.mem_cons_of_mem _ hy)))
    rw [List.length_erase_of_mem hx] at ih
    have : 0 < m.length := List.length_pos_of_mem hx
    simp only [List.length_cons]
    omega
def lets : List Nat := abc.cps.toList
theorem lets_ok : lets.Nodup ∧ lets.length = 26 ∧ (∀ c ∈ lets, 97 ≤ c ∧ c ≤ 122) ∧ abc.cps.size = 26 := by decide +kernel
/-- of so few names some letter is none -/
theorem some_free {us : List Str} (h : us.length < 26) : (lets.filter fun c => !decide (sg1 c ∈ us)) ≠ [] := by
  intro e
  have all : ∀ c ∈ lets, sg1 c ∈ us := fun c hc => by
    apply Decidable.byContradiction
    intro n
    have : c ∈ lets.filter fun c => !decide (sg1 c ∈ us) := List.mem_filter.mpr ⟨hc, by simp [n]⟩
    rw [e] at this
    exact List.not_mem_nil this
  have nd : (lets.map sg1).Nodup := List.Pairwise.map _ (fun a b hab => fun z => hab (sg1_inj z)) lets_ok.1
  have := nodup_in nd (m := us) (fun x hx => by
    obtain ⟨c, hc, rfl⟩ := List.mem_map.mp hx
    exact all c hc)
  rw [List.length_map, lets_ok.2.1] at this
  omega
def spName : Sp := fun vs H Q _ => ∃ (p U : Addr) (us : List Str), vs = [.ref p, .ref U] ∧ PotAt H p ∧ U ≠ p ∧ H U = some (.lst (us.map V.str)) ∧ us.length < 26 ∧ ∀ z H', Nm z → z ∉ us → SameX p H H' → PotAt H' p → Q (.str z) H'
end WS
set_option Elab.async false
set_option linter.all false
set_option maxRecDepth 100000
set_option maxHeartbeats 4000000
namespace WS
open PySem PySem.Spec PyProof.Rows L2
/-! moments -/
abbrev Seat := Str × (Int × Int)
def seatD (s : Seat) : PyData := .tuple [.str s.1, pdP s.2]
def momD (W : Int) (ss : List Seat) : PyData := .tuple [.int W, .tuple (ss.map seatD)]
theorem seats_imm (ss : List Seat) : immAll (ss.map seatD) = true := immAll_map (fun _ => rfl) ss
theorem mom_imm (W : Int) (ss : List Seat) : imm (momD W ss) = true := by
  show (true && (immAll (ss.map seatD) && true)) = true
  rw [seats_imm]
  rfl
theorem mom_mk {K : PySem.W.Frag} {H : Hp} {t S : Addr} {vs : List V} {W : Int} {ss : List Seat} (h0 : SqT K H t [.int W, .ref S]) (h1 : SqT K H S vs) (h2 : DpAll K H vs (ss.map seatD)) : Dp K H (.ref t) (momD W ss) := .tup h0 (.cons (.int W) (.cons (.tup h1 h2) .nil))
def gs (ss : List Seat) (i : Nat) : Seat := ss.getD i ("", (0, 1))
theorem gs_at {ss : List Seat} {i : Nat} {s : Seat} (h : ss[i]? = some s) : gs ss i = s := by
  unfold gs
  rw [List.getD_eq_getElem?_getD, h]
  rfl
theorem at_gs {ss : List Seat} {i : Nat} (h : i < ss.length) : ss[i]? = some (gs ss i) := by
  rw [gs_at (List.getElem?_eq_getElem h)]
  exact List.getElem?_eq_getElem h
def names (ss : List Seat) : List Str := (ss.map Prod.fst).filter fun z => !decide (z = "")
def frees (ss : List Seat) : List Nat := (List.range ss.length).filter fun i => decide ((gs ss i).1 = "")
def kittyL (ss : List Seat) : List (Int × Int) := (ss.filter fun s : Seat => decide (s.1 = ("" : Str))).map Prod.snd
def ab (p : Int × Int) : Int × Int := (if p.1 < 0 then -p.1 else p.1, p.2)
def near (ss : List Seat) (f i : Nat) : Nat := if f = ss.length ∨ ltp (ab (gs ss i).2) (ab (gs ss f).2) = true then i else f
def room (ss : List Seat) : Nat := (frees ss).foldl (near ss) ss.length
def put (ss : List Seat) (i : Nat) (z : Str) : List Seat := ss.take i ++ [(z, (gs ss i).2)] ++ ss.drop (i + 1)
def idx (ss : List Seat) (z : Str) : Nat := (ss.map Prod.fst).idxOf z
theorem names_mem {ss : List Seat} {z : Str} : z ∈ names ss ↔ z ≠ "" ∧ ∃ s ∈ ss, s.1 = z := by
  unfold names
  rw [List.mem_filter, List.mem_map]
  simp only [Bool.not_eq_true', decide_eq_false_iff_not]
  exact ⟨fun ⟨a, b⟩ => ⟨b, a⟩, fun ⟨a, b⟩ => ⟨b, a⟩⟩
theorem idx_lt {ss : List Seat} {z : Str} (h : z ∈ names ss) : idx ss z < ss.length := by
  obtain ⟨_, s, hs, rfl⟩ := names_mem.mp h
  have := List.idxOf_lt_length_of_mem (List.mem_map_of_mem (f := Prod.fst) hs)
  rw [List.length_map] at this
  exact this
theorem frees_lt {ss : List Seat} {i : Nat} (h : i ∈ frees ss) : i < ss.length ∧ (gs ss i).1 = "" := by
  obtain ⟨h1, h2⟩ := List.mem_filter.mp h
  exact ⟨List.mem_range.mp h1, of_decide_eq_true h2⟩
theorem gs_mem {ss : List Seat} {i : Nat} (h : i < ss.length) : gs ss i ∈ ss := List.mem_of_getElem? (at_gs h)
theorem room_le (ss : List Seat) : room ss ≤ ss.length := by
  unfold room
  have : ∀ (l : List Nat) (f : Nat), f ≤ ss.length → (∀ i ∈ l, i ≤ ss.length) → l.foldl (near ss) f ≤ ss.length := by
    intro l
    induction l with
    | nil => exact fun f h _ => h
    | cons i l ih =>
      intro f h hl
      refine ih _ ?_ (fun j hj => hl j (List.mem_cons_of_mem _ hj))
      unfold near
      split
      · exact hl i List.mem_cons_self
      · exact h
  exact this _ _ (Nat.le_refl _) (fun i hi => Nat.le_of_lt (frees_lt hi).1)
end WS
set_option Elab.async false
set_option linter.all false
set_option maxRecDepth 100000
set_option maxHeartbeats 4000000
set_option Elab.async false
set_option linter.all false
set_option maxRecDepth 100000
set_option maxHeartbeats 4000000
namespace WS
open PySem PySem.Spec PyProof.Rows L2
theorem samex_none {p D : Addr} {H H' : Hp} (s : SameX p H H') (n : D ≠ p) (h : H' D = none) : H D = none := by
  cases z : H D with
  | none => rfl
  | some o =>
    rw [s D o n z] at h
    cases h
/-- a list of pairs of a text and a number -/
def TopsAt (K : PySem.W.Frag) (H : Hp) (vs : List V) (xs : List (Str × Int)) : Prop := vs.length = xs.length ∧ ∀ (i : Nat) v, vs[i]? = some v → ∃ x u, xs[i]? = some x ∧ v = .ref u ∧ SqT K H u [.str x.1, .int x.2]
theorem TopsAt.k {K : PySem.W.Frag} {H H' : Hp} {vs : List V} {xs : List (Str × Int)} (h : TopsAt K H vs xs) (s : KT H H') : TopsAt K H' vs xs := ⟨h.1, fun i v e => by
  obtain ⟨x, u, e1, e2, h1⟩ := h.2 i v e
  exact ⟨x, u, e1, e2, s.sqt h1⟩⟩
def topS1 (m : Nat) (x : Str × Int) : Seat := (x.1, lo x.2 m)
end WS
set_option Elab.async false
set_option linter.all false
set_option maxRecDepth 100000
set_option maxHeartbeats 4000000
set_option Elab.async false
set_option linter.all false
set_option maxRecDepth 100000
set_option maxHeartbeats 4000000
namespace WS
open PySem PySem.Spec PyProof.Rows L2
theorem perm_of_map {α β : Type} {f : α → β} {ys : List β} {us : List α} (h : ys.Perm (us.map f)) : ∃ ws : List α, ws.Perm us ∧ ys = ws.map f := by
  generalize e : us.map f = m at h
  induction h generalizing us with
  | nil => 
    cases us with
    | nil => exact ⟨[], .refl _, rfl⟩
    | cons _ _ => cases e
  | cons x h ih =>
    cases us with
    | nil => cases e
    | cons u us =>
      rw [List.map_cons] at e
      obtain ⟨e1, e2⟩ := List.cons.inj e
      obtain ⟨ws, p, e3⟩ := ih e2
      exact ⟨u :: ws, p.cons u, by rw [List.map_cons, e1, e3]⟩
  | swap x y l =>
    match us, e with
    | a :: b :: us, e =>
      rw [List.map_cons, List.map_cons] at e
      obtain ⟨e1, e2⟩ := List.cons.inj e
      obtain ⟨e3, e4⟩ := List.cons.inj e2
      exact ⟨b :: a :: us, .swap a b us, by rw [List.map_cons, List.map_cons, e1, e3, e4]⟩
  | trans h1 h2 ih1 ih2 =>
    obtain ⟨ws, p, e1⟩ := ih2 e
    obtain ⟨vs, p1, e2⟩ := ih1 e1.symm
    exact ⟨vs, p1.trans p, e2⟩
def nz (z : Str) : Bool := !decide (z = "")
/-! moments as the laws make them -/
def GoodM (K : PySem.W.Frag) (H : Hp) (v : V) (W : Int) (ss : List Seat) : Prop := Dp K H v (momD W ss) ∧ ss.length ≤ 12 ∧ (∀ s ∈ ss, Okp 120 s.2 ∧ Nm0 s.1) ∧ (names ss).Nodup
theorem GoodM.kt {K : PySem.W.Frag} {H H' : Hp} {v : V} {W : Int} {ss : List Seat} (h : GoodM K H v W ss) (k : KT H H') : GoodM K H' v W ss := ⟨h.1.kt k (mom_imm _ _), h.2⟩
theorem names_app (a b : List Seat) : names (a ++ b) = names a ++ names b := by
  unfold names
  rw [List.map_append, List.filter_append]
theorem names_put (ss : List Seat) (i : Nat) (z : Str) : names (put ss i z) = names (ss.take i) ++ (if z = "" then [] else [z]) ++ names (ss.drop (i + 1)) := by
  unfold put
  rw [names_app, names_app]
  congr 2
  unfold names
  by_cases h : z = "" <;> simp [h]
theorem names_split (ss : List Seat) (i : Nat) (h : i < ss.length) : names ss = names (ss.take i) ++ names [gs ss i] ++ names (ss.drop (i + 1)) := by
  rw [← names_app, ← names_app]
  congr 1
  have e := List.getElem?_eq_getElem h
  rw [at_gs h] at e
  rw [List.append_assoc, List.singleton_append, Option.some.inj e, List.getElem_cons_drop, List.take_append_drop]
theorem put_len (ss : List Seat) (i : Nat) (z : Str) (h : i ≤ ss.length) : (put ss i z).length = if i < ss.length then ss.length else ss.length + 1 := by
  unfold put
  simp only [List.length_append, List.length_take, List.length_drop, List.length_cons, List.length_nil]
  split <;> omega
theorem put_mem {ss : List Seat} {i : Nat} {z : Str} {s : Seat} (h : s ∈ put ss i z) : s ∈ ss ∨ s = (z, (gs ss i).2) := by
  unfold put at h
  rcases List.mem_append.mp h with h | h
  · rcases List.mem_append.mp h with h | h
    · exact .inl (List.mem_of_mem_take h)
    · exact .inr (List.mem_singleton.mp h)
  · exact .inl (List.mem_of_mem_drop h)
theorem gs_ok {n : Nat} {ss : List Seat} (h : ∀ s ∈ ss, Okp (n + 1) s.2) (i : Nat) : Okp (n + 1) (gs ss i).2 := by
  by_cases hi : i < ss.length
  · exact h _ (gs_mem hi)
  · unfold gs
    rw [List.getD_eq_getElem?_getD, List.getElem?_eq_none (by omega)]
    refine ⟨show (0 : Int) < 1 by decide, ?_, ?_⟩
    · unfold Bt; exact Nat.pow_pos (by decide)
    · show (1 : Int).natAbs < 2 ^ (n + 1)
      have : 2 ^ 1 ≤ 2 ^ (n + 1) := Nat.pow_le_pow_right (by decide) (by omega)
      have e : (1 : Int).natAbs = 1 := rfl
      omega
theorem room_free {ss : List Seat} (h : room ss < ss.length) : (gs ss (room ss)).1 = "" := by
  have : ∀ (l : List Nat) (f : Nat), (f < ss.length → (gs ss f).1 = "") → (∀ i ∈ l, (gs ss i).1 = "") → l.foldl (near ss) f < ss.length → (gs ss (l.foldl (near ss) f)).1 = "" := by
    intro l
    induction l with
    | nil => exact fun f h _ hl => h hl
    | cons i l ih =>
      intro f h hl hlt
      refine ih _ (fun hn => ?_) (fun j hj => hl j (List.mem_cons_of_mem _ hj)) hlt
      unfold near at hn ⊢
      split
      · exact hl i List.mem_cons_self
      · rename_i hc
        rw [if_neg hc] at hn
        exact h hn
  exact this _ _ (fun h => absurd h (Nat.lt_irrefl _)) (fun i hi => (frees_lt hi).2) h
theorem GoodM.come {K : PySem.W.Frag} {H H' : Hp} {v v' : V} {W : Int} {ss : List Seat} {z : Str} (h : GoodM K H v W ss) (hl : ss.length < 12) (hz : Nm z) (hn : z ∉ names ss) (d : Dp K H' v' (momD W (put ss (room ss) z))) : GoodM K H' v' W (put ss (room ss) z) := by
  obtain ⟨_, _, ok, nd⟩ := h
  refine ⟨d, ?_, fun s hs => ?_, ?_⟩
  · rw [put_len _ _ _ (room_le ss)]
    split <;> omega
  · rcases put_mem hs with h | rfl
    · exact ok s h
    · exact ⟨gs_ok (n := 119) (fun s hs => (ok s hs).1) _, .inr hz⟩
  · rw [names_put, if_neg (nm_ne hz)]
    have key : names ss = names (ss.take (room ss)) ++ names (ss.drop (room ss + 1)) := by
      by_cases hr : room ss < ss.length
      · rw [names_split ss _ hr]
        have : names [gs ss (room ss)] = [] := by
          unfold names
          simp [room_free hr]
        rw [this, List.append_nil]
      · have hr' : room ss = ss.length := by have := room_le ss; omega
        rw [hr', List.take_length, List.drop_eq_nil_of_le (by omega)]
        show _ = _ ++ []
        rw [List.append_nil]
    rw [key] at nd hn
    rw [List.append_assoc, List.singleton_append, List.perm_middle.nodup_iff, List.nodup_cons]
    exact ⟨hn, nd⟩
theorem GoodM.leave {K : PySem.W.Frag} {H H' : Hp} {v v' : V} {W : Int} {ss : List Seat} {i : Nat} (h : GoodM K H v W ss) (hi : i < ss.length) (d : Dp K H' v' (momD W (put ss i ""))) : GoodM K H' v' W (put ss i "") := by
  obtain ⟨_, hl, ok, nd⟩ := h
  refine ⟨d, ?_, fun s hs => ?_, ?_⟩
  · rw [put_len _ _ _ (by omega), if_pos hi]
    exact hl
  · rcases put_mem hs with h | rfl
    · exact ok s h
    · exact ⟨(ok _ (gs_mem hi)).1, .inl rfl⟩
  · rw [names_put, if_pos rfl, List.append_nil]
    rw [names_split ss i hi] at nd
    refine nd.sublist ?_
    rw [List.append_assoc]
    exact List.Sublist.append_left (List.sublist_append_right _ _) _
/-- who sits there -/
theorem idx_gs {ss : List Seat} (nd : (names ss).Nodup) {i : Nat} (hi : i < ss.length) (hz : (gs ss i).1 ≠ "") : idx ss (gs ss i).1 = i := by
  have hm : (gs ss i).1 ∈ names ss := names_mem.mpr ⟨hz, _, gs_mem hi, rfl⟩
  have hl := idx_lt hm
  have he : (gs ss (idx ss (gs ss i).1)).1 = (gs ss i).1 := by
    have h1 : (ss.map Prod.fst)[idx ss (gs ss i).1]? = some (gs ss i).1 := by
      unfold idx
      rw [List.getElem?_eq_getElem (List.idxOf_lt_length_of_mem (List.mem_map_of_mem (f := Prod.fst) (gs_mem hi)))]
      rw [List.getElem_idxOf]
    rw [List.getElem?_map, at_gs hl] at h1
    exact Option.some.inj h1
  have one : ∀ a b, a < b → b < ss.length → (gs ss a).1 = (gs ss b).1 → (gs ss a).1 ≠ "" → False := by
    intro a b hab hb e hne
    have e1 := names_split ss b hb
    rw [e1] at nd
    have m1 : (gs ss a).1 ∈ names (ss.take b) := names_mem.mpr ⟨hne, gs ss a, by
      rw [List.mem_iff_getElem?]
      exact ⟨a, by rw [List.getElem?_take_of_lt hab]; exact at_gs (by omega)⟩, rfl⟩
    have m2 : (gs ss a).1 ∈ names [gs ss b] := names_mem.mpr ⟨hne, _, List.mem_singleton.mpr rfl, e.symm⟩
    rw [List.append_assoc] at nd
    exact (List.nodup_append.mp nd).2.2 _ m1 _ (List.mem_append_left _ m2) rfl
  rcases Nat.lt_trichotomy (idx ss (gs ss i).1) i with h | h | h
  · exact (one _ _ h hi he (by rw [he]; exact hz)).elim
  · exact h
  · exact (one _ _ h hl he.symm hz).elim
theorem names_len (ss : List Seat) : (names ss).length ≤ ss.length := by
  unfold names
  have := List.length_filter_le (fun z : Str => !decide (z = "")) (ss.map Prod.fst)
  rw [List.length_map] at this
  exact this
theorem dpall_strs {K : PySem.W.Frag} {H : Hp} : ∀ l : List Str, DpAll K H (l.map V.str) (l.map PyData.str)
  | [] => .nil
  | z :: l => .cons (.str z) (dpall_strs l)
theorem dpall_nats {K : PySem.W.Frag} {H : Hp} : ∀ l : List Nat, DpAll K H (l.map fun j : Nat => V.int j) (l.map fun j : Nat => PyData.int j)
  | [] => .nil
  | j :: l => .cons (.int _) (dpall_nats l)
theorem Sh.ok {n k : Nat} {d : PyData} (h : Sh n k d) (hn : n ≤ 1000000) (hk : k ≤ 60) : d.showable = true ∧ d.hasDict = false ∧ d.depth ≤ 60 ∧ d.shown.length ≤ sizeLine := ⟨h.1, h.2.1, Nat.le_trans h.2.2.1 hk, Nat.le_trans h.2.2.2 (Nat.le_trans hn (by rw [sizeLine_eq]; decide))⟩
/-- a moment of the first two -/
def First (K : PySem.W.Frag) (H : Hp) (v : V) (W : Int) (us : List Str) : Prop := ∃ ss, GoodM K H v W ss ∧ ss.length ≤ 10 ∧ ∀ z ∈ names ss, z ∈ us
theorem First.kt {K : PySem.W.Frag} {H H' : Hp} {v : V} {W : Int} {us : List Str} (h : First K H v W us) (k : KT H H') : First K H' v W us := let ⟨ss, a, b, c⟩ := h; ⟨ss, a.kt k, b, c⟩
end WS
set_option Elab.async false
set_option linter.all false
set_option maxRecDepth 100000
set_option maxHeartbeats 4000000
namespace WS
open PySem PySem.Spec PyProof.Rows L2
open PySem.W
/-! min of pairs, count of texts; seats as lists -/
abbrev Top := Str × Int
def gx (xs : List Top) (i : Nat) : Top := xs.getD i ("", 0)
theorem gs_tops {m : Nat} (hm : 1 ≤ m) (xs : List Top) (i : Nat) : gs (xs.map (topS1 m)) i = topS1 m (gx xs i) := by
  unfold gs gx
  rw [List.getD_eq_getElem?_getD, List.getD_eq_getElem?_getD, List.getElem?_map]
  cases xs[i]? with
  | none =>
    show (("" : Str), ((0 : Int), (1 : Int))) = (("" : Str), lo 0 m)
    rw [lo_zero (by omega)]
  | some x => rfl
def roomX (xs : List Top) : Nat := room (xs.map (topS1 1))
def putX (xs : List Top) (i : Nat) (z : Str) : List Top := xs.take i ++ [(z, (gx xs i).2)] ++ xs.drop (i + 1)
theorem put_tops {m : Nat} (hm : 1 ≤ m) (xs : List Top) (i : Nat) (z : Str) : put (xs.map (topS1 m)) i z = (putX xs i z).map (topS1 m) := by
  unfold put putX
  rw [gs_tops hm, List.map_append, List.map_append, List.map_take, List.map_drop]
  rfl
/-- seats as lists of a text and a number -/
def SeatsL (H : Hp) (us : List Addr) (xs : List Top) : Prop := us.Nodup ∧ us.length = xs.length ∧ ∀ (i : Nat) (u : Addr), us[i]? = some u → ∃ x, xs[i]? = some x ∧ H u = some (.lst [.str x.1, .int x.2])
theorem SeatsL.sm {H H' : Hp} {us : List Addr} {xs : List Top} (h : SeatsL H us xs) (s : Same H H') : SeatsL H' us xs := ⟨h.1, h.2.1, fun i u e => let ⟨x, a, b⟩ := h.2.2 i u e; ⟨x, a, s _ _ b⟩⟩
theorem SeatsL.x {H H' : Hp} {p : Addr} {us : List Addr} {xs : List Top} (h : SeatsL H us xs) (s : SameX p H H') (hp : PotAt H p) : SeatsL H' us xs := ⟨h.1, h.2.1, fun i u e => by
  obtain ⟨x, a, b⟩ := h.2.2 i u e
  refine ⟨x, a, s _ _ (fun z => ?_) b⟩
  obtain ⟨y1, y2, e1, _⟩ := hp
  rw [z, e1] at b
  cases b⟩
end WS
set_option Elab.async false
set_option linter.all false
set_option maxRecDepth 100000
set_option maxHeartbeats 4000000
namespace WS
open PySem PySem.Spec PyProof.Rows L2
theorem SeatsL.get {H : Hp} {us : List Addr} {xs : List Top} (h : SeatsL H us xs) {i : Nat} {v : V} (e : (us.map V.ref)[i]? = some v) : ∃ x u, us[i]? = some u ∧ xs[i]? = some x ∧ v = .ref u ∧ H u = some (.lst [.str x.1, .int x.2]) := by
  rw [List.getElem?_map] at e
  cases eu : us[i]? with
  | none => rw [eu] at e; cases e
  | some u =>
    rw [eu] at e
    obtain ⟨x, a, b⟩ := h.2.2 i u eu
    exact ⟨x, u, rfl, a, (Option.some.inj e).symm, b⟩
def Fr (S : List Addr) (H H' : Hp) : Prop := ∀ b o, b ∉ S → H b = some o → H' b = some o
def OkT (xs : List Top) : Prop := xs.length ≤ 30 ∧ ∀ x ∈ xs, Nm0 x.1 ∧ Bt 110 x.2
def Club (K : PySem.W.Frag) (H : Hp) (L : Addr) (us : List Addr) (xs : List Top) (m : Nat) (W : Int) (v : V) : Prop := H L = some (.lst (us.map V.ref)) ∧ SeatsL H us xs ∧ OkT xs ∧ (names (xs.map (topS1 m))).Nodup ∧ Dp K H v (momD W (xs.map (topS1 m)))
theorem Club.sm {K : PySem.W.Frag} {H H' : Hp} {L : Addr} {us : List Addr} {xs : List Top} {m : Nat} {W : Int} {v : V} (h : Club K H L us xs m W v) (s : Same H H') : Club K H' L us xs m W v := ⟨s _ _ h.1, h.2.1.sm s, h.2.2.1, h.2.2.2.1, h.2.2.2.2.sm s⟩
theorem SeatsL.nS {H : Hp} {D : Addr} {us : List Addr} {xs : List Top} {zs : List Str} (h : SeatsL H us xs) (hD : H D = some (.lst (zs.map V.str))) : D ∉ us := fun hm => by
  obtain ⟨i, hi⟩ := List.mem_iff_getElem?.mp hm
  obtain ⟨x, _, b⟩ := h.2.2 i D hi
  rw [hD] at b
  match zs, b with
  | [], b => cases b
  | [a], b => simp at b
  | a :: c :: l, b => simp at b
theorem SeatsL.nP {H : Hp} {p : Addr} {us : List Addr} {xs : List Top} (h : SeatsL H us xs) (hp : PotAt H p) : p ∉ us := fun hm => by
  obtain ⟨i, hi⟩ := List.mem_iff_getElem?.mp hm
  obtain ⟨x, _, b⟩ := h.2.2 i p hi
  obtain ⟨y1, y2, e1, _⟩ := hp
  rw [e1] at b
  cases b
theorem nLp {H : Hp} {L p : Addr} {us : List Addr} (hL : H L = some (.lst (us.map V.ref))) (hp : PotAt H p) : L ≠ p := fun z => by
  obtain ⟨y1, y2, e1, _⟩ := hp
  rw [z, e1] at hL
  cases us with
  | nil => cases hL
  | cons a l => simp at hL
theorem nSp {H : Hp} {L p : Addr} {zs : List Str} (hL : H L = some (.lst (zs.map V.str))) (hp : PotAt H p) : L ≠ p := fun z => by
  obtain ⟨y1, y2, e1, _⟩ := hp
  rw [z, e1] at hL
  cases zs with
  | nil => cases hL
  | cons a l => simp at hL
theorem Club.x {K : PySem.W.Frag} {H H' : Hp} {p L : Addr} {us : List Addr} {xs : List Top} {m : Nat} {W : Int} {v : V} (h : Club K H L us xs m W v) (s : SameX p H H') (hp : PotAt H p) : Club K H' L us xs m W v := ⟨s _ _ (nLp h.1 hp) h.1, h.2.1.x s hp, h.2.2.1, h.2.2.2.1, h.2.2.2.2.kt (kt_x s hp) (mom_imm _ _)⟩
theorem nd_come {ss : List Seat} {z : Str} (nd : (names ss).Nodup) (hz : Nm z) (hn : z ∉ names ss) : (names (put ss (room ss) z)).Nodup := by
  rw [names_put, if_neg (nm_ne hz)]
  have key : names ss = names (ss.take (room ss)) ++ names (ss.drop (room ss + 1)) := by
    by_cases hr : room ss < ss.length
    · rw [names_split ss _ hr]
      have : names [gs ss (room ss)] = [] := by
        unfold names
        simp [room_free hr]
      rw [this, List.append_nil]
    · have hr' : room ss = ss.length := by have := room_le ss; omega
      rw [hr', List.take_length, List.drop_eq_nil_of_le (by omega)]
      show _ = _ ++ []
      rw [List.append_nil]
  rw [key] at nd hn
  rw [List.append_assoc, List.singleton_append, List.perm_middle.nodup_iff, List.nodup_cons]
  exact ⟨hn, nd⟩
theorem nd_leave {ss : List Seat} {i : Nat} (nd : (names ss).Nodup) (hi : i < ss.length) : (names (put ss i "")).Nodup := by
  rw [names_put, if_pos rfl, List.append_nil]
  rw [names_split ss i hi] at nd
  refine nd.sublist ?_
  rw [List.append_assoc]
  exact List.Sublist.append_left (List.sublist_append_right _ _) _
theorem names_put_sub {ss : List Seat} {i : Nat} {z y : Str} (h : y ∈ names (put ss i z)) : y ∈ names ss ∨ y = z := by
  obtain ⟨hne, s, hs, rfl⟩ := names_mem.mp h
  rcases put_mem hs with h | rfl
  · exact .inl (names_mem.mpr ⟨hne, s, h, rfl⟩)
  · exact .inr rfl
theorem putX_len {xs : List Top} {i : Nat} {z : Str} (h : i ≤ xs.length) : (putX xs i z).length = if i < xs.length then xs.length else xs.length + 1 := by
  unfold putX
  simp only [List.length_append, List.length_take, List.length_drop, List.length_cons, List.length_nil]
  split <;> omega
theorem roomX_le (xs : List Top) : roomX xs ≤ xs.length := by
  have := room_le (xs.map (topS1 1))
  rw [List.length_map] at this
  exact this
theorem TopsAt.add {K : PySem.W.Frag} {H : Hp} {vs : List V} {xs : List Top} {x : Top} {u : Addr} (h : TopsAt K H vs xs) (hu : SqT K H u [.str x.1, .int x.2]) : TopsAt K H (vs ++ [.ref u]) (xs ++ [x]) := by
  refine ⟨by simp [h.1], fun i v e => ?_⟩
  by_cases hi : i < vs.length
  · rw [List.getElem?_append_left hi] at e
    obtain ⟨y, a, e1, e2, e3⟩ := h.2 i v e
    exact ⟨y, a, by rw [List.getElem?_append_left (by rw [← h.1]; exact hi)]; exact e1, e2, e3⟩
  · have hi2 : i = vs.length := by
      have := (List.getElem?_eq_some_iff.mp e).1
      simp at this
      omega
    subst hi2
    rw [List.getElem?_append_right (Nat.le_refl _)] at e
    obtain rfl : V.ref u = v := by simpa using e
    exact ⟨x, u, by rw [h.1]; simp, rfl, hu⟩
end WS
set_option Elab.async false
set_option linter.all false
set_option maxRecDepth 100000
set_option maxHeartbeats 4000000
namespace WS
open PySem PySem.Spec PyProof.Rows L2
/-- what stays between the turns -/
def LI (K : PySem.W.Frag) (H : Hp) (p L Dl : Addr) (m : Nat) (W : Int) (v0 : V) (xs0 : List Top) (n : Nat) (H' : Hp) (v : V) : Prop := ∃ (us : List Addr) (xs : List Top) (left : List Str), Club K H' L us xs m W v ∧ H' Dl = some (.lst (left.map V.str)) ∧ left.Nodup ∧ (∀ z ∈ left, Nm z ∧ z ∉ names (xs.map (topS1 m))) ∧ PotAt H' p ∧ Dp K H' v0 (momD W (xs0.map (topS1 m))) ∧ left.length + n = m + 8 ∧ xs.length ≤ m + n ∧ SameX p H H' ∧ (∀ u ∈ us, H u = none)
theorem LI.sm {K : PySem.W.Frag} {H H' H'' : Hp} {p L Dl : Addr} {m : Nat} {W : Int} {v0 v : V} {xs0 : List Top} {n : Nat} (h : LI K H p L Dl m W v0 xs0 n H' v) (s : Same H' H'') : LI K H p L Dl m W v0 xs0 n H'' v := by
  obtain ⟨us, xs, left, c, d, e, f, g, i, j, k, l, o⟩ := h
  exact ⟨us, xs, left, c.sm s, s _ _ d, e, f, g.same s, i.sm s, j, k, l.trans (Same.x s), o⟩
theorem LI.x {K : PySem.W.Frag} {H H' H'' : Hp} {p L Dl : Addr} {m : Nat} {W : Int} {v0 v : V} {xs0 : List Top} {n : Nat} (h : LI K H p L Dl m W v0 xs0 n H' v) (s : SameX p H' H'') (hp : PotAt H'' p) : LI K H p L Dl m W v0 xs0 n H'' v := by
  obtain ⟨us, xs, left, c, d, e, f, g, i, j, k, l, o⟩ := h
  exact ⟨us, xs, left, c.x s g, s _ _ (nSp d g) d, e, f, hp, i.kt (kt_x s g) (mom_imm _ _), j, k, l.trans s, o⟩
theorem Club.set {K : PySem.W.Frag} {H : Hp} {L D : Addr} {us : List Addr} {xs : List Top} {m : Nat} {W : Int} {v : V} {ys zs : List V} (h : Club K H L us xs m W v) (hD : H D = some (.lst ys)) (nL : D ≠ L) (nu : D ∉ us) : Club K (upd H D (.lst zs)) L us xs m W v :=
  ⟨by rw [upd_ne nL.symm]; exact h.1, ⟨h.2.1.1, h.2.1.2.1, fun i u e => by
    obtain ⟨x, a, b⟩ := h.2.1.2.2 i u e
    exact ⟨x, a, by rw [upd_ne (fun (q : u = D) => nu (q ▸ List.mem_of_getElem? e))]; exact b⟩⟩, h.2.2.1, h.2.2.2.1, h.2.2.2.2.kt (kt_set hD) (mom_imm _ _)⟩
/-- behind a coming -/
theorem LI.come {K : PySem.W.Frag} {H H' H'' : Hp} {p L Dl : Addr} {m : Nat} {W : Int} {v0 v v' : V} {xs0 : List Top} {n : Nat} {us us' : List Addr} {xs : List Top} {z : Str} {left : List Str} (nHL : H L = none) (nHD : H Dl = none) (nLD : L ≠ Dl) (m1 : 1 ≤ m) (hn : m + n + 1 ≤ 30)
    (C : Club K H' L us xs m W v) (hD : H' Dl = some (.lst ((z :: left).map V.str))) (nd : (z :: left).Nodup) (hz : ∀ y ∈ z :: left, Nm y ∧ y ∉ names (xs.map (topS1 m))) (px : PotAt H' p) (d0 : Dp K H' v0 (momD W (xs0.map (topS1 m)))) (hl : (z :: left).length + n = m + 8) (hx : xs.length ≤ m + n) (sx : SameX p H H') (hu : ∀ u ∈ us, H u = none)
    (C' : Club K H'' L us' (putX xs (roomX xs) z) m W v') (fr : Fr (L :: us) (upd H' Dl (.lst (left.map V.str))) H'') (kt : KT (upd H' Dl (.lst (left.map V.str))) H'') (hu' : ∀ u ∈ us', u ∈ us ∨ upd H' Dl (.lst (left.map V.str)) u = none) : LI K H p L Dl m W v0 xs0 (n + 1) H'' v' := by
  have nDs := C.2.1.nS hD
  have nDp := nSp hD px
  have nLp' := nLp C.1 px
  have npu := C.2.1.nP px
  have k1 : KT H' (upd H' Dl (.lst (left.map V.str))) := kt_set hD
  have nd' := List.nodup_cons.mp nd
  refine ⟨us', _, left, C', ?_, nd'.2, fun y hy => ?_, ?_, (d0.kt k1 (mom_imm _ _)).kt kt (mom_imm _ _), by simp at hl; omega, ?_, fun b o nb e => ?_, fun u hm => ?_⟩
  · exact fr _ _ (fun q => by
      rcases List.mem_cons.mp q with h | h
      · exact nLD h.symm
      · exact nDs h) upd_same
  · obtain ⟨h1, h2⟩ := hz y (List.mem_cons_of_mem _ hy)
    refine ⟨h1, fun hm => ?_⟩
    rw [← put_tops m1] at hm
    rcases names_put_sub hm with h | h
    · exact h2 h
    · exact nd'.1 (h ▸ hy)
  · obtain ⟨y1, y2, e1, r⟩ := px
    refine ⟨y1, y2, fr _ _ (fun q => ?_) (by rw [upd_ne nDp.symm]; exact e1), r⟩
    rcases List.mem_cons.mp q with h | h
    · exact nLp' h.symm
    · exact npu h
  · rw [putX_len (roomX_le xs)]
    split <;> omega
  · have hb : b ∉ L :: us := fun q => by
      rcases List.mem_cons.mp q with h | h
      · rw [h, nHL] at e; cases e
      · rw [hu b h] at e; cases e
    refine fr b o hb ?_
    rw [upd_ne (fun (q : b = Dl) => by rw [q, nHD] at e; cases e)]
    exact sx b o nb e
  · rcases hu' u hm with h | h
    · exact hu u h
    · by_cases hup : u = p
      · rw [hup, upd_ne nDp.symm] at h
        obtain ⟨y1, y2, e1, _⟩ := px
        rw [e1] at h
        cases h
      · by_cases huD : u = Dl
        · rw [huD]; exact nHD
        · rw [upd_ne huD] at h
          exact samex_none sx hup h
/-- behind a leaving -/
theorem LI.go {K : PySem.W.Frag} {H H' H'' : Hp} {p L Dl : Addr} {m : Nat} {W : Int} {v0 v v' : V} {xs0 : List Top} {n i : Nat} {us : List Addr} {xs : List Top} {left : List Str} (nHL : H L = none) (nLD : L ≠ Dl) (m1 : 1 ≤ m) (hi : i < xs.length)
    (C : Club K H' L us xs m W v) (hD : H' Dl = some (.lst (left.map V.str))) (nd : left.Nodup) (hz : ∀ y ∈ left, Nm y ∧ y ∉ names (xs.map (topS1 m))) (px : PotAt H' p) (d0 : Dp K H' v0 (momD W (xs0.map (topS1 m)))) (hl : left.length + n = m + 8) (hx : xs.length ≤ m + n) (sx : SameX p H H') (hu : ∀ u ∈ us, H u = none)
    (C' : Club K H'' L us (putX xs i "") m W v') (fr : Fr (L :: us) H' H'') (kt : KT H' H'') : LI K H p L Dl m W v0 xs0 n H'' v' := by
  have nDs := C.2.1.nS hD
  have nDp := nSp hD px
  have nLp' := nLp C.1 px
  have npu := C.2.1.nP px
  refine ⟨us, _, left, C', ?_, nd, fun y hy => ?_, ?_, d0.kt kt (mom_imm _ _), hl, ?_, fun b o nb e => ?_, hu⟩
  · exact fr _ _ (fun q => by
      rcases List.mem_cons.mp q with h | h
      · exact nLD h.symm
      · exact nDs h) hD
  · obtain ⟨h1, h2⟩ := hz y hy
    refine ⟨h1, fun hm => ?_⟩
    rw [← put_tops m1] at hm
    rcases names_put_sub hm with h | h
    · exact h2 h
    · exact nm_ne h1 h
  · obtain ⟨y1, y2, e1, r⟩ := px
    refine ⟨y1, y2, fr _ _ (fun q => ?_) e1, r⟩
    rcases List.mem_cons.mp q with h | h
    · exact nLp' h.symm
    · exact npu h
  · rw [putX_len (by omega), if_pos hi]
    exact hx
  · have hb : b ∉ L :: us := fun q => by
      rcases List.mem_cons.mp q with h | h
      · rw [h, nHL] at e; cases e
      · rw [hu b h] at e; cases e
    exact fr b o hb (sx b o nb e)
end WS
set_option Elab.async false
set_option linter.all false
set_option maxRecDepth 100000
set_option maxHeartbeats 4000000
set_option Elab.async false
set_option linter.all false
set_option maxRecDepth 100000
set_option maxHeartbeats 4000000
set_option Elab.async false
set_option linter.all false
set_option maxRecDepth 100000
set_option maxHeartbeats 4000000
set_option Elab.async false
set_option linter.all false
set_option maxRecDepth 100000
set_option maxHeartbeats 4000000
set_option Elab.async false
set_option linter.all false
set_option maxRecDepth 100000
set_option maxHeartbeats 4000000
namespace WS
open PySem PySem.Spec PyProof.Rows L2
/-! ### several tables through steps -/
open LamX in
theorem Tabs.x {p : Addr} {TT : List (Addr × Str)} {H H' : Hp} (t : Tabs TT H) (s : SameX p H H') (hp : PotAt H p) : Tabs TT H' := fun q hq => TabS.x (t q hq) s hp
open LamX in
theorem Tabs.sm {TT : List (Addr × Str)} {H H' : Hp} (t : Tabs TT H) (s : Same H H') : Tabs TT H' := t.ext s
open LamX in
theorem Tabs.set {TT : List (Addr × Str)} {D : Addr} {H : Hp} {xs ys : List V} (t : Tabs TT H) (h : H D = some (.lst xs)) : Tabs TT (upd H D (.lst ys)) := fun q hq => TabS.set (t q hq) h
open LamX in
theorem ExtN.dp {K : PySem.W.Frag} {H H' : Hp} {v : V} {d : PyData} (e : ExtN H H') (h : Dp K H v d) (i : imm d = true) : Dp K H' v d := h.kt (ExtN.kt e) i
open LamX in
theorem ExtN.sqt {K : PySem.W.Frag} {H H' : Hp} {a : Addr} {xs : List V} (e : ExtN H H') (h : SqT K H a xs) : SqT K H' a xs := (ExtN.kt e).sqt h
theorem ExtX.refl (p : Addr) (H : Hp) : ExtX p H H := fun _ _ _ h _ => h
end WS
set_option Elab.async false
set_option linter.all false
set_option maxRecDepth 100000
set_option maxHeartbeats 4000000
set_option Elab.async false
set_option linter.all false
set_option maxRecDepth 100000
set_option maxHeartbeats 4000000
namespace WS
open PySem PySem.Spec PyProof.Rows L2
/-! sorted(t, reverse=True), t a tuple of numbers -/
/-- the greatest first -/
def down (ns : List Int) : List Int := ns.mergeSort fun a b => decide (b ≤ a)
theorem down_perm (ns : List Int) : (down ns).Perm ns := List.mergeSort_perm _ _
theorem down_sorted (ns : List Int) : (down ns).Pairwise (· ≥ ·) := by
  have := List.pairwise_mergeSort (le := fun a b : Int => decide (b ≤ a)) (fun a b c h1 h2 => by
    have h1 := of_decide_eq_true h1
    have h2 := of_decide_eq_true h2
    exact decide_eq_true (by omega)) (fun a b => by
    rw [Bool.or_eq_true, decide_eq_true_eq, decide_eq_true_eq]
    omega) ns
  exact this.imp fun h => of_decide_eq_true h
/-! ### evenings -/
def There (ss : List Seat) (zs : List Str) : Prop := 2 ≤ zs.length ∧ zs.length ≤ 100 ∧ zs.Nodup ∧ ∀ z ∈ zs, z ∈ names ss
/-- one owes more, or as much and sits ahead -/
def ahead (ss : List Seat) (a b : Str) : Prop := ltp (gs ss (idx ss b)).2 (gs ss (idx ss a)).2 = true ∨ (ltp (gs ss (idx ss b)).2 (gs ss (idx ss a)).2 = false ∧ ltp (gs ss (idx ss a)).2 (gs ss (idx ss b)).2 = false ∧ idx ss a < idx ss b)
def OrderOf (ss : List Seat) (zs os : List Str) : Prop := os.Perm zs ∧ os.Pairwise (ahead ss)
end WS
set_option Elab.async false
set_option linter.all false
set_option maxRecDepth 100000
set_option maxHeartbeats 4000000
namespace WS
open PySem PySem.Spec PyProof.Rows L2
theorem dpall_mk {K : PySem.W.Frag} {H : Hp} : ∀ {vs : List V} {ds : List PyData}, vs.length = ds.length → (∀ (i : Nat) (v : V) (d : PyData), vs[i]? = some v → ds[i]? = some d → Dp K H v d) → DpAll K H vs ds
  | [], [], _, _ => .nil
  | [], _ :: _, h, _ => by cases h
  | _ :: _, [], h, _ => by cases h
  | v :: vs, d :: ds, h, f => .cons (f 0 v d rfl rfl) (dpall_mk (Nat.succ.inj h) fun i x y h1 h2 => f (i + 1) x y (by simpa using h1) (by simpa using h2))
theorem idx_one {ss : List Seat} {a b : Str} (ha : a ∈ names ss) (hb : b ∈ names ss) (e : idx ss a = idx ss b) : a = b := by
  have get : ∀ z, z ∈ names ss → (ss.map Prod.fst)[idx ss z]? = some z := fun z hz => by
    obtain ⟨_, s, hs, rfl⟩ := names_mem.mp hz
    unfold idx
    rw [List.getElem?_eq_getElem (List.idxOf_lt_length_of_mem (List.mem_map_of_mem (f := Prod.fst) hs)), List.getElem_idxOf]
  have h1 := get a ha
  rw [e, get b hb] at h1
  exact (Option.some.inj h1).symm
end WS
set_option Elab.async false
set_option linter.all false
set_option maxRecDepth 100000
set_option maxHeartbeats 4000000
namespace WS
open PySem PySem.Spec PyProof.Rows L2
/-! ### rows ranked, as the laws rank them -/
theorem gp_pos {ps : List (Int × Int)} (h : ∀ q ∈ ps, 0 < q.2) (i : Nat) : 0 < (gp ps i).2 := by
  unfold gp
  rw [List.getD_eq_getElem?_getD]
  cases e : ps[i]? with
  | none => decide
  | some q => exact h q (List.mem_of_getElem? e)
theorem lt_rv {a b : Int × Int} (ha : 0 < a.2) (hb : 0 < b.2) : a.1 * b.2 < b.1 * a.2 ↔ rv a < rv b := by
  rw [← ltp_iff ha hb]
  unfold ltp
  rw [decide_eq_true_eq]
theorem filter_perm {l : List Nat} (nd : l.Nodup) {t : Nat} (ht : t ∈ l) : (t :: l.filter fun k => !decide (k = t)).Perm l := by
  have e : (l.filter fun k => !decide (k = t)) = l.erase t := by
    rw [nd.erase_eq_filter]
    refine List.filter_congr fun k _ => ?_
    show (!decide (k = t)) = (k != t)
    by_cases h : k = t <;> simp [h]
  rw [e]
  exact (List.perm_cons_erase ht).symm
end WS
set_option Elab.async false
set_option linter.all false
set_option maxRecDepth 100000
set_option maxHeartbeats 4000000
namespace WS
open PySem PySem.Spec PyProof.Rows L2
/-! ### evenings, as the laws make them -/
def rkS (ss : List Seat) (i j : Nat) : Prop := (gs ss j).2.1 * (gs ss i).2.2 < (gs ss i).2.1 * (gs ss j).2.2 ∨ ((gs ss i).2.1 * (gs ss j).2.2 = (gs ss j).2.1 * (gs ss i).2.2 ∧ i < j)
def placesOf (ss : List Seat) (zs : List Str) : List Nat := (List.range ss.length).filter fun i => decide ((gs ss i).1 ∈ zs)
/-- two orders of one company are one -/
theorem order_one {ss : List Seat} {zs a b : List Str} (ha : OrderOf ss zs a) (hb : OrderOf ss zs b) : a = b := by
  refine List.Perm.eq_of_pairwise (le := ahead ss) (fun x y _ _ h1 h2 => ?_) ha.2 hb.2 (ha.1.trans hb.1.symm)
  exfalso
  unfold ahead ltp at h1 h2
  simp only [decide_eq_true_eq, decide_eq_false_iff_not] at h1 h2
  rcases h1 with h1 | ⟨h1, h3, h4⟩ <;> rcases h2 with h2 | ⟨h2, h5, h6⟩ <;> omega
theorem places_lt {ss : List Seat} {zs : List Str} {i : Nat} (h : i ∈ placesOf ss zs) : i < ss.length ∧ (gs ss i).1 ∈ zs := by
  obtain ⟨a, b⟩ := List.mem_filter.mp h
  exact ⟨List.mem_range.mp a, of_decide_eq_true b⟩
theorem places_up (ss : List Seat) (zs : List Str) : (placesOf ss zs).Pairwise (· < ·) := List.pairwise_lt_range.filter _
theorem idx_name {ss : List Seat} {zs : List Str} (nd : (names ss).Nodup) (hin : ∀ z ∈ zs, z ∈ names ss) {i : Nat} (h : i ∈ placesOf ss zs) : idx ss (gs ss i).1 = i := by
  obtain ⟨a, b⟩ := places_lt h
  exact idx_gs nd a (names_mem.mp (hin _ b)).1
theorem due_order {ss : List Seat} {zs : List Str} {os : List Nat} (nd : (names ss).Nodup) (hz : zs.Nodup) (hin : ∀ z ∈ zs, z ∈ names ss) (hp : os.Perm (placesOf ss zs)) (hw : os.Pairwise (rkS ss)) : OrderOf ss zs (os.map fun k => (gs ss k).1) := by
  have mem : ∀ i ∈ os, i ∈ placesOf ss zs := fun i hi => hp.mem_iff.mp hi
  refine ⟨?_, ?_⟩
  · refine (hp.map fun k => (gs ss k).1).trans ((List.perm_ext_iff_of_nodup ?_ hz).mpr fun z => ?_)
    · unfold List.Nodup
      rw [List.pairwise_map]
      refine List.Pairwise.imp_of_mem (fun {i j} hi hj h e => ?_) (places_up ss zs)
      have e1 := idx_name nd hin hi
      have e2 := idx_name nd hin hj
      rw [e, e2] at e1
      omega
    · rw [List.mem_map]
      constructor
      · rintro ⟨i, hi, rfl⟩
        exact (places_lt hi).2
      · intro h
        have hn := hin z h
        have hl := idx_lt hn
        have e : (gs ss (idx ss z)).1 = z := by
          have h1 : (ss.map Prod.fst)[idx ss z]? = some z := by
            unfold idx
            have hm : z ∈ ss.map Prod.fst := (List.mem_filter.mp hn).1
            rw [List.getElem?_eq_getElem (List.idxOf_lt_length_of_mem hm), List.getElem_idxOf]
          rw [List.getElem?_map, at_gs hl] at h1
          exact Option.some.inj h1
        exact ⟨idx ss z, List.mem_filter.mpr ⟨List.mem_range.mpr hl, decide_eq_true (by rw [e]; exact h)⟩, e⟩
  · rw [List.pairwise_map]
    refine List.Pairwise.imp_of_mem (fun {i j} hi hj h => ?_) hw
    unfold ahead ltp
    rw [idx_name nd hin (mem i hi), idx_name nd hin (mem j hj)]
    rcases h with h | ⟨h, hij⟩
    · exact .inl (decide_eq_true h)
    · exact .inr ⟨decide_eq_false (by omega), decide_eq_false (by omega), hij⟩
theorem ints_dpT {K : PySem.W.Frag} {H : Hp} {t : Addr} {ns : List Int} (h : SqT K H t (ns.map V.int)) : Dp K H (.ref t) (.tuple (ns.map PyData.int)) := .tup h (dpall_ints ns)
def pairsD (os : List Str) (ns : List Int) : PyData := .tuple ((os.zip ns).map fun x => .tuple [.str x.1, .int x.2])
end WS
set_option Elab.async false
set_option linter.all false
set_option maxRecDepth 100000
set_option maxHeartbeats 4000000
set_option Elab.async false
set_option linter.all false
set_option maxRecDepth 100000
set_option maxHeartbeats 4000000
set_option Elab.async false
set_option linter.all false
set_option maxRecDepth 100000
set_option maxHeartbeats 4000000
set_option Elab.async false
set_option linter.all false
set_option maxRecDepth 100000
set_option maxHeartbeats 4000000
namespace WS
open PySem PySem.Spec PyProof.Rows L2
theorem low_one (n : Int) : lo n 1 = (n, 1) := lo_of ⟨by decide, by simp⟩
/-- what a layer brings, by the numbers -/
def layN (bs : List Bool) (m : Nat) : Int := (m : Int) * (bs.count true : Nat) - ((bs.take m).count true : Nat) * (bs.length : Nat)
/-- the layer's numbers: a behind that sit there, b before that do not -/
theorem layN_ab {bs : List Bool} {m : Nat} (hm : m ≤ bs.length) : layN bs m = ((bs.drop m).count true : Nat) * ((m : Int) - ((bs.take m).count true : Nat)) - ((bs.take m).count true : Nat) * ((bs.length : Int) - m - ((bs.drop m).count true : Nat)) := by
  unfold layN
  have e : bs.count true = (bs.take m).count true + (bs.drop m).count true := by rw [← List.count_append, List.take_append_drop]
  rw [e]
  grind
end WS
set_option Elab.async false
set_option linter.all false
set_option maxRecDepth 100000
set_option maxHeartbeats 4000000
namespace WS
open PySem PySem.Spec PyProof.Rows L2
theorem lay_le {a b q c k L : Int} (ha : 0 ≤ a) (hb : 0 ≤ b) (hq : 0 ≤ q) (hc : 0 ≤ c) (hk : 0 ≤ k) (hkL : k ≤ L) : (a * b - q * c) * k ≤ a * b * L := by
  have h1 : 0 ≤ q * c * k := Int.mul_nonneg (Int.mul_nonneg hq hc) hk
  have h2 : 0 ≤ a * b * (L - k) := Int.mul_nonneg (Int.mul_nonneg ha hb) (by omega)
  rw [Int.sub_mul]
  rw [Int.mul_sub] at h2
  omega
end WS
set_option Elab.async false
set_option linter.all false
set_option maxRecDepth 100000
set_option maxHeartbeats 4000000
set_option Elab.async false
set_option linter.all false
set_option maxRecDepth 100000
set_option maxHeartbeats 4000000
set_option Elab.async false
set_option linter.all false
set_option maxRecDepth 100000
set_option maxHeartbeats 4000000
namespace WS
open PySem PySem.Spec PyProof.Rows L2
/-! ### parts whose two numbers have bounds of their own -/
def Ok2 (N D : Nat) (p : Int × Int) : Prop := 0 < p.2 ∧ Bt N p.1 ∧ Bt D p.2
theorem Ok2.mono {N D N' D' : Nat} {p : Int × Int} (h : Ok2 N D p) (a : N ≤ N') (b : D ≤ D') : Ok2 N' D' p := ⟨h.1, h.2.1.mono a, h.2.2.mono b⟩
theorem Ok2.of {n : Nat} {p : Int × Int} (h : Okp n p) : Ok2 n n p := h
theorem Ok2.pl {N D N' D' M : Nat} {p q : Int × Int} (h : Ok2 N D p) (k : Ok2 N' D' q) (h1 : N + D' ≤ M) (h2 : N' + D ≤ M) : Ok2 (M + 1) (D + D') (pl p q) :=
  ⟨(lo_lowest (Int.mul_pos h.1 k.1)).1, Bt.lo1 (((h.2.1.mul k.2.2).mono h1).add ((k.2.1.mul h.2.2).mono h2)), Bt.lo2 (h.2.2.mul k.2.2)⟩
theorem Ok2.mi {N D N' D' M : Nat} {p q : Int × Int} (h : Ok2 N D p) (k : Ok2 N' D' q) (h1 : N + D' ≤ M) (h2 : N' + D ≤ M) : Ok2 (M + 1) (D + D') (mi p q) :=
  ⟨(lo_lowest (Int.mul_pos h.1 k.1)).1, Bt.lo1 (((h.2.1.mul k.2.2).mono h1).sub ((k.2.1.mul h.2.2).mono h2)), Bt.lo2 (h.2.2.mul k.2.2)⟩
theorem ok2_lo {N D : Nat} {a b : Int} (hb : 0 < b) (ha : Bt N a) (hd : Bt D b) : Ok2 N D (lo a b) := ⟨(lo_lowest hb).1, ha.lo1, hd.lo2⟩
theorem fold_pos : ∀ (ps : List (Int × Int)) (s : Int × Int), 0 < s.2 → (∀ q ∈ ps, 0 < q.2) → 0 < (ps.foldl WS.pl s).2
  | [], s, h, _ => h
  | p :: ps, s, h, hp => fold_pos ps _ (lo_lowest (Int.mul_pos h (hp p List.mem_cons_self))).1 (fun q hq => hp q (List.mem_cons_of_mem _ hq))
theorem rv_fold : ∀ (ps : List (Int × Int)) (s : Int × Int), 0 < s.2 → (∀ q ∈ ps, 0 < q.2) → rv (ps.foldl WS.pl s) = rv s + (ps.map rv).sum
  | [], s, h, _ => by simp [Rat.add_zero]
  | p :: ps, s, h, hp => by
    have h1 := hp p List.mem_cons_self
    rw [List.foldl_cons, rv_fold ps (WS.pl s p) (lo_lowest (Int.mul_pos h h1)).1 (fun q hq => hp q (List.mem_cons_of_mem _ hq)), rv_pl h h1, List.map_cons, List.sum_cons, Rat.add_assoc]
theorem fold_low (ps : List (Int × Int)) (hp : ∀ q ∈ ps, 0 < q.2) : Lowest (ps.foldl WS.pl (0, 1)).1 (ps.foldl WS.pl (0, 1)).2 := by
  rcases List.eq_nil_or_concat ps with rfl | ⟨qs, q, rfl⟩
  · exact ⟨by decide, by decide⟩
  · rw [List.concat_eq_append, List.foldl_append]
    exact lo_lowest (Int.mul_pos (fold_pos qs _ (by decide) (fun x hx => hp x (by rw [List.concat_eq_append]; exact List.mem_append_left _ hx))) (hp q (by rw [List.concat_eq_append]; simp)))
/-- a part in lowest terms is known by what it stands for -/
theorem rv_inj {p q : Int × Int} (hp : Lowest p.1 p.2) (hq : Lowest q.1 q.2) (e : rv p = rv q) : p = q := by
  have h1 := cast_ne hp.1
  have h2 := cast_ne hq.1
  have c : p.1 * q.2 = q.1 * p.2 := by
    unfold rv at e
    have : (p.1 : Rat) * q.2 = q.1 * p.2 := by grind
    exact_mod_cast this
  have := lo_congr hp.1 hq.1 c
  rw [lo_of hp, lo_of hq] at this
  exact this
/-! ### a row behind an evening -/
def rowF (ps : List (Int × Int)) (is : List Nat) (s : Int × Int) (j : Nat) : Int × Int := if j ∈ is then pl (gp ps j) s else gp ps j
def rowG (f : Nat → Int × Int) (ds : List (Nat × Int)) (j : Nat) : Int × Int := match ds.lookup j with
  | some d => mi (f j) (lo d 1)
  | none => f j
def rowE (ps : List (Int × Int)) (is : List Nat) (ds : List (Nat × Int)) : List (Int × Int) := (List.range ps.length).map (rowG (rowF ps is (lo (ds.map Prod.snd).sum (is.length : Nat))) ds)
theorem rowE_len (ps : List (Int × Int)) (is : List Nat) (ds : List (Nat × Int)) : (rowE ps is ds).length = ps.length := by unfold rowE; rw [List.length_map, List.length_range]
theorem rowE_at {ps : List (Int × Int)} {is : List Nat} {ds : List (Nat × Int)} {j : Nat} (h : j < ps.length) : gp (rowE ps is ds) j = rowG (rowF ps is (lo (ds.map Prod.snd).sum (is.length : Nat))) ds j := by
  unfold rowE gp
  rw [List.getD_eq_getElem?_getD, List.getElem?_map, List.getElem?_range h]
  rfl
theorem map_set {α : Type} (f : Nat → α) (n i : Nat) (v : α) : ((List.range n).map f).set i v = (List.range n).map fun j => if j = i then v else f j := by
  refine List.ext_getElem? fun j => ?_
  rw [List.getElem?_set, List.getElem?_map, List.getElem?_map, List.length_map, List.length_range]
  by_cases hj : j < n
  · rw [List.getElem?_range hj]
    by_cases e : i = j
    · subst e
      simp [hj]
    · simp [e, Ne.symm e]
  · rw [List.getElem?_eq_none (by rw [List.length_range]; omega)]
    by_cases e : i = j
    · subst e
      simp [hj]
    · simp [e]
theorem lookup_none {xs : List (Nat × Int)} {j : Nat} (h : j ∉ xs.map Prod.fst) : xs.lookup j = none := by
  induction xs with
  | nil => rfl
  | cons x xs ih =>
    obtain ⟨a, b⟩ := x
    rw [List.lookup_cons]
    have h1 : j ≠ a := fun e => h (by simp [e])
    have h2 : (j == a) = false := by simp [h1]
    rw [h2]
    exact ih (fun z => h (by simp only [List.map_cons, List.mem_cons]; exact .inr z))
/-- what it stands for -/
theorem rv_rowE {ps : List (Int × Int)} {is : List Nat} {ds : List (Nat × Int)} {j : Nat} (hp : ∀ q ∈ ps, 0 < q.2) (hn : 0 < is.length) (h : j < ps.length) :
    rv (gp (rowE ps is ds) j) = rv (gp ps j) + (if j ∈ is then (((ds.map Prod.snd).sum : Int) : Rat) / ((is.length : Nat) : Int) else 0) - (((ds.lookup j).getD 0 : Int) : Rat) := by
  have hgp : 0 < (gp ps j).2 := by
    refine hp _ ?_
    unfold gp
    rw [List.getD_eq_getElem?_getD, List.getElem?_eq_getElem h]
    exact List.getElem_mem h
  have hL : (0 : Int) < ((is.length : Nat) : Int) := by omega
  have hs := lo_lowest (a := (ds.map Prod.snd).sum) hL
  have eF : rv (rowF ps is (lo (ds.map Prod.snd).sum (is.length : Nat)) j) = rv (gp ps j) + (if j ∈ is then (((ds.map Prod.snd).sum : Int) : Rat) / ((is.length : Nat) : Int) else 0) := by
    unfold rowF
    split
    · rw [rv_pl hgp hs.1, rv_lo hL]
    · rw [Rat.add_zero]
  have pF : 0 < (rowF ps is (lo (ds.map Prod.snd).sum (is.length : Nat)) j).2 := by
    unfold rowF
    split
    · exact (lo_lowest (Int.mul_pos hgp hs.1)).1
    · exact hgp
  rw [rowE_at h]
  unfold rowG
  split
  · rename_i d e
    rw [rv_mi pF (lo_lowest (by decide)).1, eF, rv_lo (by decide), e]
    show _ - (d : Rat) / ((1 : Int) : Rat) = _ - (d : Rat)
    have : (d : Rat) / ((1 : Int) : Rat) = d := by
      have e1 : ((1 : Int) : Rat) = 1 := rfl
      rw [e1]
      grind
    rw [this]
  · rename_i e
    rw [eF, e]
    simp [Rat.sub_eq_add_neg, Rat.add_zero]
end WS
set_option Elab.async false
set_option linter.all false
set_option maxRecDepth 100000
set_option maxHeartbeats 4000000
namespace WS
open PySem PySem.Spec PyProof.Rows L2
/-! ### evenings: promises -/
def setRow (ss : List Seat) (ps : List (Int × Int)) : List Seat := (ss.zip ps).map fun x => (x.1.1, x.2)
def dutD (x : Nat × Int) : PyData := .tuple [.int x.1, .int x.2]
/-- who served what, by seats -/
def byS (ss : List Seat) (os : List Str) (dn : List Int) : List (Nat × Int) := (os.zip dn).map fun x => (idx ss x.1, x.2)
def behS (ss : List Seat) (zs os : List Str) (dn : List Int) : List Seat := setRow ss (rowE (ss.map Prod.snd) (zs.map (idx ss)) (byS ss os dn))
def owedAt (ss : List Seat) (is : List Nat) : List (Int × Int) := is.map fun i => (gs ss i).2
/-! ### layers -/
def stp (dn : List Int) (i : Nat) : Int := dn.getD i 0 - dn.getD (i + 1) 0
def lays (dn : List Int) (k : Nat) : List (Nat × Int) := ((List.range k).filter fun i => decide (0 < stp dn i)).map fun i => (i + 1, stp dn i)
theorem lays_succ (dn : List Int) (k : Nat) : lays dn (k + 1) = lays dn k ++ (if 0 < stp dn k then [(k + 1, stp dn k)] else []) := by
  unfold lays
  rw [List.range_succ, List.filter_append, List.map_append]
  congr 1
  by_cases h : 0 < stp dn k
  · simp [h]
  · simp [h]
theorem down_len (ns : List Int) : (down ns).length = ns.length := (down_perm ns).length_eq
theorem stp_nn {dn : List Int} (hs : dn.Pairwise (· ≥ ·)) (h0 : ∀ n ∈ dn, 0 ≤ n) (i : Nat) : 0 ≤ stp dn i := by
  unfold stp
  rw [List.getD_eq_getElem?_getD, List.getD_eq_getElem?_getD]
  by_cases h1 : i + 1 < dn.length
  · rw [List.getElem?_eq_getElem h1, List.getElem?_eq_getElem (show i < dn.length by omega)]
    have := List.pairwise_iff_getElem.mp hs i (i + 1) (by omega) h1 (by omega)
    simp only [Option.getD_some]
    omega
  · rw [List.getElem?_eq_none (show dn.length ≤ i + 1 by omega)]
    by_cases h2 : i < dn.length
    · rw [List.getElem?_eq_getElem h2]
      have := h0 _ (List.getElem_mem h2)
      simp only [Option.getD_some, Option.getD_none]
      omega
    · rw [List.getElem?_eq_none (show dn.length ≤ i by omega)]
      simp
/-- layers of the numbers C, that grow by c -/
theorem lays_sum {dn : List Int} (hs : dn.Pairwise (· ≥ ·)) (h0 : ∀ n ∈ dn, 0 ≤ n) (C c : Nat → Int) (hC : C 0 = 0) (hc : ∀ i, C (i + 1) = C i + c i) : ∀ k, ((lays dn k).map fun x => x.2 * C x.1).sum = ((List.range k).map fun i => dn.getD i 0 * c i).sum - dn.getD k 0 * C k
  | 0 => by simp [lays, hC]
  | k + 1 => by
    rw [lays_succ, List.map_append, List.sum_append, lays_sum hs h0 C c hC hc k, List.range_succ, List.map_append, List.sum_append]
    have e : ((if 0 < stp dn k then [(k + 1, stp dn k)] else []).map fun x : Nat × Int => x.2 * C x.1).sum = stp dn k * C (k + 1) := by
      split
      · simp
      · have := stp_nn hs h0 k
        have : stp dn k = 0 := by omega
        simp [this]
    rw [e, hc]
    simp only [List.map_cons, List.map_nil, List.sum_cons, List.sum_nil]
    unfold stp
    grind
theorem lays_weigh {dn : List Int} (hs : dn.Pairwise (· ≥ ·)) (h0 : ∀ n ∈ dn, 0 ≤ n) : ∀ k, ((lays dn k).map Prod.snd).sum = dn.getD 0 0 - dn.getD k 0
  | 0 => by simp [lays]
  | k + 1 => by
    rw [lays_succ, List.map_append, List.sum_append, lays_weigh hs h0 k]
    have e : ((if 0 < stp dn k then [(k + 1, stp dn k)] else []).map Prod.snd : List Int).sum = stp dn k := by
      split
      · simp
      · have := stp_nn hs h0 k
        have : stp dn k = 0 := by omega
        simp [this]
    rw [e]
    unfold stp
    omega
theorem range_sum (dn : List Int) : ((List.range dn.length).map fun i => dn.getD i 0).sum = dn.sum := by
  congr 1
  refine List.ext_getElem? fun j => ?_
  rw [List.getElem?_map]
  by_cases h : j < dn.length
  · rw [List.getElem?_range h, List.getElem?_eq_getElem h]
    simp [List.getD_eq_getElem?_getD, h]
  · rw [List.getElem?_eq_none (by rw [List.length_range]; omega), List.getElem?_eq_none (by omega)]
    rfl
theorem lays_mem {dn : List Int} {k : Nat} {x : Nat × Int} (h : x ∈ lays dn k) : 1 ≤ x.1 ∧ x.1 ≤ k ∧ 0 < x.2 ∧ x.2 = stp dn (x.1 - 1) := by
  unfold lays at h
  obtain ⟨i, hi, rfl⟩ := List.mem_map.mp h
  rw [List.mem_filter, List.mem_range] at hi
  exact ⟨by simp, by simp; omega, of_decide_eq_true hi.2, by simp⟩
theorem dut_imm (xs : List (Nat × Int)) : immAll (xs.map dutD) = true := immAll_map (fun _ => rfl) xs
end WS
set_option Elab.async false
set_option linter.all false
set_option maxRecDepth 100000
set_option maxHeartbeats 4000000
namespace WS
open PySem PySem.Spec PyProof.Rows L2
theorem map_nodup {α β : Type} {f : α → β} : ∀ {l : List α}, l.Nodup → (∀ a ∈ l, ∀ b ∈ l, f a = f b → a = b) → (l.map f).Nodup
  | [], _, _ => List.nodup_nil
  | a :: l, h, hf => by
    rw [List.nodup_cons] at h
    rw [List.map_cons, List.nodup_cons]
    refine ⟨fun hm => ?_, map_nodup h.2 fun x hx y hy => hf x (List.mem_cons_of_mem _ hx) y (List.mem_cons_of_mem _ hy)⟩
    obtain ⟨b, hb, e⟩ := List.mem_map.mp hm
    have := hf b (List.mem_cons_of_mem _ hb) a List.mem_cons_self e
    exact h.1 (this ▸ hb)
theorem idxs_nodup {ss : List Seat} {zs : List Str} (h : zs.Nodup) (hin : ∀ z ∈ zs, z ∈ names ss) : (zs.map (idx ss)).Nodup := map_nodup h fun a ha b hb e => idx_one (hin a ha) (hin b hb) e
theorem zip_fst {α β : Type} : ∀ (xs : List α) (ys : List β), (xs.zip ys).map Prod.fst = xs.take ys.length
  | [], ys => by simp
  | x :: xs, [] => by simp
  | x :: xs, y :: ys => by simp [zip_fst xs ys]
theorem byS_fst (ss : List Seat) (os : List Str) (dn : List Int) : (byS ss os dn).map Prod.fst = (os.take dn.length).map (idx ss) := by
  unfold byS
  rw [← zip_fst, List.map_map, List.map_map]
  rfl
theorem byS_snd {ss : List Seat} : ∀ {os : List Str} {dn : List Int}, dn.length ≤ os.length → (byS ss os dn).map Prod.snd = dn
  | [], [], _ => rfl
  | [], d :: dn, h => by simp at h
  | o :: os, [], _ => rfl
  | o :: os, d :: dn, h => by
    have := byS_snd (ss := ss) (os := os) (dn := dn) (by simpa using h)
    unfold byS at this ⊢
    simp only [List.zip_cons_cons, List.map_cons, this]
theorem byS_mem {ss : List Seat} {os : List Str} {dn : List Int} {x : Nat × Int} (h : x ∈ byS ss os dn) : (∃ z ∈ os, x.1 = idx ss z) ∧ x.2 ∈ dn := by
  unfold byS at h
  obtain ⟨⟨z, n⟩, hz, rfl⟩ := List.mem_map.mp h
  exact ⟨⟨z, (List.of_mem_zip hz).1, rfl⟩, (List.of_mem_zip hz).2⟩
end WS
set_option Elab.async false
set_option linter.all false
set_option maxRecDepth 100000
set_option maxHeartbeats 4000000
namespace WS
open PySem PySem.Spec PyProof.Rows L2
/-! ### sums over seats -/
theorem perm_sumR {xs ys : List Rat} (h : xs.Perm ys) : xs.sum = ys.sum := by
  induction h with
  | nil => rfl
  | cons a _ ih => rw [List.sum_cons, List.sum_cons, ih]
  | swap a b l => simp only [List.sum_cons]; grind
  | trans _ _ h1 h2 => rw [h1, h2]
theorem sum_addR {α : Type} (f g : α → Rat) : ∀ l : List α, (l.map fun x => f x + g x).sum = (l.map f).sum + (l.map g).sum
  | [] => by simp [Rat.add_zero]
  | x :: l => by
    simp only [List.map_cons, List.sum_cons, sum_addR f g l]
    grind
theorem sum_subR {α : Type} (f g : α → Rat) : ∀ l : List α, (l.map fun x => f x - g x).sum = (l.map f).sum - (l.map g).sum
  | [] => by
    simp only [List.map_nil, List.sum_nil]
    grind
  | x :: l => by
    simp only [List.map_cons, List.sum_cons, sum_subR f g l]
    grind
theorem sum_ifR {α : Type} (p : α → Bool) (f : α → Rat) : ∀ l : List α, (l.map fun x => if p x = true then f x else 0).sum = ((l.filter p).map f).sum
  | [] => rfl
  | x :: l => by
    rw [List.map_cons, List.sum_cons, sum_ifR p f l, List.filter_cons]
    cases p x
    · simp [Rat.zero_add]
    · simp
theorem sum_constR {α : Type} (c : Rat) : ∀ l : List α, (l.map fun _ => c).sum = ((l.length : Nat) : Int) * c
  | [] => by simp
  | x :: l => by
    rw [List.map_cons, List.sum_cons, sum_constR c l, List.length_cons]
    have : (((l.length + 1 : Nat) : Int) : Rat) = ((l.length : Nat) : Int) + 1 := by
      rw [show ((l.length + 1 : Nat) : Int) = ((l.length : Nat) : Int) + 1 by omega, cast_add]
      rfl
    rw [this]
    grind
theorem sum_castR {α : Type} (f : α → Int) : ∀ l : List α, (l.map fun x => ((f x : Int) : Rat)).sum = (((l.map f).sum : Int) : Rat)
  | [] => rfl
  | x :: l => by
    rw [List.map_cons, List.sum_cons, sum_castR f l, List.map_cons, List.sum_cons, cast_add]
/-- both ways -/
theorem inter_perm {S O : List Nat} (hS : S.Nodup) (hO : O.Nodup) : (S.filter fun j => decide (j ∈ O)).Perm (O.filter fun j => decide (j ∈ S)) := by
  refine (List.perm_ext_iff_of_nodup (hS.filter _) (hO.filter _)).mpr fun j => ?_
  rw [List.mem_filter, List.mem_filter, decide_eq_true_eq, decide_eq_true_eq]
  exact And.comm
theorem lookup_sum : ∀ (ds : List (Nat × Int)) (S : List Nat), S.Nodup → (ds.map Prod.fst).Nodup → (S.map fun j => (ds.lookup j).getD 0).sum = (ds.map fun x => if x.1 ∈ S then x.2 else 0).sum
  | [], S, _, _ => by
    simp only [List.lookup_nil, Option.getD_none, List.map_nil, List.sum_nil]
    have : ∀ l : List Nat, (l.map fun _ => (0 : Int)).sum = 0 := fun l => by
      induction l with
      | nil => rfl
      | cons a l ih => rw [List.map_cons, List.sum_cons, ih]; rfl
    exact this S
  | (k, d) :: ds, S, hS, hd => by
    rw [List.map_cons, List.nodup_cons] at hd
    have ih := lookup_sum ds S hS hd.2
    rw [List.map_cons, List.sum_cons, ← ih]
    have hk := lookup_none hd.1
    clear ih
    induction S with
    | nil => simp
    | cons a S ih =>
      rw [List.nodup_cons] at hS
      have i2 := ih hS.2
      rw [List.map_cons, List.sum_cons, List.map_cons, List.sum_cons, i2, List.lookup_cons]
      by_cases e : a = k
      · subst e
        have hk' : List.lookup a ds = none := hk
        simp [hS.1, hk']
      · have : (a == k) = false := by simp [e]
        rw [this]
        have : (k = a ∨ k ∈ S) ↔ k ∈ S := ⟨fun h => h.resolve_left (Ne.symm e), .inr⟩
        simp only [List.mem_cons, this]
        omega
theorem zip_range {O : List Nat} {dn : List Int} (S : List Nat) (h : dn.length ≤ O.length) : ((O.zip dn).map fun x => if x.1 ∈ S then x.2 else 0) = (List.range dn.length).map fun i => dn.getD i 0 * (if O.getD i 0 ∈ S then 1 else 0) := by
  refine List.ext_getElem? fun i => ?_
  rw [List.getElem?_map, List.getElem?_map]
  by_cases hi : i < dn.length
  · rw [List.getElem?_range hi]
    have h1 : O[i]? = some (O.getD i 0) := by
      rw [List.getD_eq_getElem?_getD, List.getElem?_eq_getElem (by omega)]
      rfl
    have h2 : dn[i]? = some (dn.getD i 0) := by
      rw [List.getD_eq_getElem?_getD, List.getElem?_eq_getElem hi]
      rfl
    rw [(List.getElem?_zip_eq_some (z := (O.getD i 0, dn.getD i 0))).mpr ⟨h1, h2⟩]
    simp only [Option.map_some]
    split <;> simp
  · rw [List.getElem?_eq_none (by rw [List.length_zip]; omega), List.getElem?_eq_none (by rw [List.length_range]; omega)]
    rfl
/-- how many of the first ones -/
theorem count_step {O : List Nat} (p : Nat → Bool) (i : Nat) (hi : i < O.length) : ((O.take (i + 1)).filter p).length = ((O.take i).filter p).length + (if p (O.getD i 0) = true then 1 else 0) := by
  have h1 : O[i]? = some (O.getD i 0) := by
    rw [List.getD_eq_getElem?_getD, List.getElem?_eq_getElem hi]
    rfl
  rw [List.take_add_one, h1, List.filter_append, List.length_append]
  congr 1
  simp only [Option.toList_some, List.filter_cons, List.filter_nil]
  split <;> rfl
theorem gs_setRow {ss : List Seat} {ps : List (Int × Int)} {i : Nat} (h : i < ss.length) (hl : ps.length = ss.length) : gs (setRow ss ps) i = ((gs ss i).1, gp ps i) := by
  unfold setRow
  refine gs_at ?_
  rw [List.getElem?_map, (List.getElem?_zip_eq_some (z := (gs ss i, gp ps i))).mpr ⟨at_gs h, ?_⟩]
  · rfl
  · unfold gp
    rw [List.getD_eq_getElem?_getD, List.getElem?_eq_getElem (by omega)]
    rfl
theorem setRow_len {ss : List Seat} {ps : List (Int × Int)} (hl : ps.length = ss.length) : (setRow ss ps).length = ss.length := by
  unfold setRow
  rw [List.length_map, List.length_zip]
  omega
theorem gp_snd (ss : List Seat) {i : Nat} (h : i < ss.length) : gp (ss.map Prod.snd) i = (gs ss i).2 := by
  unfold gp
  rw [List.getD_eq_getElem?_getD, List.getElem?_map, at_gs h]
  rfl
theorem behS_len (ss : List Seat) (zs os : List Str) (dn : List Int) : (behS ss zs os dn).length = ss.length := by
  unfold behS
  exact setRow_len (by rw [rowE_len, List.length_map])
/-- what a seat owes behind an evening -/
theorem rv_behS {ss : List Seat} {zs os : List Str} {dn : List Int} (hp : ∀ s ∈ ss, 0 < s.2.2) (hz : 0 < zs.length) (hd : dn.length ≤ os.length) {i : Nat} (h : i < ss.length) :
    rv (gs (behS ss zs os dn) i).2 = rv (gs ss i).2 + (if i ∈ zs.map (idx ss) then ((dn.sum : Int) : Rat) / ((zs.length : Nat) : Int) else 0) - ((((byS ss os dn).lookup i).getD 0 : Int) : Rat) := by
  unfold behS
  rw [gs_setRow h (by rw [rowE_len, List.length_map])]
  show rv (gp (rowE _ _ _) i) = _
  rw [rv_rowE (fun q hq => by obtain ⟨s, hs, rfl⟩ := List.mem_map.mp hq; exact hp s hs) (by rw [List.length_map]; exact hz) (by rw [List.length_map]; exact h), gp_snd ss h, byS_snd hd, List.length_map]
/-- what seats owe behind an evening, all together -/
theorem owed_behS {ss : List Seat} {zs : List Str} {O : List Nat} {dn : List Int} {S : List Nat} (hp : ∀ s ∈ ss, 0 < s.2.2) (hz : 0 < zs.length) (nd : (names ss).Nodup) (hin : ∀ z ∈ zs, z ∈ names ss) (hO : ∀ i ∈ O, i ∈ placesOf ss zs) (ond : O.Nodup) (hOz : (O.map fun k => (gs ss k).1).Perm zs) (hd : dn.length ≤ O.length)
    (hS : S.Nodup) (hl : ∀ i ∈ S, i < ss.length) :
    ((owedAt (behS ss zs (O.map fun k => (gs ss k).1) dn) S).map rv).sum = ((owedAt ss S).map rv).sum + (((O.filter fun j => decide (j ∈ S)).length : Nat) : Int) * (((dn.sum : Int) : Rat) / ((zs.length : Nat) : Int)) - (((((List.range dn.length).map fun i => dn.getD i 0 * (if O.getD i 0 ∈ S then 1 else 0)).sum : Int)) : Rat) := by
  have eO : (O.map fun k => (gs ss k).1).map (idx ss) = O := by
    rw [List.map_map]
    conv => rhs; rw [← List.map_id O]
    refine List.map_congr_left fun k hk => ?_
    exact idx_name nd hin (hO k hk)
  have eB : byS ss (O.map fun k => (gs ss k).1) dn = O.zip dn := by
    have : byS ss (O.map fun k => (gs ss k).1) dn = ((O.map fun k => (gs ss k).1).map (idx ss)).zip dn := by
      unfold byS
      rw [List.zip_map_left (l₁ := O.map fun k => (gs ss k).1)]
      rfl
    rw [this, eO]
  have mz : ∀ i, i ∈ zs.map (idx ss) ↔ i ∈ O := fun i => by
    rw [← (hOz.map (idx ss)).mem_iff, eO]
  have e1 : ((owedAt (behS ss zs (O.map fun k => (gs ss k).1) dn) S).map rv) = S.map fun i => rv (gs ss i).2 + (if decide (i ∈ O) = true then ((dn.sum : Int) : Rat) / ((zs.length : Nat) : Int) else 0) - ((((O.zip dn).lookup i).getD 0 : Int) : Rat) := by
    unfold owedAt
    rw [List.map_map]
    refine List.map_congr_left fun i hi => ?_
    show rv (gs (behS ss zs (O.map fun k => (gs ss k).1) dn) i).2 = _
    rw [rv_behS hp hz (by rw [List.length_map]; exact hd) (hl i hi), eB]
    congr 2
    simp only [mz, decide_eq_true_eq]
  rw [e1, sum_subR, sum_addR, sum_ifR, sum_constR, sum_castR, lookup_sum _ _ hS (by rw [zip_fst]; exact ond.sublist (List.take_sublist _ _)), zip_range S hd, (inter_perm hS ond).length_eq]
  unfold owedAt
  rw [List.map_map]
  rfl
end WS
set_option Elab.async false
set_option linter.all false
set_option maxRecDepth 100000
set_option maxHeartbeats 4000000
namespace WS
open PySem PySem.Spec PyProof.Rows L2
theorem count_decN (O S : List Nat) : (O.map fun k => decide (k ∈ S)).count true = (O.filter fun k => decide (k ∈ S)).length := by
  induction O with
  | nil => rfl
  | cons k os ih =>
    rw [List.map_cons, List.count_cons, ih, List.filter_cons]
    cases decide (k ∈ S) <;> simp
theorem sum_linI {α : Type} (f g : α → Int) (a b : Int) : ∀ l : List α, (l.map fun x => a * f x - b * g x).sum = a * (l.map f).sum - b * (l.map g).sum
  | [] => by simp
  | x :: l => by
    simp only [List.map_cons, List.sum_cons, sum_linI f g a b l]
    grind
theorem lays_layN {dn : List Int} (hs : dn.Pairwise (· ≥ ·)) (h0 : ∀ n ∈ dn, 0 ≤ n) {O S : List Nat} (hd : dn.length ≤ O.length) :
    ((lays dn dn.length).map fun x => x.2 * layN (O.map fun k => decide (k ∈ S)) x.1).sum = (((O.filter fun j => decide (j ∈ S)).length : Nat) : Int) * dn.sum - (O.length : Nat) * ((List.range dn.length).map fun i => dn.getD i 0 * (if O.getD i 0 ∈ S then 1 else 0)).sum := by
  have e : (fun x : Nat × Int => x.2 * layN (O.map fun k => decide (k ∈ S)) x.1) = fun x => (((O.filter fun j => decide (j ∈ S)).length : Nat) : Int) * (x.2 * (x.1 : Nat)) - ((O.length : Nat) : Int) * (x.2 * ((((O.take x.1).filter fun j => decide (j ∈ S)).length : Nat) : Int)) := by
    funext x
    unfold layN
    rw [count_decN, ← List.map_take, count_decN, List.length_map]
    grind
  have g0 : dn.getD dn.length 0 = 0 := by
    rw [List.getD_eq_getElem?_getD, List.getElem?_eq_none (Nat.le_refl _)]
    rfl
  rw [e, sum_linI]
  rw [lays_sum hs h0 (fun m => ((m : Nat) : Int)) (fun _ => 1) rfl (fun i => by simp), lays_sum hs h0 (fun m => ((((O.take m).filter fun j => decide (j ∈ S)).length : Nat) : Int)) (fun i => if i < O.length ∧ O.getD i 0 ∈ S then 1 else 0) (by simp) (fun i => ?_)]
  · rw [g0]
    have e1 : ((List.range dn.length).map fun i => dn.getD i 0 * 1).sum = dn.sum := by
      rw [show (fun i => dn.getD i 0 * 1) = fun i => dn.getD i 0 from funext fun i => Int.mul_one _]
      exact range_sum dn
    have e2 : ((List.range dn.length).map fun i => dn.getD i 0 * (if i < O.length ∧ O.getD i 0 ∈ S then 1 else 0)) = (List.range dn.length).map fun i => dn.getD i 0 * (if O.getD i 0 ∈ S then 1 else 0) := by
      refine List.map_congr_left fun i hi => ?_
      have := List.mem_range.mp hi
      have hi2 : i < O.length := by omega
      simp only [hi2, true_and]
    rw [e1, e2]
    simp
  · by_cases hi : i < O.length
    · rw [count_step (fun j => decide (j ∈ S)) i hi]
      simp only [hi, true_and, decide_eq_true_eq]
      split <;> omega
    · rw [List.take_of_length_le (by omega), List.take_of_length_le (by omega)]
      simp [hi]
theorem rv_nought : rv (0, 1) = 0 := by
  unfold rv
  show (0 : Rat) / (1 : Rat) = 0
  grind
theorem places_nodup (ss : List Seat) (zs : List Str) : (placesOf ss zs).Nodup := (places_up ss zs).imp fun h => Nat.ne_of_lt h
end WS
set_option Elab.async false
set_option linter.all false
set_option maxRecDepth 100000
set_option maxHeartbeats 4000000
namespace WS
open PySem PySem.Spec PyProof.Rows L2
/-! ### within -/
def sumF (f : Nat → Rat) (S : List Nat) : Rat := (S.map f).sum
def mostR (W : Rat) (n k : Nat) : Rat := W * (((k : Nat) : Int) : Rat) * ((((n : Nat) : Int) : Rat) - (((k : Nat) : Int) : Rat)) / 2
def WthF (W : Rat) (n : Nat) (f : Nat → Rat) : Prop := ∀ S : List Nat, S.Nodup → (∀ i ∈ S, i < n) → sumF f S ≤ mostR W n S.length
theorem sum_take_monoR {z : Rat} : ∀ {zs : List Rat} {k : Nat}, (∀ y ∈ zs, y ≤ z) → zs.Pairwise (fun a b => b ≤ a) → k ≤ zs.length → (zs.take k).sum ≤ ((z :: zs).take k).sum
  | zs, 0, _, _, _ => by simp [Rat.le_refl]
  | [], k + 1, _, _, h => by simp at h
  | y :: zs, k + 1, h, p, hk => by
    have p' := List.pairwise_cons.mp p
    rw [List.take_succ_cons, List.take_succ_cons, List.sum_cons, List.sum_cons]
    have h1 := sum_take_monoR (z := y) (zs := zs) (k := k) p'.1 p'.2 (by simpa using hk)
    have h2 := h y List.mem_cons_self
    grind
theorem sub_le_takeR : ∀ {zs ys : List Rat}, zs.Pairwise (fun a b => b ≤ a) → ys.Sublist zs → ys.sum ≤ (zs.take ys.length).sum := by
  intro zs ys p h
  induction h with
  | slnil => simp [Rat.le_refl]
  | cons z h ih =>
    have p' := List.pairwise_cons.mp p
    exact Rat.le_trans (ih p'.2) (sum_take_monoR p'.1 p'.2 h.length_le)
  | cons_cons z h ih =>
    have p' := List.pairwise_cons.mp p
    rw [List.length_cons, List.take_succ_cons, List.sum_cons, List.sum_cons]
    have := ih p'.2
    grind
theorem sumF_perm {f : Nat → Rat} {S T : List Nat} (h : S.Perm T) : sumF f S = sumF f T := perm_sumR (h.map f)
theorem sumF_app (f : Nat → Rat) (S T : List Nat) : sumF f (S ++ T) = sumF f S + sumF f T := by
  unfold sumF
  rw [List.map_append, List.sum_append]
theorem sub_perm {S A : List Nat} (hS : S.Nodup) (hA : A.Nodup) (h : ∀ i ∈ A, i ∈ S) : (S.filter fun i => decide (i ∈ A)).Perm A := by
  refine (List.perm_ext_iff_of_nodup (hS.filter _) hA).mpr fun i => ?_
  rw [List.mem_filter, decide_eq_true_eq]
  exact ⟨fun h => h.2, fun hi => ⟨h i hi, hi⟩⟩
theorem split_perm (S A : List Nat) : (S.filter (fun i => decide (i ∈ A)) ++ S.filter fun i => !decide (i ∈ A)).Perm S := by
  induction S with
  | nil => exact .refl _
  | cons a S ih =>
    rw [List.filter_cons, List.filter_cons]
    cases decide (a ∈ A)
    · simp only [Bool.not_false, if_true, Bool.false_eq_true, if_false]
      exact List.perm_middle.trans (ih.cons a)
    · simp only [Bool.not_true, if_true, Bool.false_eq_true, if_false, List.cons_append]
      exact ih.cons a
theorem top_most {f : Nat → Rat} {O S : List Nat} (hO : O.Nodup) (hs : O.Pairwise fun i j => f j ≤ f i) (hS : S.Nodup) (hin : ∀ i ∈ S, i ∈ O) : sumF f S ≤ sumF f (O.take S.length) := by
  have hp := sub_perm hO hS hin
  rw [← sumF_perm hp, ← hp.length_eq]
  unfold sumF
  have := sub_le_takeR (zs := O.map f) (ys := (O.filter fun i => decide (i ∈ S)).map f) (by rw [List.pairwise_map]; exact hs) (List.filter_sublist.map f)
  rw [List.length_map, ← List.map_take] at this
  exact this
theorem wth_of {W : Rat} {n : Nat} {f : Nat → Rat} {O : List Nat} (hp : O.Perm (List.range n)) (hs : O.Pairwise fun i j => f j ≤ f i) (h : ∀ k, k ≤ n → sumF f (O.take k) ≤ mostR W n k) : WthF W n f := fun S hS hn => by
  have hl : S.length ≤ n := by
    have := hS.length_le_of_subset (l₂ := List.range n) fun i hi => List.mem_range.mpr (hn i hi)
    rw [List.length_range] at this
    exact this
  exact Rat.le_trans (top_most (hp.nodup_iff.mpr List.nodup_range) hs hS fun i hi => hp.mem_iff.mpr (List.mem_range.mpr (hn i hi))) (h _ hl)
/-- each of these no more than each of those -/
theorem cross_sum {f : Nat → Rat} : ∀ (A B : List Nat), (∀ i ∈ A, ∀ j ∈ B, f i ≤ f j) → sumF f A * (((B.length : Nat) : Int) : Rat) ≤ sumF f B * (((A.length : Nat) : Int) : Rat)
  | [], B, _ => by
    unfold sumF
    simp only [List.map_nil, List.sum_nil, List.length_nil]
    show (0 : Rat) * _ ≤ _ * (0 : Rat)
    rw [Rat.zero_mul, Rat.mul_zero]
    exact Rat.le_refl
  | a :: A, B, h => by
    have ih := cross_sum A B fun i hi j hj => h i (List.mem_cons_of_mem _ hi) j hj
    have hb : ∀ B : List Nat, (∀ j ∈ B, f a ≤ f j) → f a * (((B.length : Nat) : Int) : Rat) ≤ sumF f B := by
      intro B
      induction B with
      | nil =>
        intro _
        unfold sumF
        show f a * (0 : Rat) ≤ 0
        rw [Rat.mul_zero]
        exact Rat.le_refl
      | cons b B ih2 =>
        intro hB
        have h1 := hB b List.mem_cons_self
        have h2 := ih2 fun j hj => hB j (List.mem_cons_of_mem _ hj)
        have e : (((b :: B).length : Nat) : Int) = ((B.length : Nat) : Int) + 1 := by simp
        unfold sumF at h2 ⊢
        rw [e, cast_add, List.map_cons, List.sum_cons]
        have : ((1 : Int) : Rat) = 1 := rfl
        rw [this]
        grind
    have h3 := hb B fun j hj => h a List.mem_cons_self j hj
    have e : (((a :: A).length : Nat) : Int) = ((A.length : Nat) : Int) + 1 := by simp
    have e2 : sumF f (a :: A) = f a + sumF f A := by unfold sumF; rw [List.map_cons, List.sum_cons]
    rw [e, e2, cast_add]
    have : ((1 : Int) : Rat) = 1 := rfl
    rw [this]
    grind
/-- of a layer: the idle ones of these, the others of its first -/
def idleL (O S : List Nat) (m : Nat) : List Nat := (O.drop m).filter fun i => decide (i ∈ S)
def othL (O S : List Nat) (m : Nat) : List Nat := (O.take m).filter fun i => !decide (i ∈ S)
section
variable {O S : List Nat} {m n : Nat}
theorem idle_nodup (hO : O.Nodup) : (idleL O S m).Nodup := (hO.sublist (List.drop_sublist _ _)).filter _
theorem oth_nodup (hO : O.Nodup) : (othL O S m).Nodup := (hO.sublist (List.take_sublist _ _)).filter _
theorem idle_in {i : Nat} (h : i ∈ idleL O S m) : i ∈ O.drop m ∧ i ∈ S := by
  unfold idleL at h
  rw [List.mem_filter, decide_eq_true_eq] at h
  exact h
theorem oth_in {i : Nat} (h : i ∈ othL O S m) : i ∈ O.take m ∧ i ∉ S := by
  unfold othL at h
  rw [List.mem_filter, Bool.not_eq_true', decide_eq_false_iff_not] at h
  exact h
theorem less_len (hS : S.Nodup) (hO : O.Nodup) : (S.filter fun i => !decide (i ∈ idleL O S m)).length + (idleL O S m).length = S.length := by
  have h1 := (split_perm S (idleL O S m)).length_eq
  rw [List.length_append, (sub_perm hS (idle_nodup hO) fun i hi => (idle_in hi).2).length_eq] at h1
  omega
theorem less_sum (f : Nat → Rat) (hS : S.Nodup) (hO : O.Nodup) : sumF f (S.filter fun i => !decide (i ∈ idleL O S m)) = sumF f S - sumF f (idleL O S m) := by
  have h1 := sumF_perm (f := f) (split_perm S (idleL O S m))
  rw [sumF_app, sumF_perm (sub_perm hS (idle_nodup hO) fun i hi => (idle_in hi).2)] at h1
  grind
theorem more_nodup (hS : S.Nodup) (hO : O.Nodup) : (S ++ othL O S m).Nodup := by
  rw [List.nodup_append]
  exact ⟨hS, oth_nodup hO, fun a ha b hb e => (oth_in hb).2 (e ▸ ha)⟩
theorem q_oth (hm : m ≤ O.length) : ((O.take m).filter fun i => decide (i ∈ S)).length + (othL O S m).length = m := by
  have h := (split_perm (O.take m) S).length_eq
  rw [List.length_append, List.length_take, Nat.min_eq_left hm] at h
  exact h
theorem layN_io (hm : m ≤ O.length) : layN (O.map fun k => decide (k ∈ S)) m = ((idleL O S m).length : Nat) * ((othL O S m).length : Nat) - (((O.take m).filter fun i => decide (i ∈ S)).length : Nat) * ((O.length : Int) - m - ((idleL O S m).length : Nat)) := by
  rw [layN_ab (by rw [List.length_map]; exact hm), ← List.map_take, ← List.map_drop, count_decN, count_decN, List.length_map]
  have := q_oth (S := S) hm
  have e : (m : Int) - (((O.take m).filter fun i => decide (i ∈ S)).length : Nat) = ((othL O S m).length : Nat) := by omega
  rw [e]
  rfl
theorem idle_le : m ≤ O.length → (idleL O S m).length + m ≤ O.length := fun hm => by
  have := List.length_filter_le (fun i => decide (i ∈ S)) (O.drop m)
  rw [List.length_drop] at this
  unfold idleL
  omega
/-- what a layer brings these, no more than half of the idle ones times the others -/
theorem lay_half (hm : m ≤ O.length) (h2 : 2 ≤ O.length) : ((layN (O.map fun k => decide (k ∈ S)) m : Int) : Rat) / (((O.length : Nat) : Int) : Rat) ≤ ((((idleL O S m).length : Nat) : Int) : Rat) * ((((othL O S m).length : Nat) : Int) : Rat) / 2 := by
  have hi := idle_le (S := S) hm
  have h := lay_le (a := ((idleL O S m).length : Nat)) (b := ((othL O S m).length : Nat)) (q := (((O.take m).filter fun i => decide (i ∈ S)).length : Nat)) (c := (O.length : Int) - m - ((idleL O S m).length : Nat)) (k := 2) (L := (O.length : Nat)) (by omega) (by omega) (by omega) (by omega) (by omega) (by omega)
  rw [← layN_io hm] at h
  have hp : (0 : Int) < ((O.length : Nat) : Int) := by omega
  have h3 : ((layN (O.map fun k => decide (k ∈ S)) m : Int) : Rat) * 2 ≤ ((((idleL O S m).length : Nat) : Int) : Rat) * ((((othL O S m).length : Nat) : Int) : Rat) * (((O.length : Nat) : Int) : Rat) := by
    have := cast_le.mpr h
    rw [cast_mul, cast_mul, cast_mul] at this
    exact this
  refine Rat.not_lt.mp fun z => ?_
  rw [Rat.lt_div_iff (cast_pos hp)] at z
  grind
variable {f : Nat → Rat} {W : Rat}
theorem order_cross (hs : O.Pairwise fun i j => f j ≤ f i) : sumF f (idleL O S m) * ((((othL O S m).length : Nat) : Int) : Rat) ≤ sumF f (othL O S m) * ((((idleL O S m).length : Nat) : Int) : Rat) := by
  refine cross_sum _ _ fun i hi j hj => ?_
  rw [← List.take_append_drop m O, List.pairwise_append] at hs
  exact hs.2.2 j (oth_in hj).1 i (idle_in hi).1
/-- each layer leaves room -/
theorem lay_room (hW : 0 < W) (wf : WthF W n f) (hO : O.Nodup) (hOn : ∀ i ∈ O, i < n) (hs : O.Pairwise fun i j => f j ≤ f i) (hS : S.Nodup) (hSn : ∀ i ∈ S, i < n) (hm : m ≤ O.length) (h2 : 2 ≤ O.length) :
    W * (((layN (O.map fun k => decide (k ∈ S)) m : Int) : Rat) / (((O.length : Nat) : Int) : Rat)) ≤ mostR W n S.length - sumF f S := by
  have l1 := less_len (m := m) hS hO
  have w0 := wf S hS hSn
  have w1 := wf _ (hS.filter fun i => !decide (i ∈ idleL O S m)) fun i hi => hSn i (List.mem_filter.mp hi).1
  have w2 := wf _ (more_nodup (m := m) hS hO) fun i hi => by
    rcases List.mem_append.mp hi with h | h
    · exact hSn i h
    · exact hOn i (List.mem_of_mem_take (oth_in h).1)
  rw [less_sum f hS hO] at w1
  rw [sumF_app, List.length_append] at w2
  have oc := order_cross (m := m) (S := S) hs
  have lh := lay_half (S := S) hm h2
  have e1 : (((S.filter fun i => !decide (i ∈ idleL O S m)).length : Nat) : Int) = ((S.length : Nat) : Int) - ((idleL O S m).length : Nat) := by omega
  have e2 : ((S.length + (othL O S m).length : Nat) : Int) = ((S.length : Nat) : Int) + ((othL O S m).length : Nat) := by omega
  unfold mostR at w0 w1 w2 ⊢
  rw [e1, cast_sub] at w1
  rw [e2, cast_add] at w2
  have ha : (0 : Rat) ≤ ((((idleL O S m).length : Nat) : Int) : Rat) := cast_nn (by omega)
  have hb : (0 : Rat) ≤ ((((othL O S m).length : Nat) : Int) : Rat) := cast_nn (by omega)
  exact row_bound (n := (((n : Nat) : Int) : Rat)) hW ha hb w0 w1 w2 (by grind) lh
end
/-- an evening keeps within -/
theorem eve_within {O S : List Nat} {n : Nat} {f : Nat → Rat} {W : Int} (hW : 0 < W) (wf : WthF W n f) (hO : O.Nodup) (hOn : ∀ i ∈ O, i < n) (hs : O.Pairwise fun i j => f j ≤ f i) (hS : S.Nodup) (hSn : ∀ i ∈ S, i < n) (h2 : 2 ≤ O.length) {xs : List (Nat × Int)} (hx : ∀ x ∈ xs, x.1 ≤ O.length ∧ 0 ≤ x.2) (hw : (xs.map Prod.snd).sum ≤ W) :
    sumF f S + (((xs.map fun x => x.2 * layN (O.map fun k => decide (k ∈ S)) x.1).sum : Int) : Rat) / (((O.length : Nat) : Int) : Rat) ≤ mostR W n S.length := by
  have hW' : (0 : Rat) < W := cast_pos hW
  have w0 := wf S hS hSn
  have D0 : (0 : Rat) ≤ mostR W n S.length - sumF f S := by grind
  have key : ∀ xs : List (Nat × Int), (∀ x ∈ xs, x.1 ≤ O.length ∧ 0 ≤ x.2) → (W : Rat) * ((((xs.map fun x => x.2 * layN (O.map fun k => decide (k ∈ S)) x.1).sum : Int) : Rat) / (((O.length : Nat) : Int) : Rat)) ≤ (((xs.map Prod.snd).sum : Int) : Rat) * (mostR W n S.length - sumF f S) := by
    intro xs
    induction xs with
    | nil =>
      intro _
      simp only [List.map_nil, List.sum_nil]
      show (W : Rat) * ((0 : Rat) / _) ≤ (0 : Rat) * _
      rw [Rat.div_def, Rat.zero_mul, Rat.mul_zero, Rat.zero_mul]
      exact Rat.le_refl
    | cons x xs ih =>
      intro hx
      have i2 := ih fun y hy => hx y (List.mem_cons_of_mem _ hy)
      obtain ⟨h1, h3⟩ := hx x List.mem_cons_self
      have lr := lay_room (W := (W : Rat)) hW' wf hO hOn hs hS hSn h1 h2
      have l2 := Rat.mul_le_mul_of_nonneg_left lr (cast_nn h3)
      rw [List.map_cons, List.sum_cons, List.map_cons, List.sum_cons, cast_add, cast_add, cast_mul]
      generalize (((xs.map fun x => x.2 * layN (O.map fun k => decide (k ∈ S)) x.1).sum : Int) : Rat) = A at *
      generalize (((xs.map Prod.snd).sum : Int) : Rat) = B at *
      generalize ((layN (O.map fun k => decide (k ∈ S)) x.1 : Int) : Rat) = C at *
      rw [Rat.div_def] at i2 l2 ⊢
      generalize ((((O.length : Nat) : Int) : Rat))⁻¹ = I at *
      grind
  have h4 := key xs hx
  have h5 := Rat.mul_le_mul_of_nonneg_right (cast_le.mpr hw) D0
  have h6 := Rat.le_of_mul_le_mul_left (Rat.le_trans h4 h5) hW'
  grind
end WS
set_option Elab.async false
set_option linter.all false
set_option maxRecDepth 100000
set_option maxHeartbeats 4000000
namespace WS
open PySem PySem.Spec PyProof.Rows L2
/-! ### good moments: within, and all together nought -/
def owF (ss : List Seat) (i : Nat) : Rat := rv (gs ss i).2
structure Good (W : Int) (ss : List Seat) : Prop where
  w : WthF W ss.length (owF ss)
  z : sumF (owF ss) (List.range ss.length) = 0
theorem mostR_mono {W W' : Rat} {n k : Nat} (h : W ≤ W') (hk : k ≤ n) : mostR W n k ≤ mostR W' n k := by
  unfold mostR
  have h1 : (0 : Rat) ≤ (((k : Nat) : Int) : Rat) := cast_nn (by omega)
  have h2 : (0 : Rat) ≤ (((n : Nat) : Int) : Rat) - (((k : Nat) : Int) : Rat) := by
    have : (((k : Nat) : Int) : Rat) ≤ (((n : Nat) : Int) : Rat) := cast_le.mpr (by omega)
    grind
  have h3 := Rat.mul_nonneg h1 h2
  have h4 := Rat.mul_le_mul_of_nonneg_right h h3
  grind
theorem WthF.up {W W' : Rat} {n : Nat} {f : Nat → Rat} (h : WthF W n f) (hw : W ≤ W') : WthF W' n f := fun S hS hn => by
  have hl : S.length ≤ n := by
    have := hS.length_le_of_subset (l₂ := List.range n) fun i hi => List.mem_range.mpr (hn i hi)
    rw [List.length_range] at this
    exact this
  exact Rat.le_trans (h S hS hn) (mostR_mono hw hl)
theorem WthF.congr {W : Rat} {n : Nat} {f g : Nat → Rat} (h : WthF W n f) (e : ∀ i, i < n → f i = g i) : WthF W n g := fun S hS hn => by
  have : sumF g S = sumF f S := by
    unfold sumF
    congr 1
    exact List.map_congr_left fun i hi => (e i (hn i hi)).symm
  rw [this]
  exact h S hS hn
theorem sum_range_gp (ps : List (Int × Int)) : sumF (fun j => rv (gp ps j)) (List.range ps.length) = (ps.map rv).sum := by
  unfold sumF
  congr 1
  refine List.ext_getElem? fun j => ?_
  rw [List.getElem?_map, List.getElem?_map]
  by_cases h : j < ps.length
  · rw [List.getElem?_range h, List.getElem?_eq_getElem h]
    simp [gp, List.getD_eq_getElem?_getD, h]
  · rw [List.getElem?_eq_none (by rw [List.length_range]; omega), List.getElem?_eq_none (by omega)]
    rfl
theorem ow_gp {ss : List Seat} {ps : List (Int × Int)} (h : ss.map Prod.snd = ps) (i : Nat) (hi : i < ss.length) : rv (gp ps i) = owF ss i := by
  subst h
  rw [gp_snd ss hi]
  rfl
theorem good_mk {W : Int} {ss : List Seat} {ps : List (Int × Int)} (h : ss.map Prod.snd = ps) (w : WthF W ps.length fun j => rv (gp ps j)) (z : (ps.map rv).sum = 0) : Good W ss := by
  have hl : ps.length = ss.length := by rw [← h, List.length_map]
  refine ⟨?_, ?_⟩
  · rw [hl] at w
    exact w.congr (ow_gp h)
  · rw [← z, ← sum_range_gp, hl]
    unfold sumF
    congr 1
    exact List.map_congr_left fun i hi => (ow_gp h i (List.mem_range.mp hi)).symm
theorem ranked_desc {ps : List (Int × Int)} {os : List Nat} (h : RankedP ps os) (hp : ∀ q ∈ ps, 0 < q.2) : os.Pairwise fun i j => rv (gp ps j) ≤ rv (gp ps i) := h.2.imp fun {i j} hr => by
  have pi := gp_pos hp i
  have pj := gp_pos hp j
  rcases hr with hr | ⟨hr, _⟩
  · exact Rat.le_of_lt ((lt_rv pj pi).mp hr)
  · refine Rat.not_lt.mp fun z => ?_
    have := (lt_rv pi pj).mpr z
    unfold gp at this
    omega
theorem rkS_desc {ss : List Seat} {os : List Nat} (h : os.Pairwise (rkS ss)) (hp : ∀ s ∈ ss, 0 < s.2.2) : os.Pairwise fun i j => owF ss j ≤ owF ss i := h.imp fun {i j} hr => by
  have pg : ∀ i, 0 < (gs ss i).2.2 := fun i => by
    unfold gs
    rw [List.getD_eq_getElem?_getD]
    cases e : ss[i]? with
    | none => show (0 : Int) < 1; decide
    | some s => exact hp s (List.mem_of_getElem? e)
  rcases hr with hr | ⟨hr, _⟩
  · exact Rat.le_of_lt ((lt_rv (pg j) (pg i)).mp hr)
  · refine Rat.not_lt.mp fun z => ?_
    have := (lt_rv (pg i) (pg j)).mpr z
    omega
theorem sumF_gp {ps : List (Int × Int)} (hp : ∀ q ∈ ps, 0 < q.2) (S : List Nat) : sumF (fun j => rv (gp ps j)) S = rv ((S.map (gp ps)).foldl pl (0, 1)) := by
  rw [rv_fold _ _ (by decide) (fun q hq => by obtain ⟨i, _, rfl⟩ := List.mem_map.mp hq; exact gp_pos hp i), rv_nought, Rat.zero_add, List.map_map]
  rfl
end WS
set_option Elab.async false
set_option linter.all false
set_option maxRecDepth 100000
set_option maxHeartbeats 4000000
namespace WS
open PySem PySem.Spec PyProof.Rows L2
theorem sumF_owed (ss : List Seat) (S : List Nat) : sumF (owF ss) S = ((owedAt ss S).map rv).sum := by
  unfold sumF owedAt owF
  rw [List.map_map]
  rfl
/-- a good moment stays good by an evening -/
theorem good_behS {W : Int} {ss : List Seat} {zs : List Str} {O : List Nat} {ns : List Int} (hW : 1 ≤ W) (g : Good W ss) (hp : ∀ s ∈ ss, 0 < s.2.2) (hz : 2 ≤ zs.length) (nd : (names ss).Nodup) (hin : ∀ z ∈ zs, z ∈ names ss) (po : O.Perm (placesOf ss zs)) (wo : O.Pairwise (rkS ss)) (hOz : (O.map fun k => (gs ss k).1).Perm zs) (hd : ns.length ≤ zs.length) (hn : ∀ n ∈ ns, 1 ≤ n ∧ n ≤ W) :
    Good W (behS ss zs (O.map fun k => (gs ss k).1) (down ns)) := by
  have hO : ∀ i ∈ O, i ∈ placesOf ss zs := fun i hi => po.mem_iff.mp hi
  have ond : O.Nodup := po.nodup_iff.mpr (places_nodup ss zs)
  have hOn : ∀ i ∈ O, i < ss.length := fun i hi => (places_lt (hO i hi)).1
  have ol : O.length = zs.length := by rw [← hOz.length_eq, List.length_map]
  have dl := down_len ns
  have dnn : ∀ n ∈ down ns, 0 ≤ n := fun n h => by have := hn n ((down_perm ns).mem_iff.mp h); omega
  have hd2 : (down ns).length ≤ O.length := by omega
  have hL : (0 : Int) < ((O.length : Nat) : Int) := by omega
  have hne := cast_ne hL
  have each : ∀ S : List Nat, S.Nodup → (∀ i ∈ S, i < ss.length) → sumF (owF (behS ss zs (O.map fun k => (gs ss k).1) (down ns))) S = sumF (owF ss) S + ((((lays (down ns) (down ns).length).map fun x => x.2 * layN (O.map fun k => decide (k ∈ S)) x.1).sum : Int) : Rat) / (((O.length : Nat) : Int) : Rat) := fun S hS hl => by
    rw [sumF_owed, sumF_owed, owed_behS hp (by omega) nd hin hO ond hOz hd2 hS hl, lays_layN (down_sorted ns) dnn hd2, cast_sub, cast_mul, cast_mul, ← ol]
    grind
  refine ⟨fun S hS hl => ?_, ?_⟩
  · rw [behS_len] at hl ⊢
    rw [each S hS hl]
    refine eve_within (by omega) g.w ond hOn (rkS_desc wo hp) hS hl (by omega) (fun x hx => ?_) ?_
    · have := lays_mem hx
      exact ⟨by omega, by omega⟩
    · rw [lays_weigh (down_sorted ns) dnn]
      have g0 : (down ns).getD (down ns).length 0 = 0 := by
        rw [List.getD_eq_getElem?_getD, List.getElem?_eq_none (Nat.le_refl _)]
        rfl
      have g1 : (down ns).getD 0 0 ≤ W := by
        rw [List.getD_eq_getElem?_getD]
        cases e : (down ns)[0]? with
        | none => show (0 : Int) ≤ W; omega
        | some n => exact (hn n ((down_perm ns).mem_iff.mp (List.mem_of_getElem? e))).2
      omega
  · rw [behS_len, sumF_owed, owed_behS hp (by omega) nd hin hO ond hOz hd2 List.nodup_range (fun i hi => List.mem_range.mp hi), ← sumF_owed, g.z, Rat.zero_add]
    have e1 : (O.filter fun j => decide (j ∈ List.range ss.length)) = O := by
      rw [List.filter_eq_self]
      exact fun i hi => decide_eq_true (List.mem_range.mpr (hOn i hi))
    have e2 : ((List.range (down ns).length).map fun i => (down ns).getD i 0 * (if O.getD i 0 ∈ List.range ss.length then 1 else 0)) = (List.range (down ns).length).map fun i => (down ns).getD i 0 := by
      refine List.map_congr_left fun i hi => ?_
      have hi2 := List.mem_range.mp hi
      rw [if_pos, Int.mul_one]
      rw [List.getD_eq_getElem?_getD, List.getElem?_eq_getElem (show i < O.length by omega)]
      exact List.mem_range.mpr (hOn _ (List.getElem_mem _))
    rw [e1, e2, range_sum, ← ol]
    grind
theorem owF_rat (ss : List Seat) {i : Nat} : owF ss i = ((gs ss i).2.1 : Rat) / (gs ss i).2.2 := rfl
/-- what a seat of a good moment owes has few signs -/
theorem good_bits {W : Int} {ss : List Seat} {D B : Nat} (hW : 1 ≤ W) (g : Good W ss) (bW : Bt B W) (hl : ss.length ≤ 15) (hp : ∀ s ∈ ss, 0 < s.2.2 ∧ Bt D s.2.2) : ∀ s ∈ ss, Ok2 (B + 4 + D) D s.2 := fun s hs => by
  obtain ⟨h0, hd⟩ := hp s hs
  obtain ⟨i, hi⟩ := List.getElem?_of_mem hs
  have il := (List.getElem?_eq_some_iff.mp hi).1
  have e := gs_at hi
  refine ⟨h0, ?_, hd⟩
  have n1 : (1 : Int) ≤ ss.length := by omega
  have u1 := g.w [i] (by simp) (fun j hj => by rw [List.mem_singleton.mp hj]; exact il)
  have fp := filter_perm List.nodup_range (List.mem_range.mpr il)
  have u2 := g.w ((List.range ss.length).filter fun k => !decide (k = i)) (List.nodup_range.filter _) (fun j hj => List.mem_range.mp (List.mem_filter.mp hj).1)
  have ln := fp.length_eq
  rw [List.length_cons, List.length_range] at ln
  have sm := sumF_perm (f := owF ss) fp
  rw [g.z] at sm
  have s1 : sumF (owF ss) [i] = owF ss i := by
    unfold sumF
    simp [Rat.add_zero]
  have s2 : sumF (owF ss) (i :: (List.range ss.length).filter fun k => !decide (k = i)) = owF ss i + sumF (owF ss) ((List.range ss.length).filter fun k => !decide (k = i)) := by
    unfold sumF
    rw [List.map_cons, List.sum_cons]
  rw [s1] at u1
  rw [s2] at sm
  unfold mostR at u1 u2
  have el : ((((List.range ss.length).filter fun k => !decide (k = i)).length : Nat) : Int) = ((ss.length : Nat) : Int) - 1 := by omega
  rw [el, cast_sub] at u2
  have o1 : ((1 : Int) : Rat) = 1 := rfl
  have o2 : ((([i] : List Nat).length : Nat) : Int) = 1 := rfl
  rw [o2] at u1
  rw [o1] at u1 u2
  rw [owF_rat, e] at u1 sm
  have hb := cast_pos h0
  have hbn := cast_ne h0
  have hWn : (0 : Rat) ≤ (W : Rat) := cast_nn (by omega)
  have k1 : (s.2.1 : Rat) * 2 ≤ (W : Rat) * ((((ss.length : Nat) : Int) : Rat) - 1) * s.2.2 := by
    have : (s.2.1 : Rat) / s.2.2 * s.2.2 = s.2.1 := by grind
    have := Rat.mul_le_mul_of_nonneg_right u1 (Rat.le_of_lt hb)
    grind
  have k2 : -(s.2.1 : Rat) * 2 ≤ (W : Rat) * ((((ss.length : Nat) : Int) : Rat) - 1) * s.2.2 := by
    have : (s.2.1 : Rat) / s.2.2 * s.2.2 = s.2.1 := by grind
    have h3 : -((s.2.1 : Rat) / s.2.2) ≤ (W : Rat) * ((((ss.length : Nat) : Int) : Rat) - 1) * 1 / 2 := by grind
    have := Rat.mul_le_mul_of_nonneg_right h3 (Rat.le_of_lt hb)
    grind
  have i1 : s.2.1 * 2 ≤ W * (((ss.length : Nat) : Int) - 1) * s.2.2 := by
    refine cast_le.mp ?_
    rw [cast_mul, cast_mul, cast_mul, cast_sub]
    exact k1
  have i2 : (0 - s.2.1) * 2 ≤ W * (((ss.length : Nat) : Int) - 1) * s.2.2 := by
    refine cast_le.mp ?_
    rw [cast_mul, cast_mul, cast_mul, cast_sub, cast_sub]
    have : ((0 : Int) : Rat) = 0 := rfl
    rw [this]
    have e2 : ((2 : Int) : Rat) = 2 := rfl
    rw [e2, o1]
    grind
  have bn : Bt 4 (((ss.length : Nat) : Int) - 1) := Bt.of_lt (by omega) (by omega)
  have bb := (bW.mul bn).mul hd
  refine bb.of_le ?_
  omega
theorem behS_den {ss : List Seat} {zs os : List Str} {dn : List Int} {D : Nat} (hp : ∀ s ∈ ss, 0 < s.2.2 ∧ Bt D s.2.2) (hz : 0 < zs.length) (z15 : zs.length ≤ 15) (hd : dn.length ≤ os.length) : ∀ s ∈ behS ss zs os dn, 0 < s.2.2 ∧ Bt (D + 4) s.2.2 := fun s hs => by
  obtain ⟨i, hi⟩ := List.getElem?_of_mem hs
  have hl : i < ss.length := by
    have := (List.getElem?_eq_some_iff.mp hi).1
    rw [behS_len] at this
    exact this
  have e : s.2 = gp (rowE (ss.map Prod.snd) (zs.map (idx ss)) (byS ss os dn)) i := by
    rw [← gs_at hi]
    unfold behS
    rw [gs_setRow hl (by rw [rowE_len, List.length_map])]
  have e0 := hp _ (gs_mem hl)
  rw [e, rowE_at (by rw [List.length_map]; exact hl), byS_snd hd, List.length_map]
  have bz : Bt 4 ((zs.length : Nat) : Int) := Bt.of_lt (by omega) (by omega)
  have oF : 0 < (rowF (ss.map Prod.snd) (zs.map (idx ss)) (lo dn.sum (zs.length : Nat)) i).2 ∧ Bt (D + 4) (rowF (ss.map Prod.snd) (zs.map (idx ss)) (lo dn.sum (zs.length : Nat)) i).2 := by
    unfold rowF
    rw [gp_snd ss hl]
    have pz := lo_lowest (a := dn.sum) (b := ((zs.length : Nat) : Int)) (by omega)
    split
    · exact ⟨(lo_lowest (Int.mul_pos e0.1 pz.1)).1, Bt.lo2 (e0.2.mul bz.lo2)⟩
    · exact ⟨e0.1, e0.2.mono (by omega)⟩
  unfold rowG
  split
  · rename_i d _
    rw [low_one]
    exact ⟨(lo_lowest (Int.mul_pos oF.1 (by show (0 : Int) < 1; decide))).1, Bt.lo2 (by show Bt _ (_ * (1 : Int)); rw [Int.mul_one]; exact oF.2)⟩
  · exact oF
theorem behS_names {ss : List Seat} {zs os : List Str} {dn : List Int} : (behS ss zs os dn).map Prod.fst = ss.map Prod.fst := by
  refine List.ext_getElem? fun i => ?_
  rw [List.getElem?_map, List.getElem?_map]
  by_cases h : i < ss.length
  · rw [at_gs h, at_gs (by rw [behS_len]; exact h)]
    unfold behS
    rw [gs_setRow h (by rw [rowE_len, List.length_map])]
    rfl
  · rw [List.getElem?_eq_none (by rw [behS_len]; omega), List.getElem?_eq_none (by omega)]
theorem names_behS {ss : List Seat} {zs os : List Str} {dn : List Int} : names (behS ss zs os dn) = names ss := by
  unfold names
  rw [behS_names]
/-- new seats that owe nought -/
theorem good_zeros {W : Int} {ss : List Seat} (hW : 0 ≤ W) (g : Good W ss) (us : List Str) : Good W (ss ++ us.map fun z => ((z, (0, 1)) : Seat)) := by
  have hl : (ss ++ us.map fun z => ((z, (0, 1)) : Seat)).length = ss.length + us.length := by rw [List.length_append, List.length_map]
  have f1 : ∀ i, i < ss.length → owF (ss ++ us.map fun z => ((z, (0, 1)) : Seat)) i = owF ss i := fun i hi => by
    unfold owF gs
    rw [List.getD_eq_getElem?_getD, List.getD_eq_getElem?_getD, List.getElem?_append_left hi]
  have f2 : ∀ i, ss.length ≤ i → owF (ss ++ us.map fun z => ((z, (0, 1)) : Seat)) i = 0 := fun i hi => by
    unfold owF gs
    rw [List.getD_eq_getElem?_getD, List.getElem?_append_right hi, List.getElem?_map]
    cases us[i - ss.length]? with
    | none => exact rv_nought
    | some z => exact rv_nought
  have spl : ∀ S : List Nat, sumF (owF (ss ++ us.map fun z => ((z, (0, 1)) : Seat))) S = sumF (owF ss) (S.filter fun i => decide (i < ss.length)) := fun S => by
    unfold sumF
    rw [← sum_ifR]
    congr 1
    refine List.map_congr_left fun i _ => ?_
    by_cases h : i < ss.length
    · rw [f1 i h, decide_eq_true h, if_pos rfl]
    · rw [f2 i (by omega), decide_eq_false h]
      rfl
  refine ⟨fun S hS hn => ?_, ?_⟩
  · rw [spl]
    have h1 := g.w _ (hS.filter fun i => decide (i < ss.length)) (fun i hi => of_decide_eq_true (List.mem_filter.mp hi).2)
    refine Rat.le_trans h1 ?_
    rw [hl] at hn ⊢
    have a1 : (S.filter fun i => decide (i < ss.length)).length ≤ S.length := List.length_filter_le _ _
    have a2 : (S.filter fun i => decide (i < ss.length)).length ≤ ss.length := by
      have := (show (S.filter fun i => decide (i < ss.length)).Nodup from hS.filter _).length_le_of_subset (l₂ := List.range ss.length) fun i hi => List.mem_range.mpr (of_decide_eq_true (List.mem_filter.mp hi).2)
      rw [List.length_range] at this
      exact this
    have a3 : S.length ≤ (S.filter fun i => decide (i < ss.length)).length + us.length := by
      have h2 := (show (S.filter fun i => !decide (i < ss.length)).Nodup from hS.filter _).length_le_of_subset (l₂ := (List.range us.length).map fun j => ss.length + j) fun i hi => by
        obtain ⟨hi1, hi2⟩ := List.mem_filter.mp hi
        have hi3 : ¬ i < ss.length := by simpa using hi2
        have := hn i hi1
        exact List.mem_map.mpr ⟨i - ss.length, List.mem_range.mpr (by omega), by omega⟩
      rw [List.length_map, List.length_range] at h2
      have h3 : (S.filter fun i => decide (i < ss.length)).length + (S.filter fun i => !decide (i < ss.length)).length = S.length := by
        clear h1 h2 a1 a2 hn hS
        induction S with
        | nil => rfl
        | cons a S ih =>
          rw [List.filter_cons, List.filter_cons]
          cases decide (a < ss.length) <;> simp <;> omega
      omega
    generalize (S.filter fun i => decide (i < ss.length)).length = k' at *
    generalize S.length = k at *
    unfold mostR
    have b1 : (((k' : Nat) : Int) : Rat) ≤ (((k : Nat) : Int) : Rat) := cast_le.mpr (by omega)
    have b0 : (0 : Rat) ≤ (((k' : Nat) : Int) : Rat) := cast_nn (by omega)
    have b2 : (0 : Rat) ≤ (((ss.length : Nat) : Int) : Rat) - (((k' : Nat) : Int) : Rat) := by
      have : (((k' : Nat) : Int) : Rat) ≤ (((ss.length : Nat) : Int) : Rat) := cast_le.mpr (by omega)
      grind
    have b3 : (((ss.length : Nat) : Int) : Rat) - (((k' : Nat) : Int) : Rat) ≤ (((ss.length + us.length : Nat) : Int) : Rat) - (((k : Nat) : Int) : Rat) := by
      have : (((ss.length : Nat) : Int) : Rat) + (((k : Nat) : Int) : Rat) ≤ (((ss.length + us.length : Nat) : Int) : Rat) + (((k' : Nat) : Int) : Rat) := by
        rw [← cast_add, ← cast_add]
        exact cast_le.mpr (by omega)
      grind
    have c1 := Rat.mul_le_mul_of_nonneg_right b1 b2
    have c2 := Rat.mul_le_mul_of_nonneg_left b3 (Rat.le_trans b0 b1)
    have c3 := Rat.mul_le_mul_of_nonneg_left (Rat.le_trans c1 c2) (cast_nn hW)
    grind
  · rw [spl, hl, ← g.z]
    congr 1
    rw [List.range_eq_range', List.range_eq_range']
    rw [show List.range' 0 (ss.length + us.length) = List.range' 0 ss.length ++ List.range' ss.length us.length from by
      have := List.range'_append_1 (s := 0) (m := ss.length) (n := us.length)
      simpa using this.symm]
    rw [List.filter_append]
    have e1 : (List.range' 0 ss.length).filter (fun i => decide (i < ss.length)) = List.range' 0 ss.length := by
      rw [List.filter_eq_self]
      intro i hi
      have := List.mem_range'_1.mp hi
      exact decide_eq_true (by omega)
    have e2 : (List.range' ss.length us.length).filter (fun i => decide (i < ss.length)) = [] := by
      rw [List.filter_eq_nil_iff]
      intro i hi
      have := List.mem_range'_1.mp hi
      simp
      omega
    rw [e1, e2, List.append_nil]
end WS
set_option Elab.async false
set_option linter.all false
set_option maxRecDepth 100000
set_option maxHeartbeats 4000000
namespace WS
open PySem PySem.Spec PyProof.Rows L2
/-! ### rows of seats that change in place -/
def RowsN (K : PySem.W.Frag) (H : Hp) (L : Addr) (rs : List V) (n : Nat) (nm : Nat → Str) (f : Nat → Int × Int) : Prop :=
  H L = some (.lst rs) ∧ rs.length = n ∧ rs.Nodup ∧ ∀ i v, rs[i]? = some v → ∃ r x, v = .ref r ∧ r ≠ L ∧ H r = some (.lst [.str (nm i), x]) ∧ Dp K H x (pdP (f i))
def RowsM (K : PySem.W.Frag) (H : Hp) (L : Addr) (rs : List V) (ss : List Seat) : Prop := RowsN K H L rs ss.length (fun i => (gs ss i).1) (fun i => (gs ss i).2)
/-- all but the rows is as it was -/
def SameR (rs : List V) (H H' : Hp) : Prop := ∀ b o, H b = some o → V.ref b ∉ rs → H' b = some o
theorem SameR.refl (rs : List V) (H : Hp) : SameR rs H H := fun _ _ h _ => h
theorem SameR.trans {rs : List V} {H H1 H2 : Hp} (a : SameR rs H H1) (b : SameR rs H1 H2) : SameR rs H H2 := fun c o h n => b c o (a c o h n) n
theorem SameR.of {rs : List V} {H H1 : Hp} (a : Same H H1) : SameR rs H H1 := fun c o h _ => a c o h
section
variable {K : PySem.W.Frag} {H H' : Hp} {L : Addr} {rs : List V} {n : Nat} {nm : Nat → Str} {f : Nat → Int × Int}
theorem RowsN.row (h : RowsN K H L rs n nm f) {i : Nat} (hi : i < n) : ∃ r x, rs[i]? = some (.ref r) ∧ r ≠ L ∧ H r = some (.lst [.str (nm i), x]) ∧ Dp K H x (pdP (f i)) := by
  obtain ⟨v, hv⟩ : ∃ v, rs[i]? = some v := ⟨_, List.getElem?_eq_getElem (by rw [h.2.1]; exact hi)⟩
  obtain ⟨r, x, rfl, h1, h2, h3⟩ := h.2.2.2 i v hv
  exact ⟨r, x, hv, h1, h2, h3⟩
theorem RowsN.keep (h : RowsN K H L rs n nm f) (hL : ∀ o, H L = some (.lst o) → H' L = some (.lst o)) (hr : ∀ r o, V.ref r ∈ rs → H r = some (.lst o) → H' r = some (.lst o)) (k : KT H H') : RowsN K H' L rs n nm f := by
  refine ⟨hL _ h.1, h.2.1, h.2.2.1, fun i v e => ?_⟩
  obtain ⟨r, x, rfl, h1, h2, h3⟩ := h.2.2.2 i v e
  exact ⟨r, x, rfl, h1, hr r _ (List.mem_of_getElem? e) h2, h3.kt k rfl⟩
theorem RowsN.sm (h : RowsN K H L rs n nm f) (s : Same H H') : RowsN K H' L rs n nm f := h.keep (fun _ e => s _ _ e) (fun _ _ _ e => s _ _ e) (kt_same s)
theorem RowsN.ne (h : RowsN K H L rs n nm f) {p : Addr} (np : H p = none) : L ≠ p ∧ V.ref p ∉ rs := by
  refine ⟨ne_of_none h.1 np, fun hm => ?_⟩
  obtain ⟨i, hi⟩ := List.getElem?_of_mem hm
  obtain ⟨r, x, e, _, h2, _⟩ := h.2.2.2 i _ hi
  cases e
  rw [np] at h2
  cases h2
theorem RowsN.set (h : RowsN K H L rs n nm f) {k : Nat} {r : Addr} {x w : V} {p : Int × Int} (hk : rs[k]? = some (.ref r)) (hr : H r = some (.lst [.str (nm k), x])) (nL : r ≠ L) (hw : Dp K H w (pdP p)) : RowsN K (upd H r (.lst [.str (nm k), w])) L rs n nm fun j => if j = k then p else f j := by
  have kt : KT H (upd H r (.lst [.str (nm k), w])) := kt_set hr
  refine ⟨by rw [upd_ne nL.symm]; exact h.1, h.2.1, h.2.2.1, fun i v e => ?_⟩
  obtain ⟨r2, x2, rfl, h1, h2, h3⟩ := h.2.2.2 i v e
  by_cases hi : i = k
  · subst hi
    rw [hk] at e
    obtain rfl := V.ref.inj (Option.some.inj e)
    exact ⟨r, w, rfl, h1, upd_same, by show Dp K _ w (pdP (if i = i then p else f i)); rw [if_pos rfl]; exact hw.kt kt rfl⟩
  · have ne : r2 ≠ r := fun z => by
      subst z
      have hi1 := (List.getElem?_eq_some_iff.mp e)
      have hk1 := (List.getElem?_eq_some_iff.mp hk)
      exact hi ((List.getElem_inj h.2.2.1).mp (hi1.2.trans hk1.2.symm))
    exact ⟨r2, x2, rfl, h1, by rw [upd_ne ne]; exact h2, by show Dp K _ x2 (pdP (if i = k then p else f i)); rw [if_neg hi]; exact h3.kt kt rfl⟩
theorem RowsN.congr {nm' : Nat → Str} {f' : Nat → Int × Int} (h : RowsN K H L rs n nm f) (e1 : ∀ i, i < n → nm i = nm' i) (e2 : ∀ i, i < n → f i = f' i) : RowsN K H L rs n nm' f' := by
  refine ⟨h.1, h.2.1, h.2.2.1, fun i v e => ?_⟩
  have hi : i < n := by
    have := (List.getElem?_eq_some_iff.mp e).1
    rw [h.2.1] at this
    exact this
  rw [← e1 i hi, ← e2 i hi]
  exact h.2.2.2 i v e
theorem SameR.set {rs : List V} {H H1 : Hp} {r : Addr} {o : HO} (a : SameR rs H H1) (hr : V.ref r ∈ rs) : SameR rs H (upd H1 r o) := fun b x h nb => by
  rw [upd_ne (fun z => nb (by rw [z]; exact hr))]
  exact a b x h nb
theorem SameR.new {rs : List V} {H H1 : Hp} {F : Addr} {o : HO} (a : SameR rs H H1) (nF : H F = none) : SameR rs H (upd H1 F o) := fun b x h nb => by
  rw [upd_ne (ne_of_none h nF)]
  exact a b x h nb
end
end WS
set_option Elab.async false
set_option linter.all false
set_option maxRecDepth 100000
set_option maxHeartbeats 4000000
namespace WS
open PySem PySem.Spec PyProof.Rows L2
theorem good_row {W : Int} {ss : List Seat} (g : Good W ss) : WthF W (ss.map Prod.snd).length (fun j => rv (gp (ss.map Prod.snd) j)) := by
  rw [List.length_map]
  exact g.w.congr fun i hi => (ow_gp rfl i hi).symm
end WS
set_option Elab.async false
set_option linter.all false
set_option maxRecDepth 100000
set_option maxHeartbeats 4000000
namespace WS
open PySem PySem.Spec PyProof.Rows L2
section
variable {K : PySem.W.Frag} {H H' : Hp} {L : Addr} {rs : List V} {n : Nat} {nm : Nat → Str} {f : Nat → Int × Int}
theorem RowsN.isl (h : RowsN K H L rs n nm f) {b : Addr} (hb : V.ref b ∈ rs) : ∃ xs, H b = some (.lst xs) := by
  obtain ⟨i, hi⟩ := List.getElem?_of_mem hb
  obtain ⟨r, x, e, _, h2, _⟩ := h.2.2.2 i _ hi
  cases e
  exact ⟨_, h2⟩
theorem SameR.kt (s : SameR rs H H') (h : RowsN K H L rs n nm f) : KT H H' := by
  refine ⟨fun a xs e => s _ _ e fun z => ?_, fun a o xs e => s _ _ e fun z => ?_⟩
  · obtain ⟨ys, e2⟩ := h.isl z
    rw [e] at e2
    cases e2
  · obtain ⟨ys, e2⟩ := h.isl z
    rw [e] at e2
    cases e2
theorem RowsN.en (h : RowsN K H L rs n nm f) (s : LamX.ExtN H H') : RowsN K H' L rs n nm f := h.keep (fun _ e => s _ _ e (fun _ z => by cases z)) (fun _ _ _ e => s _ _ e (fun _ z => by cases z)) (ExtN.kt s)
theorem RowsN.x (h : RowsN K H L rs n nm f) {p : Addr} (s : SameX p H H') (hp : PotAt H p) (n1 : L ≠ p) (n2 : V.ref p ∉ rs) : RowsN K H' L rs n nm f := h.keep (fun _ e => s _ _ n1 e) (fun r _ hm e => s _ _ (fun z => n2 (by rw [← z]; exact hm)) e) (kt_x s hp)
end
end WS
set_option Elab.async false
set_option linter.all false
set_option maxRecDepth 100000
set_option maxHeartbeats 4000000
namespace WS
open PySem PySem.Spec PyProof.Rows L2
/-! ### walks over a list or a tuple; vouchers of evenings -/
def Okv2 (p : Int × Int) : Prop := Lowest p.1 p.2 ∧ Okq 1300 1090 p
theorem Okv2.okp {m : Nat} {p : Int × Int} (h : Okv2 p) (hm : 1300 ≤ m) : Okp m p := h.2.okp hm (by omega)
/-! as data -/
/-! by seats -/
end WS
set_option Elab.async false
set_option linter.all false
set_option maxRecDepth 100000
set_option maxHeartbeats 4000000
namespace WS
open PySem PySem.Spec PyProof.Rows L2
/-! promises -/
/-- what a voucher is made of -/
structure VIn (K : PySem.W.Frag) (H : Hp) (v : V) (r g : Addr) (W : Int) (ss : List Seat) (zs : List Str) (O S : List Nat) : Prop where
  m : Dp K H v (momD W ss)
  l : ss.length ≤ 12
  nd : (names ss).Nodup
  ok : ∀ s ∈ ss, Okq 190 90 s.2
  z : SqT K H r (zs.map V.str)
  th : There ss zs
  po : O.Perm (placesOf ss zs)
  wo : O.Pairwise (rkS ss)
  g : SqT K H g (S.map fun j : Nat => V.int j)
  sn : S.Nodup
  sl : ∀ i ∈ S, i < ss.length
theorem VIn.k {K : PySem.W.Frag} {H H' : Hp} {v : V} {r g : Addr} {W : Int} {ss : List Seat} {zs : List Str} {O S : List Nat} (h : VIn K H v r g W ss zs O S) (e : KT H H') : VIn K H' v r g W ss zs O S := ⟨h.m.kt e (mom_imm _ _), h.l, h.nd, h.ok, e.sqt h.z, h.th, h.po, h.wo, e.sqt h.g, h.sn, h.sl⟩
end WS
set_option Elab.async false
set_option linter.all false
set_option maxRecDepth 100000
set_option maxHeartbeats 4000000
namespace WS
open PySem PySem.Spec PyProof.Rows L2
/-! ### how far what is owed goes -/
def Bd (n : Nat) (x : Rat) : Prop := -(((2 ^ n : Nat) : Int) : Rat) ≤ x ∧ x ≤ (((2 ^ n : Nat) : Int) : Rat)
theorem Bd.add {n : Nat} {x y : Rat} (h : Bd n x) (k : Bd n y) : Bd (n + 1) (x + y) := by
  unfold Bd at *
  have e : (((2 ^ (n + 1) : Nat) : Int) : Rat) = (((2 ^ n : Nat) : Int) : Rat) + (((2 ^ n : Nat) : Int) : Rat) := by
    rw [Nat.pow_succ, show ((2 ^ n * 2 : Nat) : Int) = ((2 ^ n : Nat) : Int) + ((2 ^ n : Nat) : Int) by omega, cast_add]
  rw [e]
  constructor <;> grind
end WS
set_option Elab.async false
set_option linter.all false
set_option maxRecDepth 100000
set_option maxHeartbeats 4000000
set_option Elab.async false
set_option linter.all false
set_option maxRecDepth 100000
set_option maxHeartbeats 4000000
set_option Elab.async false
set_option linter.all false
set_option maxRecDepth 100000
set_option maxHeartbeats 4000000
namespace WS
open PySem PySem.Spec PyProof.Rows L2
/-! ### the order, by places -/
theorem gs_idx {ss : List Seat} {z : Str} (h : z ∈ names ss) : (gs ss (idx ss z)).1 = z := by
  obtain ⟨_, s, hs, rfl⟩ := names_mem.mp h
  have hl := List.idxOf_lt_length_of_mem (List.mem_map_of_mem (f := Prod.fst) hs)
  have e : ((ss.map Prod.fst)[idx ss s.1]?) = some s.1 := by
    unfold idx
    rw [List.getElem?_eq_getElem hl, List.getElem_idxOf]
  rw [List.getElem?_map, at_gs (idx_lt h)] at e
  exact Option.some.inj e
theorem order_O {ss : List Seat} {zs os : List Str} (hin : ∀ z ∈ zs, z ∈ names ss) (hz : zs.Nodup) (nd : (names ss).Nodup) (h : OrderOf ss zs os) : (os.map (idx ss)).Perm (placesOf ss zs) ∧ (os.map (idx ss)).Pairwise (rkS ss) ∧ ((os.map (idx ss)).map fun k => (gs ss k).1) = os := by
  have oin : ∀ z ∈ os, z ∈ names ss := fun z hz => hin z (h.1.mem_iff.mp hz)
  have ond : os.Nodup := h.1.nodup_iff.mpr hz
  refine ⟨?_, ?_, ?_⟩
  · refine (List.perm_ext_iff_of_nodup (idxs_nodup ond oin) (places_nodup ss zs)).mpr fun i => ?_
    rw [List.mem_map]
    constructor
    · rintro ⟨z, hz, rfl⟩
      unfold placesOf
      rw [List.mem_filter, List.mem_range]
      exact ⟨idx_lt (oin z hz), by rw [gs_idx (oin z hz)]; exact decide_eq_true (h.1.mem_iff.mp hz)⟩
    · intro hi
      exact ⟨(gs ss i).1, h.1.mem_iff.mpr (places_lt hi).2, idx_name nd hin hi⟩
  · rw [List.pairwise_map]
    refine h.2.imp fun {a b} hab => ?_
    unfold ahead ltp at hab
    unfold rkS
    rcases hab with h1 | ⟨h1, h2, h3⟩
    · exact .inl (of_decide_eq_true h1)
    · have h1 := of_decide_eq_false h1
      have h2 := of_decide_eq_false h2
      exact .inr ⟨by omega, h3⟩
  · rw [List.map_map]
    conv => rhs; rw [← List.map_id os]
    exact List.map_congr_left fun z hz => gs_idx (oin z hz)
/-! a dict of persons and their seats -/
end WS
set_option Elab.async false
set_option linter.all false
set_option maxRecDepth 100000
set_option maxHeartbeats 4000000
namespace WS
open PySem PySem.Spec PyProof.Rows L2
/-! ### sum(tuple of numbers) -/
/-! ### tuple(zip(a, b)), and what it is made of -/
def Froz (H : Hp) (a : Addr) (xs : List V) : Prop := ∃ o : Obj, H a = some (.frz o (.tup xs)) ∧ o.dict = none
theorem Froz.sqt {K : PySem.W.Frag} {H : Hp} {a : Addr} {xs : List V} (h : Froz H a xs) : SqT K H a xs := by
  obtain ⟨o, e, _⟩ := h
  exact .inl (.inr ⟨o, e⟩)
end WS
set_option Elab.async false
set_option linter.all false
set_option maxRecDepth 100000
set_option maxHeartbeats 4000000
set_option Elab.async false
set_option linter.all false
set_option maxRecDepth 100000
set_option maxHeartbeats 4000000
set_option Elab.async false
set_option linter.all false
set_option maxRecDepth 100000
set_option maxHeartbeats 4000000
set_option Elab.async false
set_option linter.all false
set_option maxRecDepth 100000
set_option maxHeartbeats 4000000
namespace WS
open PySem PySem.Spec PyProof.Rows L2
/-! ### other names -/
section
variable {f : Str → Str} {ss : List Seat}
theorem rowE_perm {ps : List (Int × Int)} {is js : List Nat} {ds : List (Nat × Int)} (p : is.Perm js) : rowE ps is ds = rowE ps js ds := by
  unfold rowE
  rw [p.length_eq]
  refine congrArg (fun g => (List.range ps.length).map (rowG g ds)) ?_
  funext j
  unfold rowF
  by_cases c : j ∈ is
  · rw [if_pos c, if_pos (p.mem_iff.mp c)]
  · rw [if_neg c, if_neg fun z => c (p.mem_iff.mpr z)]
end
end WS
set_option Elab.async false
set_option linter.all false
set_option maxRecDepth 100000
set_option maxHeartbeats 4000000
set_option Elab.async false
set_option linter.all false
set_option maxRecDepth 100000
set_option maxHeartbeats 4000000
set_option Elab.async false
set_option linter.all false
set_option maxRecDepth 100000
set_option maxHeartbeats 4000000
set_option Elab.async false
set_option linter.all false
set_option maxRecDepth 100000
set_option maxHeartbeats 4000000
namespace WS
open PySem PySem.Spec PyProof.Rows L2
/-! ### data that is numbers, texts, tuples, lists: one just where it is equal -/
/-! ### a dict comprehension over what is walked -/
/-! ### sums ahead, falls, within, with several tables -/
theorem fallsAt_no {w : Int} {ps : List (Int × Int)} {ord : List Nat} (hp : ∀ q ∈ ps, 0 < q.2) (k : Nat) : fallsAt w ps ord k = false ↔ sumF (fun j => rv (gp ps j)) (ord.take k) ≤ mostR w ps.length k := by
  have e1 : fallsAt w ps ord k = ltp (mo w ps.length k) (sumK ps ord k) := rfl
  have h2 : 0 < (sumK ps ord k).2 := fold_pos _ _ (by decide) fun q hq => by
    obtain ⟨i, hi, rfl⟩ := List.mem_map.mp hq
    exact gp_pos hp i
  have h1 : 0 < (mo w ps.length k).2 := (lo_lowest (by decide)).1
  rw [e1, ltp_no h1 h2, sumF_gp hp, rv_mo]
  exact Iff.rfl
theorem fallV_wth {w : Int} {ps : List (Int × Int)} {ord : List Nat} (h : RankedP ps ord) (hp : ∀ q ∈ ps, 0 < q.2) : fallV w ps ord = .non ↔ WthF w ps.length (fun j => rv (gp ps j)) := by
  unfold fallV
  cases z : (List.range (ps.length + 1)).find? (fallsAt w ps ord) with
  | none =>
    refine ⟨fun _ => wth_of h.1 (ranked_desc h hp) fun k hk => ?_, fun _ => rfl⟩
    have := List.find?_eq_none.mp z k (List.mem_range.mpr (by omega))
    exact (fallsAt_no hp k).mp (Bool.eq_false_iff.mpr this)
  | some k =>
    refine ⟨fun e => (by cases e), fun f => ?_⟩
    have h1 := List.find?_some z
    have h2 := List.mem_range.mp (List.mem_of_find?_eq_some z)
    have nd : ord.Nodup := h.1.nodup_iff.mpr List.nodup_range
    have := f (ord.take k) (nd.sublist (List.take_sublist _ _)) fun i hi => h.lt.2 i (List.mem_of_mem_take hi)
    rw [List.length_take, h.lt.1, Nat.min_eq_left (by omega)] at this
    rw [(fallsAt_no hp k).mpr this] at h1
    cases h1
theorem New.same {H H1 : Hp} {p : Addr} (e : Same H H1) (n : New H1 p) : New H p := fun o z => n o (e _ _ z)
theorem New.ext {H H1 : Hp} {p : Addr} (e : LamX.ExtN H H1) (n : New H1 p) : New H p := fun o z => by
  by_cases ht : ∃ ps, o = .tbl ps
  · exact ht
  · exact n o (e _ _ z (fun tp e => ht ⟨tp, e⟩))
end WS
set_option Elab.async false
set_option linter.all false
set_option maxRecDepth 100000
set_option maxHeartbeats 4000000
namespace WS
open PySem PySem.Spec PyProof.Rows L2
/-! ### papers -/
/-! ### dicts whose keys are unlike -/
/-! ### promises -/
/-- a moment whose paper can be looked at -/
structure PMom (W : Int) (ss : List Seat) : Prop where
  l : ss.length ≤ 15
  w : 1 ≤ W
  b : Bt 1500 W
  ok : ∀ s ∈ ss, Ok2 240 100 s.2 ∧ Lowest s.2.1 s.2.2
  g : Good W ss
theorem Good.up {W W' : Int} {ss : List Seat} (g : Good W ss) (h : W ≤ W') : Good W' ss := ⟨g.w.up (cast_le.mpr h), g.z⟩
theorem PMom.ok250 {W : Int} {ss : List Seat} (h : PMom W ss) : ∀ s ∈ ss, Okp 250 s.2 := fun s hs => ⟨(h.ok s hs).1.1, (h.ok s hs).1.2.1.mono (by decide), (h.ok s hs).1.2.2.mono (by decide)⟩
theorem PMom.row {W : Int} {ss : List Seat} (h : PMom W ss) : ∀ q ∈ ss.map Prod.snd, Okp 250 q ∧ Lowest q.1 q.2 := fun q hq => by
  obtain ⟨s, hs, rfl⟩ := List.mem_map.mp hq
  exact ⟨h.ok250 s hs, (h.ok s hs).2⟩
end WS
set_option Elab.async false
set_option linter.all false
set_option maxRecDepth 100000
set_option maxHeartbeats 4000000
set_option Elab.async false
set_option linter.all false
set_option maxRecDepth 100000
set_option maxHeartbeats 4000000
namespace WS
open PySem PySem.Spec PyProof.Rows L2
/-! ### len(set(x)), x a list of unlike texts -/
/-! repr in a comprehension -/
def rReprK (K : PySem.W.Frag) : List V → Hp → VK → Prop := fun xs H Q => ∃ v d, xs = [v] ∧ Dp K H v d ∧ d.showable = true ∧ d.hasDict = false ∧ d.depth ≤ 60 ∧ d.shown.length ≤ sizeLine ∧ Q (.str d.shown) H
theorem call_reprK {X : Cx} (g : X.A.guards = some []) (hu : X.A.units + 64 < cLine) : CallR X (.builtin "repr") (rReprK X.K) := call_reprD g hu
end WS
set_option Elab.async false
set_option linter.all false
set_option maxRecDepth 100000
set_option maxHeartbeats 4000000
namespace WS
open PySem PySem.Spec PyProof.Rows L2
/-! ### moments made of two -/
theorem filterMap_len {α β : Type} (a : α → Option β) : ∀ l : List α, (l.filterMap a).length ≤ l.length := fun l => List.length_filterMap_le _ _
theorem split_in (S : List Nat) (n : Nat) (hS : S.Nodup) (hn : ∀ i ∈ S, i < n) : (S ++ (List.range n).filter fun i => !decide (i ∈ S)).Perm (List.range n) := by
  have h := split_perm (List.range n) S
  refine List.Perm.trans (List.Perm.append_right _ ?_) h
  exact (sub_perm List.nodup_range hS fun i hi => List.mem_range.mpr (hn i hi)).symm
theorem cov_len {S : List Nat} {n m : Nat} {a : Nat → Option Nat} (hp : ((List.range n).filterMap a).Perm (List.range m)) (hS : S.Nodup) (hn : ∀ i ∈ S, i < n) : (S.filterMap a).Nodup ∧ (∀ j ∈ S.filterMap a, j < m) ∧ (S.filterMap a).length ≤ S.length ∧ m + S.length ≤ n + (S.filterMap a).length ∧ (S.filterMap a).length ≤ m := by
  have h1 := (split_in S n hS hn).filterMap a
  rw [List.filterMap_append] at h1
  have h2 := h1.trans hp
  have l1 := h2.length_eq
  have l2 := (split_in S n hS hn).length_eq
  rw [List.length_append, List.length_range] at l1 l2
  have nd := h2.nodup_iff.mpr List.nodup_range
  have l3 := filterMap_len a ((List.range n).filter fun i => !decide (i ∈ S))
  refine ⟨(List.nodup_append.mp nd).1, fun j hj => List.mem_range.mp (h2.mem_iff.mp (List.mem_append_left _ hj)), filterMap_len _ _, by omega, by omega⟩
theorem sum_fm (a : Nat → Option Nat) (g : Nat → Rat) : ∀ S : List Nat, sumF g (S.filterMap a) = (S.map fun i => (a i).elim 0 g).sum
  | [] => rfl
  | i :: S => by
    have ih := sum_fm a g S
    unfold sumF at *
    rw [List.filterMap_cons, List.map_cons, List.sum_cons]
    cases h : a i with
    | none =>
      simp only [Option.elim_none]
      rw [ih, Rat.zero_add]
    | some j =>
      simp only [Option.elim_some, List.map_cons, List.sum_cons]
      rw [ih]
theorem sum_two {f g h : Nat → Rat} {a b : Nat → Option Nat} (S : List Nat) (e : ∀ i ∈ S, f i = (a i).elim 0 g + (b i).elim 0 h) : sumF f S = sumF g (S.filterMap a) + sumF h (S.filterMap b) := by
  rw [sum_fm, sum_fm, ← sum_addR]
  unfold sumF
  congr 1
  exact List.map_congr_left fun i hi => e i hi
/-- side by side -/
theorem range_app (n m : Nat) : List.range (n + m) = List.range n ++ (List.range m).map fun j => n + j := List.range_add
theorem app_l (n m : Nat) : (List.range (n + m)).filterMap (fun i => if i < n then some i else none) = List.range n := by
  rw [range_app, List.filterMap_append]
  have e1 : (List.range n).filterMap (fun i => if i < n then some i else none) = List.range n := by
    refine (fm_congr fun i hi => ?_).trans List.filterMap_some
    rw [if_pos (List.mem_range.mp hi)]
  have e2 : ((List.range m).map fun j => n + j).filterMap (fun i => if i < n then some i else none) = [] := by
    rw [List.filterMap_eq_nil_iff]
    intro i hi
    obtain ⟨j, _, rfl⟩ := List.mem_map.mp hi
    rw [if_neg (by omega)]
  rw [e1, e2, List.append_nil]
theorem app_r (n m : Nat) : (List.range (n + m)).filterMap (fun i => if i < n then none else some (i - n)) = List.range m := by
  rw [range_app, List.filterMap_append]
  have e1 : (List.range n).filterMap (fun i => if i < n then none else some (i - n)) = [] := by
    rw [List.filterMap_eq_nil_iff]
    intro i hi
    rw [if_pos (List.mem_range.mp hi)]
  have e2 : ((List.range m).map fun j => n + j).filterMap (fun i => if i < n then none else some (i - n)) = List.range m := by
    rw [List.filterMap_map]
    refine (fm_congr fun i hi => ?_).trans List.filterMap_some
    show (if n + i < n then none else some (n + i - n)) = some i
    rw [if_neg (by omega), Nat.add_sub_cancel_left]
  rw [e1, e2, List.nil_append]
theorem gs_app_l {ss tt : List Seat} {i : Nat} (h : i < ss.length) : gs (ss ++ tt) i = gs ss i := by
  unfold gs
  rw [List.getD_eq_getElem?_getD, List.getD_eq_getElem?_getD, List.getElem?_append_left h]
theorem gs_app_r {ss tt : List Seat} {i : Nat} (h : ss.length ≤ i) : gs (ss ++ tt) i = gs tt (i - ss.length) := by
  unfold gs
  rw [List.getD_eq_getElem?_getD, List.getD_eq_getElem?_getD, List.getElem?_append_right h]
theorem both_len (n : Nat) : ∀ S : List Nat, (S.filterMap fun i => if i < n then some i else none).length + (S.filterMap fun i => if i < n then none else some (i - n)).length = S.length
  | [] => rfl
  | i :: S => by
    have ih := both_len n S
    rw [List.filterMap_cons, List.filterMap_cons]
    by_cases h : i < n
    · simp only [if_pos h, List.length_cons]
      omega
    · simp only [if_neg h, List.length_cons]
      omega
theorem mostR_app {W : Rat} {n m k l : Nat} (hW : 0 ≤ W) (h1 : k ≤ n) (h2 : l ≤ m) : mostR W n k + mostR W m l ≤ mostR W (n + m) (k + l) := by
  unfold mostR
  have e1 : (((n + m : Nat) : Int) : Rat) = (((n : Nat) : Int) : Rat) + (((m : Nat) : Int) : Rat) := by rw [← cast_add]; rfl
  have e2 : (((k + l : Nat) : Int) : Rat) = (((k : Nat) : Int) : Rat) + (((l : Nat) : Int) : Rat) := by rw [← cast_add]; rfl
  rw [e1, e2]
  have b1 : (((k : Nat) : Int) : Rat) ≤ (((n : Nat) : Int) : Rat) := cast_le.mpr (by omega)
  have b2 : (((l : Nat) : Int) : Rat) ≤ (((m : Nat) : Int) : Rat) := cast_le.mpr (by omega)
  have b3 : (0 : Rat) ≤ (((k : Nat) : Int) : Rat) := cast_nn (by omega)
  have b4 : (0 : Rat) ≤ (((l : Nat) : Int) : Rat) := cast_nn (by omega)
  generalize (((l : Nat) : Int) : Rat) = y at *
  generalize (((k : Nat) : Int) : Rat) = x at *
  generalize (((m : Nat) : Int) : Rat) = v at *
  generalize (((n : Nat) : Int) : Rat) = u at *
  have c1 := Rat.mul_nonneg b3 (show (0 : Rat) ≤ v - y by grind)
  have c2 := Rat.mul_nonneg b4 (show (0 : Rat) ≤ u - x by grind)
  have c3 := Rat.mul_nonneg hW c1
  have c4 := Rat.mul_nonneg hW c2
  have e : W * (x + y) * (u + v - (x + y)) = W * x * (u - x) + W * y * (v - y) + W * (x * (v - y)) + W * (y * (u - x)) := by grind
  rw [e]
  grind
theorem owF_app (ss tt : List Seat) (i : Nat) : owF (ss ++ tt) i = (if i < ss.length then some i else none).elim 0 (owF ss) + (if i < ss.length then none else some (i - ss.length)).elim 0 (owF tt) := by
  unfold owF
  by_cases h : i < ss.length
  · rw [if_pos h, if_pos h, gs_app_l h]
    simp [Rat.add_zero]
  · rw [if_neg h, if_neg h, gs_app_r (by omega)]
    simp [Rat.zero_add]
theorem good_app {W : Int} {ss tt : List Seat} (hW : 0 ≤ W) (g1 : Good W ss) (g2 : Good W tt) : Good W (ss ++ tt) := by
  refine ⟨fun S hS hn => ?_, ?_⟩
  · rw [List.length_append] at hn ⊢
    rw [sum_two S fun i _ => owF_app ss tt i]
    have ha : ((List.range (ss.length + tt.length)).filterMap (fun i => if i < ss.length then some i else none)).Perm (List.range ss.length) := by rw [app_l]
    have hb : ((List.range (ss.length + tt.length)).filterMap (fun i => if i < ss.length then none else some (i - ss.length))).Perm (List.range tt.length) := by rw [app_r]
    obtain ⟨n1, m1, l1, q1, r1⟩ := cov_len ha hS hn
    obtain ⟨n2, m2, l2, q2, r2⟩ := cov_len hb hS hn
    have w1 := g1.w _ n1 m1
    have w2 := g2.w _ n2 m2
    have := mostR_app (W := (W : Rat)) (cast_nn hW) r1 r2
    rw [both_len] at this
    grind
  · rw [List.length_append, sum_two _ fun i _ => owF_app ss tt i, app_l, app_r, g1.z, g2.z]
    grind
end WS
set_option Elab.async false
set_option linter.all false
set_option maxRecDepth 100000
set_option maxHeartbeats 4000000
namespace WS
open PySem PySem.Spec PyProof.Rows L2
/-! ### moments joined and parted -/
theorem own_within {W : Int} {ss : List Seat} (w : WthF W ss.length (owF ss)) : WthF W (ss.map Prod.snd).length (fun j => rv (gp (ss.map Prod.snd) j)) := by
  rw [List.length_map]
  exact w.congr fun i hi => (ow_gp rfl i hi).symm
end WS
set_option Elab.async false
set_option linter.all false
set_option maxRecDepth 100000
set_option maxHeartbeats 4000000
namespace WS
open PySem PySem.Spec PyProof.Rows L2
/-! ### poured together -/
theorem pl_comm (p q : Int × Int) : pl p q = pl q p := by
  unfold pl
  rw [Int.add_comm, Int.mul_comm p.2 q.2]
end WS
set_option Elab.async false
set_option linter.all false
set_option maxRecDepth 100000
set_option maxHeartbeats 4000000
set_option Elab.async false
set_option linter.all false
set_option maxRecDepth 100000
set_option maxHeartbeats 4000000
namespace WS
open PySem PySem.Spec PyProof.Rows L2
/-! ### poured, as the law does it: one person after the other -/
/-! a row more -/
theorem RowsN.push {K : PySem.W.Frag} {H H' : Hp} {L r : Addr} {rs : List V} {ls : List Seat} {s : Seat} {x : V} (h : RowsM K H L rs ls) (nr : H r = none) (hx : Dp K H x (pdP s.2)) (e : H' = upd (upd H r (.lst [.str s.1, x])) L (.lst (rs ++ [.ref r]))) : RowsM K H' L (rs ++ [.ref r]) (ls ++ [s]) := by
  have hL := h.1
  have nLr : L ≠ r := ne_of_none hL nr
  have e1 := same_new (o := .lst [.str s.1, x]) nr
  have k1 : KT H H' := by
    rw [e]
    exact (kt_same e1).trans (kt_set (e1 _ _ hL))
  refine ⟨by rw [e, upd_same], by simp [h.2.1], ?_, fun i v ev => ?_⟩
  · rw [List.nodup_append]
    refine ⟨h.2.2.1, by simp, fun c hc d hd ec => ?_⟩
    rw [List.mem_singleton.mp hd] at ec
    obtain ⟨i, hi⟩ := List.getElem?_of_mem hc
    obtain ⟨r2, x2, ev, _, h2, _⟩ := h.2.2.2 i c hi
    rw [ev] at ec
    cases ec
    rw [nr] at h2
    cases h2
  · have hl : rs.length = ls.length := h.2.1
    by_cases hi : i < rs.length
    · rw [List.getElem?_append_left hi] at ev
      obtain ⟨r2, x2, rfl, h1, h2, h3⟩ := h.2.2.2 i v ev
      have eg : gs (ls ++ [s]) i = gs ls i := gs_app_l (by omega)
      refine ⟨r2, x2, rfl, h1, ?_, ?_⟩
      · show H' r2 = some (.lst [.str (gs (ls ++ [s]) i).1, x2])
        rw [eg, e, upd_ne h1]
        exact e1 _ _ h2
      · show Dp K H' x2 (pdP (gs (ls ++ [s]) i).2)
        rw [eg]
        exact h3.kt k1 rfl
    · have hi2 : i = rs.length := by
        have := (List.getElem?_eq_some_iff.mp ev).1
        simp at this
        omega
      subst hi2
      rw [List.getElem?_append_right (Nat.le_refl _)] at ev
      obtain rfl : V.ref r = v := by simpa using ev
      have eg : gs (ls ++ [s]) rs.length = s := by
        rw [gs_app_r (by omega), hl, Nat.sub_self]
        rfl
      refine ⟨r, x, rfl, nLr.symm, ?_, ?_⟩
      · show H' r = some (.lst [.str (gs (ls ++ [s]) rs.length).1, x])
        rw [eg, e, upd_ne nLr.symm, upd_same]
      · show Dp K H' x (pdP (gs (ls ++ [s]) rs.length).2)
        rw [eg]
        exact hx.kt k1 rfl
end WS
set_option Elab.async false
set_option linter.all false
set_option maxRecDepth 100000
set_option maxHeartbeats 4000000
namespace WS
open PySem PySem.Spec PyProof.Rows L2
/-! ### the kitty, step by step -/
def kit (ss : List Seat) : Int × Int := (kittyL ss).foldl pl (0, 1)
structure KM (D : Nat) (W : Int) (ss : List Seat) : Prop where
  l : ss.length ≤ 12
  w : 1 ≤ W
  b : Bt 100 W
  nd : (names ss).Nodup
  nm : ∀ s ∈ ss, Nm0 s.1
  low : ∀ s ∈ ss, Lowest s.2.1 s.2.2 ∧ Bt D s.2.2
  g : Good W ss
theorem KM.pos {D : Nat} {W : Int} {ss : List Seat} (h : KM D W ss) : ∀ s ∈ ss, 0 < s.2.2 := fun s hs => (h.low s hs).1.1
theorem KM.ok2 {D : Nat} {W : Int} {ss : List Seat} (h : KM D W ss) : ∀ s ∈ ss, Ok2 (100 + 4 + D) D s.2 :=
  good_bits h.w h.g h.b (by have := h.l; omega) fun s hs => ⟨h.pos s hs, (h.low s hs).2⟩
theorem KM.mono {D D' : Nat} {W : Int} {ss : List Seat} (h : KM D W ss) (k : D ≤ D') : KM D' W ss :=
  ⟨h.l, h.w, h.b, h.nd, h.nm, fun s hs => ⟨(h.low s hs).1, (h.low s hs).2.mono k⟩, h.g⟩
theorem sumF_congr {f g : Nat → Rat} {S : List Nat} (h : ∀ i ∈ S, f i = g i) : sumF f S = sumF g S := by
  unfold sumF
  rw [List.map_congr_left h]
theorem sumF_add (f g : Nat → Rat) (S : List Nat) : sumF (fun k => f k + g k) S = sumF f S + sumF g S := sum_addR f g S
theorem sumF_ind (c : Rat) (i : Nat) : ∀ S : List Nat, S.Nodup → sumF (fun k => if k = i then c else 0) S = if i ∈ S then c else 0
  | [], _ => rfl
  | k :: S, h => by
    rw [List.nodup_cons] at h
    have ih := sumF_ind c i S h.2
    unfold sumF at *
    rw [List.map_cons, List.sum_cons, ih]
    by_cases e : k = i
    · subst e
      rw [if_pos rfl, if_neg h.1, if_pos List.mem_cons_self, Rat.add_zero]
    · rw [if_neg e, Rat.zero_add]
      by_cases m : i ∈ S
      · rw [if_pos m, if_pos (List.mem_cons_of_mem _ m)]
      · rw [if_neg m, if_neg (fun z => (List.mem_cons.mp z).elim (fun z => e z.symm) m)]
/-! a seat taken or left -/
theorem put_set {ss : List Seat} {i : Nat} {z : Str} (h : i < ss.length) : put ss i z = ss.set i (z, (gs ss i).2) := by
  unfold put
  rw [List.set_eq_take_append_cons_drop, if_pos h]
  simp
theorem gs_put {ss : List Seat} {i : Nat} {z : Str} (h : i < ss.length) (k : Nat) : gs (put ss i z) k = if k = i then (z, (gs ss i).2) else gs ss k := by
  rw [put_set h]
  generalize (gs ss i).2 = q
  unfold gs
  rw [List.getD_eq_getElem?_getD, List.getD_eq_getElem?_getD, List.getElem?_set]
  by_cases e : i = k
  · subst e
    rw [if_pos rfl, if_pos h, if_pos rfl]
    rfl
  · rw [if_neg e, if_neg (fun z => e z.symm)]
theorem owF_put {ss : List Seat} {i : Nat} {z : Str} (h : i < ss.length) (k : Nat) : owF (put ss i z) k = owF ss k := by
  unfold owF
  rw [gs_put h]
  by_cases e : k = i
  · rw [if_pos e, e]
  · rw [if_neg e]
theorem put_end (ss : List Seat) (z : Str) : put ss ss.length z = ss ++ [(z, (0, 1))] := by
  unfold put
  rw [List.take_length, List.drop_eq_nil_of_le (by omega), List.append_nil]
  have : gs ss ss.length = (("", (0, 1)) : Seat) := by
    unfold gs
    rw [List.getD_eq_getElem?_getD, List.getElem?_eq_none (by omega)]
    rfl
  rw [this]
theorem near_lt {ss : List Seat} : ∀ (l : List Nat) (f : Nat), (∀ i ∈ l, i < ss.length) → f ≤ ss.length → l ≠ [] ∨ f < ss.length → l.foldl (near ss) f < ss.length
  | [], f, _, _, h => h.elim (fun z => absurd rfl z) id
  | i :: l, f, hl, hf, _ => by
    have hi := hl i List.mem_cons_self
    have h : near ss f i < ss.length := by
      unfold near
      by_cases c : f = ss.length ∨ ltp (ab (gs ss i).2) (ab (gs ss f).2) = true
      · rw [if_pos c]
        exact hi
      · rw [if_neg c]
        have : f ≠ ss.length := fun z => c (.inl z)
        omega
    exact near_lt l _ (fun j hj => hl j (List.mem_cons_of_mem _ hj)) (by omega) (.inr h)
theorem room_full {ss : List Seat} (h : room ss = ss.length) : frees ss = [] := by
  by_cases c : frees ss = []
  · exact c
  · have := near_lt (ss := ss) (frees ss) ss.length (fun i hi => (frees_lt hi).1) (Nat.le_refl _) (.inl c)
    unfold room at h
    omega
theorem names_full {ss : List Seat} (h : frees ss = []) : (names ss).length = ss.length := by
  unfold names
  rw [List.filter_eq_self.mpr, List.length_map]
  intro z hz
  obtain ⟨s, hs, rfl⟩ := List.mem_map.mp hz
  obtain ⟨i, hi, rfl⟩ := List.getElem_of_mem hs
  have : i ∉ frees ss := by rw [h]; exact List.not_mem_nil
  have e : gs ss i = ss[i] := gs_at (List.getElem?_eq_getElem hi)
  by_cases c : ss[i].1 = ""
  · exact absurd (List.mem_filter.mpr ⟨List.mem_range.mpr hi, by rw [e]; exact decide_eq_true c⟩) this
  · rw [decide_eq_false c]
    rfl
theorem Good.put {W : Int} {ss : List Seat} {i : Nat} {z : Str} (g : Good W ss) (h : i < ss.length) : Good W (put ss i z) := by
  have el : (WS.put ss i z).length = ss.length := by rw [put_len ss i z (by omega), if_pos h]
  refine ⟨?_, ?_⟩
  · rw [el]
    exact g.w.congr fun k _ => (owF_put h k).symm
  · rw [el, ← g.z]
    exact sumF_congr fun k _ => owF_put h k
theorem gs_low {D : Nat} {W : Int} {ss : List Seat} (h : KM D W ss) (hD : 1 ≤ D) (i : Nat) : Lowest (gs ss i).2.1 (gs ss i).2.2 ∧ Bt D (gs ss i).2.2 := by
  by_cases c : i < ss.length
  · exact h.low _ (gs_mem c)
  · have : gs ss i = (("", (0, 1)) : Seat) := by
      unfold gs
      rw [List.getD_eq_getElem?_getD, List.getElem?_eq_none (by omega)]
      rfl
    rw [this]
    exact ⟨⟨by decide, by decide⟩, (show Bt 1 1 by unfold Bt; decide).mono hD⟩
theorem KM.come {D : Nat} {W : Int} {ss : List Seat} {z : Str} (h : KM D W ss) (hD : 1 ≤ D) (hz : Nm z) (hn : z ∉ names ss) (hl : room ss = ss.length → ss.length < 12) : KM D W (put ss (room ss) z) := by
  have hr := room_le ss
  have h12 := h.l
  refine ⟨?_, h.w, h.b, nd_come h.nd hz hn, fun s hs => ?_, fun s hs => ?_, ?_⟩
  · rw [put_len ss _ z hr]
    by_cases c : room ss < ss.length
    · rw [if_pos c]
      exact h12
    · rw [if_neg c]
      have := hl (by omega)
      omega
  · rcases put_mem hs with hs | rfl
    · exact h.nm s hs
    · exact .inr hz
  · rcases put_mem hs with hs | rfl
    · exact h.low s hs
    · exact gs_low h hD _
  · by_cases c : room ss < ss.length
    · exact h.g.put c
    · have e : room ss = ss.length := by omega
      rw [e, put_end]
      exact good_zeros (by have := h.w; omega) h.g [z]
theorem KM.leave {D : Nat} {W : Int} {ss : List Seat} {i : Nat} (h : KM D W ss) (hD : 1 ≤ D) (hi : i < ss.length) : KM D W (put ss i "") := by
  refine ⟨?_, h.w, h.b, nd_leave h.nd hi, fun s hs => ?_, fun s hs => ?_, h.g.put hi⟩
  · rw [put_len ss _ _ (by omega), if_pos hi]
    exact h.l
  · rcases put_mem hs with hs | rfl
    · exact h.nm s hs
    · exact .inl rfl
  · rcases put_mem hs with hs | rfl
    · exact h.low s hs
    · exact gs_low h hD _
def ng (p : Int × Int) : Int × Int := (0 - p.1, p.2)
theorem rv_ng (p : Int × Int) : rv (ng p) = - rv p := by
  unfold rv ng
  show ((0 - p.1 : Int) : Rat) / (p.2 : Rat) = _
  rw [cast_sub]
  simp only [Rat.div_def]
  show ((0 : Rat) - _) * _ = _
  grind
/-! a gift -/
def giftR (ps : List (Int × Int)) (i j : Nat) (q : Int × Int) : List (Int × Int) := (ps.set i (mi (gp ps i) q)).set j (pl (gp (ps.set i (mi (gp ps i) q)) j) q)
def giftS (ss : List Seat) (i j : Nat) (q : Int × Int) : List Seat := setRow ss (giftR (ss.map Prod.snd) i j q)
theorem giftR_len (ps : List (Int × Int)) (i j : Nat) (q : Int × Int) : (giftR ps i j q).length = ps.length := by
  unfold giftR
  rw [List.length_set, List.length_set]
theorem gp_set {ps : List (Int × Int)} {i k : Nat} {p : Int × Int} (h : i < ps.length) : gp (ps.set i p) k = if k = i then p else gp ps k := by
  unfold gp
  rw [List.getD_eq_getElem?_getD, List.getD_eq_getElem?_getD, List.getElem?_set]
  by_cases e : i = k
  · subst e
    rw [if_pos rfl, if_pos h, if_pos rfl]
    rfl
  · rw [if_neg e, if_neg (fun z => e z.symm)]
theorem giftR_at {ps : List (Int × Int)} {i j k : Nat} {q : Int × Int} (hi : i < ps.length) (hj : j < ps.length) (ne : i ≠ j) : gp (giftR ps i j q) k = if k = j then pl (gp ps j) q else if k = i then mi (gp ps i) q else gp ps k := by
  have e1 : gp (ps.set i (mi (gp ps i) q)) j = gp ps j := by rw [gp_set hi, if_neg (fun z => ne z.symm)]
  unfold giftR
  rw [e1, gp_set (by rw [List.length_set]; exact hj), gp_set hi]
theorem setRow_fst {ss : List Seat} {ps : List (Int × Int)} (h : ps.length = ss.length) : (setRow ss ps).map Prod.fst = ss.map Prod.fst := by
  unfold setRow
  rw [List.map_map]
  have : (Prod.fst ∘ fun x : Seat × (Int × Int) => (x.1.1, x.2)) = (Prod.fst : Seat → Str) ∘ (Prod.fst : Seat × (Int × Int) → Seat) := rfl
  rw [this, ← List.map_map, List.map_fst_zip (by omega)]
theorem setRow_mem {ss : List Seat} {ps : List (Int × Int)} {s : Seat} (h : s ∈ setRow ss ps) : (∃ t ∈ ss, s.1 = t.1) ∧ s.2 ∈ ps := by
  unfold setRow at h
  obtain ⟨x, hx, rfl⟩ := List.mem_map.mp h
  exact ⟨⟨x.1, (List.of_mem_zip hx).1, rfl⟩, (List.of_mem_zip hx).2⟩
theorem giftR_mem {ps : List (Int × Int)} {i j : Nat} {q p : Int × Int} (hi : i < ps.length) (hj : j < ps.length) (h : p ∈ giftR ps i j q) : p ∈ ps ∨ (∃ r ∈ ps, p = mi r q) ∨ (∃ r ∈ ps, p = pl r q) ∨ ∃ r ∈ ps, p = pl (mi r q) q := by
  have gm : ∀ k, k < ps.length → gp ps k ∈ ps := fun k hk => by
    unfold gp
    rw [List.getD_eq_getElem?_getD, List.getElem?_eq_getElem hk]
    exact List.getElem_mem hk
  unfold giftR at h
  rcases List.mem_or_eq_of_mem_set h with h | rfl
  · rcases List.mem_or_eq_of_mem_set h with h | rfl
    · exact .inl h
    · exact .inr (.inl ⟨_, gm i hi, rfl⟩)
  · rw [gp_set hi]
    by_cases c : j = i
    · rw [if_pos c]
      exact .inr (.inr (.inr ⟨_, gm i hi, rfl⟩))
    · rw [if_neg c]
      exact .inr (.inr (.inl ⟨_, gm j hj, rfl⟩))
theorem den_one {D : Nat} {p : Int × Int} {g : Int} (hp : 0 < p.2) (hd : Bt D p.2) : (Lowest (pl p (g, 1)).1 (pl p (g, 1)).2 ∧ Bt D (pl p (g, 1)).2) ∧ Lowest (mi p (g, 1)).1 (mi p (g, 1)).2 ∧ Bt D (mi p (g, 1)).2 := by
  have any : ∀ a : Int, Bt a.natAbs a := fun a => Nat.lt_two_pow_self
  have h1 : 0 < p.2 * 1 := by omega
  have h2 : Bt D (p.2 * 1) := by rw [Int.mul_one]; exact hd
  exact ⟨⟨lo_lowest h1, (ok2_lo h1 (any _) h2).2.2⟩, lo_lowest h1, (ok2_lo h1 (any _) h2).2.2⟩
theorem owF_gift {ss : List Seat} {i j k : Nat} {q : Int × Int} (hp : ∀ s ∈ ss, 0 < s.2.2) (hq : 0 < q.2) (hi : i < ss.length) (hj : j < ss.length) (ne : i ≠ j) (hk : k < ss.length) : owF (giftS ss i j q) k = owF ss k + ((if k = j then rv q else 0) + if k = i then - rv q else 0) := by
  have el : (giftR (ss.map Prod.snd) i j q).length = ss.length := by rw [giftR_len, List.length_map]
  have pi : 0 < (gs ss i).2.2 := hp _ (gs_mem hi)
  have pj : 0 < (gs ss j).2.2 := hp _ (gs_mem hj)
  unfold owF giftS
  rw [gs_setRow hk el]
  show rv (gp _ k) = _
  rw [giftR_at (by rw [List.length_map]; exact hi) (by rw [List.length_map]; exact hj) ne, gp_snd ss hi, gp_snd ss hj, gp_snd ss hk]
  by_cases a : k = j
  · subst a
    rw [if_pos rfl, if_pos rfl, if_neg (fun z => ne z.symm), rv_pl pj hq, Rat.add_zero]
  · rw [if_neg a, if_neg a]
    by_cases b : k = i
    · subst b
      rw [if_pos rfl, if_pos rfl, rv_mi pi hq]
      grind
    · rw [if_neg b, if_neg b, Rat.add_zero, Rat.add_zero]
theorem sum_gift {ss : List Seat} {i j : Nat} {q : Int × Int} (hp : ∀ s ∈ ss, 0 < s.2.2) (hq : 0 < q.2) (hi : i < ss.length) (hj : j < ss.length) (ne : i ≠ j) {S : List Nat} (hS : S.Nodup) (hl : ∀ k ∈ S, k < ss.length) : sumF (owF (giftS ss i j q)) S = sumF (owF ss) S + ((if j ∈ S then rv q else 0) + if i ∈ S then - rv q else 0) := by
  rw [sumF_congr fun k hk => owF_gift hp hq hi hj ne (hl k hk), sumF_add, sumF_add, sumF_ind _ _ _ hS, sumF_ind _ _ _ hS]
/-- a gift from one that owes more keeps within -/
theorem good_gift {W : Int} {ss : List Seat} {i j : Nat} {q : Int × Int} (g : Good W ss) (hp : ∀ s ∈ ss, 0 < s.2.2) (hq : 0 < q.2) (hi : i < ss.length) (hj : j < ss.length) (ne : i ≠ j) (h0 : 0 ≤ rv q) (h1 : rv q ≤ owF ss i - owF ss j) : Good W (giftS ss i j q) := by
  have el : (giftS ss i j q).length = ss.length := by
    unfold giftS
    rw [setRow_len (by rw [giftR_len, List.length_map])]
  refine ⟨?_, ?_⟩
  · rw [el]
    intro S hS hl
    rw [sum_gift hp hq hi hj ne hS hl]
    have w1 := g.w S hS hl
    by_cases a : j ∈ S
    · by_cases b : i ∈ S
      · rw [if_pos a, if_pos b]
        grind
      · rw [if_pos a, if_neg b]
        have e1 := sumF_perm (f := owF ss) (List.perm_cons_erase a)
        have w2 := g.w (i :: S.erase j) (List.nodup_cons.mpr ⟨fun z => b (List.mem_of_mem_erase z), hS.sublist List.erase_sublist⟩) (fun k hk => (List.mem_cons.mp hk).elim (fun z => z ▸ hi) fun z => hl k (List.mem_of_mem_erase z))
        have e2 : (i :: S.erase j).length = S.length := (List.perm_cons_erase a).length_eq.symm
        rw [e2] at w2
        have c : ∀ (x : Nat) (T : List Nat), sumF (owF ss) (x :: T) = owF ss x + sumF (owF ss) T := fun _ _ => rfl
        rw [c] at e1 w2
        generalize sumF (owF ss) (S.erase j) = x at e1 w2
        generalize mostR _ _ _ = y at w1 w2 ⊢
        grind
    · rw [if_neg a]
      by_cases b : i ∈ S
      · rw [if_pos b]
        grind
      · rw [if_neg b]
        grind
  · rw [el, sum_gift hp hq hi hj ne List.nodup_range (fun k hk => List.mem_range.mp hk), g.z, if_pos (List.mem_range.mpr hj), if_pos (List.mem_range.mpr hi)]
    grind
theorem names_of {ss tt : List Seat} (h : tt.map Prod.fst = ss.map Prod.fst) : names tt = names ss := by
  unfold names
  rw [h]
theorem KM.gift {D : Nat} {W : Int} {ss : List Seat} {i j : Nat} {g : Int} (h : KM D W ss) (hi : i < ss.length) (hj : j < ss.length) (ne : i ≠ j) (h0 : 0 ≤ g) (h1 : (g : Rat) ≤ owF ss i - owF ss j) : KM D W (giftS ss i j (g, 1)) ∧ names (giftS ss i j (g, 1)) = names ss := by
  have rl : (giftR (ss.map Prod.snd) i j (g, 1)).length = ss.length := by rw [giftR_len, List.length_map]
  have nm : names (giftS ss i j (g, 1)) = names ss := names_of (setRow_fst rl)
  have rg : rv (g, 1) = (g : Rat) := by
    show (g : Rat) / ((1 : Int) : Rat) = _
    rw [Rat.div_def]
    show (g : Rat) * (1 : Rat)⁻¹ = _
    grind
  refine ⟨⟨?_, h.w, h.b, by rw [nm]; exact h.nd, fun s hs => ?_, fun s hs => ?_, ?_⟩, nm⟩
  · unfold giftS
    rw [setRow_len rl]
    exact h.l
  · obtain ⟨⟨t, ht, e⟩, _⟩ := setRow_mem hs
    rw [e]
    exact h.nm t ht
  · have hm := (setRow_mem hs).2
    have all : ∀ r ∈ ss.map Prod.snd, Lowest r.1 r.2 ∧ Bt D r.2 := fun r hr => by
      obtain ⟨s, hs, rfl⟩ := List.mem_map.mp hr
      exact h.low s hs
    rcases giftR_mem (by rw [List.length_map]; exact hi) (by rw [List.length_map]; exact hj) hm with hm | ⟨r, hr, e⟩ | ⟨r, hr, e⟩ | ⟨r, hr, e⟩
    · exact all _ hm
    · rw [e]
      exact (den_one (all r hr).1.1 (all r hr).2).2
    · rw [e]
      exact (den_one (all r hr).1.1 (all r hr).2).1
    · rw [e]
      have m := (den_one (g := g) (all r hr).1.1 (all r hr).2).2
      exact (den_one m.1.1 m.2).1
  · refine good_gift (q := (g, 1)) h.g h.pos (show (0 : Int) < 1 by decide) hi hj ne ?_ ?_
    · rw [rg]
      exact cast_nn h0
    · rw [rg]
      exact h1
/-! the kitty within the most -/
end WS
set_option Elab.async false
set_option linter.all false
set_option maxRecDepth 100000
set_option maxHeartbeats 4000000
namespace WS
open PySem PySem.Spec PyProof.Rows L2
/-! ### promises of the kitty's law -/
def ExtY (p L : Addr) (H H' : Hp) : Prop := ∀ b o, b ≠ p → b ≠ L → H b = some o → (∀ ps, o ≠ .tbl ps) → H' b = some o
theorem ExtY.refl (p L : Addr) (H : Hp) : ExtY p L H H := fun _ _ _ _ h _ => h
theorem ExtY.trans {p L : Addr} {H H1 H2 : Hp} (a : ExtY p L H H1) (b : ExtY p L H1 H2) : ExtY p L H H2 := fun c o n m h t => b c o n m (a c o n m h t) t
theorem ExtY.x {p L : Addr} {H H1 : Hp} (e : ExtX p H H1) : ExtY p L H H1 := fun b o n _ h t => e b o n h t
theorem ExtY.l {p L : Addr} {H : Hp} {o' : HO} : ExtY p L H (upd H L o') := fun b o _ m h _ => by
  rw [upd_ne m]
  exact h
theorem ExtX.kt {p : Addr} {H H1 : Hp} (e : ExtX p H H1) (hp : PotAt H p) : KT H H1 := by
  obtain ⟨x, y, hp, _⟩ := hp
  exact ⟨fun a xs h => e _ _ (ne_of h hp (by intro z; cases z)) h (fun _ z => by cases z), fun a o xs h => e _ _ (ne_of h hp (by intro z; cases z)) h (fun _ z => by cases z)⟩
theorem ExtY.kt {p L : Addr} {H H1 : Hp} {ys : List V} (e : ExtY p L H H1) (hp : PotAt H p) (hL : H L = some (.lst ys)) : KT H H1 := by
  obtain ⟨x, y, hp, _⟩ := hp
  exact ⟨fun a xs h => e _ _ (ne_of h hp (by intro z; cases z)) (ne_of h hL (by intro z; cases z)) h (fun _ z => by cases z), fun a o xs h => e _ _ (ne_of h hp (by intro z; cases z)) (ne_of h hL (by intro z; cases z)) h (fun _ z => by cases z)⟩
theorem ExtX.lst {p L : Addr} {H H1 : Hp} {ys : List V} (e : ExtX p H H1) (n : L ≠ p) (h : H L = some (.lst ys)) : H1 L = some (.lst ys) := e _ _ n h (fun _ z => by cases z)
/-- the names that sit, and those that are left -/
structure KS (ss : List Seat) (left : List Str) : Prop where
  nd : (names ss ++ left).Nodup
  nm : ∀ z ∈ left, Nm z
  n : (names ss).length + left.length = 12
theorem names_come {ss : List Seat} {z : Str} (hz : z ≠ "") : (names (put ss (room ss) z)).Perm (z :: names ss) := by
  have hr := room_le ss
  by_cases c : room ss < ss.length
  · have e : names [gs ss (room ss)] = [] := by
      unfold names
      simp [room_free c]
    rw [names_put, if_neg hz, names_split ss (room ss) c, e, List.append_nil, List.append_assoc, List.singleton_append]
    exact List.perm_middle
  · have e : room ss = ss.length := by omega
    have e1 : names [((z, (0, 1)) : Seat)] = [z] := by
      unfold names
      simp [hz]
    rw [e, put_end, names_app, e1]
    exact List.perm_append_singleton z (names ss)
theorem names_leave {ss : List Seat} {i : Nat} (h : i < ss.length) (hz : (gs ss i).1 ≠ "") : (names ss).Perm ((gs ss i).1 :: names (put ss i "")) := by
  have e : names [gs ss i] = [(gs ss i).1] := by
    unfold names
    simp [hz]
  rw [names_put, if_pos rfl, List.append_nil, names_split ss i h, e, List.append_assoc, List.singleton_append]
  exact List.perm_middle
theorem cons_erase {α : Type} : ∀ {l : List α} {i : Nat} (h : i < l.length), (l[i] :: l.eraseIdx i).Perm l
  | [], i, h => absurd h (Nat.not_lt_zero _)
  | a :: l, 0, _ => List.Perm.refl _
  | a :: l, i + 1, h => by
    have hi : i < l.length := by simpa using h
    exact (List.Perm.swap a (l[i]'hi) (l.eraseIdx i)).trans ((cons_erase hi).cons a)
theorem KS.come {ss : List Seat} {left : List Str} {i : Nat} {z : Str} (h : KS ss left) (hi : left[i]? = some z) : KS (put ss (room ss) z) (left.eraseIdx i) ∧ z ≠ "" ∧ Nm z ∧ z ∉ names ss := by
  obtain ⟨il, e⟩ := List.getElem?_eq_some_iff.mp hi
  have mz : z ∈ left := List.mem_of_getElem? hi
  have n0 := h.nm z mz
  have zn : z ≠ "" := nm_ne n0
  have pl : (z :: left.eraseIdx i).Perm left := by
    rw [← e]
    exact cons_erase il
  have pn := names_come (ss := ss) zn
  have pp : (names (put ss (room ss) z) ++ left.eraseIdx i).Perm (names ss ++ left) := by
    refine (pn.append_right _).trans ?_
    rw [List.cons_append]
    exact (List.perm_middle.symm).trans (pl.append_left _)
  refine ⟨⟨pp.nodup_iff.mpr h.nd, fun y hy => h.nm y (pl.subset (List.mem_cons_of_mem _ hy)), ?_⟩, zn, n0, fun hm => (List.nodup_append.mp h.nd).2.2 z hm z mz rfl⟩
  have a := pp.length_eq
  have b := h.n
  rw [List.length_append, List.length_append] at a
  omega
theorem KS.leave {ss : List Seat} {left : List Str} {i : Nat} (h : KS ss left) (hi : i < ss.length) (hz : (gs ss i).1 ≠ "") (hn : Nm (gs ss i).1) : KS (put ss i "") (left ++ [(gs ss i).1]) := by
  have pn := names_leave hi hz
  have pp : (names (put ss i "") ++ (left ++ [(gs ss i).1])).Perm (names ss ++ left) := by
    refine List.Perm.trans ?_ (pn.symm.append_right left)
    rw [← List.append_assoc]
    exact List.perm_append_singleton _ _
  refine ⟨pp.nodup_iff.mpr h.nd, fun y hy => ?_, ?_⟩
  · rcases List.mem_append.mp hy with hy | hy
    · exact h.nm y hy
    · rw [List.mem_singleton.mp hy]
      exact hn
  · have a := pp.length_eq
    have b := h.n
    rw [List.length_append, List.length_append (as := names ss)] at a
    omega
theorem KM.okp {D : Nat} {W : Int} {ss : List Seat} (h : KM D W ss) (hD : D ≤ 104) : ∀ s ∈ ss, Okp 240 s.2 := fun s hs => by
  have o := h.ok2 s hs
  exact ⟨o.1, o.2.1.mono (by omega), o.2.2.mono (by omega)⟩
theorem ExtX.y {p L : Addr} {H H1 H2 : Hp} (e : ExtX p H H1) (y : ExtY p L H1 H2) (n : H L = none) : ExtX p H H2 := fun b o nb h t =>
  y b o nb (fun z => by rw [z, n] at h; cases h) (e b o nb h t) t
/-- what stays between the steps -/
def KI (K : PySem.W.Frag) (TT : List (Addr × Str)) (H0 : Hp) (p L : Addr) (W : Int) (i : Nat) (v u : V) (te : Addr) (H : Hp) : Prop := ∃ ss left es ev eu, PotAt H p ∧ H L = some (.lst (left.map V.str)) ∧ Dp K H v (momD W ss) ∧ KM (1 + 4 * i) W ss ∧ KS ss left ∧ TupI K H u (kit ss).1 (kit ss).2 ∧ SqT K H te [ev, eu] ∧ Dp K H ev (momD W es) ∧ KM 104 W es ∧ TupI K H eu (kit es).1 (kit es).2 ∧ LamX.Tabs TT H ∧ ExtX p H0 H
theorem KI.x {K : PySem.W.Frag} {TT : List (Addr × Str)} {H0 H H' : Hp} {p L : Addr} {W : Int} {i : Nat} {v u : V} {te : Addr} (h : KI K TT H0 p L W i v u te H) (s : SameX p H H') (hp : PotAt H' p) : KI K TT H0 p L W i v u te H' := by
  obtain ⟨ss, left, es, ev, eu, a, b, c, d, e, f, g, h, j, k, l, m⟩ := h
  have kk := kt_x s a
  exact ⟨ss, left, es, ev, eu, hp, s _ _ (nSp b a) b, c.kt kk (mom_imm _ _), d, e, f.k kk, kk.sqt g, h.kt kk (mom_imm _ _), j, k.k kk, Tabs.x l s a, m.trans (ExtX.x s)⟩
end WS
set_option Elab.async false
set_option linter.all false
set_option maxRecDepth 100000
set_option maxHeartbeats 4000000
namespace WS
open PySem PySem.Spec PyProof.Rows L2
/-! ### things of any shape -/
inductive Tg where
  | non
  | bl (b : Bool)
  | int (i : Int)
  | str (z : Str)
  | tup (ts : List Tg)
  | lst (ts : List Tg)
  | dct
mutual
inductive Th (p : Addr) (K : PySem.W.Frag) (H : Hp) : V → Tg → Prop
  | non : Th p K H .non .non
  | bl (b : Bool) : Th p K H (.bl b) (.bl b)
  | int (i : Int) : Th p K H (.int i) (.int i)
  | str (z : Str) : Th p K H (.str z) (.str z)
  | tup {a : Addr} {xs : List V} {ts : List Tg} : SqT K H a xs → ThAll p K H xs ts → Th p K H (.ref a) (.tup ts)
  | lst {a : Addr} {xs : List V} {ts : List Tg} : a ≠ p → H a = some (.lst xs) → ThAll p K H xs ts → Th p K H (.ref a) (.lst ts)
  | dct {a : Addr} : a ≠ p → H a = some (.dK []) → Th p K H (.ref a) .dct
inductive ThAll (p : Addr) (K : PySem.W.Frag) (H : Hp) : List V → List Tg → Prop
  | nil : ThAll p K H [] []
  | cons {v : V} {vs : List V} {t : Tg} {ts : List Tg} : Th p K H v t → ThAll p K H vs ts → ThAll p K H (v :: vs) (t :: ts)
end
section
variable {p : Addr} {K : PySem.W.Frag} {H H' : Hp}
mutual
theorem th_ext (k : KT H H') (e : ∀ b o, b ≠ p → H b = some o → (∀ ps, o ≠ .tbl ps) → H' b = some o) : ∀ (t : Tg) (v : V), Th p K H v t → Th p K H' v t
  | .non, _, h => by cases h; exact .non
  | .bl b, _, h => by cases h; exact .bl b
  | .int i, _, h => by cases h; exact .int i
  | .str z, _, h => by cases h; exact .str z
  | .tup ts, _, h => by
    cases h with
    | tup h0 h1 => exact .tup (k.sqt h0) (thall_ext k e ts _ h1)
  | .lst ts, _, h => by
    cases h with
    | lst n h0 h1 => exact .lst n (e _ _ n h0 (fun _ z => by cases z)) (thall_ext k e ts _ h1)
  | .dct, _, h => by
    cases h with
    | dct n h0 => exact .dct n (e _ _ n h0 (fun _ z => by cases z))
theorem thall_ext (k : KT H H') (e : ∀ b o, b ≠ p → H b = some o → (∀ ps, o ≠ .tbl ps) → H' b = some o) : ∀ (ts : List Tg) (vs : List V), ThAll p K H vs ts → ThAll p K H' vs ts
  | [], _, h => by cases h; exact .nil
  | t :: ts, _, h => by
    cases h with
    | cons h0 h1 => exact .cons (th_ext k e t _ h0) (thall_ext k e ts _ h1)
end
theorem Th.x {v : V} {t : Tg} (h : Th p K H v t) (e : ExtX p H H') (hp : PotAt H p) : Th p K H' v t := th_ext (ExtX.kt e hp) e t v h
theorem Th.sx {v : V} {t : Tg} (h : Th p K H v t) (s : SameX p H H') (hp : PotAt H p) : Th p K H' v t := h.x (ExtX.x s) hp
theorem Th.sm {v : V} {t : Tg} (h : Th p K H v t) (s : Same H H') : Th p K H' v t := th_ext (kt_same s) (fun b o _ e _ => s b o e) t v h
theorem Th.n {v : V} {t : Tg} (h : Th p K H v t) (s : LamX.ExtN H H') : Th p K H' v t := th_ext (ExtN.kt s) (fun b o _ e n => s b o e n) t v h
theorem ThAll.x {vs : List V} {ts : List Tg} (h : ThAll p K H vs ts) (e : ExtX p H H') (hp : PotAt H p) : ThAll p K H' vs ts := thall_ext (ExtX.kt e hp) e ts vs h
theorem ThAll.sx {vs : List V} {ts : List Tg} (h : ThAll p K H vs ts) (s : SameX p H H') (hp : PotAt H p) : ThAll p K H' vs ts := h.x (ExtX.x s) hp
theorem ThAll.sm {vs : List V} {ts : List Tg} (h : ThAll p K H vs ts) (s : Same H H') : ThAll p K H' vs ts := thall_ext (kt_same s) (fun b o _ e _ => s b o e) ts vs h
theorem ThAll.n {vs : List V} {ts : List Tg} (h : ThAll p K H vs ts) (s : LamX.ExtN H H') : ThAll p K H' vs ts := thall_ext (ExtN.kt s) (fun b o _ e n => s b o e n) ts vs h
theorem ThAll.len : ∀ {vs : List V} {ts : List Tg}, ThAll p K H vs ts → vs.length = ts.length
  | _, [], h => by cases h; rfl
  | _, _ :: _, h => by
    cases h with
    | cons a b => simp [ThAll.len b]
theorem ThAll.at : ∀ {vs : List V} {ts : List Tg} {i : Nat} {v : V}, ThAll p K H vs ts → vs[i]? = some v → ∃ t, ts[i]? = some t ∧ Th p K H v t
  | _, [], i, v, h, e => by cases h; simp at e
  | _, t :: ts, 0, v, h, e => by
    cases h with
    | cons a b =>
      simp only [List.getElem?_cons_zero, Option.some.injEq] at e
      subst e
      exact ⟨t, rfl, a⟩
  | _, t :: ts, i + 1, v, h, e => by
    cases h with
    | cons a b =>
      rw [List.getElem?_cons_succ] at e
      obtain ⟨t', e', h'⟩ := ThAll.at b e
      exact ⟨t', by rw [List.getElem?_cons_succ]; exact e', h'⟩
theorem ThAll.take : ∀ {vs : List V} {ts : List Tg} (n : Nat), ThAll p K H vs ts → ThAll p K H (vs.take n) (ts.take n)
  | _, _, 0, h => by simp only [List.take_zero]; exact .nil
  | _, [], n + 1, h => by cases h; exact .nil
  | _, t :: ts, n + 1, h => by
    cases h with
    | cons a b => exact .cons a (ThAll.take n b)
theorem ThAll.drop : ∀ {vs : List V} {ts : List Tg} (n : Nat), ThAll p K H vs ts → ThAll p K H (vs.drop n) (ts.drop n)
  | _, _, 0, h => h
  | _, [], n + 1, h => by cases h; exact .nil
  | _, t :: ts, n + 1, h => by
    cases h with
    | cons a b => exact ThAll.drop n b
end
/-! data as things -/
mutual
def tgD : PyData → Tg
  | .none => .non
  | .bool b => .bl b
  | .int i => .int i
  | .str z => .str z
  | .list xs => .lst (tgDs xs)
  | .tuple xs => .tup (tgDs xs)
  | .dict _ => .dct
def tgDs : List PyData → List Tg
  | [] => []
  | d :: ds => tgD d :: tgDs ds
end
/-! kinds of things -/
def Tg.ty : Tg → Value
  | .non => .type "NoneType"
  | .bl _ => .type "bool"
  | .int _ => .type "int"
  | .str _ => .type "str"
  | .tup _ => .type "tuple"
  | .lst _ => .type "list"
  | .dct => .type "dict"
theorem Th.ty {p : Addr} {K : PySem.W.Frag} {H : Hp} {v : V} {t : Tg} (h : Th p K H v t) : TyX K H v t.ty := by
  cases h with
  | non => exact .base .non
  | bl b => exact .base (.bl b)
  | int i => exact .base (.int i)
  | str z => exact .base (.str z)
  | tup h0 _ => exact sqt_ty h0
  | lst _ h0 _ => exact .base (.lst h0)
  | dct _ h0 => exact .base (.dK h0)
def Tg.isT : Tg → Bool
  | .tup _ => true
  | _ => false
/-- what is a part -/
def Tg.part : Tg → Option (Int × Int)
  | .tup [.int a, .int b] => if (decide (0 < b) && decide ((Int.gcd a b : Int) = 1)) = true then some (a, b) else none
  | _ => none
end WS
set_option Elab.async false
set_option linter.all false
set_option maxRecDepth 100000
set_option maxHeartbeats 4000000
namespace WS
open PySem PySem.Spec PyProof.Rows L2
/-! ### repr of things -/
mutual
def Tg.py : Tg → PyData
  | .non => .none
  | .bl b => .bool b
  | .int i => .int i
  | .str z => .str z
  | .tup ts => .tuple (Tg.pys ts)
  | .lst ts => .list (Tg.pys ts)
  | .dct => .dict []
def Tg.pys : List Tg → List PyData
  | [] => []
  | t :: ts => t.py :: Tg.pys ts
end
end WS
set_option Elab.async false
set_option linter.all false
set_option maxRecDepth 100000
set_option maxHeartbeats 4000000
namespace WS
open PySem PySem.Spec PyProof.Rows L2
/-! ### sizes of things -/
def ShT (n k : Nat) (t : Tg) : Prop := t.py.showable = true ∧ t.py.depth ≤ k ∧ t.py.shown.length ≤ n
theorem ShT.mono {n k m l : Nat} {t : Tg} (h : ShT n k t) (a : n ≤ m) (b : k ≤ l) : ShT m l t := ⟨h.1, Nat.le_trans h.2.1 b, Nat.le_trans h.2.2 a⟩
theorem ShT.of {n k : Nat} {t : Tg} (h : Sh n k t.py) : ShT n k t := ⟨h.1, h.2.2.1, h.2.2.2⟩
theorem ShT.non : ShT 4 1 .non := ⟨rfl, by decide +kernel, by decide +kernel⟩
theorem ShT.bl (b : Bool) : ShT 5 1 (.bl b) := by cases b <;> exact ⟨rfl, by decide +kernel, by decide +kernel⟩
theorem ShT.dct : ShT 2 1 .dct := ⟨rfl, by decide +kernel, by decide +kernel⟩
theorem ShT.int {m : Nat} {i : Int} (h0 : 0 < m) (h1 : m ≤ 1900) (h : Bt m i) : ShT (m + 1) 1 (.int i) := .of (Sh.int h0 h1 h)
theorem ShT.str {z : Str} (hz : ∀ c ∈ z.cps.toList, c < 16 ^ 8) : ShT (10 * z.length + 2) 1 (.str z) := .of (Sh.str hz)
theorem sht_all {n k : Nat} : ∀ (ts : List Tg), (∀ t ∈ ts, ShT n k t) → PyData.showableAll (Tg.pys ts) = true ∧ PyData.depthAll (Tg.pys ts) ≤ k ∧ piled (PyData.shownAll (Tg.pys ts)) ≤ ts.length * (n + 2)
  | [], _ => ⟨rfl, Nat.zero_le _, by simp [Tg.pys, PyData.shownAll, piled]⟩
  | t :: ts, h => by
    obtain ⟨a, c, e⟩ := sht_all ts (fun x hx => h x (List.mem_cons_of_mem _ hx))
    obtain ⟨a', c', e'⟩ := h t List.mem_cons_self
    refine ⟨?_, ?_, ?_⟩
    · simp [Tg.pys, PyData.showableAll, a, a']
    · simp only [Tg.pys, PyData.depthAll]
      omega
    · simp only [Tg.pys, PyData.shownAll, piled, List.length_cons, Nat.add_mul, List.map_cons, List.sum_cons] at e ⊢
      omega
theorem ShT.tup {n k m : Nat} {ts : List Tg} (h : ∀ t ∈ ts, ShT n k t) (hl : ts.length ≤ m) : ShT (m * (n + 2) + 2) (k + 1) (.tup ts) := by
  obtain ⟨a, c, e⟩ := sht_all ts h
  have y := shown_tup_len (Tg.pys ts)
  have z := Nat.mul_le_mul_right (n + 2) hl
  refine ⟨?_, ?_, ?_⟩
  · unfold Tg.py
    exact a
  · unfold Tg.py
    simp only [PyData.depth]
    omega
  · unfold Tg.py
    omega
theorem ShT.lst {n k m : Nat} {ts : List Tg} (h : ∀ t ∈ ts, ShT n k t) (hl : ts.length ≤ m) : ShT (m * (n + 2) + 2) (k + 1) (.lst ts) := by
  obtain ⟨a, c, e⟩ := sht_all ts h
  have y := shown_lst_len (Tg.pys ts)
  have z := Nat.mul_le_mul_right (n + 2) hl
  refine ⟨?_, ?_, ?_⟩
  · unfold Tg.py
    exact a
  · unfold Tg.py
    simp only [PyData.depth]
    omega
  · unfold Tg.py
    omega
theorem ShT.ok {n k : Nat} {t : Tg} (h : ShT n k t) (hn : n ≤ 1000000) (hk : k ≤ 60) : t.py.showable = true ∧ t.py.depth ≤ 60 ∧ t.py.shown.length ≤ sizeLine := ⟨h.1, by have := h.2.1; omega, by have := h.2.2; rw [sizeLine_eq]; omega⟩
mutual
theorem tg_py : ∀ d : PyData, imm d = true → d.hasDict = false → (tgD d).py = d
  | .none, _, _ => rfl
  | .bool _, _, _ => rfl
  | .int _, _, _ => rfl
  | .str _, _, _ => rfl
  | .list xs, e, _ => by unfold imm at e; cases e
  | .dict xs, e, _ => by unfold imm at e; cases e
  | .tuple xs, e, h => by
    unfold imm at e
    unfold tgD Tg.py
    rw [tgs_py xs e (by simpa [PyData.hasDict] using h)]
theorem tgs_py : ∀ ds : List PyData, immAll ds = true → PyData.hasDictAll ds = false → Tg.pys (tgDs ds) = ds
  | [], _, _ => rfl
  | d :: ds, e, h => by
    unfold immAll at e
    rw [Bool.and_eq_true] at e
    have h' : d.hasDict = false ∧ PyData.hasDictAll ds = false := by simpa [PyData.hasDictAll] using h
    unfold tgDs Tg.pys
    rw [tg_py d e.1 h'.1, tgs_py ds e.2 h'.2]
end
theorem ShT.d {n k : Nat} {d : PyData} (h : Sh n k d) (i : imm d = true) : ShT n k (tgD d) := .of (by rw [tg_py d i h.2.1]; exact h)
/-! ### caught exceptions -/
def DictIs (d : Option Addr) (H : Hp) : Prop := d = none ∨ ∃ dd fs, d = some dd ∧ H dd = some (.xd fs)
theorem inst_ofD {X : Cx} {pins : List (Addr × Obj)} {σ : L2.St} {H : Hp} {s : Shared} {a D : Addr} {oe : Obj} {d : Option Addr} (hp : (a, oe) ∈ X.pn) (inv : Inv X pins σ H s) (hz : Zc (.ref D) d oe) (hd : DictIs d H) (hf : ∃ vs, oe.data = .fields vs) : ∃ od, PySem.W.InstAt s.heap a oe D od := by
  obtain ⟨get, _⟩ := inv.pin (a, oe) (List.mem_append_left _ hp)
  obtain ⟨vs, hv⟩ := hf
  obtain ⟨h1, h2⟩ := hz
  rcases hd with rfl | ⟨dd, fs, rfl, hx⟩
  · obtain ⟨oc, odc, oda, osl⟩ := oe
    dsimp only at h1 h2 hv
    subst h1 h2 hv
    exact ⟨none, get, rfl, rfl, trivial⟩
  · have hx : ObjOk X.prog X.w H s.heap dd (.xd fs) := inv.hok dd _ hx
    obtain ⟨mA, hns, hr⟩ := hx
    obtain ⟨od, ho, hl⟩ := lookIn_ns hns
    exact ⟨some od, get, h1, by unfold PySem.W.notCls; rw [hv] <;> rfl, by rw [h2]; exact ho⟩
theorem exc_cls {K : PySem.W.Frag} {D : Addr} (h : PySem.W.hasDictIn K D = true) : (PySem.W.clsIn K D).isSome = true := by
  obtain ⟨cd, hc, _⟩ := PySem.W.any_some h
  rw [hc]
  rfl
def rIsG (K : PySem.W.Frag) (a : Addr) (cls : Value) (d : Option Addr) : List V → Hp → VK → Prop := fun xs H Q => ∃ (D : Addr) (c : V) (cv : Value) (b : Bool), cls = .ref D ∧ ExcC K D ∧ DictIs d H ∧ xs = [.ref a, c] ∧ ClsV c cv ∧ PySem.W.kitOne K (.ref D) cv = some b ∧ Q (.bl b) H
theorem call_isG {X : Cx} {a : Addr} {oe : Obj} {cls : Value} {d : Option Addr} (hp : (a, oe) ∈ X.pn) (hz : Zc cls d oe) (hf : ∃ vs, oe.data = .fields vs) : CallR X (.builtin "isinstance") (rIsG X.K a cls d) := by
  intro pins s σ H xs us Q inv vals want
  obtain ⟨D, c, cv, b, rfl, C, hd, rfl, ck, kit, q⟩ := want
  obtain ⟨u1, u2, rfl, r1, r2⟩ := vals2 vals
  cases (show u1 = Value.ref a from r1)
  cases ck.eq r2
  obtain ⟨od, J⟩ := inst_ofD hp inv hz hd hf
  exact PySem.W.kia_one (PySem.W.kitx_exc (exc_cls C.hd) C.hg C.hk C.hs C.ha C.hn C.ht C.hm) inv.kIn J kit (fun z => nomatch z) fun tk => ⟨.bl b, H, inv.tok tk, rfl, q⟩
/-- C(e, ..) raised where nothing is handled -/
theorem pmk_oexN {X : Cx} {e : Expr} {es : List Expr} {ta : TA} {p pos : Pos} {CX : CXT} {x : Str} {C fI : Addr} {k : Nat} {fd : FuncData} {ps : List Str} {sp : Sp} (T : OexC X.K C) (iC : PySem.W.findIn X.K (.ref C) "__init__" = some (some (.ref fI))) (tI : PySem.W.typeIn X.K (.ref fI) = some (.type "function"))
    (F1 : FnOk X.prog X.w X.K X.mg X.base CX k fI fd ps sp) (hr : Room (k + 1) X.A) (hb : Binds X.K fd ps []) (hx : Passes CX X (fun _ _ _ => False)) (hg : Gl X x) (hm : X.mg x = some (.ref C)) (ha : PA X (e :: es) ta)
    (hdb : (x == ("__debug__" : Str)) = false := by decide) (he : starEach (e :: es) X.env = (false, eval e X.env) :: starEach es X.env := by rfl) (hpl : (backTo pos (starEach es X.env)).any (·.1) = false := by rfl) :
    L2N.PMk X (.Call (.Name x p) (e :: es) [] pos) (tMkO C sp [] ta) := by
  intro pins s σ H Q I h
  obtain ⟨nm, q, N, bs, bm, sn, sub, ab, col, dd, k0, k1, k2, k3, k5, hC, hbm⟩ := T.cls
  refine wpAny_Call_Name_kw (ld_glob I hg hm ?_ hdb)
  refine PySem.W.callWith_K (h₀ := X.base) I.ok.mod.kin T.kC (thn (ha.run pos pins s σ H _ I h) fun us s1 ⟨vs, H1, I1, r1, hz, q1⟩ => ⟨I1.kIn, ?_⟩) he hpl
  show wpAny _ _ (call (.ref C) us) _ _ _
  obtain ⟨hp, g, dr, tk, os⟩ := s1
  have hsz : hp.objs.size ≤ hp.objs.size + 1 := Nat.le_succ _
  have hn : H1 (hp.objs.size + 1) = none := I1.hok.fresh hsz
  have hq := q1 (hp.objs.size + 1) hn
  rw [List.append_nil] at hq
  have kk : ∀ b o, hp.get? b = some o → ((hp.push (PySem.W.kdv_tup us)).push (PySem.HandSPX.excO C hp.objs.size)).get? b = some o := fun b o e => Heap.get?_push_of_some _ (Heap.get?_push_of_some _ e)
  have hget : ((hp.push (PySem.W.kdv_tup us)).push (PySem.HandSPX.excO C hp.objs.size)).get? (hp.objs.size + 1) = some (PySem.HandSPX.excO C hp.objs.size) := by heap_get
  have I2 : Inv X pins σ (upd H1 (hp.objs.size + 1) (exo (hp.objs.size + 1) C none)) ⟨(hp.push (PySem.W.kdv_tup us)).push (PySem.HandSPX.excO C hp.objs.size), g, dr, tk, os⟩ :=
    I1.laid (t' := tk) (a := hp.objs.size + 1) (o := exo (hp.objs.size + 1) C none) (h' := (hp.push (PySem.W.kdv_tup us)).push (PySem.HandSPX.excO C hp.objs.size)) kk hsz (exo_ok hget)
  have r2 : Vals (V.ref (hp.objs.size + 1) :: vs) (Value.ref (hp.objs.size + 1) :: us) := .cons rfl r1
  have hl : (Value.ref (hp.objs.size + 1) :: us ++ []).length = ps.length := by
    have e := r2.length
    rw [F1.len _ _ _ _ hq] at e
    rw [List.append_nil]
    exact e.symm
  have hus : us.length ≤ sizeLine := by
    rw [← Paired.length r1, sizeLine_eq]
    omega
  have b2 := hb _ (Value.ref (hp.objs.size + 1) :: us) I2.kIn hl
  rw [List.append_nil] at b2
  refine wpAny_call (PySem.HandSPX.call_own F.excBase_ValueError (fun Y => PySem.HandSPX.refsVE_contains Y bm hbm) (I1.kIn _ _ hC) (PySem.W.looks_findIn I1.kIn iC) (fun self => PySem.W.bind_fn I1.kIn self tI) hus
    (codeAny_mono (F1.run _ X.stack _ _ ⟨Value.ref (hp.objs.size + 1) :: us, []⟩ (Value.ref (hp.objs.size + 1) :: us) _ _ (fun _ _ _ => False) (hr.make C us []) (I2.env0.make C us []) b2 r2 hq) fun r s' hq' => ?_))
  cases r with
  | error er => exact hx pins σ _ _ er s' I2 hq'
  | ok fl =>
    cases fl with
    | ret u =>
      obtain ⟨v, H2, os2, bare2, un2, hok2, rv, ev, d, fs, ea, ed, hd1, q2⟩ := hq'
      subst ev
      obtain ⟨h2, g2, d2, t2, os'⟩ := s'
      obtain ⟨t0, G, J, kG, ge, hoe, na⟩ := mk_end0 (d2 := d2) (t2 := t2) I1 hsz kk un2 hok2 os2 bare2 ea ed hd1
      refine ⟨rv, hp.objs.size + 1, _, _, ⟨G, g2, d2, t2, os'⟩, _, .ref C, some d, rfl, J, kG, ge, hoe, ⟨rfl, rfl, fun vs hv => ?_⟩, rfl, rfl, na, rfl, bare2, raises_own T.exC T.tyC, q2⟩
      cases hv
      rfl
    | next => exact False.elim hq'
    | brk => exact False.elim hq'
    | cont => exact False.elim hq'
end WS
set_option Elab.async false
set_option linter.all false
set_option maxRecDepth 100000
set_option maxHeartbeats 4000000
set_option Elab.async false
set_option linter.all false
set_option maxRecDepth 100000
set_option maxHeartbeats 4000000
namespace WS
open PySem PySem.Spec PyProof.Rows L2
/-! ### the least weight of a row, exactly -/
/-! ### a gift never widens -/
theorem gift_dom {ss : List Seat} {i j : Nat} {q : Int × Int} (hp : ∀ s ∈ ss, 0 < s.2.2) (hq : 0 < q.2) (hi : i < ss.length) (hj : j < ss.length) (ne : i ≠ j) (h0 : 0 ≤ rv q) (h1 : rv q ≤ owF ss i - owF ss j) {S : List Nat} (hS : S.Nodup) (hl : ∀ k ∈ S, k < ss.length) : ∃ S' : List Nat, S'.Nodup ∧ (∀ k ∈ S', k < ss.length) ∧ S'.length = S.length ∧ sumF (owF (giftS ss i j q)) S ≤ sumF (owF ss) S' := by
  by_cases a : j ∈ S ∧ i ∉ S
  · obtain ⟨a, b⟩ := a
    refine ⟨i :: S.erase j, List.nodup_cons.mpr ⟨fun z => b (List.mem_of_mem_erase z), hS.sublist List.erase_sublist⟩, fun k hk => (List.mem_cons.mp hk).elim (fun z => z ▸ hi) fun z => hl k (List.mem_of_mem_erase z), (List.perm_cons_erase a).length_eq.symm, ?_⟩
    rw [sum_gift hp hq hi hj ne hS hl, if_pos a, if_neg b]
    have e1 := sumF_perm (f := owF ss) (List.perm_cons_erase a)
    have c : ∀ (x : Nat) (T : List Nat), sumF (owF ss) (x :: T) = owF ss x + sumF (owF ss) T := fun _ _ => rfl
    rw [c] at e1 ⊢
    generalize sumF (owF ss) (S.erase j) = x at e1 ⊢
    grind
  · refine ⟨S, hS, hl, rfl, ?_⟩
    rw [sum_gift hp hq hi hj ne hS hl]
    by_cases b : j ∈ S
    · have c : i ∈ S := by
        by_cases c : i ∈ S
        · exact c
        · exact absurd ⟨b, c⟩ a
      rw [if_pos b, if_pos c]
      grind
    · rw [if_neg b]
      by_cases c : i ∈ S
      · rw [if_pos c]
        grind
      · rw [if_neg c]
        grind
end WS
set_option Elab.async false
set_option linter.all false
set_option maxRecDepth 100000
set_option maxHeartbeats 4000000
namespace WS
open PySem PySem.Spec PyProof.Rows L2
/-! ### no wider than -/
def Dom (ss tt : List Seat) : Prop := tt.length = ss.length ∧ ∀ S : List Nat, S.Nodup → (∀ k ∈ S, k < ss.length) → ∃ S' : List Nat, S'.Nodup ∧ (∀ k ∈ S', k < ss.length) ∧ S'.length = S.length ∧ sumF (owF tt) S ≤ sumF (owF ss) S'
theorem Dom.refl (ss : List Seat) : Dom ss ss := ⟨rfl, fun S hS hl => ⟨S, hS, hl, rfl, Rat.le_refl⟩⟩
theorem Dom.trans {ss tt uu : List Seat} (a : Dom ss tt) (b : Dom tt uu) : Dom ss uu := ⟨b.1.trans a.1, fun S hS hl => by
  obtain ⟨S1, n1, l1, e1, h1⟩ := b.2 S hS (fun k hk => by rw [a.1]; exact hl k hk)
  obtain ⟨S2, n2, l2, e2, h2⟩ := a.2 S1 n1 (fun k hk => by rw [← a.1]; exact l1 k hk)
  exact ⟨S2, n2, l2, e2.trans e1, Rat.le_trans h1 h2⟩⟩
theorem Dom.gift {ss : List Seat} {i j : Nat} {q : Int × Int} (hp : ∀ s ∈ ss, 0 < s.2.2) (hq : 0 < q.2) (hi : i < ss.length) (hj : j < ss.length) (ne : i ≠ j) (h0 : 0 ≤ rv q) (h1 : rv q ≤ owF ss i - owF ss j) : Dom ss (giftS ss i j q) :=
  ⟨by unfold giftS; rw [setRow_len (by rw [giftR_len, List.length_map])], fun _ hS hl => gift_dom hp hq hi hj ne h0 h1 hS hl⟩
end WS
set_option Elab.async false
set_option linter.all false
set_option maxRecDepth 100000
set_option maxHeartbeats 4000000
namespace WS
open PySem PySem.Spec PyProof.Rows L2
/-! ### gifts of any part -/
/-- rows whose sums are looked at -/
structure KN (ss : List Seat) : Prop where
  l : ss.length ≤ 10
  ok : ∀ s ∈ ss, Ok2 300 105 s.2
theorem KN.row {ss : List Seat} (h : KN ss) : ∀ q ∈ ss.map Prod.snd, Ok2 300 105 q := fun q hq => by
  obtain ⟨s, hs, rfl⟩ := List.mem_map.mp hq
  exact h.ok s hs
theorem KN.pos {ss : List Seat} (h : KN ss) : ∀ s ∈ ss, 0 < s.2.2 := fun s hs => (h.ok s hs).1
def GiftIs (ss : List Seat) (a b : Nat) : Prop := a < ss.length ∧ b < ss.length ∧ (gs ss a).1 ≠ "" ∧ (gs ss b).1 ≠ "" ∧ rv (gs ss b).2 < rv (gs ss a).2
def PairsK (K : PySem.W.Frag) (H : Hp) (us : List V) (ss : List Seat) : Prop := ∀ v ∈ us, ∃ r a b, v = .ref r ∧ SqT K H r [.int ((a : Nat) : Int), .int ((b : Nat) : Int)] ∧ GiftIs ss a b
theorem PairsK.k {K : PySem.W.Frag} {H H' : Hp} {us : List V} {ss : List Seat} (h : PairsK K H us ss) (k : KT H H') : PairsK K H' us ss := fun v hv => by
  obtain ⟨r, a, b, e, s, g⟩ := h v hv
  exact ⟨r, a, b, e, k.sqt s, g⟩
end WS
set_option Elab.async false
set_option linter.all false
set_option maxRecDepth 100000
set_option maxHeartbeats 4000000
namespace WS
open PySem PySem.Spec PyProof.Rows L2
/-! ### promises about things: who sits, what is given -/
def BdT (n : Nat) (t : Tg) : Prop := ∀ a b, t = .tup [.int a, .int b] → Bt n a ∧ Bt n b
end WS
set_option Elab.async false
set_option linter.all false
set_option maxRecDepth 100000
set_option maxHeartbeats 4000000
namespace WS
open PySem PySem.Spec PyProof.Rows L2
/-! ### tops: what the seats owe, in sixtieths -/
def pairS (us : List Str) (ts : List Int) (u : Int) : List Seat := (us.zip ts).map fun x => (x.1, lo x.2 u)
theorem pairS_len {us : List Str} {ts : List Int} {u : Int} (h : us.length = ts.length) : (pairS us ts u).length = ts.length := by
  unfold pairS
  rw [List.length_map, List.length_zip]
  omega
end WS
set_option Elab.async false
set_option linter.all false
set_option maxRecDepth 100000
set_option maxHeartbeats 4000000
namespace WS
open PySem PySem.Spec PyProof.Rows L2
/-! ### texts of any signs -/
def Cs (z : Str) : Prop := ∀ c ∈ z.cps.toList, c < 16 ^ 8
theorem Cs.nm {z : Str} (h : Nm z) : Cs z := fun c hc => by
  have := (h.2.2 c hc).2
  have : 122 < 16 ^ 8 := by decide
  omega
theorem ShT.cs {z : Str} {n : Nat} (h : Cs z) (hl : z.length ≤ n) : ShT (10 * n + 2) 1 (.str z) := (ShT.str h).mono (by omega) (by omega)
/-- a thing that is drawn -/
def ThOk (p : Addr) (K : PySem.W.Frag) (H : Hp) (v : V) : Prop := ∃ t, Th p K H v t ∧ ShT 5000 3 t ∧ BdT 120 t
theorem ThOk.sx {p : Addr} {K : PySem.W.Frag} {H H' : Hp} {v : V} (h : ThOk p K H v) (s : SameX p H H') (hp : PotAt H p) : ThOk p K H' v := by
  obtain ⟨t, a, b⟩ := h
  exact ⟨t, a.sx s hp, b⟩
theorem ThOk.sm {p : Addr} {K : PySem.W.Frag} {H H' : Hp} {v : V} (h : ThOk p K H v) (s : Same H H') : ThOk p K H' v := by
  obtain ⟨t, a, b⟩ := h
  exact ⟨t, a.sm s, b⟩
theorem BdT.no {n : Nat} {t : Tg} (h : ∀ a b, t ≠ .tup [.int a, .int b]) : BdT n t := fun a b e => absurd e (h a b)
theorem Th.two {p : Addr} {K : PySem.W.Frag} {H : Hp} {v : V} {t1 t2 : Tg} (h : Th p K H v (.tup [t1, t2])) : ∃ a x y, v = .ref a ∧ SqT K H a [x, y] ∧ Th p K H x t1 ∧ Th p K H y t2 := by
  cases h with
  | tup h0 h1 =>
    cases h1 with
    | cons x y =>
      cases y with
      | cons y z =>
        cases z
        exact ⟨_, _, _, rfl, h0, x, y⟩
end WS
set_option Elab.async false
set_option linter.all false
set_option maxRecDepth 100000
set_option maxHeartbeats 4000000
namespace WS
open PySem PySem.Spec PyProof.Rows L2
/-! ### a gift, by whole numbers -/
theorem pairS_gs {us : List Str} {ts : List Int} {u : Int} (h : us.length = ts.length) {k : Nat} (hk : k < ts.length) : gs (pairS us ts u) k = (us[k]'(by omega), lo ts[k] u) := by
  refine gs_at ?_
  unfold pairS
  rw [List.getElem?_map, List.getElem?_eq_getElem (by rw [List.length_zip]; omega), List.getElem_zip]
  rfl
theorem pairS_fst {us : List Str} {ts : List Int} {u : Int} (h : us.length = ts.length) : (pairS us ts u).map Prod.fst = us := by
  refine List.ext_getElem? fun k => ?_
  by_cases c : k < ts.length
  · rw [List.getElem?_map, at_gs (by rw [pairS_len h]; exact c), pairS_gs h c]
    exact (List.getElem?_eq_getElem (by omega)).symm
  · rw [List.getElem?_eq_none (by rw [List.length_map, pairS_len h]; omega), List.getElem?_eq_none (by omega)]
theorem pairS_names {us : List Str} {ts : List Int} {u : Int} (h : us.length = ts.length) : names (pairS us ts u) = us.filter fun z => !decide (z = ("" : Str)) := by
  unfold names
  rw [pairS_fst h]
end WS
set_option Elab.async false
set_option linter.all false
set_option maxRecDepth 100000
set_option maxHeartbeats 4000000
namespace WS
open PySem PySem.Spec PyProof.Rows L2
/-! ### exceptions with fields -/
def spInit1 (C : Addr) (f : Str) : Sp := fun vs H Q _ => ∃ a x, vs = [.ref a, x] ∧ H a = some (exo a C none) ∧ ∀ d, H d = none → d ≠ a → Q .non (upd (upd H d (exd d [(f, x)])) a (exo a C (some d)))
def spInit2 (C : Addr) (f g : Str) : Sp := fun vs H Q _ => ∃ a x y, vs = [.ref a, x, y] ∧ H a = some (exo a C none) ∧ ∀ d, H d = none → d ≠ a → Q .non (upd (upd (upd H d (exd d [(f, x)])) a (exo a C (some d))) d (exd d [(g, y), (f, x)]))
theorem del_made {H1 : Hp} {a d : Addr} {o u o2 o3 v : HO} (ha : H1 a = none) (hd : d ≠ a) : upd (del (upd (upd (upd (upd H1 a o) d u) a o2) d o3) a) d v = upd H1 d v := by
  funext b
  by_cases e : b = d
  · rw [e, upd_same, upd_same]
  · rw [upd_ne e, upd_ne e]
    by_cases f : b = a
    · rw [f, del_same, ha]
    · rw [del_ne f, upd_ne e, upd_ne f, upd_ne e, upd_ne f]
/-! ### the places beyond -/
def fallK (w : Int) (ps : List (Int × Int)) (ord : List Nat) : Option Nat := (List.range (ps.length + 1)).find? (fallsAt w ps ord)
def beyL (w : Int) (ps : List (Int × Int)) (ord : List Nat) : List Nat := match fallK w ps ord with
  | some k => ord.take k
  | none => []
def wOk : Tg → Bool
  | .int i => decide (i ≥ 1)
  | _ => false
theorem fallK_pos {w : Int} {ps : List (Int × Int)} {ord : List Nat} {k : Nat} (h : fallK w ps ord = some k) : 0 < k ∧ k ≤ ps.length := by
  unfold fallK at h
  rw [List.find?_range_eq_some] at h
  obtain ⟨h1, h2, _⟩ := h
  have h2 := List.mem_range.mp h2
  refine ⟨?_, by omega⟩
  by_cases c : k = 0
  · subst c
    unfold fallsAt at h1
    have h1 := of_decide_eq_true h1
    have e : sumK ps ord 0 = (0, 1) := by
      unfold sumK
      rfl
    rw [e] at h1
    have : (lo (w * ((0 : Nat) : Int) * ((ps.length : Int) - ((0 : Nat) : Int))) 2).1 = 0 := by
      rw [show (((0 : Nat) : Int)) = 0 from rfl, Int.mul_zero, Int.zero_mul]
      rfl
    rw [this] at h1
    omega
  · omega
theorem beyL_nil {w : Int} {ps : List (Int × Int)} {ord : List Nat} (rk : RankedP ps ord) : beyL w ps ord = [] ↔ fallK w ps ord = none := by
  unfold beyL
  cases h : fallK w ps ord with
  | none => simp
  | some k =>
    have := fallK_pos h
    have ol : ord.length = ps.length := by rw [rk.1.length_eq, List.length_range]
    constructor
    · intro e
      have : (ord.take k).length = 0 := by
        have e : ord.take k = [] := e
        rw [e]
        rfl
      rw [List.length_take] at this
      omega
    · intro e
      cases e
theorem fallV_K (w : Int) (ps : List (Int × Int)) (ord : List Nat) : fallV w ps ord = (match fallK w ps ord with | some k => V.int (k : Nat) | none => V.non) := rfl
theorem fallK_wth {w : Int} {ps : List (Int × Int)} {ord : List Nat} (h : RankedP ps ord) (hp : ∀ q ∈ ps, 0 < q.2) : fallK w ps ord = none ↔ WthF w ps.length (fun j => rv (gp ps j)) := by
  rw [← fallV_wth h hp, fallV_K]
  cases fallK w ps ord with
  | none => simp
  | some k => simp
end WS
set_option Elab.async false
set_option linter.all false
set_option maxRecDepth 100000
set_option maxHeartbeats 4000000
namespace WS
open PySem PySem.Spec PyProof.Rows L2
/-! ### weighed moments (k56) -/
structure Mw (W : Int) (ss : List Seat) : Prop where
  l : ss.length ≤ 12
  w : 1 ≤ W
  b : Bt 110 W
  nm : ∀ s ∈ ss, Nm0 s.1
  nd : (names ss).Nodup
  low : ∀ s ∈ ss, Lowest s.2.1 s.2.2
  ok : ∀ s ∈ ss, Okq 190 90 s.2
  bd : ∀ s ∈ ss, Bd 98 (rv s.2)
  z : ((ss.map Prod.snd).map rv).sum = 0
  g : Good W ss
theorem Mw.ok2 {W : Int} {ss : List Seat} (h : Mw W ss) : ∀ q ∈ ss.map Prod.snd, Ok2 1900 200 q := fun q hq => by
  obtain ⟨s, hs, rfl⟩ := List.mem_map.mp hq
  have o := h.ok s hs
  exact ⟨o.1, o.2.1.mono (by decide), o.2.2.mono (by decide)⟩
theorem Mw.okp {W : Int} {ss : List Seat} (h : Mw W ss) : ∀ s ∈ ss, Okp 300 s.2 := fun s hs => (h.ok s hs).okp (by decide) (by decide)
def dWt : PyData := .tuple [.str "weight", .none]
def dBd (ks : List Int) : PyData := .tuple [.str "beyond", .tuple [.int (ks.length : Nat), .tuple (ks.map PyData.int)]]
def dTo (i : Int) (ss : List Seat) : PyData := .tuple [.str "told", momD i ss]
def dBy (i : Int) (ss : List Seat) (ord : List Nat) : PyData := if beyL i (ss.map Prod.snd) ord = [] then dTo i ss else dBd ((beyL i (ss.map Prod.snd) ord).map fun j : Nat => (j : Int))
theorem imm_ints : ∀ ks : List Int, immAll (ks.map PyData.int) = true
  | [] => rfl
  | _ :: ks => by
    show (true && immAll (ks.map PyData.int)) = true
    rw [imm_ints ks]
    rfl
def OutD (t : Tg) (ss : List Seat) (D : PyData) : Prop := (wOk t = false ∧ D = dWt) ∨ ∃ i ord, t = .int i ∧ 1 ≤ i ∧ RankedP (ss.map Prod.snd) ord ∧ D = dBy i ss ord
theorem OutD.one {t : Tg} {ss : List Seat} {D E : PyData} (h : OutD t ss D) (k : OutD t ss E) : E = D := by
  rcases h with ⟨w, rfl⟩ | ⟨i, o, rfl, i1, r, rfl⟩
  · rcases k with ⟨_, e⟩ | ⟨j, o, rfl, j1, _⟩
    · exact e
    · have : wOk (.int j) = true := decide_eq_true j1
      rw [w] at this
      cases this
  · rcases k with ⟨w, _⟩ | ⟨j, o', e, j1, r', e'⟩
    · have : wOk (.int i) = true := decide_eq_true i1
      rw [w] at this
      cases this
    · cases e
      rw [e', rankedP_one r' r]
theorem OutD.cases {t : Tg} {ss : List Seat} {D : PyData} {W : Int} (h : OutD t ss D) (m : Mw W ss) (hb : ∀ i, t = .int i → Bt 110 i) : (∃ i, D = dTo i ss ∧ Mw i ss) ∨ ∃ z y, D = .tuple [.str z, y] ∧ z ≠ "told" := by
  have hp : ∀ q ∈ ss.map Prod.snd, 0 < q.2 := fun q hq => (m.ok2 q hq).1
  rcases h with ⟨w, rfl⟩ | ⟨i, o, e, i1, r, rfl⟩
  · exact .inr ⟨_, _, rfl, by decide +kernel⟩
  · unfold dBy
    split
    · rename_i e0
      have w := (fallK_wth r hp).mp ((beyL_nil r).mp e0)
      exact .inl ⟨i, rfl, ⟨m.l, i1, hb i e, m.nm, m.nd, m.low, m.ok, m.bd, m.z, good_mk rfl w m.z⟩⟩
    · exact .inr ⟨_, _, rfl, by decide +kernel⟩
theorem Mw.nil {W : Int} {ss : List Seat} {ord : List Nat} (m : Mw W ss) (r : RankedP (ss.map Prod.snd) ord) : beyL W (ss.map Prod.snd) ord = [] :=
  (beyL_nil r).mpr ((fallK_wth r fun q hq => (m.ok2 q hq).1).mpr (good_row m.g))
end WS
set_option Elab.async false
set_option linter.all false
set_option maxRecDepth 100000
set_option maxHeartbeats 4000000
set_option Elab.async false
set_option linter.all false
set_option maxRecDepth 100000
set_option maxHeartbeats 4000000
namespace WS
open PySem PySem.Spec PyProof.Rows L2
/-! ### numbers of seats, of any thing (k54) -/
def intsT : List Tg → Option (List Int)
  | [] => some []
  | .int i :: ts => (intsT ts).map (i :: ·)
  | _ :: _ => none
def seatsL (n : Nat) (ts : List Tg) : Option (List Nat) := match intsT ts with
  | some ns => if ns.Nodup ∧ ∀ i ∈ ns, 0 ≤ i ∧ i < (n : Int) then some (ns.map Int.toNat) else none
  | none => none
def seatsT (n : Nat) : Tg → Option (List Nat)
  | .tup ts => seatsL n ts
  | _ => none
end WS
set_option Elab.async false
set_option linter.all false
set_option maxRecDepth 100000
set_option maxHeartbeats 4000000
namespace WS
open PySem PySem.Spec PyProof.Rows L2
def iInt (is : List Nat) : List Int := is.map fun j : Nat => (j : Int)
def rowOf (ss : List Seat) (is : List Nat) : List (Int × Int) := (is.map (gs ss)).map Prod.snd
def owedP (ss : List Seat) (is : List Nat) : Int × Int := (is.map fun i => (gs ss i).2).foldl pl (0, 1)
end WS
set_option Elab.async false
set_option linter.all false
set_option maxRecDepth 100000
set_option maxHeartbeats 4000000
set_option Elab.async false
set_option linter.all false
set_option maxRecDepth 100000
set_option maxHeartbeats 4000000
namespace WS
open PySem PySem.Spec PyProof.Rows L2
theorem DictIs.sm {d : Option Addr} {H H' : Hp} (h : DictIs d H) (s : Same H H') : DictIs d H' := by
  rcases h with rfl | ⟨dd, fs, rfl, e⟩
  · exact .inl rfl
  · exact .inr ⟨dd, fs, rfl, s _ _ e⟩
end WS
set_option Elab.async false
set_option linter.all false
set_option maxRecDepth 100000
set_option maxHeartbeats 4000000
namespace WS
open PySem PySem.Spec PyProof.Rows L2
def dBe (ks : List Int) : PyData := .tuple [.str "Beyond", .int (ks.length : Nat), .tuple (ks.map PyData.int)]
end WS
set_option Elab.async false
set_option linter.all false
set_option maxRecDepth 100000
set_option maxHeartbeats 4000000
namespace WS
open PySem PySem.Spec PyProof.Rows L2
def sortN (is : List Nat) : List Nat := is.mergeSort fun a b => decide (a ≤ b)
def othN (n : Nat) (is : List Nat) : List Nat := (List.range n).filter fun i => !decide (i ∈ is)
def dNo : PyData := .tuple [.str "NoSeat"]
def dUn (q : Int × Int) : PyData := .tuple [.str "Unbalanced", pdP q]
def dTw (W : Int) (ss : List Seat) (S O : List Nat) : PyData := .tuple [.str "told", .tuple [momD W (S.map (gs ss)), momD W (O.map (gs ss))]]
def numsOf (W : Int) (ss : List Seat) (is ord : List Nat) : List Int := (beyL W (rowOf ss is) ord).map fun i => (iInt is).getD i 0
def OutQ (W : Int) (ss : List Seat) (S O : List Nat) (D : PyData) : Prop := ∃ oS, RankedP (rowOf ss S) oS ∧ ((beyL W (rowOf ss S) oS ≠ [] ∧ D = dBe (numsOf W ss S oS)) ∨
  (beyL W (rowOf ss S) oS = [] ∧ ∃ oO, RankedP (rowOf ss O) oO ∧ ((beyL W (rowOf ss O) oO ≠ [] ∧ D = dBe (numsOf W ss O oO)) ∨ (beyL W (rowOf ss O) oO = [] ∧ D = dTw W ss S O))))
theorem OutQ.one {W : Int} {ss : List Seat} {S O : List Nat} {D E : PyData} (h : OutQ W ss S O D) (k : OutQ W ss S O E) : E = D := by
  obtain ⟨o, r, h⟩ := h
  obtain ⟨o', r', k⟩ := k
  have e := rankedP_one r' r
  subst e
  rcases h with ⟨n, rfl⟩ | ⟨n, u, ru, h⟩
  · rcases k with ⟨_, e⟩ | ⟨m, _⟩
    · exact e
    · exact absurd m n
  · rcases k with ⟨m, _⟩ | ⟨_, u', ru', k⟩
    · exact absurd n m
    · have e := rankedP_one ru' ru
      subst e
      rcases h with ⟨a, rfl⟩ | ⟨a, rfl⟩
      · rcases k with ⟨_, e⟩ | ⟨b, _⟩
        · exact e
        · exact absurd b a
      · rcases k with ⟨b, _⟩ | ⟨_, e⟩
        · exact absurd a b
        · exact e
def OutP (W : Int) (ss : List Seat) (t : Tg) (D : PyData) : Prop := (seatsT ss.length t = none ∧ D = dNo) ∨ ∃ is, seatsT ss.length t = some is ∧
  ((owedP ss is ≠ (0, 1) ∧ D = dUn (owedP ss is)) ∨ (owedP ss is = (0, 1) ∧ OutQ W ss (sortN is) (othN ss.length is) D))
theorem OutP.one {W : Int} {ss : List Seat} {t : Tg} {D E : PyData} (h : OutP W ss t D) (k : OutP W ss t E) : E = D := by
  rcases h with ⟨n, rfl⟩ | ⟨is, e, h⟩
  · rcases k with ⟨_, e⟩ | ⟨is, e, _⟩
    · exact e
    · rw [n] at e
      cases e
  · rcases k with ⟨n, _⟩ | ⟨is', e', k⟩
    · rw [n] at e
      cases e
    · rw [e] at e'
      cases e'
      rcases h with ⟨a, rfl⟩ | ⟨a, h⟩
      · rcases k with ⟨_, e⟩ | ⟨b, _⟩
        · exact e
        · exact absurd b a
      · rcases k with ⟨b, _⟩ | ⟨_, k⟩
        · exact absurd a b
        · exact h.one k
end WS
set_option Elab.async false
set_option linter.all false
set_option maxRecDepth 100000
set_option maxHeartbeats 4000000
set_option Elab.async false
set_option linter.all false
set_option maxRecDepth 100000
set_option maxHeartbeats 4000000
set_option Elab.async false
set_option linter.all false
set_option maxRecDepth 100000
set_option maxHeartbeats 4000000
set_option Elab.async false
set_option linter.all false
set_option maxRecDepth 100000
set_option maxHeartbeats 4000000
namespace WS
open PySem PySem.Spec PyProof.Rows L2
/-! ### joined and weighed, refused (k58) -/
def firstIn (s1 s2 : List Seat) : Option Str := (names s1).find? fun z => decide (z ∈ names s2)
def dNw : PyData := .tuple [.str "NoWeight"]
def dBw (i : Int) (ss : List Seat) (ord : List Nat) : PyData := if beyL i (ss.map Prod.snd) ord = [] then dTo i ss else dBe ((beyL i (ss.map Prod.snd) ord).map fun j : Nat => (j : Int))
def OutW (t : Tg) (ss : List Seat) (D : PyData) : Prop := (wOk t = false ∧ D = dNw) ∨ ∃ i ord, t = .int i ∧ 1 ≤ i ∧ RankedP (ss.map Prod.snd) ord ∧ D = dBw i ss ord
theorem OutW.one {t : Tg} {ss : List Seat} {D E : PyData} (h : OutW t ss D) (k : OutW t ss E) : E = D := by
  rcases h with ⟨w, rfl⟩ | ⟨i, o, e, i1, r, rfl⟩
  · rcases k with ⟨_, e⟩ | ⟨i', o', e', i1', _⟩
    · exact e
    · rw [e'] at w
      have : wOk (.int i') = true := decide_eq_true i1'
      rw [w] at this
      cases this
  · rcases k with ⟨w, _⟩ | ⟨i', o', e', i1', r', e''⟩
    · rw [e] at w
      have : wOk (.int i) = true := decide_eq_true i1
      rw [w] at this
      cases this
    · rw [e] at e'
      cases e'
      rw [e'', rankedP_one r' r]
end WS
set_option Elab.async false
set_option linter.all false
set_option maxRecDepth 100000
set_option maxHeartbeats 4000000
namespace WS
open PySem PySem.Spec PyProof.Rows L2
/-! ### text * number -/
/-! ### names of things; moments that refuse (k26) -/
instance (z : Str) : Decidable (Nm z) := by
  unfold Nm
  infer_instance
/-- plain signs alone -/
def As (z : Str) : Prop := ∀ c ∈ z.cps.toList, c ≤ 127
theorem As.cs {z : Str} (h : As z) : Cs z := fun c hc => by
  have := h c hc
  have : 127 < 16 ^ 8 := by decide
  omega
theorem As.nm {z : Str} (h : Nm z) : As z := fun c hc => by
  have := (h.2.2 c hc).2
  omega
/-- a thing that is drawn, no text too long -/
def ThS (p : Addr) (K : PySem.W.Frag) (H : Hp) (v : V) : Prop := ∃ t, Th p K H v t ∧ ShT 1000 4 t ∧ ∀ z, t = .str z → z.length ≤ 60 ∧ As z
theorem ThS.sx {p : Addr} {K : PySem.W.Frag} {H H' : Hp} {v : V} (h : ThS p K H v) (s : SameX p H H') (hp : PotAt H p) : ThS p K H' v := by
  obtain ⟨t, a, b⟩ := h
  exact ⟨t, a.sx s hp, b⟩
theorem ThS.sm {p : Addr} {K : PySem.W.Frag} {H H' : Hp} {v : V} (h : ThS p K H v) (s : Same H H') : ThS p K H' v := by
  obtain ⟨t, a, b⟩ := h
  exact ⟨t, a.sm s, b⟩
end WS
set_option Elab.async false
set_option linter.all false
set_option maxRecDepth 100000
set_option maxHeartbeats 4000000
set_option Elab.async false
set_option linter.all false
set_option maxRecDepth 100000
set_option maxHeartbeats 4000000
set_option Elab.async false
set_option linter.all false
set_option maxRecDepth 100000
set_option maxHeartbeats 4000000
set_option Elab.async false
set_option linter.all false
set_option maxRecDepth 100000
set_option maxHeartbeats 4000000
namespace WS
open PySem PySem.Spec PyProof.Rows L2
/-- what is told of a moment -/
def toldP (ss : List Seat) : PyData := .list [.tuple ((ss.map Prod.snd).map pdP), .list ((names ss).map PyData.str), .list ((frees ss).map fun j : Nat => PyData.int j), pdP ((kittyL ss).foldl pl (0, 1))]
/-- the list itself, its second and third being lists -/
def TAt (K : PySem.W.Frag) (H : Hp) (L M N : Addr) (ss : List Seat) : Prop := ∃ x y : V, H L = some (.lst [x, .ref M, .ref N, y]) ∧ Dp K H x (.tuple ((ss.map Prod.snd).map pdP)) ∧ H M = some (.lst ((names ss).map V.str)) ∧ H N = some (.lst ((frees ss).map fun j : Nat => V.int j)) ∧ Dp K H y (pdP ((kittyL ss).foldl pl (0, 1)))
theorem TAt.sm {K : PySem.W.Frag} {H H' : Hp} {L M N : Addr} {ss : List Seat} (h : TAt K H L M N ss) (s : Same H H') : TAt K H' L M N ss := by
  obtain ⟨x, y, a, b, c, d, e⟩ := h
  exact ⟨x, y, s _ _ a, b.sm s, s _ _ c, s _ _ d, e.sm s⟩
theorem TAt.dp {K : PySem.W.Frag} {H : Hp} {L M N : Addr} {ss : List Seat} (h : TAt K H L M N ss) : Dp K H (.ref L) (toldP ss) := by
  obtain ⟨x, y, a, b, c, d, e⟩ := h
  exact .lst (.inl (.inl a)) (.cons b (.cons (.lst (.inl (.inl c)) (dpall_strs _)) (.cons (.lst (.inl (.inl d)) (dpall_nats _)) (.cons e .nil))))
end WS
set_option Elab.async false
set_option linter.all false
set_option maxRecDepth 100000
set_option maxHeartbeats 4000000
set_option Elab.async false
set_option linter.all false
set_option maxRecDepth 100000
set_option maxHeartbeats 4000000
namespace WS
open PySem PySem.Spec PyProof.Rows L2
/-! ### rows whose denominators divide one number -/
/-- p is at most N from nought, and its denominator divides D -/
def OkV (D : Int) (N : Nat) (p : Int × Int) : Prop := 0 < p.2 ∧ p.2 ∣ D ∧ p.1.natAbs ≤ N * p.2.natAbs
theorem OkV.mono {D : Int} {N M : Nat} {p : Int × Int} (h : OkV D N p) (k : N ≤ M) : OkV D M p := ⟨h.1, h.2.1, Nat.le_trans h.2.2 (Nat.mul_le_mul_right _ k)⟩
theorem OkV.lo {D : Int} {N : Nat} {a b : Int} (hD : 0 < D) (hb : 0 < b) (hd : ∃ z, a * D = z * b) (hv : a.natAbs ≤ N * b.natAbs) : OkV D N (lo a b) := by
  have low := lo_lowest (a := a) hb
  have g : 0 < Int.gcd a b := gcd_pos (by omega)
  have e1 := lo_fst a b
  have e2 := lo_snd a b
  refine ⟨low.1, ?_, ?_⟩
  · obtain ⟨z, hz⟩ := hd
    have c := lo_cross a b
    have e : (WS.lo a b).1 * D = z * (WS.lo a b).2 := by
      have h1 : (WS.lo a b).1 * D * b = z * (WS.lo a b).2 * b := by
        calc (WS.lo a b).1 * D * b = (WS.lo a b).1 * b * D := by grind
          _ = a * (WS.lo a b).2 * D := by rw [c]
          _ = a * D * (WS.lo a b).2 := by grind
          _ = z * b * (WS.lo a b).2 := by rw [hz]
          _ = z * (WS.lo a b).2 * b := by grind
      exact Int.eq_of_mul_eq_mul_right (by omega) h1
    exact dvd_cop low.2 (by rw [e]; exact Int.dvd_mul_left _ _)
  · have n1 : (WS.lo a b).1.natAbs * Int.gcd a b = a.natAbs := by
      have := congrArg Int.natAbs e1
      rwa [Int.natAbs_mul, Int.natAbs_natCast] at this
    have n2 : (WS.lo a b).2.natAbs * Int.gcd a b = b.natAbs := by
      have := congrArg Int.natAbs e2
      rwa [Int.natAbs_mul, Int.natAbs_natCast] at this
    rw [← n1, ← n2] at hv
    refine Nat.le_of_mul_le_mul_right (c := Int.gcd a b) ?_ g
    rw [Nat.mul_assoc]
    exact hv
theorem OkV.pl {D : Int} {N M : Nat} {p q : Int × Int} (hD : 0 < D) (h : OkV D N p) (k : OkV D M q) : OkV D (N + M) (pl p q) := by
  obtain ⟨h1, ⟨m, hm⟩, h3⟩ := h
  obtain ⟨k1, ⟨n, hn⟩, k3⟩ := k
  refine OkV.lo hD (Int.mul_pos h1 k1) ⟨p.1 * m + q.1 * n, ?_⟩ ?_
  · calc (p.1 * q.2 + q.1 * p.2) * D = p.1 * q.2 * D + q.1 * p.2 * D := by grind
      _ = p.1 * q.2 * (p.2 * m) + q.1 * p.2 * (q.2 * n) := by rw [← hm, ← hn]
      _ = (p.1 * m + q.1 * n) * (p.2 * q.2) := by grind
  · have a1 : (p.1 * q.2).natAbs ≤ N * (p.2 * q.2).natAbs := by
      rw [Int.natAbs_mul, Int.natAbs_mul, ← Nat.mul_assoc]
      exact Nat.mul_le_mul_right _ h3
    have a2 : (q.1 * p.2).natAbs ≤ M * (p.2 * q.2).natAbs := by
      rw [Int.natAbs_mul, Int.natAbs_mul, Nat.mul_comm p.2.natAbs, ← Nat.mul_assoc]
      exact Nat.mul_le_mul_right _ k3
    have := Int.natAbs_add_le (p.1 * q.2) (q.1 * p.2)
    rw [Nat.add_mul]
    omega
theorem OkV.nought (D : Int) : OkV D 0 (0, 1) := ⟨by decide, Int.one_dvd D, by decide⟩
theorem OkV.fold {D : Int} {M : Nat} (hD : 0 < D) : ∀ (ps : List (Int × Int)) (s : Int × Int) (N : Nat), OkV D N s → (∀ q ∈ ps, OkV D M q) → OkV D (N + ps.length * M) (ps.foldl WS.pl s)
  | [], s, N, h, _ => by simpa using h
  | p :: ps, s, N, h, hp => by
    have h1 := h.pl hD (hp p List.mem_cons_self)
    have := OkV.fold hD ps _ _ h1 fun q hq => hp q (List.mem_cons_of_mem _ hq)
    rw [List.foldl_cons, List.length_cons, Nat.add_mul, Nat.one_mul]
    exact this.mono (by omega)
theorem OkV.okp {D : Int} {N d n m : Nat} {p : Int × Int} (h : OkV D N p) (hD : 0 < D) (bD : Bt d D) (bN : N < 2 ^ n) (hm : n + d ≤ m) : Okp m p := by
  obtain ⟨h1, h2, h3⟩ := h
  have le : p.2.natAbs ≤ D.natAbs := by
    have := Int.le_of_dvd hD h2
    omega
  have b2 : Bt d p.2 := Nat.lt_of_le_of_lt le bD
  refine ⟨h1, ?_, b2.mono (by omega)⟩
  have : p.1.natAbs < 2 ^ (n + d) := by
    rw [Nat.pow_add]
    exact Nat.lt_of_le_of_lt h3 (Nat.mul_lt_mul_of_lt_of_le bN (Nat.le_of_lt b2) (Nat.two_pow_pos d))
  exact (show Bt (n + d) p.1 from this).mono hm
/-- a row whose sums stay small -/
structure SaneRow (ps : List (Int × Int)) : Prop where
  l : ps.length ≤ 100
  ok : ∀ q ∈ ps, Okp 4400 q
  sum : ∀ is : List Nat, is.length ≤ ps.length → (∀ i ∈ is, i < ps.length) → Okp 4400 ((is.map (gp ps)).foldl pl (0, 1))
  pre : ∀ i, Okp 4400 ((ps.take i).foldl pl (0, 1))
theorem SaneRow.of {D : Int} {N d n : Nat} {ps : List (Int × Int)} (hl : ps.length ≤ 100) (hD : 0 < D) (bD : Bt d D) (h : ∀ q ∈ ps, OkV D N q) (bN : ps.length * N < 2 ^ n) (bM : N < 2 ^ n) (hn : n + d ≤ 4400) : SaneRow ps := by
  have sm : ∀ qs : List (Int × Int), qs.length ≤ ps.length → (∀ q ∈ qs, OkV D N q) → Okp 4400 (qs.foldl pl (0, 1)) := fun qs ql hq => by
    refine (OkV.fold hD qs (0, 1) 0 (OkV.nought D) hq).okp hD bD ?_ hn
    have := Nat.mul_le_mul_right N ql
    omega
  refine ⟨hl, fun q hq => (h q hq).okp hD bD bM hn, fun is il hi => sm _ (by rw [List.length_map]; exact il) fun q hq => ?_, fun i => sm _ (by rw [List.length_take]; exact Nat.min_le_right _ _) fun q hq => h q (List.mem_of_mem_take hq)⟩
  obtain ⟨j, hj, rfl⟩ := List.mem_map.mp hq
  exact h _ (gp_mem (hi j hj))
def RowS (K : PySem.W.Frag) (H : Hp) (l : Addr) (ps : List (Int × Int)) : Prop := ∃ rs : List V, SqT K H l rs ∧ Parts K H rs ps ∧ SaneRow ps
theorem RowS.k {K : PySem.W.Frag} {H H' : Hp} {l : Addr} {ps : List (Int × Int)} (h : RowS K H l ps) (s : KT H H') : RowS K H' l ps := by
  obtain ⟨rs, a, b, c⟩ := h
  exact ⟨rs, s.sqt a, b.k s, c⟩
/-- a moment of up to 100 seats whose row is sane -/
structure MOkS (W : Int) (ss : List Seat) : Prop where
  w : 1 ≤ W
  b : Bt 1500 W
  nd : (names ss).Nodup
  nm : ∀ s ∈ ss, Nm0 s.1
  low : ∀ s ∈ ss, Lowest s.2.1 s.2.2
  s : SaneRow (ss.map Prod.snd)
  g : Good W ss
end WS
set_option Elab.async false
set_option linter.all false
set_option maxRecDepth 100000
set_option maxHeartbeats 4000000
set_option Elab.async false
set_option linter.all false
set_option maxRecDepth 100000
set_option maxHeartbeats 4000000
namespace WS
open PySem PySem.Spec PyProof.Rows L2
/-- moments that grow by coming and going: n seats, denominators dividing D -/
structure K23 (D : Int) (n : Nat) (W : Int) (ss : List Seat) : Prop where
  l : ss.length ≤ n
  w : 1 ≤ W
  b : Bt 110 W
  nd : (names ss).Nodup
  nm : ∀ s ∈ ss, Nm0 s.1
  ok : ∀ s ∈ ss, Lowest s.2.1 s.2.2 ∧ Okq 190 90 s.2 ∧ s.2.2 ∣ D
  g : Good W ss
  d0 : 0 < D
  db : Bt 900 D
theorem nought23 (D : Int) : Lowest ((0, 1) : Int × Int).1 ((0, 1) : Int × Int).2 ∧ Okq 190 90 ((0, 1) : Int × Int) ∧ ((0, 1) : Int × Int).2 ∣ D :=
  ⟨⟨by decide, by decide⟩, ⟨by decide, by unfold Bt; decide +kernel, by unfold Bt; decide +kernel⟩, Int.one_dvd D⟩
theorem K23.gs {D : Int} {n : Nat} {W : Int} {ss : List Seat} (h : K23 D n W ss) (i : Nat) : Lowest (gs ss i).2.1 (gs ss i).2.2 ∧ Okq 190 90 (gs ss i).2 ∧ (gs ss i).2.2 ∣ D := by
  by_cases c : i < ss.length
  · exact h.ok _ (gs_mem c)
  · have : WS.gs ss i = (("", (0, 1)) : Seat) := by
      unfold WS.gs
      rw [List.getD_eq_getElem?_getD, List.getElem?_eq_none (by omega)]
      rfl
    rw [this]
    exact nought23 D
theorem K23.come {D : Int} {n : Nat} {W : Int} {ss : List Seat} {z : Str} (h : K23 D n W ss) (hz : Nm z) (hn : z ∉ names ss) : K23 D (n + 1) W (put ss (room ss) z) := by
  have hr := room_le ss
  have h12 := h.l
  refine ⟨?_, h.w, h.b, nd_come h.nd hz hn, fun s hs => ?_, fun s hs => ?_, ?_, h.d0, h.db⟩
  · rw [put_len ss _ z hr]
    split <;> omega
  · rcases put_mem hs with hs | rfl
    · exact h.nm s hs
    · exact .inr hz
  · rcases put_mem hs with hs | rfl
    · exact h.ok s hs
    · exact h.gs _
  · by_cases c : room ss < ss.length
    · exact h.g.put c
    · have e : room ss = ss.length := by omega
      rw [e, put_end]
      exact good_zeros (by have := h.w; omega) h.g [z]
theorem K23.leave {D : Int} {n : Nat} {W : Int} {ss : List Seat} {i : Nat} (h : K23 D n W ss) (hi : i < ss.length) : K23 D n W (put ss i "") := by
  refine ⟨?_, h.w, h.b, nd_leave h.nd hi, fun s hs => ?_, fun s hs => ?_, h.g.put hi, h.d0, h.db⟩
  · rw [put_len ss _ _ (by omega), if_pos hi]
    exact h.l
  · rcases put_mem hs with hs | rfl
    · exact h.nm s hs
    · exact .inl rfl
  · rcases put_mem hs with hs | rfl
    · exact h.ok s hs
    · exact h.gs _
theorem K23.up {D : Int} {n m : Nat} {W : Int} {ss : List Seat} (h : K23 D n W ss) (k : n ≤ m) : K23 D m W ss := ⟨Nat.le_trans h.l k, h.w, h.b, h.nd, h.nm, h.ok, h.g, h.d0, h.db⟩
theorem K23.m {D : Int} {n : Nat} {W : Int} {ss : List Seat} (h : K23 D n W ss) (hn : n ≤ 60) : MOkS W ss := by
  have l := h.l
  refine ⟨h.w, h.b.mono (by decide), h.nd, h.nm, fun s hs => (h.ok s hs).1, SaneRow.of (D := D) (N := 2 ^ 190) (d := 900) (n := 200) (by rw [List.length_map]; omega) h.d0 h.db (fun q hq => ?_) ?_ (by decide +kernel) (by decide), h.g⟩
  · obtain ⟨s, hs, rfl⟩ := List.mem_map.mp hq
    obtain ⟨_, o, d⟩ := h.ok s hs
    refine ⟨o.1, d, ?_⟩
    have h1 : s.2.1.natAbs < 2 ^ 190 := o.2.1
    have h2 : 1 ≤ s.2.2.natAbs := by have := o.1; omega
    exact Nat.le_trans (Nat.le_of_lt h1) (Nat.le_mul_of_pos_right _ h2)
  · rw [List.length_map]
    exact Nat.lt_of_le_of_lt (Nat.mul_le_mul_right _ (show ss.length ≤ 60 by omega)) (by decide +kernel)
/-- what a refusal comes to: by a name, taken, by a person -/
inductive Wd | name | taken (z : Str) | person
def Wd.d : Wd → PyData
  | .name => .str "name"
  | .taken z => .tuple [.str "taken", .str z]
  | .person => .str "person"
/-- the exception that says so -/
def Wd.is (cN cT cP : Addr) : Wd → (Value → Option Addr → Hp → Prop)
  | .name => fun c d _ => c = .ref cN ∧ d = none
  | .taken z => fun c d H => c = .ref cT ∧ ∃ a, d = some a ∧ H a = some (.xd [("person", .str z)])
  | .person => fun c d _ => c = .ref cP ∧ d = none
end WS
set_option Elab.async false
set_option linter.all false
set_option maxRecDepth 100000
set_option maxHeartbeats 4000000
namespace WS
open PySem PySem.Spec PyProof.Rows L2
/-- the place chosen among the first j seats -/
def rmJ (ss : List Seat) (j : Nat) : Nat := ((List.range j).filter fun i => decide ((gs ss i).1 = "")).foldl (near ss) ss.length
def DueAtS (K : PySem.W.Frag) (H : Hp) (ss : List Seat) (j : Nat) (y : V) : Prop := (rmJ ss j = ss.length ∧ y = .non) ∨ (rmJ ss j < ss.length ∧ ∃ a n, y = .ref a ∧ SqT K H a [n, .int ((rmJ ss j : Nat) : Int)] ∧ TupI K H n (ab (gs ss (rmJ ss j)).2).1 (ab (gs ss (rmJ ss j)).2).2)
theorem DueAtS.sm {K : PySem.W.Frag} {H H' : Hp} {ss : List Seat} {j : Nat} {y : V} (h : DueAtS K H ss j y) (s : Same H H') : DueAtS K H' ss j y := by
  rcases h with h | ⟨h, a, n, e, x, t⟩
  · exact .inl h
  · exact .inr ⟨h, a, n, e, Same.tup s x, t.same s⟩
end WS
set_option Elab.async false
set_option linter.all false
set_option maxRecDepth 100000
set_option maxHeartbeats 4000000
set_option Elab.async false
set_option linter.all false
set_option maxRecDepth 100000
set_option maxHeartbeats 4000000
set_option Elab.async false
set_option linter.all false
set_option maxRecDepth 100000
set_option maxHeartbeats 4000000
namespace WS
open PySem PySem.Spec PyProof.Rows L2
/-! ### rows of up to 26 seats, as the laws draw them -/
theorem okV_of {D : Int} {N : Nat} {a b : Int} (hD : 0 < D) (hb : 0 < b) (hd : b ∣ D) (ha : a.natAbs ≤ N) : OkV D N (lo a b) := by
  refine OkV.lo hD hb ?_ ?_
  · obtain ⟨k, hk⟩ := hd
    exact ⟨a * k, by rw [hk]; grind⟩
  · exact Nat.le_trans ha (Nat.le_mul_of_pos_right _ (by omega))
theorem OkV.ok2 {d : Int} {q : Int × Int} (h : OkV d (2 ^ 102) q) (d0 : 0 < d) (db : Bt 12 d) : Ok2 115 12 q := by
  refine ⟨h.1, (h.okp d0 db (n := 103) (by decide +kernel) (Nat.le_refl 115)).2.1, ?_⟩
  have le : q.2.natAbs ≤ d.natAbs := by
    have := Int.le_of_dvd d0 h.2.1
    have := h.1
    omega
  exact Nat.lt_of_le_of_lt le db
end WS
set_option Elab.async false
set_option linter.all false
set_option maxRecDepth 100000
set_option maxHeartbeats 4000000
set_option Elab.async false
set_option linter.all false
set_option maxRecDepth 100000
set_option maxHeartbeats 4000000
set_option Elab.async false
set_option linter.all false
set_option maxRecDepth 100000
set_option maxHeartbeats 4000000
namespace WS
open PySem PySem.Spec PyProof.Rows L2
/-! ### min of three whole numbers -/
/-- what stays in the loop: guests, places, seats -/
structure GI (tt : List Seat) (gl : List Str) (pl : List Nat) (qq : List Seat) : Prop where
  sn : qq.map Prod.snd = tt.map Prod.snd
  nd : (gl ++ names qq).Nodup
  gn : ∀ z ∈ gl, Nm z
  nm : ∀ s ∈ qq, Nm0 s.1
  pn : pl.Nodup
  po : ∀ i ∈ pl, i < qq.length ∧ (gs qq i).1 ≠ ""
theorem GI.step {tt qq : List Seat} {gl : List Str} {pl : List Nat} {x y : Nat} {g : Str} {i : Nat} (h : GI tt gl pl qq) (hg : gl[x]? = some g) (hi : pl[y]? = some i) : GI tt (gl.eraseIdx x) (pl.eraseIdx y) (put qq i g) := by
  obtain ⟨hx, ex⟩ := List.getElem?_eq_some_iff.mp hg
  obtain ⟨hy, ey⟩ := List.getElem?_eq_some_iff.mp hi
  have gm : g ∈ gl := List.mem_of_getElem? hg
  have im : i ∈ pl := List.mem_of_getElem? hi
  obtain ⟨hil, hio⟩ := h.po i im
  have gne := nm_ne (h.gn g gm)
  have pg : (g :: gl.eraseIdx x).Perm gl := by
    have := cons_erase hx
    rwa [ex] at this
  have pp : (i :: pl.eraseIdx y).Perm pl := by
    have := cons_erase hy
    rwa [ey] at this
  have sub := List.eraseIdx_sublist gl x
  have subp := List.eraseIdx_sublist pl y
  have pn := pp.nodup_iff.mpr h.pn
  refine ⟨?_, ?_, fun z hz => h.gn z (sub.subset hz), fun s hs => ?_, (List.nodup_cons.mp pn).2, fun k hk => ?_⟩
  · rw [put_set hil, List.map_set, ← h.sn]
    refine List.ext_getElem? fun k => ?_
    rw [List.getElem?_set]
    by_cases c : i = k
    · subst c
      rw [if_pos rfl, if_pos (by rw [List.length_map]; exact hil), List.getElem?_map, at_gs hil]
      rfl
    · rw [if_neg c]
  · have n1 := h.nd
    rw [names_split qq i hil] at n1
    have n2 : (gl.eraseIdx x ++ names (put qq i g)).Perm (g :: gl.eraseIdx x ++ (names (qq.take i) ++ names (qq.drop (i + 1)))) := by
      rw [names_put, if_neg gne, List.append_assoc, List.singleton_append]
      refine (List.Perm.append_left _ List.perm_middle).trans ?_
      exact List.perm_middle
    refine n2.nodup_iff.mpr ?_
    have n3 : (g :: gl.eraseIdx x ++ (names (qq.take i) ++ names (qq.drop (i + 1)))).Perm (gl ++ (names (qq.take i) ++ names (qq.drop (i + 1)))) := List.Perm.append_right _ pg
    refine n3.nodup_iff.mpr (n1.sublist ?_)
    refine List.Sublist.append_left ?_ _
    rw [List.append_assoc]
    exact List.Sublist.append_left (List.sublist_append_right _ _) _
  · rcases put_mem hs with hs | rfl
    · exact h.nm s hs
    · exact .inr (h.gn g gm)
  · obtain ⟨kl, ko⟩ := h.po k (subp.subset hk)
    refine ⟨by rw [put_len qq i g (by omega), if_pos hil]; exact kl, ?_⟩
    have : k ≠ i := fun z => (List.nodup_cons.mp pn).1 (z ▸ hk)
    rw [gs_put hil, if_neg this]
    exact ko
end WS
set_option Elab.async false
set_option linter.all false
set_option maxRecDepth 100000
set_option maxHeartbeats 4000000
namespace WS
open PySem PySem.Spec PyProof.Rows L2
/-- k51's moments -/
structure M51 (W : Int) (ss : List Seat) : Prop where
  l : ss.length ≤ 26
  w : 1 ≤ W
  b : Bt 112 W
  nd : (names ss).Nodup
  nm : ∀ s ∈ ss, Nm0 s.1
  ok : ∃ d : Int, 0 < d ∧ Bt 12 d ∧ ∀ s ∈ ss, Lowest s.2.1 s.2.2 ∧ Okq 190 90 s.2 ∧ s.2.2 ∣ d
  g : Good W ss
theorem M51.of {D W : Int} {ss : List Seat} (k : K23 D 26 W ss) (db : Bt 12 D) : M51 W ss := ⟨k.l, k.w, k.b.mono (by decide), k.nd, k.nm, ⟨D, k.d0, db, k.ok⟩, k.g⟩
theorem M51.up {W W' : Int} {ss : List Seat} (h : M51 W ss) (k : W ≤ W') (b : Bt 112 W') : M51 W' ss := ⟨h.l, by have := h.w; omega, b, h.nd, h.nm, h.ok, h.g.up k⟩
theorem M51.join {W : Int} {ss tt : List Seat} (h : M51 W ss) (k : M51 W tt) (no : firstIn ss tt = none) : MOkS W (ss ++ tt) := by
  obtain ⟨d, d0, db, dd⟩ := h.ok
  obtain ⟨e, e0, eb, de⟩ := k.ok
  have hl := h.l
  have kl := k.l
  refine ⟨h.w, h.b.mono (by decide), ?_, fun s hs => ?_, fun s hs => ?_, SaneRow.of (D := d * e) (N := 2 ^ 190) (d := 24) (n := 200) (by rw [List.length_map, List.length_append]; omega) (Int.mul_pos d0 e0) (db.mul eb) (fun q hq => ?_) ?_ (by decide +kernel) (by decide), good_app (by have := h.w; omega) h.g k.g⟩
  · rw [names_app, List.nodup_append]
    refine ⟨h.nd, k.nd, fun a ha b hb e => ?_⟩
    have := List.find?_eq_none.mp no a ha
    rw [e] at this
    simp [hb] at this
  · rcases List.mem_append.mp hs with z | z
    · exact h.nm s z
    · exact k.nm s z
  · rcases List.mem_append.mp hs with z | z
    · exact (dd s z).1
    · exact (de s z).1
  · obtain ⟨s, hs, rfl⟩ := List.mem_map.mp hq
    have fin : Okq 190 90 s.2 → s.2.2 ∣ d * e → OkV (d * e) (2 ^ 190) s.2 := fun o dv => by
      refine ⟨o.1, dv, ?_⟩
      have h1 : s.2.1.natAbs < 2 ^ 190 := o.2.1
      have h2 : 1 ≤ s.2.2.natAbs := by have := o.1; omega
      exact Nat.le_trans (Nat.le_of_lt h1) (Nat.le_mul_of_pos_right _ h2)
    rcases List.mem_append.mp hs with z | z
    · exact fin (dd s z).2.1 (Int.dvd_trans (dd s z).2.2 (Int.dvd_mul_right _ _))
    · exact fin (de s z).2.1 (Int.dvd_trans (de s z).2.2 (Int.dvd_mul_left _ _))
  · rw [List.length_map, List.length_append]
    exact Nat.lt_of_le_of_lt (Nat.mul_le_mul_right _ (show ss.length + tt.length ≤ 60 by omega)) (by decide +kernel)
end WS
set_option Elab.async false
set_option linter.all false
set_option maxRecDepth 100000
set_option maxHeartbeats 4000000
namespace WS
open PySem PySem.Spec PyProof.Rows L2
/-! ### parting moments of up to 100 seats -/
def SaneM (ss : List Seat) : Prop := ∃ D : Int, 0 < D ∧ Bt 2000 D ∧ ∀ s ∈ ss, OkV D (2 ^ 190) s.2
theorem SaneM.row {ss tt : List Seat} (h : SaneM ss) (hs : ∀ s ∈ tt, s ∈ ss) (hl : tt.length ≤ 100) : SaneRow (tt.map Prod.snd) := by
  obtain ⟨D, d0, db, ok⟩ := h
  refine SaneRow.of (D := D) (N := 2 ^ 190) (d := 2000) (n := 200) (by rw [List.length_map]; exact hl) d0 db (fun q hq => ?_) ?_ (by decide +kernel) (by decide)
  · obtain ⟨s, hs', rfl⟩ := List.mem_map.mp hq
    exact ok s (hs s hs')
  · rw [List.length_map]
    exact Nat.lt_of_le_of_lt (Nat.mul_le_mul_right _ hl) (by decide +kernel)
end WS
set_option Elab.async false
set_option linter.all false
set_option maxRecDepth 100000
set_option maxHeartbeats 4000000
set_option Elab.async false
set_option linter.all false
set_option maxRecDepth 100000
set_option maxHeartbeats 4000000
namespace WS
open PySem PySem.Spec PyProof.Rows L2
/-! ### parted, as the law asks it -/
/-- a moment of up to 40 seats, whatever they owe together -/
structure M53 (W : Int) (ss : List Seat) : Prop where
  l : ss.length ≤ 40
  w : 1 ≤ W
  b : Bt 112 W
  nd : (names ss).Nodup
  nm : ∀ s ∈ ss, Nm0 s.1
  ok : ∃ d : Int, 0 < d ∧ Bt 24 d ∧ ∀ s ∈ ss, Lowest s.2.1 s.2.2 ∧ Okq 190 90 s.2 ∧ s.2.2 ∣ d
theorem okv_okq {d : Int} {q : Int × Int} (o : Okq 190 90 q) (dv : q.2 ∣ d) : OkV d (2 ^ 190) q := by
  refine ⟨o.1, dv, ?_⟩
  have h1 : q.1.natAbs < 2 ^ 190 := o.2.1
  have h2 : 1 ≤ q.2.natAbs := by have := o.1; omega
  exact Nat.le_trans (Nat.le_of_lt h1) (Nat.le_mul_of_pos_right _ h2)
theorem M53.sane {W : Int} {ss : List Seat} (h : M53 W ss) : SaneM ss := by
  obtain ⟨d, d0, db, dd⟩ := h.ok
  exact ⟨d, d0, db.mono (by decide), fun s hs => okv_okq (dd s hs).2.1 (dd s hs).2.2⟩
theorem map_gs_range (ss : List Seat) : (List.range ss.length).map (gs ss) = ss := by
  refine List.ext_getElem? fun k => ?_
  by_cases c : k < ss.length
  · rw [List.getElem?_map, List.getElem?_range c, at_gs c]
    rfl
  · rw [List.getElem?_eq_none (by rw [List.length_map, List.length_range]; omega), List.getElem?_eq_none (by omega)]
theorem gs_map {ss : List Seat} {is : List Nat} {k : Nat} (h : k < is.length) : gs (is.map (gs ss)) k = gs ss (is.getD k 0) := by
  unfold gs
  rw [List.getD_eq_getElem?_getD, List.getD_eq_getElem?_getD (l := is), List.getElem?_map, List.getElem?_eq_getElem h]
  rfl
/-- a moment whose seats stand otherwise is as good -/
theorem good_perm {W : Int} {ss tt : List Seat} (p : tt.Perm ss) (g : Good W ss) : Good W tt := by
  have p' : tt.Perm ((List.range ss.length).map (gs ss)) := by rw [map_gs_range]; exact p
  obtain ⟨is, hp, rfl⟩ := perm_of_map p'
  have hl : is.length = ss.length := by rw [hp.length_eq, List.length_range]
  have nd : is.Nodup := hp.nodup_iff.mpr List.nodup_range
  have ow : ∀ k, k < is.length → owF (is.map (gs ss)) k = owF ss (is.getD k 0) := fun k hk => by
    unfold owF
    rw [gs_map hk]
  have lt : ∀ k, k < is.length → is.getD k 0 < ss.length := fun k hk => by
    have : is.getD k 0 ∈ is := by
      rw [List.getD_eq_getElem?_getD, List.getElem?_eq_getElem hk]
      exact List.getElem_mem hk
    exact List.mem_range.mp (hp.mem_iff.mp this)
  have inj : ∀ a b, a < is.length → b < is.length → is.getD a 0 = is.getD b 0 → a = b := fun a b ha hb e => by
    rw [List.getD_eq_getElem?_getD, List.getD_eq_getElem?_getD, List.getElem?_eq_getElem ha, List.getElem?_eq_getElem hb] at e
    exact (List.getElem_inj nd).mp e
  have sm : ∀ S : List Nat, (∀ i ∈ S, i < is.length) → sumF (owF (is.map (gs ss))) S = sumF (owF ss) (S.map fun k => is.getD k 0) := fun S hS => by
    unfold sumF
    rw [List.map_map]
    congr 1
    exact List.map_congr_left fun i hi => ow i (hS i hi)
  refine ⟨fun S hS hn => ?_, ?_⟩
  · rw [List.length_map] at hn
    rw [sm S hn, List.length_map, hl]
    have := g.w (S.map fun k => is.getD k 0) (map_nodup hS fun a ha b hb e => inj a b (hn a ha) (hn b hb) e) (fun i hi => by
      obtain ⟨k, hk, rfl⟩ := List.mem_map.mp hi
      exact lt k (hn k hk))
    rwa [List.length_map] at this
  · rw [List.length_map, sm _ fun i hi => List.mem_range.mp hi, ← g.z]
    refine sumF_perm ?_
    have : (List.range is.length).map (fun k => is.getD k 0) = is := by
      refine List.ext_getElem? fun k => ?_
      by_cases c : k < is.length
      · rw [List.getElem?_map, List.getElem?_range c, List.getElem?_eq_getElem c, Option.map_some, List.getD_eq_getElem?_getD, List.getElem?_eq_getElem c]
        rfl
      · rw [List.getElem?_eq_none (by rw [List.length_map, List.length_range]; omega), List.getElem?_eq_none (by omega)]
    rw [this]
    exact hp
theorem good_nil {W : Int} : Good W [] := by
  refine ⟨fun S hS hn => ?_, rfl⟩
  cases S with
  | nil =>
    show (0 : Rat) ≤ mostR W 0 0
    unfold mostR
    show (0 : Rat) ≤ W * ((0 : Int) : Rat) * (((0 : Int) : Rat) - ((0 : Int) : Rat)) / 2
    grind
  | cons a S => exact absurd (hn a List.mem_cons_self) (Nat.not_lt_zero _)
theorem M53.m {W : Int} {ss : List Seat} (h : M53 W ss) (g : Good W ss) : MOkS W ss := by
  obtain ⟨d, d0, db, dd⟩ := h.ok
  have l := h.l
  exact ⟨h.w, h.b.mono (by decide), h.nd, h.nm, fun s hs => (dd s hs).1, h.sane.row (fun s hs => hs) (by omega), g⟩
/-- what may be parted so -/
structure P53 (W : Int) (ss : List Seat) (is S O : List Nat) : Prop where
  m : M53 W ss
  p : is.Perm S
  eS : S = (List.range ss.length).filter (fun i => decide (i ∈ is))
  lt : ∀ i ∈ is, i < ss.length
  eO : O = (List.range ss.length).filter (fun i => !decide (i ∈ is))
  gS : Good W (S.map (gs ss))
  gO : Good W (O.map (gs ss))
theorem filt_up (n : Nat) (p : Nat → Bool) : ((List.range n).filter p).Pairwise (· < ·) := List.pairwise_lt_range.filter p
theorem P53.sS {W : Int} {ss : List Seat} {is S O : List Nat} (h : P53 W ss is S O) : S.Pairwise (· < ·) := by rw [h.eS]; exact filt_up _ _
theorem P53.nS {W : Int} {ss : List Seat} {is S O : List Nat} (h : P53 W ss is S O) : S.Nodup := h.sS.imp fun h => Nat.ne_of_lt h
theorem P53.ltS {W : Int} {ss : List Seat} {is S O : List Nat} (h : P53 W ss is S O) : ∀ i ∈ S, i < ss.length := fun i hi => h.lt i (h.p.mem_iff.mpr hi)
theorem P53.ltO {W : Int} {ss : List Seat} {is S O : List Nat} (h : P53 W ss is S O) : ∀ i ∈ O, i < ss.length := fun i hi => by
  rw [h.eO] at hi
  exact List.mem_range.mp (List.mem_filter.mp hi).1
theorem sumF_pick (ss : List Seat) (is : List Nat) : sumF (owF (is.map (gs ss))) (List.range (is.map (gs ss)).length) = sumF (owF ss) is := by
  unfold sumF
  congr 1
  refine List.ext_getElem? fun k => ?_
  by_cases c : k < is.length
  · rw [List.getElem?_map, List.getElem?_map, List.getElem?_range (by rw [List.length_map]; exact c), List.getElem?_eq_getElem c, Option.map_some, Option.map_some]
    congr 1
    unfold owF
    rw [gs_map c, List.getD_eq_getElem?_getD, List.getElem?_eq_getElem c]
    rfl
  · rw [List.getElem?_eq_none (by rw [List.length_map, List.length_range, List.length_map]; omega), List.getElem?_eq_none (by rw [List.length_map]; omega)]
theorem P53.z {W : Int} {ss : List Seat} {is S O : List Nat} (h : P53 W ss is S O) : sumF (owF ss) is = 0 := by
  rw [sumF_perm h.p, ← sumF_pick, h.gS.z]
theorem P53.names {W : Int} {ss : List Seat} {is S O : List Nat} (h : P53 W ss is S O) : ∀ z ∈ names (S.map (gs ss)), z ∉ names (O.map (gs ss)) := fun z hz hz' => by
  obtain ⟨z0, s, hs, rfl⟩ := names_mem.mp hz
  obtain ⟨i, hi, rfl⟩ := List.mem_map.mp hs
  obtain ⟨_, t, ht, et⟩ := names_mem.mp hz'
  obtain ⟨k, hk, rfl⟩ := List.mem_map.mp ht
  have h1 := idx_gs h.m.nd (h.ltS i hi) z0
  have h2 := idx_gs h.m.nd (h.ltO k hk) (by rw [et]; exact z0)
  rw [et, h1] at h2
  subst h2
  rw [h.eO] at hk
  have := (List.mem_filter.mp hk).2
  rw [decide_eq_true (h.p.mem_iff.mpr hi)] at this
  cases this
/-- none, or all -/
theorem P53.none {W : Int} {ss : List Seat} (m : M53 W ss) (g : Good W ss) : P53 W ss [] [] (List.range ss.length) := by
  refine ⟨m, .refl _, ?_, fun i hi => (List.not_mem_nil hi).elim, ?_, good_nil, by rw [map_gs_range]; exact g⟩
  · exact (List.filter_eq_nil_iff.mpr fun i _ => by simp).symm
  · exact (List.filter_eq_self.mpr fun i _ => by simp).symm
theorem P53.all {W : Int} {ss : List Seat} {is : List Nat} (m : M53 W ss) (g : Good W ss) (p : is.Perm (List.range ss.length)) : P53 W ss is (List.range ss.length) [] := by
  refine ⟨m, p, ?_, fun i hi => List.mem_range.mp (p.mem_iff.mp hi), ?_, by rw [map_gs_range]; exact g, good_nil⟩
  · exact (List.filter_eq_self.mpr fun i hi => decide_eq_true (p.mem_iff.mpr hi)).symm
  · exact (List.filter_eq_nil_iff.mpr fun i hi => by rw [decide_eq_true (p.mem_iff.mpr hi)]; decide).symm
/-! a small row of whole numbers -/
/-! two moments' seats, marked, in another order -/
def mD (x : Int × Seat) : PyData := .tuple [.int x.1, seatD x.2]
def pickM (ms : List (Int × Seat)) (m : Int) : List Nat := (List.range ms.length).filter fun k => decide ((ms.getD k (0, ("", (0, 1)))).1 = m)
theorem pickM_map (ms : List (Int × Seat)) (m : Int) : (pickM ms m).map (gs (ms.map Prod.snd)) = (ms.filter fun x => decide (x.1 = m)).map Prod.snd := by
  have e : (List.range ms.length).map (fun k => ms.getD k (0, ("", (0, 1)))) = ms := by
    refine List.ext_getElem? fun k => ?_
    by_cases c : k < ms.length
    · rw [List.getElem?_map, List.getElem?_range c, List.getElem?_eq_getElem c, Option.map_some, List.getD_eq_getElem?_getD, List.getElem?_eq_getElem c]
      rfl
    · rw [List.getElem?_eq_none (by rw [List.length_map, List.length_range]; omega), List.getElem?_eq_none (by omega)]
  have e2 : (ms.filter fun x => decide (x.1 = m)) = (pickM ms m).map (fun k => ms.getD k (0, ("", (0, 1)))) := by
    conv => lhs; rw [← e]
    rw [List.filter_map]
    rfl
  rw [e2, List.map_map]
  refine List.map_congr_left fun k hk => ?_
  have hl : k < ms.length := List.mem_range.mp (List.mem_filter.mp hk).1
  unfold gs
  rw [List.getD_eq_getElem?_getD, List.getElem?_map, List.getElem?_eq_getElem hl]
  show _ = (ms.getD k _).2
  rw [List.getD_eq_getElem?_getD, List.getElem?_eq_getElem hl]
  rfl
structure Two53 (W : Int) (ss tt : List Seat) (ms : List (Int × Seat)) : Prop where
  p : ms.Perm (ss.map (fun s => ((0 : Int), s)) ++ tt.map fun s => ((1 : Int), s))
  m : M53 W (ms.map Prod.snd)
  g0 : Good W ss
  g1 : Good W tt
  w0 : 0 ≤ W
theorem Two53.good {W : Int} {ss tt : List Seat} {ms : List (Int × Seat)} (h : Two53 W ss tt ms) (m : Int) (hm : m = 0 ∨ m = 1) : Good W ((pickM ms m).map (gs (ms.map Prod.snd))) := by
  rw [pickM_map]
  have hp : (ms.filter fun x => decide (x.1 = m)).Perm ((ss.map (fun s => ((0 : Int), s)) ++ tt.map fun s => ((1 : Int), s)).filter fun x => decide (x.1 = m)) := h.p.filter _
  have hp2 := hp.map Prod.snd
  have all : ∀ (n : Int) (qs : List Seat), ((qs.map fun s => (n, s)).filter fun x => decide (x.1 = n)) = qs.map fun s => (n, s) := fun n qs => List.filter_eq_self.mpr fun x hx => by
    obtain ⟨s, _, rfl⟩ := List.mem_map.mp hx
    exact decide_eq_true rfl
  have non : ∀ (n k : Int) (qs : List Seat), n ≠ k → ((qs.map fun s => (n, s)).filter fun x => decide (x.1 = k)) = [] := fun n k qs ne => List.filter_eq_nil_iff.mpr fun x hx => by
    obtain ⟨s, _, rfl⟩ := List.mem_map.mp hx
    simpa using ne
  have back : ∀ (n : Int) (qs : List Seat), (qs.map fun s => (n, s)).map Prod.snd = qs := fun n qs => by
    rw [List.map_map]
    exact List.map_id _
  rw [List.filter_append] at hp2
  rcases hm with rfl | rfl
  · rw [all 0 ss, non 1 0 tt (by decide), List.append_nil, back] at hp2
    exact good_perm hp2 h.g0
  · rw [all 1 tt, non 0 1 ss (by decide), List.nil_append, back] at hp2
    exact good_perm hp2 h.g1
theorem Two53.two {W : Int} {ss tt : List Seat} {ms : List (Int × Seat)} (h : Two53 W ss tt ms) : ∀ k, k < ms.length → (ms.getD k (0, ("", (0, 1)))).1 = 0 ∨ (ms.getD k (0, ("", (0, 1)))).1 = 1 := fun k hk => by
  have : ms.getD k (0, ("", (0, 1))) ∈ ms := by
    rw [List.getD_eq_getElem?_getD, List.getElem?_eq_getElem hk]
    exact List.getElem_mem hk
  rcases List.mem_append.mp (h.p.mem_iff.mp this) with z | z
  · obtain ⟨s, _, e⟩ := List.mem_map.mp z
    rw [← e]
    exact .inl rfl
  · obtain ⟨s, _, e⟩ := List.mem_map.mp z
    rw [← e]
    exact .inr rfl
theorem Two53.all {W : Int} {ss tt : List Seat} {ms : List (Int × Seat)} (h : Two53 W ss tt ms) : Good W (ms.map Prod.snd) := by
  refine good_perm (h.p.map Prod.snd) ?_
  rw [List.map_append, List.map_map, List.map_map]
  rw [show (Prod.snd ∘ fun s : Seat => ((0 : Int), s)) = id from rfl, show (Prod.snd ∘ fun s : Seat => ((1 : Int), s)) = id from rfl, List.map_id, List.map_id]
  exact good_app h.w0 h.g0 h.g1
theorem Two53.part {W : Int} {ss tt : List Seat} {ms : List (Int × Seat)} (h : Two53 W ss tt ms) {m : Int} (hm : m = 0 ∨ m = 1) {is : List Nat} (p : is.Perm (pickM ms m)) : P53 W (ms.map Prod.snd) is (pickM ms m) (pickM ms (1 - m)) := by
  have ll : (ms.map Prod.snd).length = ms.length := List.length_map _
  refine ⟨h.m, p, ?_, fun i hi => by rw [ll]; exact List.mem_range.mp (List.mem_filter.mp (p.mem_iff.mp hi)).1, ?_, h.good m hm, h.good (1 - m) (by omega)⟩
  · rw [ll]
    refine List.filter_congr fun i hi => decide_eq_decide.mpr ?_
    rw [p.mem_iff]
    unfold pickM
    rw [List.mem_filter, decide_eq_true_eq]
    exact ⟨fun z => ⟨hi, z⟩, fun z => z.2⟩
  · rw [ll]
    refine List.filter_congr fun i hi => ?_
    have two := h.two i (List.mem_range.mp hi)
    have : (i ∈ is) ↔ (ms.getD i (0, ("", (0, 1)))).1 = m := by
      rw [p.mem_iff]
      unfold pickM
      rw [List.mem_filter, decide_eq_true_eq]
      exact ⟨fun z => z.2, fun z => ⟨hi, z⟩⟩
    by_cases c : i ∈ is
    · rw [decide_eq_true c, decide_eq_false (by rw [this.mp c]; omega)]
      rfl
    · rw [decide_eq_false c, decide_eq_true]
      · rfl
      · have no : ¬ (ms.getD i (0, ("", (0, 1)))).1 = m := fun z => c (this.mpr z)
        generalize (ms.getD i (0, ("", (0, 1)))).1 = x at two no
        omega
/-! sets of places, as tuples -/
end WS
set_option Elab.async false
set_option linter.all false
set_option maxRecDepth 100000
set_option maxHeartbeats 4000000
set_option Elab.async false
set_option linter.all false
set_option maxRecDepth 100000
set_option maxHeartbeats 4000000
set_option Elab.async false
set_option linter.all false
set_option maxRecDepth 100000
set_option maxHeartbeats 4000000
namespace WS
open PySem PySem.Spec PyProof.Rows L2
/-! ### vouchers of any shape -/
mutual
def Tg.sm (n : Nat) : Tg → Prop
  | .int i => Bt n i
  | .tup ts => ts.length ≤ 100 ∧ Tg.sms n ts
  | .lst ts => ts.length ≤ 100 ∧ Tg.sms n ts
  | _ => True
def Tg.sms (n : Nat) : List Tg → Prop
  | [] => True
  | t :: ts => Tg.sm n t ∧ Tg.sms n ts
end
/-- the number, the part -/
def Tg.iv : Tg → Int
  | .int i => i
  | _ => 0
def Tg.hd : Tg → Int
  | .tup (t :: _) => t.iv
  | _ => 0
/-- an order there is -/
theorem rkS_iff {ss : List Seat} (hp : ∀ i, 0 < (gs ss i).2.2) (i j : Nat) : rkS ss i j ↔ owF ss j < owF ss i ∨ (owF ss j = owF ss i ∧ i < j) := by
  unfold rkS owF
  have h1 := ltp_iff (p := (gs ss j).2) (q := (gs ss i).2) (hp j) (hp i)
  have h2 := ltp_iff (p := (gs ss i).2) (q := (gs ss j).2) (hp i) (hp j)
  unfold ltp at h1 h2
  rw [decide_eq_true_eq] at h1 h2
  constructor
  · rintro (h | ⟨h, k⟩)
    · exact .inl (h1.mp h)
    · refine .inr ⟨?_, k⟩
      have n1 : ¬ rv (gs ss j).2 < rv (gs ss i).2 := fun z => by have := h1.mpr z; omega
      have n2 : ¬ rv (gs ss i).2 < rv (gs ss j).2 := fun z => by have := h2.mpr z; omega
      exact Rat.le_antisymm (Rat.not_lt.mp n2) (Rat.not_lt.mp n1)
  · rintro (h | ⟨h, k⟩)
    · exact .inl (h1.mpr h)
    · refine .inr ⟨?_, k⟩
      have n1 : ¬ (gs ss j).2.1 * (gs ss i).2.2 < (gs ss i).2.1 * (gs ss j).2.2 := fun z => by
        have := h1.mp z
        rw [h] at this
        exact Rat.lt_irrefl this
      have n2 : ¬ (gs ss i).2.1 * (gs ss j).2.2 < (gs ss j).2.1 * (gs ss i).2.2 := fun z => by
        have := h2.mp z
        rw [h] at this
        exact Rat.lt_irrefl this
      omega
theorem order_exists {ss : List Seat} (hp : ∀ s ∈ ss, 0 < s.2.2) (zs : List Str) : ∃ O : List Nat, O.Perm (placesOf ss zs) ∧ O.Pairwise (rkS ss) := by
  have pos : ∀ i, 0 < (gs ss i).2.2 := fun i => by
    by_cases c : i < ss.length
    · exact hp _ (gs_mem c)
    · unfold gs
      rw [List.getD_eq_getElem?_getD, List.getElem?_eq_none (by omega)]
      decide
  let le : Nat → Nat → Bool := fun i j => decide (owF ss j < owF ss i ∨ (owF ss j = owF ss i ∧ i ≤ j))
  have tr : ∀ a b c : Nat, le a b = true → le b c = true → le a c = true := fun a b c h k => by
    simp only [le, decide_eq_true_eq] at *
    rcases h with h | ⟨h, h'⟩ <;> rcases k with k | ⟨k, k'⟩
    · exact .inl (by grind)
    · exact .inl (by grind)
    · exact .inl (by grind)
    · exact .inr ⟨by grind, by omega⟩
  have tot : ∀ a b : Nat, (le a b || le b a) = true := fun a b => by
    simp only [le, Bool.or_eq_true, decide_eq_true_eq]
    by_cases h : owF ss b < owF ss a
    · exact .inl (.inl h)
    · by_cases k : owF ss a < owF ss b
      · exact .inr (.inl k)
      · have e := Rat.le_antisymm (Rat.not_lt.mp h) (Rat.not_lt.mp k)
        rcases Nat.le_total a b with l | l
        · exact .inl (.inr ⟨by grind, l⟩)
        · exact .inr (.inr ⟨by grind, l⟩)
  refine ⟨(placesOf ss zs).mergeSort le, List.mergeSort_perm _ _, ?_⟩
  have pw := List.pairwise_mergeSort tr tot (placesOf ss zs)
  have nd : ((placesOf ss zs).mergeSort le).Nodup := (List.mergeSort_perm _ _).nodup_iff.mpr (places_nodup ss zs)
  refine (pw.and nd).imp fun {i j} h => (rkS_iff pos i j).mpr ?_
  obtain ⟨h, ne⟩ := h
  simp only [le, decide_eq_true_eq] at h
  rcases h with h | ⟨h, k⟩
  · exact .inl h
  · exact .inr ⟨h, by omega⟩
end WS
set_option Elab.async false
set_option linter.all false
set_option maxRecDepth 100000
set_option maxHeartbeats 4000000
set_option Elab.async false
set_option linter.all false
set_option maxRecDepth 100000
set_option maxHeartbeats 4000000
namespace WS
open PySem PySem.Spec PyProof.Rows L2
/-! ### what is a moment, of things -/
def Tg.seat : Tg → Option Seat
  | .tup [.str z, q] => if (decide (z = "") || decide (Nm z)) = true then q.part.map fun r => (z, r) else none
  | _ => none
def Tg.sv (t : Tg) : Seat := t.seat.getD ("", (0, 1))
def RightM (W : Int) (ss : List Seat) : Prop := (ss.map fun s => rv s.2).sum = 0 ∧ WthF W (ss.map Prod.snd).length (fun j => rv (gp (ss.map Prod.snd) j))
def RightA (W : Int) (ss : List Seat) : Prop := 1 ≤ W ∧ (names ss).Nodup ∧ RightM W ss
def IsMom (t : Tg) : Prop := ∃ W ts, t = .tup [.int W, .tup ts] ∧ (∀ u ∈ ts, u.seat.isSome = true) ∧ RightA W (ts.map Tg.sv)
def NoShape (t : Tg) : Prop := ∀ W ts, t ≠ .tup [.int W, .tup ts]
theorem NoShape.no {t : Tg} (h : NoShape t) : ¬ IsMom t := fun ⟨W, ts, e, _⟩ => h W ts e
end WS
set_option Elab.async false
set_option linter.all false
set_option maxRecDepth 100000
set_option maxHeartbeats 4000000
set_option Elab.async false
set_option linter.all false
set_option maxRecDepth 100000
set_option maxHeartbeats 4000000
namespace WS
open PySem PySem.Spec PyProof.Rows L2
/-! ### those there, duties, of any shape (refused, or not) -/
def Short (t : Tg) : Prop := ∀ ts, t = .tup ts → ts.length ≤ 100
end WS
set_option Elab.async false
set_option linter.all false
set_option maxRecDepth 100000
set_option maxHeartbeats 4000000
namespace WS
open PySem PySem.Spec PyProof.Rows L2
/-! ### k37: what comes of an asking -/
def AskAt (p : Addr) (K : PySem.W.Frag) (H : Hp) (L : Addr) (way : Int) (t t2 t3 t4 : Tg) : Prop := L ≠ p ∧ ∃ u y m z, H L = some (.lst [.int way, u, y, m, z]) ∧ Th p K H u t ∧ Short t ∧ Th p K H y t2 ∧ Short t2 ∧ Th p K H m t3 ∧ Th p K H z t4 ∧ Short t4
/-! names drawn, none of those in a list or a tuple -/
def UsedAt (p : Addr) (K : PySem.W.Frag) (H : Hp) (U : Addr) (us : List Str) : Prop := (U ≠ p ∧ H U = some (.lst (us.map V.str))) ∨ SqT K H U (us.map V.str)
theorem UsedAt.sx {p : Addr} {K : PySem.W.Frag} {H H' : Hp} {U : Addr} {us : List Str} (h : UsedAt p K H U us) (s : SameX p H H') (hp : PotAt H p) : UsedAt p K H' U us := by
  rcases h with ⟨n, h⟩ | h
  · exact .inl ⟨n, s _ _ n h⟩
  · exact .inr (s.tup hp h)
theorem UsedAt.sm {p : Addr} {K : PySem.W.Frag} {H H' : Hp} {U : Addr} {us : List Str} (h : UsedAt p K H U us) (s : Same H H') : UsedAt p K H' U us := by
  rcases h with ⟨n, h⟩ | h
  · exact .inl ⟨n, s _ _ h⟩
  · exact .inr (Same.tup s h)
theorem UsedAt.seq {p : Addr} {K : PySem.W.Frag} {H : Hp} {U : Addr} {us : List Str} (h : UsedAt p K H U us) : SqL K H U (us.map V.str) ∨ SqT K H U (us.map V.str) := by
  rcases h with ⟨_, h⟩ | h
  · exact .inl (.inl (.inl h))
  · exact .inr h
/-- a tuple that keeps what it is made of -/
def Fz (H : Hp) (v : V) (t : Tg) : Prop := t.isT = true → ∃ a xs, v = .ref a ∧ Froz H a xs
theorem Froz.sm {H H' : Hp} {a : Addr} {xs : List V} (h : Froz H a xs) (s : Same H H') : Froz H' a xs := by
  obtain ⟨o, e, d⟩ := h
  exact ⟨o, s _ _ e, d⟩
theorem Froz.sx {p : Addr} {H H' : Hp} {a : Addr} {xs : List V} (h : Froz H a xs) (s : SameX p H H') (hp : PotAt H p) : Froz H' a xs := by
  obtain ⟨o, e, d⟩ := h
  refine ⟨o, s _ _ (fun z => ?_) e, d⟩
  obtain ⟨n0, n1, e2, _⟩ := hp
  rw [z, e2] at e
  cases e
theorem Fz.sm {H H' : Hp} {v : V} {t : Tg} (h : Fz H v t) (s : Same H H') : Fz H' v t := fun e => by
  obtain ⟨a, xs, rfl, f⟩ := h e
  exact ⟨a, xs, rfl, f.sm s⟩
theorem Fz.sx {p : Addr} {H H' : Hp} {v : V} {t : Tg} (h : Fz H v t) (s : SameX p H H') (hp : PotAt H p) : Fz H' v t := fun e => by
  obtain ⟨a, xs, rfl, f⟩ := h e
  exact ⟨a, xs, rfl, f.sx s hp⟩
theorem Fz.non {H : Hp} {v : V} {t : Tg} (h : t.isT = false) : Fz H v t := fun e => by rw [e] at h; cases h
end WS
set_option Elab.async false
set_option linter.all false
set_option maxRecDepth 100000
set_option maxHeartbeats 4000000
set_option Elab.async false
set_option linter.all false
set_option maxRecDepth 100000
set_option maxHeartbeats 4000000
set_option Elab.async false
set_option linter.all false
set_option maxRecDepth 100000
set_option maxHeartbeats 4000000
set_option Elab.async false
set_option linter.all false
set_option maxRecDepth 100000
set_option maxHeartbeats 4000000
namespace WS
open PySem PySem.Spec PyProof.Rows L2
/-! ### k37: a moment of three persons and more, and what is asked of it -/
theorem Fz.n {H H' : Hp} {v : V} {t : Tg} (h : Fz H v t) (x : LamX.ExtN H H') : Fz H' v t := fun e => by
  obtain ⟨a, xs, rfl, o, f, d⟩ := h e
  exact ⟨a, xs, rfl, o, x _ _ f (fun _ z => by cases z), d⟩
theorem AskAt.n {p : Addr} {K : PySem.W.Frag} {H H' : Hp} {L : Addr} {way : Int} {t t2 t3 t4 : Tg} (h : AskAt p K H L way t t2 t3 t4) (x : LamX.ExtN H H') : AskAt p K H' L way t t2 t3 t4 := by
  obtain ⟨nLp, u, y, m, z, hL, hu, su, hy, sy, hm, hz, sz⟩ := h
  exact ⟨nLp, u, y, m, z, x _ _ hL (fun _ z => by cases z), hu.n x, su, hy.n x, sy, hm.n x, hz.n x, sz⟩
end WS
set_option Elab.async false
set_option linter.all false
set_option maxRecDepth 100000
set_option maxHeartbeats 4000000
set_option Elab.async false
set_option linter.all false
set_option maxRecDepth 100000
set_option maxHeartbeats 4000000
namespace WS
open PySem PySem.Spec PyProof.Rows L2
/-! ### k81: evenings foretold -/
abbrev Ev81 := List Str × List Int
def EvOk (W : Int) (ss : List Seat) (e : Ev81) : Prop := There ss e.1 ∧ e.1.length ≤ 12 ∧ e.2.length ≤ e.1.length ∧ ∀ n ∈ e.2, 1 ≤ n ∧ n ≤ W
open Classical in
noncomputable def ordN (ss : List Seat) (zs : List Str) : List Str := if h : ∃ os, OrderOf ss zs os then Classical.choose h else []
theorem ordN_eq {ss : List Seat} {zs os : List Str} (h : OrderOf ss zs os) : ordN ss zs = os := by
  unfold ordN
  rw [dif_pos ⟨os, h⟩]
  exact order_one (Classical.choose_spec (⟨os, h⟩ : ∃ os, OrderOf ss zs os)) h
noncomputable def stepS (ss : List Seat) (e : Ev81) : List Seat := behS ss e.1 (ordN ss e.1) (down e.2)
noncomputable def runS (ss : List Seat) (es : List Ev81) : List Seat := es.foldl stepS ss
theorem stepS_names (ss : List Seat) (e : Ev81) : names (stepS ss e) = names ss := names_behS
theorem there_names {ss tt : List Seat} {zs : List Str} (e : names tt = names ss) (h : There ss zs) : There tt zs := ⟨h.1, h.2.1, h.2.2.1, fun z hz => by rw [e]; exact h.2.2.2 z hz⟩
theorem EvOk.names {W : Int} {ss tt : List Seat} {x : Ev81} (e : names tt = names ss) (h : EvOk W ss x) : EvOk W tt x := ⟨there_names e h.1, h.2⟩
/-- a moment, D bits below -/
structure M81 (W : Int) (ss : List Seat) (D : Nat) : Prop where
  l : ss.length ≤ 12
  w : 1 ≤ W
  b : Bt 110 W
  g : Good W ss
  p : ∀ s ∈ ss, 0 < s.2.2 ∧ Bt D s.2.2
  nd : (names ss).Nodup
  nm : ∀ s ∈ ss, Nm0 s.1
theorem M81.ok2 {W : Int} {ss : List Seat} {D : Nat} (m : M81 W ss D) (h : D ≤ 350) : ∀ s ∈ ss, Ok2 500 400 s.2 := fun s hs => (good_bits m.w m.g m.b (by have := m.l; omega) m.p s hs).mono (by omega) (by omega)
theorem M81.ok {W : Int} {ss : List Seat} {D : Nat} (m : M81 W ss D) (h : D ≤ 350) : ∀ s ∈ ss, Okp 500 s.2 := fun s hs => ⟨(m.p s hs).1, (m.ok2 h s hs).2.1, (m.ok2 h s hs).2.2.mono (by decide)⟩
theorem M81.order {W : Int} {ss : List Seat} {D : Nat} (m : M81 W ss D) {zs : List Str} (h : There ss zs) : OrderOf ss zs (ordN ss zs) := by
  obtain ⟨O, h1, h2⟩ := order_exists (fun s hs => (m.p s hs).1) zs
  have ho := due_order m.nd h.2.2.1 h.2.2.2 h1 h2
  rw [ordN_eq ho]
  exact ho
theorem stepS_len (ss : List Seat) (e : Ev81) : (stepS ss e).length = ss.length := by
  have h : ((stepS ss e).map Prod.fst).length = (ss.map Prod.fst).length := congrArg List.length behS_names
  rw [List.length_map, List.length_map] at h
  exact h
theorem M81.step {W : Int} {ss : List Seat} {D : Nat} (m : M81 W ss D) {e : Ev81} (h : EvOk W ss e) : M81 W (stepS ss e) (D + 4) := by
  have ho := m.order h.1
  obtain ⟨o1, o2, o3⟩ := order_O h.1.2.2.2 h.1.2.2.1 m.nd ho
  have oz := ho.1.length_eq
  have dl := down_len e.2
  have z2 := h.1.1
  have z12 := h.2.1
  have n2 := h.2.2.1
  refine ⟨by rw [stepS_len]; exact m.l, m.w, m.b, ?_, behS_den m.p (by omega) (by omega) (by rw [dl, oz]; exact n2), by rw [stepS_names]; exact m.nd, fun s hs => ?_⟩
  · have := good_behS (ns := e.2) m.w m.g (fun s hs => (m.p s hs).1) z2 m.nd h.1.2.2.2 o1 o2 (by rw [o3]; exact ho.1) n2 h.2.2.2
    rw [o3] at this
    exact this
  · have h1 : s.1 ∈ (stepS ss e).map Prod.fst := List.mem_map_of_mem hs
    have en : (stepS ss e).map Prod.fst = ss.map Prod.fst := behS_names
    rw [en] at h1
    obtain ⟨s2, h2, e2⟩ := List.mem_map.mp h1
    rw [← e2]
    exact m.nm s2 h2
theorem M81.run {W : Int} : ∀ (es : List Ev81) {ss : List Seat} {D : Nat}, M81 W ss D → (∀ e ∈ es, EvOk W ss e) → M81 W (runS ss es) (D + 4 * es.length)
  | [], _, _, m, _ => m
  | e :: es, ss, D, m, h => by
    have h1 := m.step (h e List.mem_cons_self)
    have h2 := M81.run es h1 fun x hx => (h x (List.mem_cons_of_mem _ hx)).names (stepS_names ss e)
    have e4 : D + 4 * (e :: es).length = D + 4 + 4 * es.length := by rw [List.length_cons]; omega
    rw [e4]
    exact h2
/-- evenings in a list -/
def EvsAt (p : Addr) (K : PySem.W.Frag) (H : Hp) (L : Addr) (ts : List Tg) : Prop := L ≠ p ∧ ∃ xs, H L = some (.lst xs) ∧ ThAll p K H xs ts
theorem EvsAt.n {p : Addr} {K : PySem.W.Frag} {H H' : Hp} {L : Addr} {ts : List Tg} (h : EvsAt p K H L ts) (x : LamX.ExtN H H') : EvsAt p K H' L ts := by
  obtain ⟨n, xs, hL, ha⟩ := h
  exact ⟨n, xs, x _ _ hL (fun _ z => by cases z), ha.n x⟩
theorem EvsAt.sx {p : Addr} {K : PySem.W.Frag} {H H' : Hp} {L : Addr} {ts : List Tg} (h : EvsAt p K H L ts) (s : SameX p H H') (hp : PotAt H p) : EvsAt p K H' L ts := by
  obtain ⟨n, xs, hL, ha⟩ := h
  exact ⟨n, xs, s _ _ n hL, ha.sx s hp⟩
mutual
inductive ThV (S : Addr → Prop) (K : PySem.W.Frag) (H : Hp) : V → Tg → Prop
  | non : ThV S K H .non .non
  | bl (b : Bool) : ThV S K H (.bl b) (.bl b)
  | int (i : Int) : ThV S K H (.int i) (.int i)
  | str (z : Str) : ThV S K H (.str z) (.str z)
  | tup {a : Addr} {xs : List V} {ts : List Tg} : SqT K H a xs → ThVAll S K H xs ts → ThV S K H (.ref a) (.tup ts)
  | lst {a : Addr} {xs : List V} {ts : List Tg} : ¬ S a → H a = some (.lst xs) → ThVAll S K H xs ts → ThV S K H (.ref a) (.lst ts)
  | dct {a : Addr} : ¬ S a → H a = some (.dK []) → ThV S K H (.ref a) .dct
inductive ThVAll (S : Addr → Prop) (K : PySem.W.Frag) (H : Hp) : List V → List Tg → Prop
  | nil : ThVAll S K H [] []
  | cons {v : V} {vs : List V} {t : Tg} {ts : List Tg} : ThV S K H v t → ThVAll S K H vs ts → ThVAll S K H (v :: vs) (t :: ts)
end
section
variable {S : Addr → Prop} {K : PySem.W.Frag} {H H' : Hp}
mutual
theorem ThV.ext (k : KT H H') (e : ∀ b o, ¬ S b → H b = some o → (∀ ps, o ≠ .tbl ps) → H' b = some o) : ∀ {t : Tg} {v : V}, ThV S K H v t → ThV S K H' v t
  | .non, _, h => by cases h; exact .non
  | .bl b, _, h => by cases h; exact .bl b
  | .int i, _, h => by cases h; exact .int i
  | .str z, _, h => by cases h; exact .str z
  | .tup ts, _, h => by
    cases h with
    | tup h0 h1 => exact .tup (k.sqt h0) (ThVAll.ext k e h1)
  | .lst ts, _, h => by
    cases h with
    | lst n h0 h1 => exact .lst n (e _ _ n h0 (fun _ z => by cases z)) (ThVAll.ext k e h1)
  | .dct, _, h => by
    cases h with
    | dct n h0 => exact .dct n (e _ _ n h0 (fun _ z => by cases z))
theorem ThVAll.ext (k : KT H H') (e : ∀ b o, ¬ S b → H b = some o → (∀ ps, o ≠ .tbl ps) → H' b = some o) : ∀ {ts : List Tg} {vs : List V}, ThVAll S K H vs ts → ThVAll S K H' vs ts
  | [], _, h => by cases h; exact .nil
  | t :: ts, _, h => by
    cases h with
    | cons h0 h1 => exact .cons (ThV.ext k e h0) (ThVAll.ext k e h1)
end
mutual
theorem ThV.th {p : Addr} (hp : S p) : ∀ {t : Tg} {v : V}, ThV S K H v t → Th p K H v t
  | .non, _, h => by cases h; exact .non
  | .bl b, _, h => by cases h; exact .bl b
  | .int i, _, h => by cases h; exact .int i
  | .str z, _, h => by cases h; exact .str z
  | .tup ts, _, h => by
    cases h with
    | tup h0 h1 => exact .tup h0 (ThVAll.th hp h1)
  | .lst ts, _, h => by
    cases h with
    | lst n h0 h1 => exact .lst (fun e => n (by rw [e]; exact hp)) h0 (ThVAll.th hp h1)
  | .dct, _, h => by
    cases h with
    | dct n h0 => exact .dct (fun e => n (by rw [e]; exact hp)) h0
theorem ThVAll.th {p : Addr} (hp : S p) : ∀ {ts : List Tg} {vs : List V}, ThVAll S K H vs ts → ThAll p K H vs ts
  | [], _, h => by cases h; exact .nil
  | t :: ts, _, h => by
    cases h with
    | cons h0 h1 => exact .cons (ThV.th hp h0) (ThVAll.th hp h1)
end
theorem ThV.sm {v : V} {t : Tg} (h : ThV S K H v t) (s : Same H H') : ThV S K H' v t := h.ext (kt_same s) fun b o _ e _ => s b o e
theorem ThV.sx {p : Addr} {v : V} {t : Tg} (h : ThV S K H v t) (s : SameX p H H') (hp : PotAt H p) (Sp : S p) : ThV S K H' v t := h.ext (kt_x s hp) fun b o n e _ => s b o (fun z => n (by rw [z]; exact Sp)) e
end
/-! their texts -/
end WS
set_option Elab.async false
set_option linter.all false
set_option maxRecDepth 100000
set_option maxHeartbeats 4000000
namespace WS
open PySem PySem.Spec PyProof.Rows L2
/-! ### k67: vouchers and papers refused -/
/-! odd things -/
/-! what no reader takes -/
section
variable {S S' : Addr → Prop} {K : PySem.W.Frag} {H : Hp}
mutual
theorem ThV.weak (h : ∀ b, S b → S' b) : ∀ {t : Tg} {v : V}, ThV S' K H v t → ThV S K H v t
  | .non, _, k => by cases k; exact .non
  | .bl b, _, k => by cases k; exact .bl b
  | .int i, _, k => by cases k; exact .int i
  | .str z, _, k => by cases k; exact .str z
  | .tup ts, _, k => by
    cases k with
    | tup h0 h1 => exact .tup h0 (ThVAll.weak h h1)
  | .lst ts, _, k => by
    cases k with
    | lst n h0 h1 => exact .lst (fun z => n (h _ z)) h0 (ThVAll.weak h h1)
  | .dct, _, k => by
    cases k with
    | dct n h0 => exact .dct (fun z => n (h _ z)) h0
theorem ThVAll.weak (h : ∀ b, S b → S' b) : ∀ {ts : List Tg} {vs : List V}, ThVAll S' K H vs ts → ThVAll S K H vs ts
  | [], _, k => by cases k; exact .nil
  | t :: ts, _, k => by
    cases k with
    | cons h0 h1 => exact .cons (ThV.weak h h0) (ThVAll.weak h h1)
end
end
/-! short texts -/
def ShA (ts : List Tg) : Prop := ∀ t ∈ ts, ShT 1200 3 t
theorem ShA.nil : ShA [] := fun _ h => (List.not_mem_nil h).elim
theorem ShA.cons {t : Tg} {ts : List Tg} (h : ShT 1200 3 t) (k : ShA ts) : ShA (t :: ts) := fun x hx => by
  rcases List.mem_cons.mp hx with rfl | hx
  · exact h
  · exact k x hx
theorem ShA.tup {ts : List Tg} (h : ShA ts) (hl : ts.length ≤ 14) : ShT 20000 6 (.tup ts) := (ShT.tup h hl).mono (by decide) (by decide)
theorem ShA.lst {ts : List Tg} (h : ShA ts) (hl : ts.length ≤ 14) : ShT 20000 6 (.lst ts) := (ShT.lst h hl).mono (by decide) (by decide)
def SmA (ts : List Tg) : Prop := ∀ t ∈ ts, t.sm 1600
theorem SmA.nil : SmA [] := fun _ h => (List.not_mem_nil h).elim
theorem SmA.cons {t : Tg} {ts : List Tg} (h : t.sm 1600) (k : SmA ts) : SmA (t :: ts) := fun x hx => by
  rcases List.mem_cons.mp hx with rfl | hx
  · exact h
  · exact k x hx
end WS
set_option Elab.async false
set_option linter.all false
set_option maxRecDepth 100000
set_option maxHeartbeats 4000000
namespace WS
open PySem PySem.Spec PyProof.Rows L2
/-! ### k67: a name that nobody has, and what is handed -/
def Th3 (S : Addr → Prop) (K : PySem.W.Frag) (H : Hp) (u : V) (t : Tg) : Prop := ThV S K H u t ∧ Short t ∧ ShT 20000 6 t
theorem Th3.put {p Hd : Addr} {S : Addr → Prop} {K : PySem.W.Frag} {H H2 : Hp} {v : V} {t : Tg} {xs ys : List V} (h : Th3 S K H v t) (Sp : S p) (SH : S Hd) (sx : SameX p H H2) (px : PotAt H p) (hL : H2 Hd = some (.lst xs)) : Th3 S K (upd H2 Hd (.lst ys)) v t :=
  ⟨(h.1.sx sx px Sp).ext (kt_set hL) (fun b o n e _ => by rw [upd_ne (fun z => n (by rw [z]; exact SH))]; exact e), h.2⟩
theorem Th3.sm {S : Addr → Prop} {K : PySem.W.Frag} {H H' : Hp} {v : V} {t : Tg} (h : Th3 S K H v t) (s : Same H H') : Th3 S K H' v t := ⟨h.1.sm s, h.2⟩
structure Mid67 (p Hd : Addr) (K : PySem.W.Frag) (TT : List (Addr × Str)) (G H' : Hp) (u y z : V) (t t2 t3 : Tg) : Prop where
  l : H' Hd = some (.lst [u, y, z])
  a : Th3 (fun b => b = p ∨ b = Hd) K H' u t
  b : Th3 (fun b => b = p ∨ b = Hd) K H' y t2
  c : Th3 (fun b => b = p ∨ b = Hd) K H' z t3
  keep : ∀ b o, b ≠ p → b ≠ Hd → G b = some o → H' b = some o
  kt : KT G H'
  p : PotAt H' p
  t : LamX.Tabs TT H'
theorem Mid67.put {p Hd : Addr} {K : PySem.W.Frag} {TT : List (Addr × Str)} {G H' H2 : Hp} {u y z u' y' z' : V} {t t2 t3 t' t2' t3' : Tg} (m : Mid67 p Hd K TT G H' u y z t t2 t3) (nH : Hd ≠ p) (sx : SameX p H' H2) (px : PotAt H2 p)
    (h1 : Th3 (fun b => b = p ∨ b = Hd) K (upd H2 Hd (.lst [u', y', z'])) u' t') (h2 : Th3 (fun b => b = p ∨ b = Hd) K (upd H2 Hd (.lst [u', y', z'])) y' t2') (h3 : Th3 (fun b => b = p ∨ b = Hd) K (upd H2 Hd (.lst [u', y', z'])) z' t3') :
    Mid67 p Hd K TT G (upd H2 Hd (.lst [u', y', z'])) u' y' z' t' t2' t3' := by
  have hL := sx _ _ nH m.l
  refine ⟨upd_same, h1, h2, h3, fun b o n1 n2 e => by rw [upd_ne n2]; exact sx _ _ n1 (m.keep b o n1 n2 e), (m.kt.trans (kt_x sx m.p)).trans (kt_set hL), ?_, Tabs.set (Tabs.x m.t sx m.p) hL⟩
  obtain ⟨x, y, h, r⟩ := px
  exact ⟨x, y, by rw [upd_ne nH.symm]; exact h, r⟩
end WS
set_option Elab.async false
set_option linter.all false
set_option maxRecDepth 100000
set_option maxHeartbeats 4000000
namespace WS
open PySem PySem.Spec PyProof.Rows L2
/-! ### sets whose table is known to rise, of any kind of key -/
section
variable {P : Program} {w : World} {K : Type} [DecidableEq K]
def apart (knd : KeyKind P w K) (e f : Int × Value) : Prop := ∀ k, knd.is k e.2 = true → knd.is k f.2 = false
/-- what the keys of a set are, whatever their order -/
structure KeysG (knd : KeyKind P w K) (S : K → Bool) (l : List (Int × Value)) : Prop where
  el : ElemsOf knd l
  un : l.Pairwise (apart knd)
  mem : ∀ k, S k = true ↔ ∃ e ∈ l, knd.is k e.2 = true
theorem KeysG.cons {knd : KeyKind P w K} {S : K → Bool} {l : List (Int × Value)} {k : K} {x : Value} (h : KeysG knd S l) (hk : knd.is k x = true) (hx : x.scannable = true) (hn : ∀ e ∈ l, knd.is k e.2 = false) :
    KeysG knd (fun j => S j || decide (j = k)) ((knd.hash k, x) :: l) := by
  refine ⟨fun e he => ?_, List.pairwise_cons.mpr ⟨fun e he j hj => ?_, h.un⟩, fun j => ?_⟩
  · rcases List.mem_cons.mp he with rfl | he
    · exact ⟨⟨k, hk, rfl⟩, hx⟩
    · exact h.el e he
  · rw [knd.inj _ _ _ hj hk]
    exact hn e he
  · rw [Bool.or_eq_true, decide_eq_true_eq, h.mem j]
    constructor
    · rintro (⟨e, he, q⟩ | rfl)
      · exact ⟨e, List.mem_cons_of_mem _ he, q⟩
      · exact ⟨_, List.mem_cons_self, hk⟩
    · rintro ⟨e, he, q⟩
      rcases List.mem_cons.mp he with rfl | he
      · exact .inr (knd.inj _ _ _ q hk)
      · exact .inl ⟨e, he, q⟩
def SetG (knd : KeyKind P w K) (h : Heap) (a : Addr) (S : K → Bool) (n : Nat) : Prop :=
  ∃ o es ep t, h.get? a = some o ∧ o.ExactSet ∧ o.data = .set es ep t ∧ KeysG knd S es.toList ∧ es.size < scanBound ∧ t.fits es.size = true ∧ es.size = n ∧ Ris t.place.toList ∧ (w.params.followText "set-order" = true ∨ t.led = true)
theorem SetG.congr {knd : KeyKind P w K} {h : Heap} {a : Addr} {S T : K → Bool} {n m : Nat} (R : SetG knd h a S n) (e : ∀ k, T k = S k) (en : m = n) : SetG knd h a T m := by
  have q : T = S := funext e
  rw [q, en]; exact R
theorem SetG.at {knd : KeyKind P w K} {h h' : Heap} {a : Addr} {S : K → Bool} {n : Nat} (R : SetG knd h a S n) (k : ∀ o, h.get? a = some o → h'.get? a = some o) : SetG knd h' a S n := by
  obtain ⟨o, es, ep, t, ho, r⟩ := R
  exact ⟨o, es, ep, t, k o ho, r⟩
variable {A : Around} {E : Value → Shared → Prop} {s : Shared} {a : Addr} {S : K → Bool} {n : Nat} {knd : KeyKind P w K}
end
/-! ### sets of texts -/
/-! one order of texts -/
end WS
set_option Elab.async false
set_option linter.all false
set_option maxRecDepth 100000
set_option maxHeartbeats 4000000
namespace WS
open PySem PySem.Spec PyProof.Rows L2
/-! ### k52: moments whose denominators divide one number -/
structure M52 (n d N : Nat) (B W : Int) (ss : List Seat) : Prop where
  l : ss.length ≤ n
  w : 1 ≤ W
  b : W ≤ B
  nd : (names ss).Nodup
  nm : ∀ s ∈ ss, Nm0 s.1
  ok : ∃ D : Int, 0 < D ∧ Bt d D ∧ ∀ s ∈ ss, Lowest s.2.1 s.2.2 ∧ OkV D N s.2
  g : Good W ss
theorem bt_le52 {n : Nat} {W : Int} (h : Bt n W) : W ≤ 2 ^ n := by
  unfold Bt at h
  have : ((2 : Int) ^ n) = ((2 ^ n : Nat) : Int) := by simp
  omega
theorem le_bt {n : Nat} {W : Int} (w : 1 ≤ W) (h : W < 2 ^ n) : Bt n W := by
  unfold Bt
  have : ((2 : Int) ^ n) = ((2 ^ n : Nat) : Int) := by simp
  omega
theorem M52.of {n : Nat} {D W : Int} {ss : List Seat} (k : K23 D 26 W ss) (db : Bt 12 D) (hl : ss.length ≤ n) : M52 n 12 (2 ^ 190) (2 ^ 110) W ss :=
  ⟨hl, k.w, bt_le52 k.b, k.nd, k.nm, ⟨D, k.d0, db, fun s hs => ⟨(k.ok s hs).1, (k.ok s hs).1.1, (k.ok s hs).2.2, by
    have o := (k.ok s hs).2.1.2.1
    have p := (k.ok s hs).1.1
    unfold Bt at o
    have : 1 ≤ s.2.2.natAbs := by omega
    calc s.2.1.natAbs ≤ 2 ^ 190 * 1 := by omega
      _ ≤ 2 ^ 190 * s.2.2.natAbs := Nat.mul_le_mul_left _ this⟩⟩, k.g⟩
theorem M52.pos {n d N : Nat} {B W : Int} {ss : List Seat} (h : M52 n d N B W ss) : ∀ s ∈ ss, 0 < s.2.2 := fun s hs => by
  obtain ⟨D, _, _, dd⟩ := h.ok
  exact (dd s hs).1.1
theorem M52.low {n d N : Nat} {B W : Int} {ss : List Seat} (h : M52 n d N B W ss) : ∀ s ∈ ss, Lowest s.2.1 s.2.2 := fun s hs => by
  obtain ⟨D, _, _, dd⟩ := h.ok
  exact (dd s hs).1
theorem okv_ok2 {D : Int} {N d c : Nat} {p : Int × Int} (h : OkV D N p) (hD : 0 < D) (bD : Bt d D) (bN : N < 2 ^ c) : Ok2 (c + d) d p := by
  obtain ⟨p0, pd, pn⟩ := h
  have le : p.2 ≤ D := Int.le_of_dvd hD pd
  unfold Bt at bD
  have hd : p.2.natAbs < 2 ^ d := by omega
  refine ⟨p0, ?_, hd⟩
  show p.1.natAbs < 2 ^ (c + d)
  rw [Nat.pow_add]
  calc p.1.natAbs ≤ N * p.2.natAbs := pn
    _ ≤ N * 2 ^ d := Nat.mul_le_mul_left _ (by omega)
    _ < 2 ^ c * 2 ^ d := Nat.mul_lt_mul_of_pos_right bN (Nat.pow_pos (by decide))
theorem M52.ok2 {n d N : Nat} {B W : Int} {ss : List Seat} (h : M52 n d N B W ss) (hN : N < 2 ^ 200) : ∀ s ∈ ss, Ok2 (200 + d) d s.2 := fun s hs => by
  obtain ⟨D, d0, db, dd⟩ := h.ok
  exact okv_ok2 (dd s hs).2 d0 db hN
theorem M52.up {n d N : Nat} {B B' W W' : Int} {ss : List Seat} (h : M52 n d N B W ss) (k : W ≤ W') (b : W' ≤ B') : M52 n d N B' W' ss := ⟨h.l, by have := h.w; omega, b, h.nd, h.nm, h.ok, h.g.up k⟩
theorem M52.sane {n d N : Nat} {B W : Int} {ss : List Seat} (h : M52 n d N B W ss) (hn : n ≤ 60) (hN : N < 2 ^ 200) (hd : d ≤ 100) : SaneRow (ss.map Prod.snd) := by
  obtain ⟨D, d0, db, dd⟩ := h.ok
  have hl := h.l
  refine SaneRow.of (D := D) (N := N) (d := d) (n := 210) (by rw [List.length_map]; omega) d0 db (fun q hq => ?_) ?_ (by omega) (by omega)
  · obtain ⟨s, hs, rfl⟩ := List.mem_map.mp hq
    exact (dd s hs).2
  · rw [List.length_map]
    calc ss.length * N ≤ 60 * N := Nat.mul_le_mul_right _ (by omega)
      _ < 2 ^ 210 := by omega
theorem M52.m {n d N : Nat} {B W : Int} {ss : List Seat} (h : M52 n d N B W ss) (hn : n ≤ 60) (hN : N < 2 ^ 200) (hd : d ≤ 100) (hB : B < 2 ^ 130) : MOkS W ss :=
  ⟨h.w, (le_bt (n := 130) h.w (by have := h.b; omega)).mono (by decide), h.nd, h.nm, h.low, h.sane hn hN hd, h.g⟩
/-! ### what a person, or the empty seats, owe -/
def owedS (ss : List Seat) (z : Str) : List (Int × Int) := (ss.filter fun s : Seat => decide (s.1 = z)).map Prod.snd
/-- that us are the seats of ss and tt, poured together -/
structure Both52 (us ss tt : List Seat) : Prop where
  nd : (names us).Nodup
  mem : ∀ z : Str, z ∈ names us ↔ z ∈ names ss ∨ z ∈ names tt
  em : us.length = (names us).length + ((kittyL ss).length + (kittyL tt).length)
  ow : ∀ z : Str, z = "" ∨ z ∈ names us → (owedS us z).foldl pl (0, 1) = pl ((owedS ss z).foldl pl (0, 1)) ((owedS tt z).foldl pl (0, 1))
theorem Both52.swap {us ss tt : List Seat} (h : Both52 us tt ss) : Both52 us ss tt :=
  ⟨h.nd, fun z => (h.mem z).trans Or.comm, by have := h.em; omega, fun z hz => by rw [h.ow z hz, pl_comm]⟩
/-! ### all sets -/
/-! ### promises -/
/-- a row of a moment: small, within, and all together nought -/
structure Row52 (n : Nat) (W : Int) (ps : List (Int × Int)) : Prop where
  l : ps.length ≤ n
  ok : ∃ (D : Int) (N : Nat), 0 < D ∧ Bt 40 D ∧ N < 2 ^ 200 ∧ ∀ q ∈ ps, OkV D N q
  w : WthF W ps.length (fun j => rv (gp ps j))
  z : (ps.map rv).sum = 0
  b : Bt 130 W
theorem M52.row {n d N : Nat} {B W : Int} {ss : List Seat} (h : M52 n d N B W ss) (hd : d ≤ 40) (hN : N < 2 ^ 200) (hB : B < 2 ^ 130) : Row52 n W (ss.map Prod.snd) := by
  obtain ⟨D, d0, db, dd⟩ := h.ok
  refine ⟨by rw [List.length_map]; exact h.l, ⟨D, N, d0, db.mono hd, hN, fun q hq => ?_⟩, own_within h.g.w, ?_, le_bt h.w (by have := h.b; omega)⟩
  · obtain ⟨s, hs, rfl⟩ := List.mem_map.mp hq
    exact (dd s hs).2
  · have e := sum_range_gp (ss.map Prod.snd)
    rw [← e, List.length_map, ← h.g.z]
    exact sumF_congr fun i hi => ow_gp rfl i (List.mem_range.mp hi)
end WS
set_option Elab.async false
set_option linter.all false
set_option maxRecDepth 100000
set_option maxHeartbeats 4000000
namespace WS
open PySem PySem.Spec PyProof.Rows L2
/-! ### k52: the most and the least of a set -/
/-- GI, with whose names they are -/
structure GI52 (ss tt : List Seat) (gl : List Str) (pl : List Nat) (qq : List Seat) : Prop where
  g : GI tt gl pl qq
  gs : ∀ z ∈ gl, z ∈ names ss
  qs : ∀ z ∈ names qq, z ∈ names ss ∨ z ∈ names tt
theorem GI52.step {ss tt qq : List Seat} {gl : List Str} {pl : List Nat} {x y : Nat} {g : Str} {i : Nat} (h : GI52 ss tt gl pl qq) (hg : gl[x]? = some g) (hi : pl[y]? = some i) : GI52 ss tt (gl.eraseIdx x) (pl.eraseIdx y) (put qq i g) :=
  ⟨h.g.step hg hi, fun z hz => h.gs z (List.mem_of_mem_eraseIdx hz), fun z hz => by
    rcases names_put_sub hz with hz | rfl
    · exact h.qs z hz
    · exact .inl (h.gs _ (List.mem_of_getElem? hg))⟩
end WS
set_option Elab.async false
set_option linter.all false
set_option maxRecDepth 100000
set_option maxHeartbeats 4000000
set_option Elab.async false
set_option linter.all false
set_option maxRecDepth 100000
set_option maxHeartbeats 4000000
set_option Elab.async false
set_option linter.all false
set_option maxRecDepth 100000
set_option maxHeartbeats 4000000
set_option Elab.async false
set_option linter.all false
set_option maxRecDepth 100000
set_option maxHeartbeats 4000000
set_option Elab.async false
set_option linter.all false
set_option maxRecDepth 100000
set_option maxHeartbeats 4000000
namespace WS
open PySem PySem.Spec PyProof.Rows L2
/-! ### offers: what is told -/
def saidD (W : Int) (ss : List Seat) (zs os : List Str) (dn : List Int) : PyData := .tuple [momD W ss, .tuple (zs.map PyData.str), pairsD os dn]
end WS
set_option Elab.async false
set_option linter.all false
set_option maxRecDepth 100000
set_option maxHeartbeats 4000000
set_option Elab.async false
set_option linter.all false
set_option maxRecDepth 100000
set_option maxHeartbeats 4000000
set_option Elab.async false
set_option linter.all false
set_option maxRecDepth 100000
set_option maxHeartbeats 4000000
set_option Elab.async false
set_option linter.all false
set_option maxRecDepth 100000
set_option maxHeartbeats 4000000
set_option Elab.async false
set_option linter.all false
set_option maxRecDepth 100000
set_option maxHeartbeats 4000000
set_option Elab.async false
set_option linter.all false
set_option maxRecDepth 100000
set_option maxHeartbeats 4000000
set_option Elab.async false
set_option linter.all false
set_option maxRecDepth 100000
set_option maxHeartbeats 4000000
set_option Elab.async false
set_option linter.all false
set_option maxRecDepth 100000
set_option maxHeartbeats 4000000
namespace WS
open PySem PySem.Spec PyProof.Rows L2
/-! ### offers: what is drawn, and what is due -/
def nmZ (Z : List Str) (j : Nat) : Str := Z.getD j ""
theorem nmZ_at {Z : List Str} {j : Nat} (h : j < Z.length) : Z[j]? = some (nmZ Z j) := by
  unfold nmZ
  rw [List.getD_eq_getElem?_getD, List.getElem?_eq_getElem h]
  rfl
structure Row41 (Z : List Str) (ts : List Int) : Prop where
  l : Z.length = ts.length
  l8 : ts.length ≤ 8
  nd : (Z.filter fun z => !decide (z = ("" : Str))).Nodup
  nm : ∀ z ∈ Z, Nm0 z
  bt : ∀ t ∈ ts, Bt 104 t
theorem Row41.inj {Z : List Str} {ts : List Int} (r : Row41 Z ts) {i j : Nat} (hi : i < ts.length) (hj : j < ts.length) (ne : nmZ Z i ≠ "") (e : nmZ Z i = nmZ Z j) : i = j := by
  have h : Z.Pairwise fun a b => (!decide (a = ("" : Str))) = true → (!decide (b = ("" : Str))) = true → a ≠ b := List.pairwise_filter.mp r.nd
  have l := r.l
  have h2 := List.pairwise_iff_getElem.mp h
  have gi : Z[i]'(by omega) = nmZ Z i := by have := nmZ_at (Z := Z) (j := i) (by omega); rw [List.getElem?_eq_getElem (by omega)] at this; exact Option.some.inj this
  have gj : Z[j]'(by omega) = nmZ Z j := by have := nmZ_at (Z := Z) (j := j) (by omega); rw [List.getElem?_eq_getElem (by omega)] at this; exact Option.some.inj this
  have ne' : nmZ Z j ≠ "" := by rw [← e]; exact ne
  rcases Nat.lt_trichotomy i j with c | c | c
  · have := h2 i j (by omega) (by omega) c
    rw [gi, gj] at this
    exact absurd e (this (by simp [ne]) (by simp [ne']))
  · exact c
  · have := h2 j i (by omega) (by omega) c
    rw [gi, gj] at this
    exact absurd e.symm (this (by simp [ne']) (by simp [ne]))
theorem Row41.mem {Z : List Str} {ts : List Int} (r : Row41 Z ts) {u : Int} {j : Nat} (hj : j < ts.length) (ne : nmZ Z j ≠ "") : nmZ Z j ∈ names (pairS Z ts u) := by
  have l := r.l
  rw [pairS_names r.l]
  exact List.mem_filter.mpr ⟨List.mem_of_getElem? (nmZ_at (by omega)), by simp [ne]⟩
/-- what is told of one -/
structure Told41 (W : Int) (ss : List Seat) (zs os : List Str) (dn : List Int) (t : Str) : Prop where
  l : ss.length ≤ 12
  nd : (names ss).Nodup
  ok : ∀ s ∈ ss, Ok2 100000 4000 s.2
  there : There ss zs
  perm : os.Perm zs
  dd : ∀ n ∈ dn, 1 ≤ n ∧ n ≤ W
  bW : Bt 2000 W
  okb : ∀ s ∈ behS ss zs os dn, Okp 300 s.2
  sh : Sh 240000 6 (momD W (behS ss zs os dn))
  yes : WthF W (behS ss zs os dn).length (owF (behS ss zs os dn)) → t = (momD W (behS ss zs os dn)).shown
  no : ¬ WthF W (behS ss zs os dn).length (owF (behS ss zs os dn)) → t = (PyData.str "beyond").shown
structure Zs41 (Z : List Str) (n : Nat) (zs : List Nat) : Prop where
  nd : zs.Nodup
  two : 2 ≤ zs.length
  mem : ∀ z ∈ zs, z < n ∧ nmZ Z z ≠ ""
theorem Zs41.le {Z : List Str} {n : Nat} {zs : List Nat} (h : Zs41 Z n zs) : zs.length ≤ n := by
  have := h.nd.length_le_of_subset (l₂ := List.range n) fun z hz => List.mem_range.mpr (h.mem z hz).1
  rwa [List.length_range] at this
theorem Row41.there {Z : List Str} {ts : List Int} (r : Row41 Z ts) {hs : List Nat} {u : Int} (h : Zs41 Z ts.length hs) : There (pairS Z ts u) (hs.map (nmZ Z)) := by
  have := h.le
  have := r.l8
  refine ⟨by rw [List.length_map]; exact h.two, by rw [List.length_map]; omega, ?_, fun z hz => ?_⟩
  · rw [List.nodup_iff_pairwise_ne, List.pairwise_map]
    refine List.Pairwise.imp_of_mem (fun {a b} ha hb ne e => ne (r.inj (h.mem a ha).1 (h.mem b hb).1 (h.mem a ha).2 e)) (List.nodup_iff_pairwise_ne.mp h.nd)
  · obtain ⟨j, hj, rfl⟩ := List.mem_map.mp hz
    exact r.mem (h.mem j hj).1 (h.mem j hj).2
theorem saidD_imm (W : Int) (ss : List Seat) (zs os : List Str) (dn : List Int) : imm (saidD W ss zs os dn) = true := by
  unfold saidD
  show (imm (momD W ss) && (immAll (zs.map PyData.str) && (imm (pairsD os dn) && true))) = true
  rw [mom_imm, immAll_map (fun _ => rfl) zs]
  show (imm (.tuple _) && true) = true
  rw [Bool.and_true]
  exact immAll_map (fun _ => rfl) _
def Elder41 (K : PySem.W.Frag) (H : Hp) (e : V) : Prop := e = .non ∨ ∃ (E : Addr) (v : V) (t : Str) (W : Int) (ss : List Seat) (zs os : List Str) (dn : List Int), e = .ref E ∧ SqT K H E [v, .str t] ∧ Dp K H v (saidD W ss zs os dn) ∧ Told41 W ss zs os dn t
theorem Elder41.kt {K : PySem.W.Frag} {H H' : Hp} {e : V} (h : Elder41 K H e) (k : KT H H') : Elder41 K H' e := by
  rcases h with h | ⟨E, v, t, W, ss, zs, os, dn, he, hE, hv, o⟩
  · exact .inl h
  · exact .inr ⟨E, v, t, W, ss, zs, os, dn, he, k.sqt hE, hv.kt k (saidD_imm _ _ _ _ _), o⟩
theorem Told41.one {W : Int} {ss : List Seat} {zs os : List Str} {dn : List Int} {t t' : Str} (o : Told41 W ss zs os dn t) (h1 : WthF W (behS ss zs os dn).length (owF (behS ss zs os dn)) → t' = (momD W (behS ss zs os dn)).shown) (h2 : ¬ WthF W (behS ss zs os dn).length (owF (behS ss zs os dn)) → t' = (PyData.str "beyond").shown) : t' = t := by
  by_cases c : WthF W (behS ss zs os dn).length (owF (behS ss zs os dn))
  · rw [h1 c, o.yes c]
  · rw [h2 c, o.no c]
end WS
set_option Elab.async false
set_option linter.all false
set_option maxRecDepth 100000
set_option maxHeartbeats 4000000
set_option Elab.async false
set_option linter.all false
set_option maxRecDepth 100000
set_option maxHeartbeats 4000000
namespace WS
open PySem PySem.Spec PyProof.Rows L2
/-! ### rows of up to thirty seats, drawn and behind an offer -/
structure Row42 (Z : List Str) (ts : List Int) : Prop where
  l : Z.length = ts.length
  l30 : ts.length ≤ 30
  nd : (Z.filter fun z => !decide (z = ("" : Str))).Nodup
  nm : ∀ z ∈ Z, Nm0 z
  bt : ∀ t ∈ ts, Bt 128 t
theorem Row42.inj {Z : List Str} {ts : List Int} (r : Row42 Z ts) {i j : Nat} (hi : i < ts.length) (hj : j < ts.length) (ne : nmZ Z i ≠ "") (e : nmZ Z i = nmZ Z j) : i = j := by
  have h : Z.Pairwise fun a b => (!decide (a = ("" : Str))) = true → (!decide (b = ("" : Str))) = true → a ≠ b := List.pairwise_filter.mp r.nd
  have l := r.l
  have h2 := List.pairwise_iff_getElem.mp h
  have gi : Z[i]'(by omega) = nmZ Z i := by have := nmZ_at (Z := Z) (j := i) (by omega); rw [List.getElem?_eq_getElem (by omega)] at this; exact Option.some.inj this
  have gj : Z[j]'(by omega) = nmZ Z j := by have := nmZ_at (Z := Z) (j := j) (by omega); rw [List.getElem?_eq_getElem (by omega)] at this; exact Option.some.inj this
  have ne' : nmZ Z j ≠ "" := by rw [← e]; exact ne
  rcases Nat.lt_trichotomy i j with c | c | c
  · have := h2 i j (by omega) (by omega) c
    rw [gi, gj] at this
    exact absurd e (this (by simp [ne]) (by simp [ne']))
  · exact c
  · have := h2 j i (by omega) (by omega) c
    rw [gi, gj] at this
    exact absurd e.symm (this (by simp [ne']) (by simp [ne]))
theorem Row42.mem {Z : List Str} {ts : List Int} (r : Row42 Z ts) {u : Int} {j : Nat} (hj : j < ts.length) (ne : nmZ Z j ≠ "") : nmZ Z j ∈ names (pairS Z ts u) := by
  have l := r.l
  rw [pairS_names r.l]
  exact List.mem_filter.mpr ⟨List.mem_of_getElem? (nmZ_at (by omega)), by simp [ne]⟩
theorem Row42.there {Z : List Str} {ts : List Int} (r : Row42 Z ts) {hs : List Nat} {u : Int} (h : Zs41 Z ts.length hs) : There (pairS Z ts u) (hs.map (nmZ Z)) := by
  have := h.le
  have := r.l30
  refine ⟨by rw [List.length_map]; exact h.two, by rw [List.length_map]; omega, ?_, fun z hz => ?_⟩
  · rw [List.nodup_iff_pairwise_ne, List.pairwise_map]
    refine List.Pairwise.imp_of_mem (fun {a b} ha hb ne e => ne (r.inj (h.mem a ha).1 (h.mem b hb).1 (h.mem a ha).2 e)) (List.nodup_iff_pairwise_ne.mp h.nd)
  · obtain ⟨j, hj, rfl⟩ := List.mem_map.mp hz
    exact r.mem (h.mem j hj).1 (h.mem j hj).2
end WS
set_option Elab.async false
set_option linter.all false
set_option maxRecDepth 100000
set_option maxHeartbeats 4000000
namespace WS
open PySem PySem.Spec PyProof.Rows L2
/-! ### clubs: calls of a def that a name of the def's own holds -/
/-! ### what may change -/
/-- all but the things at S and the tables stays -/
def ExtC (S : List Addr) (H H' : Hp) : Prop := ∀ b o, b ∉ S → H b = some o → (∀ ps, o ≠ .tbl ps) → H' b = some o
theorem ExtC.refl (S : List Addr) (H : Hp) : ExtC S H H := fun _ _ _ h _ => h
theorem ExtC.trans {S : List Addr} {H H1 H2 : Hp} (a : ExtC S H H1) (b : ExtC S H1 H2) : ExtC S H H2 := fun c o n h t => b c o n (a c o n h t) t
theorem ExtC.mono {S S' : List Addr} {H H1 : Hp} (a : ExtC S H H1) (h : ∀ b ∈ S, b ∈ S') : ExtC S' H H1 := fun c o n e t => a c o (fun z => n (h c z)) e t
theorem ExtC.n {S : List Addr} {H H1 : Hp} (a : LamX.ExtN H H1) : ExtC S H H1 := fun c o _ h t => a c o h t
theorem ExtC.s {S : List Addr} {H H1 : Hp} (a : Same H H1) : ExtC S H H1 := fun c o _ h _ => a c o h
theorem ExtC.x {S : List Addr} {p : Addr} {H H1 : Hp} (a : ExtX p H H1) (hp : p ∈ S) : ExtC S H H1 := fun c o n h t => a c o (fun z => n (by rw [z]; exact hp)) h t
theorem ExtC.sx {S : List Addr} {p : Addr} {H H1 : Hp} (a : SameX p H H1) (hp : p ∈ S) : ExtC S H H1 := ExtC.x (ExtX.x a) hp
theorem ExtC.upd {S : List Addr} {p : Addr} {H : Hp} {o : HO} (hp : p ∈ S) : ExtC S H (upd H p o) := fun c o' n h _ => by
  rw [upd_ne (fun z => n (by rw [z]; exact hp))]
  exact h
/-- a later change of new things is none -/
theorem ExtC.drop {S S' : List Addr} {H H1 H2 : Hp} (a : ExtC S H H1) (b : ExtC S' H1 H2) (h : ∀ x ∈ S', x ∈ S ∨ H x = none) : ExtC S H H2 := fun c o n e t => b c o (fun z => by
  rcases h c z with h | h
  · exact n h
  · rw [h] at e
    cases e) (a c o n e t) t
/-- no tuple stands there -/
def NoTup (H : Hp) (b : Addr) : Prop := (∀ xs, H b ≠ some (.tup xs)) ∧ ∀ o xs, H b ≠ some (.frz o (.tup xs))
theorem NoTup.lst {H : Hp} {b : Addr} {xs : List V} (h : H b = some (.lst xs)) : NoTup H b := ⟨fun _ e => (by rw [h] at e; cases e), fun _ _ e => (by rw [h] at e; cases e)⟩
theorem NoTup.ins {H : Hp} {b C dx : Addr} {fs : List (Str × V)} (h : H b = some (.ins C dx fs)) : NoTup H b := ⟨fun _ e => (by rw [h] at e; cases e), fun _ _ e => (by rw [h] at e; cases e)⟩
theorem NoTup.pot {H : Hp} {p : Addr} (h : PotAt H p) : NoTup H p := by
  obtain ⟨x, y, h, _⟩ := h
  exact NoTup.lst h
theorem NoTup.none {H : Hp} {b : Addr} (h : H b = Option.none) : NoTup H b := ⟨fun _ e => (by rw [h] at e; cases e), fun _ _ e => (by rw [h] at e; cases e)⟩
theorem ExtC.kt {S : List Addr} {H H1 : Hp} (a : ExtC S H H1) (h : ∀ b ∈ S, NoTup H b) : KT H H1 :=
  ⟨fun c xs e => a c _ (fun z => (h c z).1 _ e) e (fun _ z => by cases z), fun c o xs e => a c _ (fun z => (h c z).2 _ _ e) e (fun _ z => by cases z)⟩
theorem ExtC.lst {S : List Addr} {H H1 : Hp} {L : Addr} {xs : List V} (a : ExtC S H H1) (n : L ∉ S) (h : H L = some (.lst xs)) : H1 L = some (.lst xs) := a _ _ n h (fun _ z => by cases z)
theorem ExtC.pot {S : List Addr} {H H1 : Hp} {p : Addr} (a : ExtC S H H1) (n : p ∉ S) (h : PotAt H p) : PotAt H1 p := by
  obtain ⟨x, y, e, r⟩ := h
  exact ⟨x, y, a.lst n e, r⟩
theorem ExtC.froz {S : List Addr} {H H1 : Hp} {v : Addr} {xs : List V} (a : ExtC S H H1) (k : ∀ b ∈ S, NoTup H b) (h : Froz H v xs) : Froz H1 v xs := by
  obtain ⟨o, e, d⟩ := h
  exact ⟨o, a _ _ (fun z => (k _ z).2 _ _ e) e (fun _ z => by cases z), d⟩
/-! ### t + u: one of them where the other is empty, else a tuple that keeps what it is made of -/
end WS
set_option Elab.async false
set_option linter.all false
set_option maxRecDepth 100000
set_option maxHeartbeats 4000000
namespace WS
open PySem PySem.Spec PyProof.Rows L2
/-! ### deeds and facts -/
inductive Fact where
  | ev (is : List Nat) (ds : List (Nat × Int))
  | gift (i j : Nat) (g : Int × Int)
  | join (tt : List Seat)
  | come (z : Str) (i : Nat)
  | leave (z : Str) (i : Nat)
  | weigh (W : Int)
inductive Deed where
  | ev (zs : List Str) (ns : List Int)
  | offer (zs : List Str) (said : List (Str × Int))
  | gift (y z : Str) (g : Int × Int)
  | join (W : Int) (tt : List Seat)
  | come (z : Str)
  | leave (z : Str)
  | weigh (W : Int)
def natD (i : Nat) : PyData := .int (i : Int)
def sdD (x : Str × Int) : PyData := .tuple [.str x.1, .int x.2]
def Fact.d : Fact → PyData
  | .ev is ds => .tuple [.str "evening", .tuple (is.map natD), .tuple (ds.map dutD)]
  | .gift i j g => .tuple [.str "gift", natD i, natD j, pdP g]
  | .join tt => .tuple [.str "join", .tuple (tt.map seatD)]
  | .come z i => .tuple [.str "come", .str z, natD i]
  | .leave z i => .tuple [.str "leave", .str z, natD i]
  | .weigh W => .tuple [.str "weigh", .int W]
def Deed.d : Deed → PyData
  | .ev zs ns => .tuple [.str "evening", .tuple (zs.map .str), .tuple (ns.map .int)]
  | .offer zs said => .tuple [.str "offer", .tuple (zs.map .str), .tuple (said.map sdD)]
  | .gift y z g => .tuple [.str "gift", .str y, .str z, pdP g]
  | .join W tt => .tuple [.str "join", momD W tt]
  | .come z => .tuple [.str "come", .str z]
  | .leave z => .tuple [.str "leave", .str z]
  | .weigh W => .tuple [.str "weigh", .int W]
/-- the moment behind a fact -/
def Fact.mom (W : Int) (ss : List Seat) : Fact → Int × List Seat
  | .ev is ds => (W, setRow ss (rowE (ss.map Prod.snd) is ds))
  | .gift i j g => (W, giftS ss i j g)
  | .join tt => (W, ss ++ tt)
  | .come z i => (W, put ss i z)
  | .leave _ i => (W, put ss i "")
  | .weigh W' => (W', ss)
/-- the fact that a deed makes -/
def Makes (ss : List Seat) : Deed → Fact → Prop
  | .ev zs ns, f => ∃ os, OrderOf ss zs os ∧ f = .ev (placesOf ss zs) (byS ss os (down ns))
  | .offer zs said, f => f = .ev (placesOf ss zs) (said.map fun x => (idx ss x.1, x.2))
  | .gift y z g, f => f = .gift (idx ss y) (idx ss z) g
  | .join _ tt, f => f = .join tt
  | .come z, f => f = .come z (room ss)
  | .leave z, f => f = .leave z (idx ss z)
  | .weigh W, f => f = .weigh W
/-- what a deed tells that made this fact, by the moment behind it -/
def told (ss : List Seat) : Deed → Fact → PyData
  | .ev _ _, .ev _ ds => .tuple (ds.map fun x => .tuple [.str (gs ss x.1).1, .int x.2])
  | .come _, .come _ i => .tuple [natD i, pdP (gs ss i).2]
  | .leave _, .leave _ i => pdP (gs ss i).2
  | _, _ => .none
theorem nat_imm (is : List Nat) : immAll (is.map natD) = true := immAll_map (fun _ => rfl) is
theorem said_imm (is : List (Str × Int)) : immAll (is.map sdD) = true := immAll_map (fun _ => rfl) is
theorem Fact.imm (f : Fact) : WS.imm f.d = true := by
  cases f with
  | ev is ds =>
    show (true && ((immAll (is.map natD)) && ((immAll (ds.map dutD)) && true))) = true
    rw [nat_imm, dut_imm]; rfl
  | gift i j g => rfl
  | join tt =>
    show (true && ((immAll (tt.map seatD)) && true)) = true
    rw [seats_imm]; rfl
  | come z i => rfl
  | leave z i => rfl
  | weigh W => rfl
/-! ### clubs -/
/-- a moment's value; its seats are a tuple that keeps what it is made of, or none -/
def MomAt (K : PySem.W.Frag) (H : Hp) (v : V) (W : Int) (ss : List Seat) : Prop := ∃ t S xs, v = .ref t ∧ SqT K H t [.int W, .ref S] ∧ SqT K H S xs ∧ DpAll K H xs (ss.map seatD) ∧ ((∃ ys, Froz H S ys ∧ ys = xs) ∨ ss = [])
theorem MomAt.keep {K : PySem.W.Frag} {S : List Addr} {H H1 : Hp} {v : V} {W : Int} {ss : List Seat} (h : MomAt K H v W ss) (a : ExtC S H H1) (k : ∀ b ∈ S, NoTup H b) : MomAt K H1 v W ss := by
  obtain ⟨t, Z, xs, rfl, h1, h2, h3, h4⟩ := h
  have kt := a.kt k
  refine ⟨t, Z, xs, rfl, kt.sqt h1, kt.sqt h2, h3.kt kt (seats_imm _), ?_⟩
  rcases h4 with ⟨ys, h4, e⟩ | h4
  · exact .inl ⟨ys, a.froz k h4, e⟩
  · exact .inr h4
theorem MomAt.sm {K : PySem.W.Frag} {H H1 : Hp} {v : V} {W : Int} {ss : List Seat} (h : MomAt K H v W ss) (a : Same H H1) : MomAt K H1 v W ss := h.keep (S := []) (ExtC.s a) (fun _ z => by cases z)
theorem MomAt.en {K : PySem.W.Frag} {H H1 : Hp} {v : V} {W : Int} {ss : List Seat} (h : MomAt K H v W ss) (a : LamX.ExtN H H1) : MomAt K H1 v W ss := h.keep (S := []) (ExtC.n a) (fun _ z => by cases z)
theorem MomAt.dp {K : PySem.W.Frag} {H : Hp} {v : V} {W : Int} {ss : List Seat} (h : MomAt K H v W ss) : Dp K H v (momD W ss) := by
  obtain ⟨t, Z, xs, rfl, h1, h2, h3, _⟩ := h
  exact mom_mk h1 h2 h3
theorem Deed.imm (f : Deed) : WS.imm f.d = true := by
  cases f with
  | ev is ds =>
    show (true && ((immAll (is.map PyData.str)) && ((immAll (ds.map PyData.int)) && true))) = true
    rw [immAll_map (fun _ => rfl) is, immAll_map (fun _ => rfl) ds]; rfl
  | offer is ds =>
    show (true && ((immAll (is.map PyData.str)) && ((immAll (ds.map sdD)) && true))) = true
    rw [immAll_map (fun _ => rfl) is, said_imm]; rfl
  | gift i j g => rfl
  | join W tt =>
    show (true && (WS.imm (momD W tt) && true)) = true
    rw [mom_imm]; rfl
  | come z => rfl
  | leave z => rfl
  | weigh W => rfl
/-- a fact's value; what joins has seats in a tuple that keeps what it is made of -/
def FactAt (K : PySem.W.Frag) (H : Hp) (v : V) (f : Fact) : Prop := Dp K H v f.d ∧ ∀ tt, f = .join tt → ∃ t S xs, v = .ref t ∧ SqT K H t [.str "join", .ref S] ∧ SqT K H S xs ∧ DpAll K H xs (tt.map seatD) ∧ ((∃ ys, Froz H S ys ∧ ys = xs) ∨ tt = [])
def DeedAt (K : PySem.W.Frag) (H : Hp) (v : V) (d : Deed) : Prop := Dp K H v d.d ∧ ∀ W tt, d = .join W tt → ∃ t m, v = .ref t ∧ SqT K H t [.str "join", m] ∧ MomAt K H m W tt
theorem DeedAt.keep {K : PySem.W.Frag} {S : List Addr} {H H1 : Hp} {v : V} {d : Deed} (h : DeedAt K H v d) (a : ExtC S H H1) (k : ∀ b ∈ S, NoTup H b) : DeedAt K H1 v d := by
  refine ⟨h.1.kt (a.kt k) d.imm, fun W tt e => ?_⟩
  obtain ⟨t, m, e1, e2, e3⟩ := h.2 W tt e
  exact ⟨t, m, e1, (a.kt k).sqt e2, e3.keep a k⟩
theorem FactAt.keep {K : PySem.W.Frag} {S : List Addr} {H H1 : Hp} {v : V} {d : Fact} (h : FactAt K H v d) (a : ExtC S H H1) (k : ∀ b ∈ S, NoTup H b) : FactAt K H1 v d := by
  refine ⟨h.1.kt (a.kt k) d.imm, fun tt e => ?_⟩
  obtain ⟨t, Z, xs, e1, e2, e3, e4, e5⟩ := h.2 tt e
  refine ⟨t, Z, xs, e1, (a.kt k).sqt e2, (a.kt k).sqt e3, e4.kt (a.kt k) (seats_imm _), ?_⟩
  rcases e5 with ⟨ys, e5, e⟩ | e5
  · exact .inl ⟨ys, a.froz k e5, e⟩
  · exact .inr e5
theorem FactAt.en {K : PySem.W.Frag} {H H1 : Hp} {v : V} {d : Fact} (h : FactAt K H v d) (a : LamX.ExtN H H1) : FactAt K H1 v d := h.keep (S := []) (ExtC.n a) (fun _ z => by cases z)
theorem DeedAt.en {K : PySem.W.Frag} {H H1 : Hp} {v : V} {d : Deed} (h : DeedAt K H v d) (a : LamX.ExtN H H1) : DeedAt K H1 v d := h.keep (S := []) (ExtC.n a) (fun _ z => by cases z)
/-- its fields -/
def clubF (W : Int) (fl ml : Addr) : List (Str × V) := [("first_weight", .int W), ("fact_list", .ref fl), ("moment_list", .ref ml)]
abbrev Mom := Int × List Seat
def FactsAt (K : PySem.W.Frag) (H : Hp) (vs : List V) (fs : List Fact) : Prop := vs.length = fs.length ∧ ∀ (i : Nat) v f, vs[i]? = some v → fs[i]? = some f → FactAt K H v f
def MomsAt (K : PySem.W.Frag) (H : Hp) (vs : List V) (ms : List Mom) : Prop := vs.length = ms.length ∧ ∀ (i : Nat) v m, vs[i]? = some v → ms[i]? = some m → MomAt K H v m.1 m.2
theorem push_at {α : Type} {Pr : V → α → Prop} {vs : List V} {as : List α} {v : V} {a : α} (hl : vs.length = as.length) (h : ∀ (i : Nat) v f, vs[i]? = some v → as[i]? = some f → Pr v f) (hv : Pr v a) : (vs ++ [v]).length = (as ++ [a]).length ∧ ∀ (i : Nat) x f, (vs ++ [v])[i]? = some x → (as ++ [a])[i]? = some f → Pr x f := by
  refine ⟨by simp [hl], fun i x f h1 h2 => ?_⟩
  by_cases c : i < vs.length
  · rw [List.getElem?_append_left c] at h1
    rw [List.getElem?_append_left (by omega)] at h2
    exact h i x f h1 h2
  · rw [List.getElem?_append_right (by omega)] at h1
    rw [List.getElem?_append_right (by omega)] at h2
    have e : i - vs.length = 0 := by
      cases z : i - vs.length with
      | zero => rfl
      | succ n => rw [z] at h1; simp at h1
    rw [e] at h1
    rw [← hl, e] at h2
    obtain rfl := Option.some.inj (show some v = some x from h1)
    obtain rfl := Option.some.inj (show some a = some f from h2)
    exact hv
/-- a club: the lists of its facts and moments -/
structure ClubAt (C : Addr) (K : PySem.W.Frag) (H : Hp) (c fl ml : Addr) (W : Int) (fs : List Fact) (ms : List Mom) : Prop where
  ins : ∃ dx, H c = some (.ins C dx (clubF W fl ml))
  fs : ∃ xs, H fl = some (.lst xs) ∧ FactsAt K H xs fs
  ms : ∃ xs, H ml = some (.lst xs) ∧ MomsAt K H xs ms
  ne : fl ≠ ml
section
variable {C : Addr} {K : PySem.W.Frag} {H H1 : Hp} {c fl ml : Addr} {W : Int} {fs : List Fact} {ms : List Mom}
theorem ClubAt.nt (h : ClubAt C K H c fl ml W fs ms) : ∀ b ∈ [c, fl, ml], NoTup H b := fun b hb => by
  obtain ⟨dx, h1⟩ := h.ins
  obtain ⟨_, h2, _⟩ := h.fs
  obtain ⟨_, h3, _⟩ := h.ms
  simp only [List.mem_cons, List.not_mem_nil, or_false] at hb
  rcases hb with rfl | rfl | rfl
  · exact NoTup.ins h1
  · exact NoTup.lst h2
  · exact NoTup.lst h3
theorem ClubAt.cn (h : ClubAt C K H c fl ml W fs ms) : c ≠ fl ∧ c ≠ ml := by
  obtain ⟨dx, h1⟩ := h.ins
  obtain ⟨_, h2, _⟩ := h.fs
  obtain ⟨_, h3, _⟩ := h.ms
  exact ⟨ne_of h1 h2 (by intro z; cases z), ne_of h1 h3 (by intro z; cases z)⟩
theorem ClubAt.there (h : ClubAt C K H c fl ml W fs ms) : ∀ b ∈ [c, fl, ml], H b ≠ none := fun b hb => by
  obtain ⟨dx, h1⟩ := h.ins
  obtain ⟨_, h2, _⟩ := h.fs
  obtain ⟨_, h3, _⟩ := h.ms
  simp only [List.mem_cons, List.not_mem_nil, or_false] at hb
  rcases hb with rfl | rfl | rfl
  · rw [h1]; exact fun z => by cases z
  · rw [h2]; exact fun z => by cases z
  · rw [h3]; exact fun z => by cases z
/-- it stays where nothing of it is changed -/
theorem ClubAt.keep {S : List Addr} (h : ClubAt C K H c fl ml W fs ms) (a : ExtC S H H1) (k : ∀ b ∈ S, NoTup H b) (n : ∀ b ∈ [c, fl, ml], b ∉ S) : ClubAt C K H1 c fl ml W fs ms := by
  obtain ⟨dx, h1⟩ := h.ins
  obtain ⟨xs, h2, h3⟩ := h.fs
  obtain ⟨ys, h4, h5⟩ := h.ms
  exact ⟨⟨dx, a _ _ (n c (by simp)) h1 (fun _ z => by cases z)⟩, ⟨xs, a.lst (n fl (by simp)) h2, h3.1, fun i v f e1 e2 => (h3.2 i v f e1 e2).keep a k⟩, ⟨ys, a.lst (n ml (by simp)) h4, h5.1, fun i v f e1 e2 => (h5.2 i v f e1 e2).keep a k⟩, h.ne⟩
theorem ClubAt.en (h : ClubAt C K H c fl ml W fs ms) (a : LamX.ExtN H H1) : ClubAt C K H1 c fl ml W fs ms := h.keep (S := []) (ExtC.n a) (fun _ z => by cases z) (fun _ _ z => by cases z)
theorem ClubAt.sm (h : ClubAt C K H c fl ml W fs ms) (a : Same H H1) : ClubAt C K H1 c fl ml W fs ms := h.en (ExtN.same a)
theorem ClubAt.x {p : Addr} (h : ClubAt C K H c fl ml W fs ms) (a : SameX p H H1) (hp : PotAt H p) (n : p ∉ [c, fl, ml]) : ClubAt C K H1 c fl ml W fs ms :=
  h.keep (S := [p]) (ExtC.sx a (by simp)) (fun b hb => by rw [List.mem_singleton.mp hb]; exact NoTup.pot hp) (fun b hb z => n (by rw [← List.mem_singleton.mp z]; exact hb))
end
/-- a moment of sane sizes -/
structure Sane (W : Int) (ss : List Seat) : Prop where
  l : ss.length ≤ 60
  w : 1 ≤ W
  b : Bt 900 W
  nd : (names ss).Nodup
  ok : ∀ s ∈ ss, Okp 900 s.2
/-- a deed that is let, of sane sizes -/
def Lets (W : Int) (ss : List Seat) : Deed → Prop
  | .ev zs ns => There ss zs ∧ ns.length ≤ zs.length ∧ ∀ n ∈ ns, 1 ≤ n ∧ n ≤ W
  | .gift y z g => y ∈ names ss ∧ z ∈ names ss ∧ Lowest g.1 g.2 ∧ 0 < g.1 ∧ rv g ≤ owF ss (idx ss y) - owF ss (idx ss z) ∧ Okp 1000 g
  | .join W' tt => W' = W ∧ tt.length ≤ 30 ∧ ∀ z ∈ names ss, z ∉ names tt
  | _ => False
/-- a fact that makes a moment -/
def FactOk (W : Int) (ss : List Seat) : Fact → Prop
  | .ev is ds => is.Nodup ∧ 0 < is.length ∧ is.length ≤ 100 ∧ (∀ i ∈ is, i < ss.length) ∧ (ds.map Prod.fst).Nodup ∧ (∀ x ∈ ds, x.1 < ss.length ∧ Bt 50000 x.2) ∧ ds.length ≤ 100
  | .gift i j g => i < ss.length ∧ j < ss.length ∧ Okp 1000 g
  | .join tt => tt.length ≤ 30
  | _ => False
end WS
set_option Elab.async false
set_option linter.all false
set_option maxRecDepth 100000
set_option maxHeartbeats 4000000
namespace WS
open PySem PySem.Spec PyProof.Rows L2
/-! ### facts of deeds that are let -/
theorem places_perm {ss : List Seat} {zs : List Str} (nd : (names ss).Nodup) (hz : zs.Nodup) (hin : ∀ z ∈ zs, z ∈ names ss) : (zs.map (idx ss)).Perm (placesOf ss zs) := by
  refine (List.perm_ext_iff_of_nodup (idxs_nodup hz hin) ((places_up ss zs).imp fun h => Nat.ne_of_lt h)).mpr fun i => ?_
  rw [List.mem_map]
  constructor
  · rintro ⟨z, h, rfl⟩
    have hn := hin z h
    refine List.mem_filter.mpr ⟨List.mem_range.mpr (idx_lt hn), decide_eq_true ?_⟩
    rw [gs_idx hn]
    exact h
  · intro h
    exact ⟨(gs ss i).1, (places_lt h).2, idx_name nd hin h⟩
theorem fact_ok {W : Int} {ss : List Seat} {d : Deed} {f : Fact} (hs : Sane W ss) (hL : Lets W ss d) (hM : Makes ss d f) : FactOk W ss f := by
  cases d with
  | ev zs ns =>
    obtain ⟨os, hO, rfl⟩ := hM
    obtain ⟨hT, ln, hn⟩ := hL
    have pp := places_perm hs.nd hT.2.2.1 hT.2.2.2
    have pl := pp.length_eq
    rw [List.length_map] at pl
    have ond : os.Nodup := hO.1.nodup_iff.mpr hT.2.2.1
    have oin : ∀ z ∈ os, z ∈ names ss := fun z hz => hT.2.2.2 z (hO.1.mem_iff.mp hz)
    refine ⟨(places_up ss zs).imp fun h => Nat.ne_of_lt h, by have := hT.1; omega, by have := hT.2.1; omega, fun i hi => (places_lt hi).1, ?_, fun x hx => ?_, ?_⟩
    · rw [byS_fst]
      exact idxs_nodup (ond.sublist (List.take_sublist _ _)) (fun z hz => oin z (List.mem_of_mem_take hz))
    · obtain ⟨⟨z, hz, e⟩, hn'⟩ := byS_mem hx
      have hd := hn _ ((down_perm ns).mem_iff.mp hn')
      refine ⟨by rw [e]; exact idx_lt (oin z hz), ?_⟩
      exact ((hs.b.of_le (by omega)).mono (by decide))
    · unfold byS
      rw [List.length_map, List.length_zip, hO.1.length_eq]
      have := hT.2.1
      omega
  | gift y z g =>
    obtain rfl := hM
    obtain ⟨hy, hz, _, _, _, og⟩ := hL
    exact ⟨idx_lt hy, idx_lt hz, og⟩
  | join W' tt =>
    obtain rfl := hM
    exact hL.2.1
  | _ => exact hL.elim
section
variable {C : Addr} {K : PySem.W.Frag} {H H1 : Hp} {c fl ml : Addr} {W : Int} {fs : List Fact} {ms : List Mom}
theorem ClubAt.push {xs ys : List V} {fv mv : V} {f : Fact} {m : Mom} (h : ClubAt C K H c fl ml W fs ms) (hx : H fl = some (.lst xs)) (hy : H ml = some (.lst ys)) (hxs : FactsAt K H xs fs) (hys : MomsAt K H ys ms) (hf : FactAt K H fv f) (hm : MomAt K H mv m.1 m.2) :
    ClubAt C K (upd (upd H fl (.lst (xs ++ [fv]))) ml (.lst (ys ++ [mv]))) c fl ml W (fs ++ [f]) (ms ++ [m]) := by
  have ex : ExtC [fl, ml] H (upd (upd H fl (.lst (xs ++ [fv]))) ml (.lst (ys ++ [mv]))) := (ExtC.upd (by simp)).trans (ExtC.upd (by simp))
  have nt : ∀ b ∈ [fl, ml], NoTup H b := fun b hb => h.nt b (List.mem_cons_of_mem _ hb)
  obtain ⟨n1, n2⟩ := h.cn
  obtain ⟨dx, hi⟩ := h.ins
  obtain ⟨a1, a2⟩ := push_at hxs.1 hxs.2 hf
  obtain ⟨b1, b2⟩ := push_at (Pr := fun v (m : Mom) => MomAt K H v m.1 m.2) hys.1 hys.2 hm
  refine ⟨⟨dx, by rw [upd_ne n2, upd_ne n1]; exact hi⟩, ⟨_, by rw [upd_ne h.ne, upd_same], a1, fun i v f e1 e2 => (a2 i v f e1 e2).keep ex nt⟩, ⟨_, upd_same, b1, fun i v f e1 e2 => (b2 i v f e1 e2).keep ex nt⟩, h.ne⟩
theorem FactsAt.keep {S : List Addr} {vs : List V} (h : FactsAt K H vs fs) (a : ExtC S H H1) (k : ∀ b ∈ S, NoTup H b) : FactsAt K H1 vs fs := ⟨h.1, fun i v f e1 e2 => (h.2 i v f e1 e2).keep a k⟩
theorem MomsAt.keep {S : List Addr} {vs : List V} (h : MomsAt K H vs ms) (a : ExtC S H H1) (k : ∀ b ∈ S, NoTup H b) : MomsAt K H1 vs ms := ⟨h.1, fun i v f e1 e2 => (h.2 i v f e1 e2).keep a k⟩
theorem MomsAt.get {vs : List V} (h : MomsAt K H vs ms) {k : Nat} (hk : k < ms.length) : ∃ v, vs[k]? = some v ∧ MomAt K H v ms[k].1 ms[k].2 := by
  have hv : k < vs.length := by rw [h.1]; exact hk
  exact ⟨vs[k], List.getElem?_eq_getElem hv, h.2 k _ _ (List.getElem?_eq_getElem hv) (List.getElem?_eq_getElem hk)⟩
end
/-- several deeds, one behind the other -/
inductive RunOf : Mom → List Deed → List Fact → List Mom → List PyData → Prop
  | nil (m : Mom) : RunOf m [] [] [] []
  | cons {m : Mom} {d : Deed} {f : Fact} {ds : List Deed} {fs : List Fact} {ms : List Mom} {ts : List PyData} : Makes m.2 d f → RunOf (f.mom m.1 m.2) ds fs ms ts → RunOf m (d :: ds) (f :: fs) (f.mom m.1 m.2 :: ms) (told (f.mom m.1 m.2).2 d f :: ts)
def lastM (m : Mom) (ms : List Mom) : Mom := ms.getLastD m
/-- each of them is let in its turn, and none joins -/
def AllLets (m : Mom) : List Deed → Prop
  | [] => True
  | d :: ds => Sane m.1 m.2 ∧ Lets m.1 m.2 d ∧ (∀ W tt, d ≠ .join W tt) ∧ ∀ f, Makes m.2 d f → AllLets (f.mom m.1 m.2) ds
theorem AllLets.at {m : Mom} {ds : List Deed} {fs : List Fact} {ms : List Mom} {ts : List PyData} (h : RunOf m ds fs ms ts) : ∀ {d : Deed} {es : List Deed}, AllLets m (ds ++ d :: es) → Sane (lastM m ms).1 (lastM m ms).2 ∧ Lets (lastM m ms).1 (lastM m ms).2 d ∧ (∀ W tt, d ≠ .join W tt) := by
  induction h with
  | nil m => exact fun h => ⟨h.1, h.2.1, h.2.2.1⟩
  | @cons m d0 f0 ds fs ms ts h1 h2 ih =>
    intro d es h
    have e : lastM m (f0.mom m.1 m.2 :: ms) = lastM (f0.mom m.1 m.2) ms := by
      unfold lastM
      cases ms with
      | nil => rfl
      | cons a l => rfl
    rw [e]
    exact ih (h.2.2.2 _ h1)
def DeedsAt (K : PySem.W.Frag) (H : Hp) (vs : List V) (ds : List Deed) : Prop := vs.length = ds.length ∧ ∀ (i : Nat) v d, vs[i]? = some v → ds[i]? = some d → DeedAt K H v d
open LamX in
theorem Tabs.ins {TT : List (Addr × Str)} {D C dx : Addr} {H : Hp} {fs : List (Str × V)} {o : HO} (t : Tabs TT H) (h : H D = some (.ins C dx fs)) : Tabs TT (upd H D o) := fun q hq => by
  obtain ⟨ps, h1, h2, h3⟩ := t q hq
  refine ⟨ps, by rw [upd_ne (ne_of h1 h (by intro z; cases z))]; exact h1, h2, fun pos cv hc => ?_⟩
  obtain ⟨c, e1, e2⟩ := h3 pos cv hc
  exact ⟨c, e1, by rw [upd_ne (ne_of e2 h (by unfold CodeO; intro z; cases z))]; exact e2⟩
end WS
set_option Elab.async false
set_option linter.all false
set_option maxRecDepth 100000
set_option maxHeartbeats 4000000
namespace WS
open PySem PySem.Spec PyProof.Rows L2
/-! ### deeds of unlike people change places -/
def touch : Fact → List Nat
  | .ev is _ => is
  | .gift i j _ => [i, j]
  | _ => []
/-- an evening or a gift -/
def Plain : Deed → Prop
  | .ev _ _ => True
  | .gift y z _ => y ≠ z
  | _ => False
def people : Deed → List Str
  | .ev zs _ => zs
  | .gift y z _ => [y, z]
  | _ => []
def LocalF : Fact → Prop
  | .ev is ds => ∀ x ∈ ds, x.1 ∈ is
  | .gift i j _ => i ≠ j
  | _ => False
theorem fst_len {ss tt : List Seat} (h : tt.map Prod.fst = ss.map Prod.fst) : tt.length = ss.length := by
  have := congrArg List.length h
  rw [List.length_map, List.length_map] at this
  exact this
theorem fst_nms {ss tt : List Seat} (h : tt.map Prod.fst = ss.map Prod.fst) : names tt = names ss := names_of h
/-- a seat behind a fact -/
def behF (ps : Nat → Int × Int) (f : Fact) (i : Nat) : Int × Int := match f with
  | .ev is ds => match ds.lookup i with
    | some d => mi (if i ∈ is then pl (ps i) (lo (ds.map Prod.snd).sum (is.length : Nat)) else ps i) (lo d 1)
    | none => if i ∈ is then pl (ps i) (lo (ds.map Prod.snd).sum (is.length : Nat)) else ps i
  | .gift a b g => if i = b then pl (ps b) g else if i = a then mi (ps a) g else ps i
  | _ => ps i
theorem mom_gs {W : Int} {ss : List Seat} {f : Fact} (h : FactOk W ss f) (hl : LocalF f) {i : Nat} (hi : i < ss.length) : gs (f.mom W ss).2 i = ((gs ss i).1, behF (fun k => (gs ss k).2) f i) := by
  have pl' : (ss.map Prod.snd).length = ss.length := List.length_map _
  cases f with
  | ev is ds =>
    show gs (setRow ss (rowE (ss.map Prod.snd) is ds)) i = _
    rw [gs_setRow hi (by rw [rowE_len, pl']), rowE_at (by rw [pl']; exact hi)]
    congr 1
    unfold rowG rowF
    show (match ds.lookup i with | some d => _ | none => _) = _
    rw [gp_snd ss hi]
    rfl
  | gift a b g =>
    obtain ⟨ha, hb, _⟩ := h
    show gs (setRow ss (giftR (ss.map Prod.snd) a b g)) i = _
    rw [gs_setRow hi (by rw [giftR_len, pl']), giftR_at (by rw [pl']; exact ha) (by rw [pl']; exact hb) hl, gp_snd ss ha, gp_snd ss hb, gp_snd ss hi]
    rfl
  | _ => exact hl.elim
theorem mom_fst {W : Int} {ss : List Seat} {f : Fact} (h : FactOk W ss f) (hl : LocalF f) : (f.mom W ss).2.map Prod.fst = ss.map Prod.fst ∧ (f.mom W ss).1 = W := by
  cases f with
  | ev is ds => exact ⟨setRow_fst (by rw [rowE_len, List.length_map]), rfl⟩
  | gift a b g => exact ⟨setRow_fst (by rw [giftR_len, List.length_map]), rfl⟩
  | _ => exact hl.elim
theorem makes_one {ss : List Seat} {d : Deed} {f f' : Fact} (hM : Makes ss d f) (hM' : Makes ss d f') : f = f' := by
  cases d with
  | ev zs ns =>
    obtain ⟨os, hO, rfl⟩ := hM
    obtain ⟨os', hO', rfl⟩ := hM'
    rw [order_one hO hO']
  | _ => exact Eq.trans hM (Eq.symm hM')
theorem local_of {W : Int} {ss : List Seat} {d : Deed} {f : Fact} (nd : (names ss).Nodup) (hp : Plain d) (hL : Lets W ss d) (hM : Makes ss d f) : LocalF f ∧ ∀ i, i ∈ touch f ↔ ∃ z ∈ people d, i = idx ss z := by
  cases d with
  | ev zs ns =>
    obtain ⟨os, hO, rfl⟩ := hM
    obtain ⟨hT, _, _⟩ := hL
    have pp := places_perm nd hT.2.2.1 hT.2.2.2
    refine ⟨fun x hx => ?_, fun i => ?_⟩
    · obtain ⟨⟨z, hz, e⟩, _⟩ := byS_mem hx
      rw [e]
      exact pp.mem_iff.mp (List.mem_map_of_mem (hO.1.mem_iff.mp hz))
    · show i ∈ placesOf ss zs ↔ _
      rw [← pp.mem_iff, List.mem_map]
      exact ⟨fun ⟨z, hz, e⟩ => ⟨z, hz, e.symm⟩, fun ⟨z, hz, e⟩ => ⟨z, hz, e.symm⟩⟩
  | gift y z g =>
    obtain rfl := hM
    obtain ⟨hy, hz, _⟩ := hL
    refine ⟨fun e => hp (idx_one hy hz e), fun i => ?_⟩
    show i ∈ [idx ss y, idx ss z] ↔ ∃ x ∈ [y, z], _
    simp
  | _ => exact hp.elim
end WS
set_option Elab.async false
set_option linter.all false
set_option maxRecDepth 100000
set_option maxHeartbeats 4000000
namespace WS
open PySem PySem.Spec PyProof.Rows L2
/-! ### moments of k84 -/
theorem OkV.mi {D : Int} {N M : Nat} {p q : Int × Int} (hD : 0 < D) (h : OkV D N p) (k : OkV D M q) : OkV D (N + M) (mi p q) := by
  obtain ⟨h1, ⟨m, hm⟩, h3⟩ := h
  obtain ⟨k1, ⟨n, hn⟩, k3⟩ := k
  refine OkV.lo hD (Int.mul_pos h1 k1) ⟨p.1 * m - q.1 * n, ?_⟩ ?_
  · calc (p.1 * q.2 - q.1 * p.2) * D = p.1 * q.2 * D - q.1 * p.2 * D := by grind
      _ = p.1 * q.2 * (p.2 * m) - q.1 * p.2 * (q.2 * n) := by rw [← hm, ← hn]
      _ = (p.1 * m - q.1 * n) * (p.2 * q.2) := by grind
  · have a1 : (p.1 * q.2).natAbs ≤ N * (p.2 * q.2).natAbs := by
      rw [Int.natAbs_mul, Int.natAbs_mul, ← Nat.mul_assoc]
      exact Nat.mul_le_mul_right _ h3
    have a2 : (q.1 * p.2).natAbs ≤ M * (p.2 * q.2).natAbs := by
      rw [Int.natAbs_mul, Int.natAbs_mul, Nat.mul_comm p.2.natAbs, ← Nat.mul_assoc]
      exact Nat.mul_le_mul_right _ k3
    have := Int.natAbs_sub_le (p.1 * q.2) (q.1 * p.2)
    rw [Nat.add_mul]
    omega
theorem pl_lowest {p q : Int × Int} (h : 0 < p.2) (k : 0 < q.2) : Lowest (pl p q).1 (pl p q).2 := lo_lowest (Int.mul_pos h k)
theorem mi_low {p q : Int × Int} (h : 0 < p.2) (k : 0 < q.2) : Lowest (mi p q).1 (mi p q).2 := lo_lowest (Int.mul_pos h k)
theorem sum_abs {M : Nat} : ∀ l : List Int, (∀ x ∈ l, x.natAbs ≤ M) → l.sum.natAbs ≤ l.length * M
  | [], _ => by simp
  | x :: l, h => by
    have h1 := h x List.mem_cons_self
    have h2 := sum_abs l fun y hy => h y (List.mem_cons_of_mem _ hy)
    rw [List.sum_cons, List.length_cons, Nat.add_mul, Nat.one_mul]
    have := Int.natAbs_add_le x l.sum
    omega
theorem lookup_in {ds : List (Nat × Int)} {i : Nat} {d : Int} (h : ds.lookup i = some d) : (i, d) ∈ ds := by
  induction ds with
  | nil => cases h
  | cons x l ih =>
    obtain ⟨a, b⟩ := x
    rw [List.lookup_cons] at h
    by_cases c : (i == a) = true
    · rw [c] at h
      obtain rfl := Option.some.inj (show some b = some d from h)
      rw [beq_iff_eq.mp c]
      exact List.mem_cons_self
    · rw [Bool.not_eq_true] at c
      rw [c] at h
      exact List.mem_cons_of_mem _ (ih h)
structure M84 (D : Int) (k : Nat) (W : Int) (ss : List Seat) : Prop where
  l : 4 ≤ ss.length ∧ ss.length ≤ 12
  w : 1 ≤ W
  b : Bt 110 W
  nd : (names ss).Nodup
  nm : ∀ s ∈ ss, Nm s.1
  low : ∀ s ∈ ss, Lowest s.2.1 s.2.2
  ok : ∀ s ∈ ss, OkV D (2 ^ (113 + 2 * k)) s.2
  d0 : 0 < D
  db : Bt 40 D
  dv : ∀ m : Nat, 1 ≤ m → m ≤ 12 → ((m : Nat) : Int) ∣ D
theorem M84.lt {k : Nat} (hk : k ≤ 12) : (2 : Nat) ^ (113 + 2 * k) < 2 ^ 140 := Nat.pow_lt_pow_right (by decide) (by omega)
theorem M84.okp {D : Int} {k : Nat} {W : Int} {ss : List Seat} (h : M84 D k W ss) (hk : k ≤ 12) : ∀ s ∈ ss, Okp 180 s.2 := fun s hs => (h.ok s hs).okp h.d0 h.db (M84.lt hk) (by decide)
theorem M84.sane {D : Int} {k : Nat} {W : Int} {ss : List Seat} (h : M84 D k W ss) (hk : k ≤ 12) : Sane W ss := ⟨by have := h.l.2; omega, h.w, h.b.mono (by decide), h.nd, fun s hs => (h.okp hk s hs).mono (by decide)⟩
theorem M84.names {D : Int} {k : Nat} {W : Int} {ss : List Seat} (h : M84 D k W ss) : names ss = ss.map Prod.fst := by
  unfold WS.names
  refine List.filter_eq_self.mpr fun z hz => ?_
  obtain ⟨s, hs, rfl⟩ := List.mem_map.mp hz
  have := nm_ne (h.nm s hs)
  simp [this]
theorem M84.gs {D : Int} {k : Nat} {W : Int} {ss : List Seat} (h : M84 D k W ss) {i : Nat} (hi : i < ss.length) : Lowest (gs ss i).2.1 (gs ss i).2.2 ∧ OkV D (2 ^ (113 + 2 * k)) (gs ss i).2 := ⟨h.low _ (gs_mem hi), h.ok _ (gs_mem hi)⟩
theorem byS_snd_in {ss : List Seat} {os : List Str} {dn : List Int} {x : Int} (h : x ∈ (byS ss os dn).map Prod.snd) : x ∈ dn := by
  obtain ⟨y, hy, rfl⟩ := List.mem_map.mp h
  exact (byS_mem hy).2
theorem M84.step {D : Int} {k : Nat} {W : Int} {ss : List Seat} {d : Deed} {f : Fact} (h : M84 D k W ss) (hk : k ≤ 11) (hp : Plain d) (hL : Lets W ss d) (hM : Makes ss d f) (hg : ∀ y z g, d = .gift y z g → OkV D (2 ^ (114 + 2 * k)) g) : M84 D (k + 1) (f.mom W ss).1 (f.mom W ss).2 := by
  have hs := h.sane (by omega)
  have ok := fact_ok hs hL hM
  obtain ⟨lo', tc⟩ := local_of hs.nd hp hL hM
  obtain ⟨ef, ew⟩ := mom_fst ok lo'
  have el := fst_len ef
  rw [ew]
  have up : (2 : Nat) ^ (113 + 2 * (k + 1)) = 4 * 2 ^ (113 + 2 * k) := by
    rw [show 113 + 2 * (k + 1) = (113 + 2 * k) + 2 by omega, Nat.pow_add]
    omega
  have up1 : (2 : Nat) ^ (114 + 2 * k) = 2 * 2 ^ (113 + 2 * k) := by
    rw [show 114 + 2 * k = (113 + 2 * k) + 1 by omega, Nat.pow_add]
    omega
  have b113 : (2 : Nat) ^ 113 ≤ 2 ^ (113 + 2 * k) := Nat.pow_le_pow_right (by decide) (by omega)
  -- what is at each seat
  have key : ∀ i, i < ss.length → Lowest (behF (fun j => (WS.gs ss j).2) f i).1 (behF (fun j => (WS.gs ss j).2) f i).2 ∧ OkV D (2 ^ (113 + 2 * (k + 1))) (behF (fun j => (WS.gs ss j).2) f i) := fun i hi => by
    obtain ⟨lw, ov⟩ := h.gs hi
    cases d with
    | ev zs ns =>
      obtain ⟨os, hO, rfl⟩ := hM
      obtain ⟨hT, ln, hn⟩ := hL
      have pp := places_perm hs.nd hT.2.2.1 hT.2.2.2
      have pl' := pp.length_eq
      rw [List.length_map] at pl'
      have z12 : zs.length ≤ 12 := by
        have := List.Nodup.length_le_of_subset hT.2.2.1 hT.2.2.2
        have := names_len ss
        have := h.l.2
        omega
      obtain ⟨ds, eds⟩ : ∃ ds, ds = byS ss os (down ns) := ⟨_, rfl⟩
      have dle : ∀ x ∈ ds.map Prod.snd, x.natAbs ≤ 2 ^ 110 := fun x hx => by
        rw [eds] at hx
        have hd := hn x ((down_perm ns).mem_iff.mp (byS_snd_in hx))
        have hb : W.natAbs < 2 ^ 110 := h.b
        omega
      have dl : ds.length ≤ 12 := by
        rw [eds]
        unfold byS
        rw [List.length_map, List.length_zip, hO.1.length_eq]
        omega
      have sa : (ds.map Prod.snd).sum.natAbs ≤ 2 ^ 114 := by
        have := sum_abs _ dle
        rw [List.length_map] at this
        have e : (2 : Nat) ^ 114 = 16 * 2 ^ 110 := by rw [show 114 = 4 + 110 by rfl, Nat.pow_add]
        have : ds.length * 2 ^ 110 ≤ 12 * 2 ^ 110 := Nat.mul_le_mul_right _ dl
        omega
      have p0 : 0 < (((placesOf ss zs).length : Nat) : Int) := by have := hT.1; omega
      have osh : OkV D (2 ^ 114) (WS.lo (ds.map Prod.snd).sum ((placesOf ss zs).length : Nat)) := okV_of h.d0 p0 (h.dv _ (by have := hT.1; omega) (by omega)) sa
      have e114 : (2 : Nat) ^ 114 = 2 * 2 ^ 113 := by rw [show 114 = 1 + 113 by rfl, Nat.pow_add]
      have e113 : (2 : Nat) ^ 113 = 8 * 2 ^ 110 := by rw [show 113 = 3 + 110 by rfl, Nat.pow_add]
      have base : ∀ q : Int × Int, (q = pl (WS.gs ss i).2 (WS.lo (ds.map Prod.snd).sum ((placesOf ss zs).length : Nat)) ∨ q = (WS.gs ss i).2) → Lowest q.1 q.2 ∧ OkV D (2 ^ (113 + 2 * k) + 2 ^ 114) q := fun q hq => by
        rcases hq with rfl | rfl
        · exact ⟨pl_lowest ov.1 osh.1, ov.pl h.d0 osh⟩
        · exact ⟨lw, ov.mono (by omega)⟩
      have q0 : (if i ∈ placesOf ss zs then pl (WS.gs ss i).2 (WS.lo (ds.map Prod.snd).sum ((placesOf ss zs).length : Nat)) else (WS.gs ss i).2) = pl (WS.gs ss i).2 (WS.lo (ds.map Prod.snd).sum ((placesOf ss zs).length : Nat)) ∨ (if i ∈ placesOf ss zs then pl (WS.gs ss i).2 (WS.lo (ds.map Prod.snd).sum ((placesOf ss zs).length : Nat)) else (WS.gs ss i).2) = (WS.gs ss i).2 := by
        by_cases c : i ∈ placesOf ss zs
        · exact .inl (if_pos c)
        · exact .inr (if_neg c)
      obtain ⟨b1, b2⟩ := base _ q0
      rw [← eds]
      show Lowest (match ds.lookup i with | some d => mi _ (WS.lo d 1) | none => _).1 (match ds.lookup i with | some d => mi _ (WS.lo d 1) | none => _).2 ∧ OkV D _ (match ds.lookup i with | some d => mi _ (WS.lo d 1) | none => _)
      cases e : ds.lookup i with
      | none => exact ⟨b1, b2.mono (by omega)⟩
      | some x =>
        have hx : x ∈ ds.map Prod.snd := by
          have := lookup_in e
          exact List.mem_map.mpr ⟨_, this, rfl⟩
        have o1 : OkV D (2 ^ 110) (WS.lo x 1) := okV_of h.d0 (by decide) (Int.one_dvd D) (dle x hx)
        exact ⟨mi_low b2.1 o1.1, (b2.mi h.d0 o1).mono (by omega)⟩
    | gift y z g =>
      obtain rfl := hM
      obtain ⟨hy, hz, lg, _, _, _⟩ := hL
      have og := hg y z g rfl
      obtain ⟨la, oa⟩ := h.gs (idx_lt hy)
      obtain ⟨lb, ob⟩ := h.gs (idx_lt hz)
      show Lowest (if i = idx ss z then pl (WS.gs ss (idx ss z)).2 g else if i = idx ss y then mi (WS.gs ss (idx ss y)).2 g else (WS.gs ss i).2).1 (if i = idx ss z then pl (WS.gs ss (idx ss z)).2 g else if i = idx ss y then mi (WS.gs ss (idx ss y)).2 g else (WS.gs ss i).2).2 ∧ OkV D _ (if i = idx ss z then pl (WS.gs ss (idx ss z)).2 g else if i = idx ss y then mi (WS.gs ss (idx ss y)).2 g else (WS.gs ss i).2)
      by_cases c1 : i = idx ss z
      · rw [if_pos c1]
        exact ⟨pl_lowest ob.1 og.1, (ob.pl h.d0 og).mono (by omega)⟩
      · rw [if_neg c1]
        by_cases c2 : i = idx ss y
        · rw [if_pos c2]
          exact ⟨mi_low oa.1 og.1, (oa.mi h.d0 og).mono (by omega)⟩
        · rw [if_neg c2]
          exact ⟨lw, ov.mono (by omega)⟩
    | _ => exact hp.elim
  have all : ∀ s ∈ (f.mom W ss).2, ∃ i, i < ss.length ∧ s = ((WS.gs ss i).1, behF (fun j => (WS.gs ss j).2) f i) := fun s hs' => by
    obtain ⟨i, hi, e⟩ := List.mem_iff_getElem.mp hs'
    refine ⟨i, by omega, ?_⟩
    rw [← mom_gs ok lo' (by omega)]
    exact (gs_at (by rw [List.getElem?_eq_getElem hi, e])).symm
  refine ⟨by rw [el]; exact h.l, h.w, h.b, by rw [fst_nms ef]; exact h.nd, fun s hs' => ?_, fun s hs' => ?_, fun s hs' => ?_, h.d0, h.db, h.dv⟩
  · obtain ⟨i, hi, rfl⟩ := all s hs'
    exact h.nm (WS.gs ss i) (gs_mem hi)
  · obtain ⟨i, hi, rfl⟩ := all s hs'
    exact (key i hi).1
  · obtain ⟨i, hi, rfl⟩ := all s hs'
    exact (key i hi).2
/-! promises -/
end WS
set_option Elab.async false
set_option linter.all false
set_option maxRecDepth 100000
set_option maxHeartbeats 4000000
namespace WS
open PySem PySem.Spec PyProof.Rows L2
/-! ### two clubs side by side (k84) -/
structure Pair84 (C : Addr) (K : PySem.W.Frag) (TT : List (Addr × Str)) (G H : Hp) (p c o fl ml ol om : Addr) (W0 : Int) (fs fs2 : List Fact) (ms ms2 : List Mom) : Prop where
  pot : PotAt H p
  tabs : LamX.Tabs TT H
  c1 : ClubAt C K H c fl ml W0 fs ms
  c2 : ClubAt C K H o ol om W0 fs2 ms2
  dis : ∀ b ∈ [c, fl, ml], b ∉ [o, ol, om]
  np : p ∉ [c, fl, ml] ∧ p ∉ [o, ol, om]
  new : ∀ b ∈ [c, fl, ml], New G b
  new2 : ∀ b ∈ [o, ol, om], New G b
  ext : ExtX p G H
section
variable {C : Addr} {K : PySem.W.Frag} {TT : List (Addr × Str)} {G H H' : Hp} {p c o fl ml ol om : Addr} {W0 : Int} {fs fs2 : List Fact} {ms ms2 : List Mom}
theorem Pair84.x (t : Pair84 C K TT G H p c o fl ml ol om W0 fs fs2 ms ms2) (s : SameX p H H') (px : PotAt H' p) : Pair84 C K TT G H' p c o fl ml ol om W0 fs fs2 ms ms2 :=
  ⟨px, Tabs.x t.tabs s t.pot, t.c1.x s t.pot t.np.1, t.c2.x s t.pot t.np.2, t.dis, t.np, t.new, t.new2, t.ext.trans (ExtX.x s)⟩
theorem Pair84.s (t : Pair84 C K TT G H p c o fl ml ol om W0 fs fs2 ms ms2) (s : Same H H') : Pair84 C K TT G H' p c o fl ml ol om W0 fs fs2 ms ms2 := t.x (Same.x s) (t.pot.same s)
theorem Pair84.en (t : Pair84 C K TT G H p c o fl ml ol om W0 fs fs2 ms ms2) (s : LamX.ExtN H H') (t' : LamX.Tabs TT H') : Pair84 C K TT G H' p c o fl ml ol om W0 fs fs2 ms ms2 :=
  ⟨ExtN.pot s t.pot, t', t.c1.en s, t.c2.en s, t.dis, t.np, t.new, t.new2, t.ext.trans (ExtX.n s)⟩
theorem new_no {b : Addr} {v : HO} (n : New G b) (h : G b = some v) (t : ∀ ps, v ≠ .tbl ps) : False := by
  obtain ⟨ps, e⟩ := n v h
  exact t ps e
theorem ext_new {S : List Addr} (e : ExtX p G H) (x : ExtC S H H') (n : ∀ b ∈ S, New G b) : ExtX p G H' := fun b v nb h nt => x b v (fun hb => new_no (n b hb) h nt) (e b v nb h nt) nt
/-- a change of a list -/
theorem Pair84.l {D : Addr} {xs ys : List V} (t : Pair84 C K TT G H p c o fl ml ol om W0 fs fs2 ms ms2) (hD : H D = some (.lst xs)) (nD : New G D) (n1 : D ∉ [c, fl, ml]) (n2 : D ∉ [o, ol, om]) (np : D ≠ p) : Pair84 C K TT G (upd H D (.lst ys)) p c o fl ml ol om W0 fs fs2 ms ms2 := by
  have ex : ExtC [D] H (upd H D (.lst ys)) := ExtC.upd (by simp)
  have nt : ∀ b ∈ [D], NoTup H b := fun b hb => by rw [List.mem_singleton.mp hb]; exact NoTup.lst hD
  exact ⟨t.pot.upd np, Tabs.set t.tabs hD, t.c1.keep ex nt (fun b hb z => n1 (by rw [← List.mem_singleton.mp z]; exact hb)), t.c2.keep ex nt (fun b hb z => n2 (by rw [← List.mem_singleton.mp z]; exact hb)), t.dis, t.np, t.new, t.new2, ext_new t.ext ex fun b hb => by rw [List.mem_singleton.mp hb]; exact nD⟩
theorem Pair84.one {fs' : List Fact} {ms' : List Mom} (t : Pair84 C K TT G H p c o fl ml ol om W0 fs fs2 ms ms2) (x : ExtC [fl, ml] H H') (t' : LamX.Tabs TT H') (h : ClubAt C K H' c fl ml W0 fs' ms') : Pair84 C K TT G H' p c o fl ml ol om W0 fs' fs2 ms' ms2 :=
  ⟨x.pot (fun z => t.np.1 (List.mem_cons_of_mem _ z)) t.pot, t', h, t.c2.keep x (fun b hb => t.c1.nt b (List.mem_cons_of_mem _ hb)) (fun b hb z => t.dis b (List.mem_cons_of_mem _ z) hb), t.dis, t.np, t.new, t.new2, ext_new t.ext x fun b hb => t.new b (List.mem_cons_of_mem _ hb)⟩
theorem Pair84.two {fs' : List Fact} {ms' : List Mom} (t : Pair84 C K TT G H p c o fl ml ol om W0 fs fs2 ms ms2) (x : ExtC [ol, om] H H') (t' : LamX.Tabs TT H') (h : ClubAt C K H' o ol om W0 fs' ms') : Pair84 C K TT G H' p c o fl ml ol om W0 fs fs' ms ms' :=
  ⟨x.pot (fun z => t.np.2 (List.mem_cons_of_mem _ z)) t.pot, t', t.c1.keep x (fun b hb => t.c2.nt b (List.mem_cons_of_mem _ hb)) (fun b hb z => t.dis b hb (List.mem_cons_of_mem _ z)), h, t.dis, t.np, t.new, t.new2, ext_new t.ext x fun b hb => t.new2 b (List.mem_cons_of_mem _ hb)⟩
theorem new_of {b : Addr} (e : ExtX p G H) (hp : PotAt H p) (h : H b = none) : New G b := fun v z => Classical.byContradiction fun n => by
  have := e b v (hp.ne h) z fun ps e' => n ⟨ps, e'⟩
  rw [h] at this
  cases this
theorem Pair84.all {fs' : List Fact} {ms' : List Mom} {ol' om' : Addr} (t : Pair84 C K TT G H p c o fl ml ol om W0 fs fs2 ms ms2) (x : ExtC [o] H H') (t' : LamX.Tabs TT H') (n1 : H ol' = none) (n2 : H om' = none) (h : ClubAt C K H' o ol' om' W0 fs' ms') : Pair84 C K TT G H' p c o fl ml ol' om' W0 fs fs' ms ms' := by
  have hp : H p ≠ none := fun z => by
    obtain ⟨a, b, e, _⟩ := t.pot
    rw [z] at e
    cases e
  refine ⟨x.pot (fun z => t.np.2 (by simp at z; simp [z])) t.pot, t', t.c1.keep x (fun b hb => by rw [List.mem_singleton.mp hb]; exact t.c2.nt o (by simp)) (fun b hb z => t.dis b hb (by rw [List.mem_singleton.mp z]; simp)), h, fun b hb z => ?_, ⟨t.np.1, fun z => ?_⟩, t.new, fun b hb => ?_, ext_new t.ext x fun b hb => by rw [List.mem_singleton.mp hb]; exact t.new2 o (by simp)⟩
  · have ht := t.c1.there b hb
    simp only [List.mem_cons, List.not_mem_nil, or_false] at z
    rcases z with rfl | rfl | rfl
    · exact t.dis b hb (by simp)
    · exact ht n1
    · exact ht n2
  · simp only [List.mem_cons, List.not_mem_nil, or_false] at z
    rcases z with rfl | rfl | rfl
    · exact t.np.2 (by simp)
    · exact hp n1
    · exact hp n2
  · simp only [List.mem_cons, List.not_mem_nil, or_false] at hb
    rcases hb with rfl | rfl | rfl
    · exact t.new2 b (by simp)
    · exact new_of t.ext t.pot n1
    · exact new_of t.ext t.pot n2
end
theorem M84.okq {D : Int} {k : Nat} {W : Int} {ss : List Seat} (h : M84 D k W ss) (hk : k ≤ 12) : ∀ s ∈ ss, Okq 190 90 s.2 := fun s hs => by
  have o := h.okp hk s hs
  have v := h.ok s hs
  have le : s.2.2.natAbs ≤ D.natAbs := by
    have := Int.le_of_dvd h.d0 v.2.1
    have := v.1
    omega
  exact ⟨o.1, o.2.1.mono (by decide), (show Bt 40 s.2.2 from Nat.lt_of_le_of_lt le h.db).mono (by decide)⟩
end WS
set_option Elab.async false
set_option linter.all false
set_option maxRecDepth 100000
set_option maxHeartbeats 4000000
set_option Elab.async false
set_option linter.all false
set_option maxRecDepth 100000
set_option maxHeartbeats 4000000
namespace WS
open PySem PySem.Spec PyProof.Rows L2
/-! ### deeds of all sorts but offers, none refused -/
structure Sane2 (W : Int) (ss : List Seat) : Prop where
  l : ss.length ≤ 60
  w : 1 ≤ W
  b : Bt 900 W
  nd : (names ss).Nodup
  ok : ∀ s ∈ ss, Okp 900 s.2
  row : SaneRow (ss.map Prod.snd)
theorem Sane2.s {W : Int} {ss : List Seat} (h : Sane2 W ss) : Sane W ss := ⟨h.l, h.w, h.b, h.nd, h.ok⟩
def Lets2 (W : Int) (ss : List Seat) : Deed → Prop
  | .come z => Nm z ∧ z ∉ names ss
  | .leave z => z ∈ names ss
  | .weigh V => 1 ≤ V ∧ Bt 900 V ∧ WthF V ss.length (owF ss)
  | d => Lets W ss d
def FactOk2 (W : Int) (ss : List Seat) : Fact → Prop
  | .come _ i => i ≤ ss.length
  | .leave _ i => i < ss.length
  | .weigh _ => True
  | f => FactOk W ss f
theorem fact_ok2 {W : Int} {ss : List Seat} {d : Deed} {f : Fact} (hs : Sane2 W ss) (hL : Lets2 W ss d) (hM : Makes ss d f) : FactOk2 W ss f := by
  cases d with
  | ev zs ns =>
    have h := fact_ok (d := .ev zs ns) hs.s hL hM
    obtain ⟨os, hO, rfl⟩ := hM
    exact h
  | gift y z g =>
    have h := fact_ok (d := .gift y z g) hs.s hL hM
    obtain rfl := hM
    exact h
  | join W' tt =>
    have h := fact_ok (d := .join W' tt) hs.s hL hM
    obtain rfl := hM
    exact h
  | offer zs sd => exact (show False from hL).elim
  | come z => obtain rfl := hM; exact room_le ss
  | leave z => obtain rfl := hM; exact idx_lt hL
  | weigh V => obtain rfl := hM; trivial
def AllLets2 (m : Mom) : List Deed → Prop
  | [] => True
  | d :: ds => Sane2 m.1 m.2 ∧ Lets2 m.1 m.2 d ∧ (∀ W tt, d ≠ .join W tt) ∧ ∀ f, Makes m.2 d f → AllLets2 (f.mom m.1 m.2) ds
theorem AllLets2.at {m : Mom} {ds : List Deed} {fs : List Fact} {ms : List Mom} {ts : List PyData} (h : RunOf m ds fs ms ts) : ∀ {d : Deed} {es : List Deed}, AllLets2 m (ds ++ d :: es) → Sane2 (lastM m ms).1 (lastM m ms).2 ∧ Lets2 (lastM m ms).1 (lastM m ms).2 d ∧ (∀ W tt, d ≠ .join W tt) := by
  induction h with
  | nil m => exact fun h => ⟨h.1, h.2.1, h.2.2.1⟩
  | @cons m d0 f0 ds fs ms ts h1 h2 ih =>
    intro d es h
    have e : lastM m (f0.mom m.1 m.2 :: ms) = lastM (f0.mom m.1 m.2) ms := by
      unfold lastM
      cases ms with
      | nil => rfl
      | cons a l => rfl
    rw [e]
    exact ih (h.2.2.2 _ h1)
/-! ### a history told again -/
def momsOf (m : Mom) : List Fact → List Mom
  | [] => []
  | f :: fs => f.mom m.1 m.2 :: momsOf (f.mom m.1 m.2) fs
def ChainOk (m : Mom) : List Fact → Prop
  | [] => True
  | f :: fs => FactOk2 m.1 m.2 f ∧ m.2.length ≤ 60 ∧ (∀ s ∈ m.2, Okp 1000 s.2) ∧ ((∃ tt, f = .join tt) → m.2 = []) ∧ ChainOk (f.mom m.1 m.2) fs
end WS
set_option Elab.async false
set_option linter.all false
set_option maxRecDepth 100000
set_option maxHeartbeats 4000000
set_option Elab.async false
set_option linter.all false
set_option maxRecDepth 100000
set_option maxHeartbeats 4000000
set_option Elab.async false
set_option linter.all false
set_option maxRecDepth 100000
set_option maxHeartbeats 4000000
set_option Elab.async false
set_option linter.all false
set_option maxRecDepth 100000
set_option maxHeartbeats 4000000
namespace WS
open PySem PySem.Spec PyProof.Rows L2
/-! ### the moment behind some facts -/
def endM (m : Mom) (fs : List Fact) : Mom := fs.foldl (fun m f => f.mom m.1 m.2) m
theorem endM_snoc (m : Mom) (fs : List Fact) (f : Fact) : endM m (fs ++ [f]) = f.mom (endM m fs).1 (endM m fs).2 := by
  unfold endM
  rw [List.foldl_append]
  rfl
theorem momsOf_snoc (f : Fact) : ∀ (fs : List Fact) (m : Mom), momsOf m (fs ++ [f]) = momsOf m fs ++ [f.mom (endM m fs).1 (endM m fs).2]
  | [], m => rfl
  | g :: fs, m => by
    show g.mom m.1 m.2 :: momsOf (g.mom m.1 m.2) (fs ++ [f]) = g.mom m.1 m.2 :: (momsOf (g.mom m.1 m.2) fs ++ [_])
    rw [momsOf_snoc f fs]
    rfl
theorem ChainOk.at {f : Fact} {bs : List Fact} : ∀ {as : List Fact} {m : Mom}, ChainOk m (as ++ f :: bs) → FactOk2 (endM m as).1 (endM m as).2 f ∧ (endM m as).2.length ≤ 60 ∧ (∀ s ∈ (endM m as).2, Okp 1000 s.2) ∧ ((∃ tt, f = .join tt) → (endM m as).2 = [])
  | [], m, h => ⟨h.1, h.2.1, h.2.2.1, h.2.2.2.1⟩
  | a :: as, m, h => ChainOk.at (as := as) (m := a.mom m.1 m.2) h.2.2.2.2
end WS
set_option Elab.async false
set_option linter.all false
set_option maxRecDepth 100000
set_option maxHeartbeats 4000000
set_option Elab.async false
set_option linter.all false
set_option maxRecDepth 100000
set_option maxHeartbeats 4000000
namespace WS
open PySem PySem.Spec PyProof.Rows L2
/-! ### moments of a club, evening by evening, gift by gift -/
theorem good_abs {W : Int} {ss : List Seat} {N : Nat} (hW : 1 ≤ W) (g : Good W ss) (hN : W * ((ss.length : Nat) : Int) ≤ 2 * (N : Int)) (hp : ∀ s ∈ ss, 0 < s.2.2) : ∀ s ∈ ss, s.2.1.natAbs ≤ N * s.2.2.natAbs := fun s hs => by
  have h0 := hp s hs
  obtain ⟨i, hi⟩ := List.getElem?_of_mem hs
  have il := (List.getElem?_eq_some_iff.mp hi).1
  have e := gs_at hi
  have n1 : (1 : Int) ≤ ss.length := by omega
  have u1 := g.w [i] (by simp) (fun j hj => by rw [List.mem_singleton.mp hj]; exact il)
  have fp := filter_perm List.nodup_range (List.mem_range.mpr il)
  have u2 := g.w ((List.range ss.length).filter fun k => !decide (k = i)) (List.nodup_range.filter _) (fun j hj => List.mem_range.mp (List.mem_filter.mp hj).1)
  have ln := fp.length_eq
  rw [List.length_cons, List.length_range] at ln
  have sm := sumF_perm (f := owF ss) fp
  rw [g.z] at sm
  have s1 : sumF (owF ss) [i] = owF ss i := by
    unfold sumF
    simp [Rat.add_zero]
  have s2 : sumF (owF ss) (i :: (List.range ss.length).filter fun k => !decide (k = i)) = owF ss i + sumF (owF ss) ((List.range ss.length).filter fun k => !decide (k = i)) := by
    unfold sumF
    rw [List.map_cons, List.sum_cons]
  rw [s1] at u1
  rw [s2] at sm
  unfold mostR at u1 u2
  have el : ((((List.range ss.length).filter fun k => !decide (k = i)).length : Nat) : Int) = ((ss.length : Nat) : Int) - 1 := by omega
  rw [el, cast_sub] at u2
  have o1 : ((1 : Int) : Rat) = 1 := rfl
  have o2 : ((([i] : List Nat).length : Nat) : Int) = 1 := rfl
  rw [o2] at u1
  rw [o1] at u1 u2
  rw [owF_rat, e] at u1 sm
  have hb := cast_pos h0
  have hbn := cast_ne h0
  have hWn : (0 : Rat) ≤ (W : Rat) := cast_nn (by omega)
  have k1 : (s.2.1 : Rat) * 2 ≤ (W : Rat) * ((((ss.length : Nat) : Int) : Rat) - 1) * s.2.2 := by
    have : (s.2.1 : Rat) / s.2.2 * s.2.2 = s.2.1 := by grind
    have := Rat.mul_le_mul_of_nonneg_right u1 (Rat.le_of_lt hb)
    grind
  have k2 : -(s.2.1 : Rat) * 2 ≤ (W : Rat) * ((((ss.length : Nat) : Int) : Rat) - 1) * s.2.2 := by
    have : (s.2.1 : Rat) / s.2.2 * s.2.2 = s.2.1 := by grind
    have h3 : -((s.2.1 : Rat) / s.2.2) ≤ (W : Rat) * ((((ss.length : Nat) : Int) : Rat) - 1) * 1 / 2 := by grind
    have := Rat.mul_le_mul_of_nonneg_right h3 (Rat.le_of_lt hb)
    grind
  have i1 : s.2.1 * 2 ≤ W * (((ss.length : Nat) : Int) - 1) * s.2.2 := by
    refine cast_le.mp ?_
    rw [cast_mul, cast_mul, cast_mul, cast_sub]
    exact k1
  have i2 : (0 - s.2.1) * 2 ≤ W * (((ss.length : Nat) : Int) - 1) * s.2.2 := by
    refine cast_le.mp ?_
    rw [cast_mul, cast_mul, cast_mul, cast_sub, cast_sub]
    have : ((0 : Int) : Rat) = 0 := rfl
    rw [this]
    have e2 : ((2 : Int) : Rat) = 2 := rfl
    rw [e2, o1]
    grind
  have k0 : W * (((ss.length : Nat) : Int) - 1) * s.2.2 ≤ 2 * (N : Int) * s.2.2 := by
    refine Int.mul_le_mul_of_nonneg_right ?_ (by omega)
    have : W * (((ss.length : Nat) : Int) - 1) = W * ((ss.length : Nat) : Int) - W := by rw [Int.mul_sub, Int.mul_one]
    omega
  have k9 : (2 * (N : Int) * s.2.2) = 2 * ((N : Int) * s.2.2) := Int.mul_assoc _ _ _
  have ek : ((N * s.2.2.natAbs : Nat) : Int) = (N : Int) * s.2.2 := by
    rw [Int.natCast_mul, Int.natAbs_of_nonneg (by omega)]
  have : (s.2.1.natAbs : Int) ≤ (N : Int) * s.2.2 := by omega
  omega
structure M79 (D : Int) (j : Nat) (W : Int) (ss : List Seat) : Prop where
  l : ss.length ≤ 11
  w : 1 ≤ W
  b : W ≤ 2 ^ 110 + 5 * j
  nd : (names ss).Nodup
  nm : ∀ s ∈ ss, Nm0 s.1
  low : ∀ s ∈ ss, Lowest s.2.1 s.2.2 ∧ 0 < s.2.2 ∧ s.2.2 ∣ D
  g : Good W ss
  d0 : 0 < D
  db : Bt 100 D
  dv : ∀ m : Nat, 1 ≤ m → m ≤ 60 → ((m : Nat) : Int) ∣ D
section
variable {D : Int} {j : Nat} {W : Int} {ss : List Seat}
theorem M79.bw (h : M79 D j W ss) (hj : j ≤ 100) : W < 2 ^ 111 := by
  have := h.b
  have e : (2 : Int) ^ 111 = 2 * 2 ^ 110 := by decide +kernel
  have : (1000 : Int) < 2 ^ 110 := by decide +kernel
  omega
theorem M79.bt (h : M79 D j W ss) (hj : j ≤ 100) : Bt 111 W := Bt.of_lt (by have := h.w; omega) (h.bw hj)
theorem M79.okv (h : M79 D j W ss) (hj : j ≤ 100) : ∀ s ∈ ss, OkV D (2 ^ 115) s.2 := fun s hs => by
  obtain ⟨_, p, dv⟩ := h.low s hs
  refine ⟨p, dv, good_abs h.w h.g ?_ (fun s hs => (h.low s hs).2.1) s hs⟩
  have b := h.bw hj
  have w := h.w
  have l : ((ss.length : Nat) : Int) ≤ 11 := by have := h.l; omega
  have : W * ((ss.length : Nat) : Int) ≤ W * 11 := Int.mul_le_mul_of_nonneg_left l (by omega)
  have e : ((2 ^ 115 : Nat) : Int) = 16 * 2 ^ 111 := by decide +kernel
  rw [e]
  omega
theorem M79.okp (h : M79 D j W ss) (hj : j ≤ 100) : ∀ s ∈ ss, Okp 220 s.2 := fun s hs => (h.okv hj s hs).okp h.d0 h.db (n := 116) (Nat.pow_lt_pow_right (by decide) (by omega)) (by decide)
theorem M79.sane (h : M79 D j W ss) (hj : j ≤ 100) : Sane W ss := ⟨by have := h.l; omega, h.w, (h.bt hj).mono (by decide), h.nd, fun s hs => (h.okp hj s hs).mono (by decide)⟩
theorem M79.row (h : M79 D j W ss) (hj : j ≤ 100) : SaneRow (ss.map Prod.snd) := by
  have l := h.l
  refine SaneRow.of (D := D) (N := 2 ^ 115) (d := 100) (n := 120) (by rw [List.length_map]; omega) h.d0 h.db (fun q hq => ?_) ?_ (by decide) (by decide)
  · obtain ⟨s, hs, rfl⟩ := List.mem_map.mp hq
    exact h.okv hj s hs
  · rw [List.length_map]
    have : ss.length * 2 ^ 115 ≤ 11 * 2 ^ 115 := Nat.mul_le_mul_right _ l
    have e : (2 : Nat) ^ 120 = 32 * 2 ^ 115 := by decide +kernel
    omega
theorem M79.sane2 (h : M79 D j W ss) (hj : j ≤ 100) : Sane2 W ss := ⟨by have := h.l; omega, h.w, (h.bt hj).mono (by decide), h.nd, fun s hs => (h.okp hj s hs).mono (by decide), h.row hj⟩
theorem M79.up {j' : Nat} (h : M79 D j W ss) (k : j ≤ j') : M79 D j' W ss := ⟨h.l, h.w, by have := h.b; omega, h.nd, h.nm, h.low, h.g, h.d0, h.db, h.dv⟩
theorem M79.at (h : M79 D j W ss) (i : Nat) : Lowest (gs ss i).2.1 (gs ss i).2.2 ∧ 0 < (gs ss i).2.2 ∧ (gs ss i).2.2 ∣ D := by
  by_cases c : i < ss.length
  · exact h.low _ (gs_mem c)
  · have : WS.gs ss i = (("", (0, 1)) : Seat) := by
      unfold WS.gs
      rw [List.getD_eq_getElem?_getD, List.getElem?_eq_none (by omega)]
      rfl
    rw [this]
    exact ⟨(nought23 D).1, by decide, Int.one_dvd D⟩
theorem M79.come {z : Str} (h : M79 D j W ss) (hz : Nm z) (hn : z ∉ names ss) (hr11 : room ss < 11) : M79 D j W (put ss (room ss) z) := by
  have hr := room_le ss
  have h12 := h.l
  refine ⟨?_, h.w, h.b, nd_come h.nd hz hn, fun s hs => ?_, fun s hs => ?_, ?_, h.d0, h.db, h.dv⟩
  · rw [put_len ss _ z hr]
    split <;> omega
  · rcases put_mem hs with hs | rfl
    · exact h.nm s hs
    · exact .inr hz
  · rcases put_mem hs with hs | rfl
    · exact h.low s hs
    · exact h.at _
  · by_cases c : room ss < ss.length
    · exact h.g.put c
    · have e : room ss = ss.length := by omega
      rw [e, put_end]
      exact good_zeros (by have := h.w; omega) h.g [z]
theorem M79.leave {i : Nat} (h : M79 D j W ss) (hi : i < ss.length) : M79 D j W (put ss i "") := by
  refine ⟨?_, h.w, h.b, nd_leave h.nd hi, fun s hs => ?_, fun s hs => ?_, h.g.put hi, h.d0, h.db, h.dv⟩
  · rw [put_len ss _ _ (by omega), if_pos hi]
    exact h.l
  · rcases put_mem hs with hs | rfl
    · exact h.nm s hs
    · exact .inl rfl
  · rcases put_mem hs with hs | rfl
    · exact h.low s hs
    · exact h.at _
theorem M79.weigh {V : Int} (h : M79 D j W ss) (h1 : W ≤ V) (h2 : V ≤ W + 5) : M79 D (j + 1) V ss := ⟨h.l, by have := h.w; omega, by have := h.b; omega, h.nd, h.nm, h.low, h.g.up h1, h.d0, h.db, h.dv⟩
theorem M79.plain {d : Deed} {f : Fact} (h : M79 D j W ss) (hj : j ≤ 100) (hp : Plain d) (hL : Lets W ss d) (hM : Makes ss d f) (hg : ∀ y z g, d = .gift y z g → y ≠ z ∧ 0 < g.2 ∧ g.2 ∣ D ∧ ∃ N, OkV D N g) : M79 D j (f.mom W ss).1 (f.mom W ss).2 := by
  have hs := h.sane hj
  have ok := fact_ok hs hL hM
  obtain ⟨lo', tc⟩ := local_of hs.nd hp hL hM
  obtain ⟨ef, ew⟩ := mom_fst ok lo'
  have el := fst_len ef
  have pos : ∀ s ∈ ss, 0 < s.2.2 := fun s hs => (h.low s hs).2.1
  rw [ew]
  -- what is at each seat
  have key : ∀ i, i < ss.length → Lowest (behF (fun j => (WS.gs ss j).2) f i).1 (behF (fun j => (WS.gs ss j).2) f i).2 ∧ ∃ N, OkV D N (behF (fun j => (WS.gs ss j).2) f i) := fun i hi => by
    have lw := (h.at i).1
    have ov := h.okv hj _ (gs_mem hi)
    cases d with
    | ev zs ns =>
      obtain ⟨os, hO, rfl⟩ := hM
      obtain ⟨hT, ln, hn⟩ := hL
      have pp := places_perm hs.nd hT.2.2.1 hT.2.2.2
      have pl' := pp.length_eq
      rw [List.length_map] at pl'
      have z12 : zs.length ≤ 12 := by
        have := List.Nodup.length_le_of_subset hT.2.2.1 hT.2.2.2
        have := names_len ss
        have := h.l
        omega
      obtain ⟨ds, eds⟩ : ∃ ds, ds = byS ss os (down ns) := ⟨_, rfl⟩
      have p0 : 0 < (((placesOf ss zs).length : Nat) : Int) := by have := hT.1; omega
      have osh : OkV D ((ds.map Prod.snd).sum.natAbs) (WS.lo (ds.map Prod.snd).sum ((placesOf ss zs).length : Nat)) := okV_of h.d0 p0 (h.dv _ (by have := hT.1; omega) (by omega)) (Nat.le_refl _)
      have q0 : Lowest (if i ∈ placesOf ss zs then pl (WS.gs ss i).2 (WS.lo (ds.map Prod.snd).sum ((placesOf ss zs).length : Nat)) else (WS.gs ss i).2).1 (if i ∈ placesOf ss zs then pl (WS.gs ss i).2 (WS.lo (ds.map Prod.snd).sum ((placesOf ss zs).length : Nat)) else (WS.gs ss i).2).2 ∧ ∃ N, OkV D N (if i ∈ placesOf ss zs then pl (WS.gs ss i).2 (WS.lo (ds.map Prod.snd).sum ((placesOf ss zs).length : Nat)) else (WS.gs ss i).2) := by
        by_cases c : i ∈ placesOf ss zs
        · rw [if_pos c]
          exact ⟨pl_lowest ov.1 osh.1, _, ov.pl h.d0 osh⟩
        · rw [if_neg c]
          exact ⟨lw, _, ov⟩
      obtain ⟨b1, N, b2⟩ := q0
      rw [← eds]
      show Lowest (match ds.lookup i with | some d => mi _ (WS.lo d 1) | none => _).1 (match ds.lookup i with | some d => mi _ (WS.lo d 1) | none => _).2 ∧ ∃ N, OkV D N (match ds.lookup i with | some d => mi _ (WS.lo d 1) | none => _)
      cases e : ds.lookup i with
      | none => exact ⟨b1, N, b2⟩
      | some x =>
        have o1 : OkV D x.natAbs (WS.lo x 1) := okV_of h.d0 (by decide) (Int.one_dvd D) (Nat.le_refl _)
        exact ⟨mi_low b2.1 o1.1, _, b2.mi h.d0 o1⟩
    | gift y z g =>
      obtain rfl := hM
      obtain ⟨hy, hz, lg, _, _, _⟩ := hL
      obtain ⟨_, _, _, N, og⟩ := hg y z g rfl
      have la := (h.at (idx ss y)).1
      have oa := h.okv hj _ (gs_mem (idx_lt hy))
      have lb := (h.at (idx ss z)).1
      have ob := h.okv hj _ (gs_mem (idx_lt hz))
      show Lowest (if i = idx ss z then pl (WS.gs ss (idx ss z)).2 g else if i = idx ss y then mi (WS.gs ss (idx ss y)).2 g else (WS.gs ss i).2).1 (if i = idx ss z then pl (WS.gs ss (idx ss z)).2 g else if i = idx ss y then mi (WS.gs ss (idx ss y)).2 g else (WS.gs ss i).2).2 ∧ ∃ N, OkV D N (if i = idx ss z then pl (WS.gs ss (idx ss z)).2 g else if i = idx ss y then mi (WS.gs ss (idx ss y)).2 g else (WS.gs ss i).2)
      by_cases c1 : i = idx ss z
      · rw [if_pos c1]
        exact ⟨pl_lowest ob.1 og.1, _, ob.pl h.d0 og⟩
      · rw [if_neg c1]
        by_cases c2 : i = idx ss y
        · rw [if_pos c2]
          exact ⟨mi_low oa.1 og.1, _, oa.mi h.d0 og⟩
        · rw [if_neg c2]
          exact ⟨lw, _, ov⟩
    | _ => exact hp.elim
  have all : ∀ s ∈ (f.mom W ss).2, ∃ i, i < ss.length ∧ s = ((WS.gs ss i).1, behF (fun j => (WS.gs ss j).2) f i) := fun s hs' => by
    obtain ⟨i, hi, e⟩ := List.mem_iff_getElem.mp hs'
    refine ⟨i, by omega, ?_⟩
    rw [← mom_gs ok lo' (by omega)]
    exact (gs_at (by rw [List.getElem?_eq_getElem hi, e])).symm
  refine ⟨by rw [el]; exact h.l, h.w, h.b, by rw [fst_nms ef]; exact h.nd, fun s hs' => ?_, fun s hs' => ?_, ?_, h.d0, h.db, h.dv⟩
  · obtain ⟨i, hi, rfl⟩ := all s hs'
    exact h.nm (WS.gs ss i) (gs_mem hi)
  · obtain ⟨i, hi, rfl⟩ := all s hs'
    obtain ⟨k1, N, k2⟩ := key i hi
    exact ⟨k1, k2.1, k2.2.1⟩
  · cases d with
    | ev zs ns =>
      obtain ⟨os, hO, rfl⟩ := hM
      obtain ⟨hT, ln, hn⟩ := hL
      obtain ⟨po, wo, eos⟩ := order_O hT.2.2.2 hT.2.2.1 hs.nd hO
      have gB := good_behS (ns := ns) h.w h.g pos hT.1 hs.nd hT.2.2.2 po wo (by rw [eos]; exact hO.1) ln hn
      rw [eos] at gB
      unfold behS at gB
      rw [rowE_perm (places_perm hs.nd hT.2.2.1 hT.2.2.2)] at gB
      exact gB
    | gift y z g =>
      obtain rfl := hM
      obtain ⟨hy, hz, lg, g0, hle, _⟩ := hL
      obtain ⟨ne, gp, _, _⟩ := hg y z g rfl
      have hne : idx ss y ≠ idx ss z := fun e => by
        have a := gs_idx hy
        have b := gs_idx hz
        rw [e, b] at a
        exact ne a.symm
      refine good_gift h.g pos gp (idx_lt hy) (idx_lt hz) hne ?_ hle
      have : rv (0, 1) < rv g := (ltp_iff (p := (0, 1)) (q := g) (by decide) gp).mp (decide_eq_true (by show (0 : Int) * g.2 < g.1 * 1; omega))
      rw [rv_nought] at this
      exact Rat.le_of_lt this
    | _ => exact hp.elim
end
end WS
set_option Elab.async false
set_option linter.all false
set_option maxRecDepth 100000
set_option maxHeartbeats 4000000
namespace WS
open PySem PySem.Spec PyProof.Rows L2
/-! ### k79: promises of the law -/
/-- a deed as this law draws them -/
def Nice79 (D W : Int) (ss : List Seat) (d : Deed) : Prop := Lets2 W ss d ∧ match d with
  | .ev _ _ => True
  | .gift y z g => y ≠ z ∧ 0 < g.2 ∧ g.2 ∣ D ∧ ∃ N, OkV D N g
  | .come _ => room ss < 11
  | .leave _ => True
  | .weigh V => W ≤ V ∧ V ≤ W + 5
  | _ => False
theorem M79.step {D : Int} {j : Nat} {W : Int} {ss : List Seat} {d : Deed} {f : Fact} (h : M79 D j W ss) (hj : j ≤ 100) (n : Nice79 D W ss d) (hM : Makes ss d f) : M79 D (j + 1) (f.mom W ss).1 (f.mom W ss).2 := by
  obtain ⟨L, n⟩ := n
  cases d with
  | ev zs ns => exact (h.plain (d := .ev zs ns) hj trivial L hM (fun y z g e => by cases e)).up (by omega)
  | gift y z g =>
    refine (h.plain (d := .gift y z g) hj n.1 L hM (fun y' z' g' e => ?_)).up (by omega)
    cases e
    exact n
  | join W' tt => exact n.elim
  | offer zs sd => exact n.elim
  | come z =>
    obtain rfl := hM
    exact (h.come L.1 L.2 n).up (by omega)
  | leave z =>
    obtain rfl := hM
    exact (h.leave (idx_lt L)).up (by omega)
  | weigh V =>
    obtain rfl := hM
    exact h.weigh n.1 n.2
end WS
set_option Elab.async false
set_option linter.all false
set_option maxRecDepth 100000
set_option maxHeartbeats 4000000
namespace WS
open PySem PySem.Spec PyProof.Rows L2
/-! ### a club's whole history -/
/-- a fact that is told in few signs -/
def FSh (f : Fact) : Prop := Sh 40000 6 f.d ∧ ∀ z i, (f = .come z i ∨ f = .leave z i) → Nm0 z
/-- .. and, an evening, among two or more -/
def FS2 (m : Mom) (f : Fact) : Prop := FSh f ∧ ∀ is ds, f = .ev is ds → 2 ≤ (names m.2).length
def Hist (D : Int) : Mom → List Fact → Prop
  | m, [] => M79 D 100 m.1 m.2
  | m, f :: fs => M79 D 100 m.1 m.2 ∧ FactOk2 m.1 m.2 f ∧ ((∃ tt, f = .join tt) → m.2 = []) ∧ FS2 m f ∧ Hist D (f.mom m.1 m.2) fs
theorem Hist.hd {D : Int} {m : Mom} {fs : List Fact} (h : Hist D m fs) : M79 D 100 m.1 m.2 := by
  cases fs with
  | nil => exact h
  | cons f fs => exact h.1
theorem Hist.snoc {D : Int} {f : Fact} : ∀ {fs : List Fact} {m : Mom}, Hist D m fs → FactOk2 (endM m fs).1 (endM m fs).2 f → ((∃ tt, f = .join tt) → (endM m fs).2 = []) → FS2 (endM m fs) f → M79 D 100 (f.mom (endM m fs).1 (endM m fs).2).1 (f.mom (endM m fs).1 (endM m fs).2).2 → Hist D m (fs ++ [f])
  | [], m, h, h1, h2, h3, h4 => ⟨h, h1, h2, h3, h4⟩
  | g :: fs, m, h, h1, h2, h3, h4 => ⟨h.1, h.2.1, h.2.2.1, h.2.2.2.1, Hist.snoc (fs := fs) (m := g.mom m.1 m.2) h.2.2.2.2 h1 h2 h3 h4⟩
theorem Hist.two {D : Int} {is : List Nat} {ds : List (Nat × Int)} : ∀ {fs : List Fact} {m : Mom} {n : Nat}, Hist D m fs → fs[n]? = some (.ev is ds) → ∀ x, (m :: momsOf m fs)[n]? = some x → 2 ≤ (names x.2).length
  | [], m, n, h, e, _, _ => by cases e
  | g :: fs, m, 0, h, e, x, ex => by
    cases e
    cases ex
    exact h.2.2.2.1.2 _ _ rfl
  | g :: fs, m, n + 1, h, e, x, ex => Hist.two (fs := fs) h.2.2.2.2 e x ex
end WS
set_option Elab.async false
set_option linter.all false
set_option maxRecDepth 100000
set_option maxHeartbeats 4000000
namespace WS
open PySem PySem.Spec PyProof.Rows L2
/-! ### how a club is shown -/
theorem nat_sh79 {k : Nat} (h : k ≤ 1000) : Sh 11 1 (natD k) := Sh.int (m := 10) (by omega) (by omega) (Bt.of_lt (by omega) (by rw [show (2 : Int) ^ 10 = 1024 from by decide]; omega))
theorem nm_sh79 {z : Str} (h : Nm0 z) : Sh 388 1 (.str z) := (nm_sh h).mono (by omega) (by omega)
theorem MomsAt.dp {K : PySem.W.Frag} {H : Hp} {vs : List V} {ms : List Mom} (h : MomsAt K H vs ms) : DpAll K H vs (ms.map fun m : Mom => momD m.1 m.2) := by
  refine dpall_mk (by rw [List.length_map, h.1]) fun i v d hv hd => ?_
  rw [List.getElem?_map] at hd
  cases e : ms[i]? with
  | none => rw [e] at hd; cases hd
  | some m =>
    rw [e] at hd
    obtain rfl := Option.some.inj hd
    exact (h.2 i v m hv e).dp
theorem FactsAt.dp {K : PySem.W.Frag} {H : Hp} {vs : List V} {fs : List Fact} (h : FactsAt K H vs fs) : DpAll K H vs (fs.map Fact.d) := by
  refine dpall_mk (by rw [List.length_map, h.1]) fun i v d hv hd => ?_
  rw [List.getElem?_map] at hd
  cases e : fs[i]? with
  | none => rw [e] at hd; cases hd
  | some m =>
    rw [e] at hd
    obtain rfl := Option.some.inj hd
    exact (h.2 i v m hv e).1
/-- a club of this law -/
structure Cl79 (C : Addr) (K : PySem.W.Frag) (H : Hp) (c fl ml : Addr) (D W0 : Int) (j : Nat) (fs : List Fact) : Prop where
  c : ClubAt C K H c fl ml W0 fs ((W0, []) :: momsOf (W0, []) fs)
  h : Hist D (W0, []) fs
  e : M79 D j (endM (W0, []) fs).1 (endM (W0, []) fs).2
  w : 1 ≤ W0
  l : fs.length ≤ j + 1
theorem Cl79.sm {C : Addr} {K : PySem.W.Frag} {H H1 : Hp} {c fl ml : Addr} {D W0 : Int} {j : Nat} {fs : List Fact} (h : Cl79 C K H c fl ml D W0 j fs) (s : Same H H1) : Cl79 C K H1 c fl ml D W0 j fs := ⟨h.c.sm s, h.h, h.e, h.w, h.l⟩
theorem Cl79.ne {C : Addr} {K : PySem.W.Frag} {H : Hp} {c fl ml : Addr} {D W0 : Int} {j : Nat} {fs : List Fact} (h : Cl79 C K H c fl ml D W0 j fs) : c ≠ fl ∧ c ≠ ml := by
  obtain ⟨dx, hi⟩ := h.c.ins
  obtain ⟨xs, hF, _⟩ := h.c.fs
  obtain ⟨us, hM, _⟩ := h.c.ms
  exact ⟨fun z => (by rw [z, hF] at hi; cases hi), fun z => (by rw [z, hM] at hi; cases hi)⟩
theorem M79.nil {D : Int} {j : Nat} {W : Int} {ss : List Seat} (h : M79 D j W ss) : M79 D j W [] := ⟨by simp, h.w, h.b, by simp [names], fun s hs => (by cases hs), fun s hs => (by cases hs), good_nil, h.d0, h.db, h.dv⟩
theorem Cl79.new {C : Addr} {K : PySem.W.Frag} {H : Hp} {c fl ml : Addr} {D W : Int} {ss : List Seat} (m : M79 D 0 W ss) (h : ClubAt C K H c fl ml W [] [(W, [])]) : Cl79 C K H c fl ml D W 0 [] := ⟨h, (m.nil).up (by omega), m.nil, m.w, by simp⟩
end WS
set_option Elab.async false
set_option linter.all false
set_option maxRecDepth 100000
set_option maxHeartbeats 4000000
namespace WS
open PySem PySem.Spec PyProof.Rows L2
/-! ### a deed more -/
theorem word_sh79 {z : Str} (h : z.length ≤ 8 := by decide) (hc : (PyData.str z).shown.length ≤ 82 := by decide +kernel) : Sh 82 1 (.str z) := ⟨rfl, rfl, by simp [PyData.depth], hc⟩
theorem fact_sh79 {D : Int} {j : Nat} {W : Int} {ss : List Seat} {d : Deed} {f : Fact} (m : M79 D j W ss) (hj : j ≤ 100) (n : Nice79 D W ss d) (hM : Makes ss d f) : FSh f := by
  have hs := m.sane hj
  obtain ⟨L, n⟩ := n
  cases d with
  | join W' tt => exact n.elim
  | offer zs sd => exact n.elim
  | come z =>
    obtain rfl := hM
    have hz : Nm0 z := .inr L.1
    refine ⟨?_, fun z' i e => by rcases e with e | e <;> cases e; exact hz⟩
    refine (Sh.tup (n := 388) (k := 1) (m := 3) (ds := [.str "come", .str z, natD (room ss)]) (fun d hd => ?_) (Nat.le_refl _)).mono (by omega) (by omega)
    simp only [List.mem_cons, List.not_mem_nil, or_false] at hd
    rcases hd with rfl | rfl | rfl
    · exact (word_sh79 (z := "come")).mono (by omega) (by omega)
    · exact nm_sh79 hz
    · exact (nat_sh79 (by have := room_le ss; have := m.l; omega)).mono (by omega) (by omega)
  | leave z =>
    obtain rfl := hM
    have hz : Nm0 z := by
      have := m.nm _ (gs_mem (idx_lt (show z ∈ names ss from L)))
      rwa [gs_idx (show z ∈ names ss from L)] at this
    refine ⟨?_, fun z' i e => by rcases e with e | e <;> cases e; exact hz⟩
    refine (Sh.tup (n := 388) (k := 1) (m := 3) (ds := [.str "leave", .str z, natD (idx ss z)]) (fun d hd => ?_) (Nat.le_refl _)).mono (by omega) (by omega)
    simp only [List.mem_cons, List.not_mem_nil, or_false] at hd
    rcases hd with rfl | rfl | rfl
    · exact (word_sh79 (z := "leave")).mono (by omega) (by omega)
    · exact nm_sh79 hz
    · exact (nat_sh79 (by have := idx_lt (show z ∈ names ss from L); have := m.l; omega)).mono (by omega) (by omega)
  | weigh V =>
    obtain rfl := hM
    refine ⟨?_, fun z' i e => by rcases e with e | e <;> cases e⟩
    refine (Sh.tup (n := 901) (k := 1) (m := 2) (ds := [.str "weigh", .int V]) (fun d hd => ?_) (Nat.le_refl _)).mono (by omega) (by omega)
    simp only [List.mem_cons, List.not_mem_nil, or_false] at hd
    rcases hd with rfl | rfl
    · exact (word_sh79 (z := "weigh")).mono (by omega) (by omega)
    · exact Sh.int (by omega) (by omega) L.2.1
  | gift y z g =>
    obtain rfl := hM
    obtain ⟨hy, hz, _, _, _, og⟩ := (show Lets W ss (.gift y z g) from L)
    refine ⟨?_, fun z' i e => by rcases e with e | e <;> cases e⟩
    refine (Sh.tup (n := 2008) (k := 2) (m := 4) (ds := [.str "gift", natD (idx ss y), natD (idx ss z), pdP g]) (fun d hd => ?_) (Nat.le_refl _)).mono (by omega) (by omega)
    have l := m.l
    simp only [List.mem_cons, List.not_mem_nil, or_false] at hd
    rcases hd with rfl | rfl | rfl | rfl
    · exact (word_sh79 (z := "gift")).mono (by omega) (by omega)
    · exact (nat_sh79 (by have := idx_lt hy; omega)).mono (by omega) (by omega)
    · exact (nat_sh79 (by have := idx_lt hz; omega)).mono (by omega) (by omega)
    · exact (Sh.pd (m := 1000) (by omega) (by omega) og.2.1 og.2.2).mono (by omega) (by omega)
  | ev zs ns =>
    have L : Lets W ss (.ev zs ns) := L
    have ok := fact_ok hs L hM
    obtain ⟨os, hO, rfl⟩ := hM
    obtain ⟨hT, ln, hn⟩ := L
    obtain ⟨ds, eds⟩ : ∃ ds, ds = byS ss os (down ns) := ⟨_, rfl⟩
    rw [← eds] at ok ⊢
    obtain ⟨o1, o2, o3, o4, o5, o6, o7⟩ := ok
    have l := m.l
    refine ⟨?_, fun z' i e => by rcases e with e | e <;> cases e⟩
    have h1 : Sh 1500 2 (.tuple ((placesOf ss zs).map natD)) := by
      refine (Sh.tup (n := 11) (k := 1) (m := 100) (fun d hd => ?_) (by rw [List.length_map]; exact o3)).mono (by omega) (by omega)
      obtain ⟨i, hi, rfl⟩ := List.mem_map.mp hd
      exact nat_sh79 (by have := o4 i hi; omega)
    have b111 : ∀ x ∈ ds, Bt 111 x.2 := fun x hx => by
      have hx2 : x.2 ∈ ds.map Prod.snd := List.mem_map_of_mem hx
      rw [eds] at hx2
      have := hn x.2 ((down_perm ns).mem_iff.mp (byS_snd_in hx2))
      exact Bt.of_lt (by omega) (Int.lt_of_le_of_lt this.2 (m.bw hj))
    have dl : ds.length ≤ 11 := by
      have := o5.length_le_of_subset (l₂ := List.range 11) (fun i hi => by
        obtain ⟨x, hx, rfl⟩ := List.mem_map.mp hi
        exact List.mem_range.mpr (by have := (o6 x hx).1; omega))
      rwa [List.length_map, List.length_range] at this
    have h2 : Sh 2600 3 (.tuple (ds.map dutD)) := by
      refine (Sh.tup (n := 230) (k := 2) (m := 11) (fun d hd => ?_) (by rw [List.length_map]; exact dl)).mono (by omega) (by omega)
      obtain ⟨x, hx, rfl⟩ := List.mem_map.mp hd
      refine (Sh.tup (n := 112) (k := 1) (m := 2) (ds := [natD x.1, .int x.2]) (fun d hd => ?_) (Nat.le_refl _)).mono (by omega) (by omega)
      simp only [List.mem_cons, List.not_mem_nil, or_false] at hd
      rcases hd with rfl | rfl
      · exact (nat_sh79 (by have := (o6 x hx).1; omega)).mono (by omega) (by omega)
      · exact Sh.int (by omega) (by omega) (b111 x hx)
    refine (Sh.tup (n := 2600) (k := 3) (m := 3) (ds := [.str "evening", .tuple ((placesOf ss zs).map natD), .tuple (ds.map dutD)]) (fun d hd => ?_) (Nat.le_refl _)).mono (by omega) (by omega)
    simp only [List.mem_cons, List.not_mem_nil, or_false] at hd
    rcases hd with rfl | rfl | rfl
    · exact (word_sh79 (z := "evening")).mono (by omega) (by omega)
    · exact h1.mono (by omega) (by omega)
    · exact h2
theorem Hist.step {D W0 : Int} {j : Nat} {fs : List Fact} {d : Deed} {f : Fact} (h : Hist D (W0, []) fs) (e : M79 D j (endM (W0, []) fs).1 (endM (W0, []) fs).2) (hj : j ≤ 90) (n : Nice79 D (endM (W0, []) fs).1 (endM (W0, []) fs).2 d) (hM : Makes (endM (W0, []) fs).2 d f) : Hist D (W0, []) (fs ++ [f]) ∧ M79 D (j + 1) (endM (W0, []) (fs ++ [f])).1 (endM (W0, []) (fs ++ [f])).2 := by
  have m2 := e.step (by omega) n hM
  refine ⟨Hist.snoc h (fact_ok2 (e.sane2 (by omega)) n.1 hM) (fun ⟨tt, z⟩ => ?_) ⟨fact_sh79 e (by omega) n hM, fun is ds z => ?_⟩ (m2.up (by omega)), by rw [endM_snoc]; exact m2⟩
  rotate_left
  · subst z
    cases d with
    | ev zs ns =>
      have hT := (show Lets _ _ (.ev zs ns) from n.1).1
      exact Nat.le_trans hT.1 (hT.2.2.1.length_le_of_subset hT.2.2.2)
    | join W' tt => exact n.2.elim
    | offer zs sd => exact n.2.elim
    | gift y z g => cases hM
    | come z => cases hM
    | leave z => cases hM
    | weigh V => cases hM
  subst z
  cases d with
  | join W' tt => exact n.2.elim
  | offer zs sd => exact n.2.elim
  | ev zs ns => obtain ⟨os, _, z⟩ := hM; cases z
  | gift y z g => cases hM
  | come z => cases hM
  | leave z => cases hM
  | weigh V => cases hM
theorem Cl79.step {C : Addr} {K : PySem.W.Frag} {H H' : Hp} {c fl ml : Addr} {D W0 : Int} {j : Nat} {fs : List Fact} {d : Deed} {f : Fact} (h : Cl79 C K H c fl ml D W0 j fs) (hj : j ≤ 90) (n : Nice79 D (endM (W0, []) fs).1 (endM (W0, []) fs).2 d) (hM : Makes (endM (W0, []) fs).2 d f)
    (hC : ClubAt C K H' c fl ml W0 (fs ++ [f]) (((W0, []) :: momsOf (W0, []) fs) ++ [f.mom (endM (W0, []) fs).1 (endM (W0, []) fs).2])) : Cl79 C K H' c fl ml D W0 (j + 1) (fs ++ [f]) := by
  obtain ⟨a, b⟩ := Hist.step h.h h.e hj n hM
  refine ⟨?_, a, b, h.w, by have := h.l; simp; omega⟩
  rw [momsOf_snoc]
  exact hC
end WS
set_option Elab.async false
set_option linter.all false
set_option maxRecDepth 100000
set_option maxHeartbeats 4000000
set_option Elab.async false
set_option linter.all false
set_option maxRecDepth 100000
set_option maxHeartbeats 4000000
set_option Elab.async false
set_option linter.all false
set_option maxRecDepth 100000
set_option maxHeartbeats 4000000
namespace WS
open PySem PySem.Spec PyProof.Rows L2
/-! ### several deeds in a row -/
inductive NRun (D : Int) : Mom → List Deed → List Fact → List PyData → Prop
  | nil (m : Mom) : NRun D m [] [] []
  | cons {m : Mom} {d : Deed} {f : Fact} {ds : List Deed} {fs : List Fact} {ts : List PyData} : M79 D 90 m.1 m.2 → Nice79 D m.1 m.2 d → Makes m.2 d f → NRun D (f.mom m.1 m.2) ds fs ts → NRun D m (d :: ds) (f :: fs) (told (f.mom m.1 m.2).2 d f :: ts)
theorem NRun.one {D : Int} {m : Mom} {ds : List Deed} {fs : List Fact} {ts : List PyData} (h : NRun D m ds fs ts) : ∀ {fs' : List Fact} {ms' : List Mom} {ts' : List PyData}, RunOf m ds fs' ms' ts' → fs' = fs ∧ ms' = momsOf m fs ∧ ts' = ts := by
  induction h with
  | nil m => intro fs' ms' ts' r; cases r; exact ⟨rfl, rfl, rfl⟩
  | @cons m d f ds fs ts h1 h2 h3 h4 ih =>
    intro fs' ms' ts' r
    cases r with
    | cons a b =>
      obtain rfl := makes_one a h3
      obtain ⟨e1, e2, e3⟩ := ih b
      exact ⟨by rw [e1], by rw [e2]; rfl, by rw [e3]⟩
theorem NRun.len {D : Int} {m : Mom} {ds : List Deed} {fs : List Fact} {ts : List PyData} (h : NRun D m ds fs ts) : ds.length = fs.length ∧ ts.length = fs.length := by
  induction h with
  | nil m => exact ⟨rfl, rfl⟩
  | cons _ _ _ _ ih => exact ⟨by simp [ih.1], by simp [ih.2]⟩
theorem DeedsAt.dp {K : PySem.W.Frag} {H : Hp} {vs : List V} {ds : List Deed} (h : DeedsAt K H vs ds) : DpAll K H vs (ds.map Deed.d) := by
  refine dpall_mk (by rw [List.length_map, h.1]) fun i v d hv hd => ?_
  rw [List.getElem?_map] at hd
  cases e : ds[i]? with
  | none => rw [e] at hd; cases hd
  | some m =>
    rw [e] at hd
    obtain rfl := Option.some.inj hd
    exact (h.2 i v m hv e).1
end WS
set_option Elab.async false
set_option linter.all false
set_option maxRecDepth 100000
set_option maxHeartbeats 4000000
set_option Elab.async false
set_option linter.all false
set_option maxRecDepth 100000
set_option maxHeartbeats 4000000
namespace WS
open PySem PySem.Spec PyProof.Rows L2
/-! ### levelling: gaps, gift by gift -/
def fgF (ps : List (Int × Int)) (f i : Nat) : Nat := if ltp (gp ps f) (gp ps i) = true then i else f
def flF (ps : List (Int × Int)) (f i : Nat) : Nat := if ltp (gp ps i) (gp ps f) = true then i else f
def fgr (ps : List (Int × Int)) : Nat := (List.range ps.length).foldl (fgF ps) 0
def fls (ps : List (Int × Int)) : Nat := (List.range ps.length).foldl (flF ps) 0
theorem fgF_fold {ps : List (Int × Int)} (hp : ∀ q ∈ ps, 0 < q.2) (n : Nat) : ∀ (l : List Nat) (f : Nat), f < n → (∀ i ∈ l, i < n) → l.foldl (fgF ps) f < n ∧ rv (gp ps f) ≤ rv (gp ps (l.foldl (fgF ps) f)) ∧ ∀ i ∈ l, rv (gp ps i) ≤ rv (gp ps (l.foldl (fgF ps) f))
  | [], f, hf, _ => ⟨hf, Rat.le_refl, fun i hi => (List.not_mem_nil hi).elim⟩
  | i :: l, f, hf, hl => by
    have e : (i :: l).foldl (fgF ps) f = l.foldl (fgF ps) (fgF ps f i) := rfl
    rw [e]
    have step : fgF ps f i < n ∧ rv (gp ps f) ≤ rv (gp ps (fgF ps f i)) ∧ rv (gp ps i) ≤ rv (gp ps (fgF ps f i)) := by
      unfold fgF
      by_cases c : ltp (gp ps f) (gp ps i) = true
      · rw [if_pos c]
        exact ⟨hl i List.mem_cons_self, Rat.le_of_lt ((ltp_iff (gp_pos hp _) (gp_pos hp _)).mp c), Rat.le_refl⟩
      · rw [if_neg c]
        exact ⟨hf, Rat.le_refl, (ltp_no (gp_pos hp _) (gp_pos hp _)).mp (Bool.eq_false_iff.mpr c)⟩
    obtain ⟨a, b, d⟩ := fgF_fold hp n l _ step.1 fun j hj => hl j (List.mem_cons_of_mem _ hj)
    refine ⟨a, Rat.le_trans step.2.1 b, fun j hj => ?_⟩
    rcases List.mem_cons.mp hj with rfl | hj
    · exact Rat.le_trans step.2.2 b
    · exact d j hj
theorem flF_fold {ps : List (Int × Int)} (hp : ∀ q ∈ ps, 0 < q.2) (n : Nat) : ∀ (l : List Nat) (f : Nat), f < n → (∀ i ∈ l, i < n) → l.foldl (flF ps) f < n ∧ rv (gp ps (l.foldl (flF ps) f)) ≤ rv (gp ps f) ∧ ∀ i ∈ l, rv (gp ps (l.foldl (flF ps) f)) ≤ rv (gp ps i)
  | [], f, hf, _ => ⟨hf, Rat.le_refl, fun i hi => (List.not_mem_nil hi).elim⟩
  | i :: l, f, hf, hl => by
    have e : (i :: l).foldl (flF ps) f = l.foldl (flF ps) (flF ps f i) := rfl
    rw [e]
    have step : flF ps f i < n ∧ rv (gp ps (flF ps f i)) ≤ rv (gp ps f) ∧ rv (gp ps (flF ps f i)) ≤ rv (gp ps i) := by
      unfold flF
      by_cases c : ltp (gp ps i) (gp ps f) = true
      · rw [if_pos c]
        exact ⟨hl i List.mem_cons_self, Rat.le_of_lt ((ltp_iff (gp_pos hp _) (gp_pos hp _)).mp c), Rat.le_refl⟩
      · rw [if_neg c]
        exact ⟨hf, Rat.le_refl, (ltp_no (gp_pos hp _) (gp_pos hp _)).mp (Bool.eq_false_iff.mpr c)⟩
    obtain ⟨a, b, d⟩ := flF_fold hp n l _ step.1 fun j hj => hl j (List.mem_cons_of_mem _ hj)
    refine ⟨a, Rat.le_trans b step.2.1, fun j hj => ?_⟩
    rcases List.mem_cons.mp hj with rfl | hj
    · exact Rat.le_trans b step.2.2
    · exact d j hj
theorem fgr_ok {ps : List (Int × Int)} (hp : ∀ q ∈ ps, 0 < q.2) (h0 : 0 < ps.length) : fgr ps < ps.length ∧ ∀ j, j < ps.length → rv (gp ps j) ≤ rv (gp ps (fgr ps)) := by
  obtain ⟨a, _, b⟩ := fgF_fold hp ps.length (List.range ps.length) 0 h0 fun i hi => List.mem_range.mp hi
  exact ⟨a, fun j hj => b j (List.mem_range.mpr hj)⟩
theorem fls_ok {ps : List (Int × Int)} (hp : ∀ q ∈ ps, 0 < q.2) (h0 : 0 < ps.length) : fls ps < ps.length ∧ ∀ j, j < ps.length → rv (gp ps (fls ps)) ≤ rv (gp ps j) := by
  obtain ⟨a, _, b⟩ := flF_fold hp ps.length (List.range ps.length) 0 h0 fun i hi => List.mem_range.mp hi
  exact ⟨a, fun j hj => b j (List.mem_range.mpr hj)⟩
def amt (ps : List (Int × Int)) : Int × Int := if ltp (gp ps (fgr ps)) (ng (gp ps (fls ps))) = true then gp ps (fgr ps) else ng (gp ps (fls ps))
def stepG (ps : List (Int × Int)) : List (Int × Int) := giftR ps (fgr ps) (fls ps) (amt ps)
def allN (ps : List (Int × Int)) : Bool := ps.all fun q => decide (q = (0, 1))
def nzL (ps : List (Int × Int)) : List Nat := (List.range ps.length).filter fun k => !decide (gp ps k = (0, 1))
structure Gap (D : Int) (N : Nat) (ps : List (Int × Int)) : Prop where
  low : ∀ q ∈ ps, Lowest q.1 q.2
  ok : ∀ q ∈ ps, OkV D N q
  z : (ps.map rv).sum = 0
  d0 : 0 < D
theorem sum_nonpos : ∀ l : List Rat, (∀ x ∈ l, x ≤ 0) → l.sum ≤ 0 ∧ (l.sum = 0 → ∀ x ∈ l, x = 0)
  | [], _ => ⟨Rat.le_refl, fun _ x hx => (List.not_mem_nil hx).elim⟩
  | y :: l, h => by
    have hy := h y List.mem_cons_self
    obtain ⟨a, b⟩ := sum_nonpos l fun x hx => h x (List.mem_cons_of_mem _ hx)
    rw [List.sum_cons]
    refine ⟨by grind, fun e x hx => ?_⟩
    have y0 : y = 0 := by grind
    have l0 : l.sum = 0 := by grind
    rcases List.mem_cons.mp hx with rfl | hx
    · exact y0
    · exact b l0 x hx
theorem sum_nonneg0 (l : List Rat) (h : ∀ x ∈ l, 0 ≤ x) : l.sum = 0 → ∀ x ∈ l, x = 0 := by
  induction l with
  | nil => intro _ x hx; exact (List.not_mem_nil hx).elim
  | cons y l ih =>
    have hy := h y List.mem_cons_self
    have hl : 0 ≤ l.sum := by
      clear ih
      induction l with
      | nil => exact Rat.le_refl
      | cons z l ih2 =>
        rw [List.sum_cons]
        have := h z (by simp)
        have := ih2 fun x hx => h x (by rcases List.mem_cons.mp hx with rfl | hx <;> simp [*])
        grind
    rw [List.sum_cons]
    intro e x hx
    have y0 : y = 0 := by grind
    have l0 : l.sum = 0 := by grind
    rcases List.mem_cons.mp hx with rfl | hx
    · exact y0
    · exact ih (fun x hx => h x (List.mem_cons_of_mem _ hx)) l0 x hx
theorem low_zero {q : Int × Int} (h : Lowest q.1 q.2) (e : rv q = 0) : q = (0, 1) := rv_inj h (nought23 1).1 (by rw [e, rv_nought])
theorem gp_of_mem {ps : List (Int × Int)} {q : Int × Int} (h : q ∈ ps) : ∃ j, j < ps.length ∧ gp ps j = q := by
  obtain ⟨j, hj, e⟩ := List.mem_iff_getElem.mp h
  refine ⟨j, hj, ?_⟩
  unfold gp
  rw [List.getD_eq_getElem?_getD, List.getElem?_eq_getElem hj, e]
  rfl
theorem allN_false {ps : List (Int × Int)} (h : allN ps = false) : ∃ q ∈ ps, q ≠ (0, 1) := by
  unfold allN at h
  rw [List.all_eq_false] at h
  obtain ⟨q, hq, e⟩ := h
  exact ⟨q, hq, fun z => e (decide_eq_true z)⟩
/-- what a step finds -/
structure StepOk (D : Int) (N : Nat) (ps : List (Int × Int)) : Prop where
  i : fgr ps < ps.length
  j : fls ps < ps.length
  ne : fgr ps ≠ fls ps
  low : Lowest (amt ps).1 (amt ps).2
  ok : OkV D N (amt ps)
  pos : 0 < rv (amt ps)
  le1 : rv (amt ps) ≤ rv (gp ps (fgr ps))
  le2 : rv (amt ps) ≤ - rv (gp ps (fls ps))
  one : rv (amt ps) = rv (gp ps (fgr ps)) ∨ rv (amt ps) = - rv (gp ps (fls ps))
theorem ng_low {q : Int × Int} (h : Lowest q.1 q.2) : Lowest (ng q).1 (ng q).2 := ⟨h.1, by show Int.gcd (0 - q.1) q.2 = 1; rw [show (0 - q.1) = -q.1 by omega, Int.neg_gcd]; exact h.2⟩
theorem ng_okv {D : Int} {N : Nat} {q : Int × Int} (h : OkV D N q) : OkV D N (ng q) := ⟨h.1, h.2.1, by show (0 - q.1).natAbs ≤ N * q.2.natAbs; rw [show (0 - q.1) = -q.1 by omega, Int.natAbs_neg]; exact h.2.2⟩
theorem Gap.pos {D : Int} {N : Nat} {ps : List (Int × Int)} (h : Gap D N ps) : ∀ q ∈ ps, 0 < q.2 := fun q hq => (h.low q hq).1
theorem Gap.step {D : Int} {N : Nat} {ps : List (Int × Int)} (h : Gap D N ps) (na : allN ps = false) : StepOk D N ps := by
  obtain ⟨q, hq, nq⟩ := allN_false na
  obtain ⟨k, hk, ek⟩ := gp_of_mem hq
  have h0 : 0 < ps.length := by omega
  obtain ⟨hi, mi⟩ := fgr_ok h.pos h0
  obtain ⟨hj, mj⟩ := fls_ok h.pos h0
  have nzq : rv q ≠ 0 := fun e => nq (low_zero (h.low q hq) e)
  have p1 : 0 < rv (gp ps (fgr ps)) := by
    by_cases c : 0 < rv (gp ps (fgr ps))
    · exact c
    · have c := Rat.not_lt.mp c
      have := (sum_nonpos (ps.map rv) fun x hx => by
        obtain ⟨y, hy, rfl⟩ := List.mem_map.mp hx
        obtain ⟨j, hj, rfl⟩ := gp_of_mem hy
        exact Rat.le_trans (mi j hj) c).2 h.z (rv q) (List.mem_map_of_mem hq)
      exact absurd this nzq
  have p2 : rv (gp ps (fls ps)) < 0 := by
    by_cases c : rv (gp ps (fls ps)) < 0
    · exact c
    · have c := Rat.not_lt.mp c
      have := sum_nonneg0 (ps.map rv) (fun x hx => by
        obtain ⟨y, hy, rfl⟩ := List.mem_map.mp hx
        obtain ⟨j, hj, rfl⟩ := gp_of_mem hy
        exact Rat.le_trans c (mj j hj)) h.z (rv q) (List.mem_map_of_mem hq)
      exact absurd this nzq
  have ne : fgr ps ≠ fls ps := fun e => by
    rw [e] at p1
    exact absurd p1 (Rat.not_lt.mpr (Rat.le_of_lt p2))
  have li := h.low _ (gp_mem hi)
  have lj := h.low _ (gp_mem hj)
  have en := rv_ng (gp ps (fls ps))
  by_cases c : ltp (gp ps (fgr ps)) (ng (gp ps (fls ps))) = true
  · have ea : amt ps = gp ps (fgr ps) := if_pos c
    have lt := (ltp_iff li.1 (ng_low lj).1).mp c
    exact ⟨hi, hj, ne, by rw [ea]; exact li, by rw [ea]; exact h.ok _ (gp_mem hi), by rw [ea]; exact p1, by rw [ea]; exact Rat.le_refl, by rw [ea, ← en]; exact Rat.le_of_lt lt, .inl (by rw [ea])⟩
  · have ea : amt ps = ng (gp ps (fls ps)) := if_neg c
    have le := (ltp_no li.1 (ng_low lj).1).mp (Bool.eq_false_iff.mpr c)
    exact ⟨hi, hj, ne, by rw [ea]; exact ng_low lj, by rw [ea]; exact ng_okv (h.ok _ (gp_mem hj)), by rw [ea, en]; grind, by rw [ea]; exact le, by rw [ea, en]; exact Rat.le_refl, .inr (by rw [ea, en])⟩
theorem stepG_len (ps : List (Int × Int)) : (stepG ps).length = ps.length := giftR_len _ _ _ _
theorem StepOk.at {D : Int} {N : Nat} {ps : List (Int × Int)} (s : StepOk D N ps) (k : Nat) : gp (stepG ps) k = if k = fls ps then pl (gp ps (fls ps)) (amt ps) else if k = fgr ps then mi (gp ps (fgr ps)) (amt ps) else gp ps k := giftR_at s.i s.j s.ne
theorem abs_of_rv {N : Nat} {p : Int × Int} (h0 : 0 < p.2) (h : Rat.abs (rv p) ≤ ((N : Nat) : Int)) : p.1.natAbs ≤ N * p.2.natAbs := by
  have hb := cast_pos h0
  have e : rv p * (p.2 : Rat) = (p.1 : Rat) := by
    unfold rv
    have := cast_ne h0
    grind
  have l1 : rv p ≤ ((N : Nat) : Int) := by unfold Rat.abs at h; split at h <;> grind
  have l2 : -(((N : Nat) : Int) : Rat) ≤ rv p := by unfold Rat.abs at h; split at h <;> grind
  have m1 := Rat.mul_le_mul_of_nonneg_right l1 (Rat.le_of_lt hb)
  have m2 := Rat.mul_le_mul_of_nonneg_right l2 (Rat.le_of_lt hb)
  rw [e] at m1 m2
  have i1 : p.1 ≤ (N : Int) * p.2 := cast_le.mp (by rw [cast_mul]; exact m1)
  have i2 : 0 - (N : Int) * p.2 ≤ p.1 := cast_le.mp (by
    rw [cast_sub, cast_mul]
    have : ((0 : Int) : Rat) = 0 := rfl
    rw [this]
    grind)
  have ek : ((N * p.2.natAbs : Nat) : Int) = (N : Int) * p.2 := by
    rw [Int.natCast_mul, Int.natAbs_of_nonneg (by omega)]
  omega
theorem rv_bdN {N : Nat} {p : Int × Int} (h0 : 0 < p.2) (h : p.1.natAbs ≤ N * p.2.natAbs) : rv p ≤ ((N : Nat) : Int) ∧ -(((N : Nat) : Int) : Rat) ≤ rv p := by
  have hb := cast_pos h0
  have ek : ((N * p.2.natAbs : Nat) : Int) = (N : Int) * p.2 := by
    rw [Int.natCast_mul, Int.natAbs_of_nonneg (by omega)]
  have i1 : p.1 ≤ (N : Int) * p.2 := by omega
  have i2 : 0 - (N : Int) * p.2 ≤ p.1 := by omega
  have m1 : (p.1 : Rat) ≤ ((N : Nat) : Int) * (p.2 : Rat) := by rw [← cast_mul]; exact cast_le.mpr i1
  have m2 : -(((N : Nat) : Int) : Rat) * (p.2 : Rat) ≤ (p.1 : Rat) := by
    have := cast_le.mpr i2
    rw [cast_sub, cast_mul] at this
    have e0 : ((0 : Int) : Rat) = 0 := rfl
    rw [e0] at this
    grind
  unfold rv
  rw [Rat.div_def]
  have hi := Rat.inv_pos.mpr hb
  have hn := cast_ne h0
  have e : (p.2 : Rat) * (p.2 : Rat)⁻¹ = 1 := Rat.mul_inv_cancel _ hn
  constructor
  · have := Rat.mul_le_mul_of_nonneg_right m1 (Rat.le_of_lt hi)
    rw [Rat.mul_assoc, e, Rat.mul_one] at this
    exact this
  · have := Rat.mul_le_mul_of_nonneg_right m2 (Rat.le_of_lt hi)
    rw [Rat.mul_assoc, e, Rat.mul_one] at this
    exact this
theorem OkV.re {D : Int} {N M : Nat} {p : Int × Int} (h : OkV D N p) (l : rv p ≤ ((M : Nat) : Int)) (u : -(((M : Nat) : Int) : Rat) ≤ rv p) : OkV D M p := by
  refine ⟨h.1, h.2.1, abs_of_rv h.1 ?_⟩
  unfold Rat.abs
  split <;> grind
theorem Gap.next {D : Int} {N : Nat} {ps : List (Int × Int)} (h : Gap D N ps) (na : allN ps = false) : Gap D N (stepG ps) ∧ (nzL (stepG ps)).length + 1 ≤ (nzL ps).length ∧ 2 ≤ (nzL ps).length := by
  have s := h.step na
  have li := h.low _ (gp_mem s.i)
  have lj := h.low _ (gp_mem s.j)
  have oi := h.ok _ (gp_mem s.i)
  have oj := h.ok _ (gp_mem s.j)
  have lg := s.low
  have r1 : rv (pl (gp ps (fls ps)) (amt ps)) = rv (gp ps (fls ps)) + rv (amt ps) := rv_pl lj.1 lg.1
  have r2 : rv (mi (gp ps (fgr ps)) (amt ps)) = rv (gp ps (fgr ps)) - rv (amt ps) := rv_mi li.1 lg.1
  have b1 := rv_bdN oi.1 oi.2.2
  have b2 := rv_bdN oj.1 oj.2.2
  have g0 := s.pos
  have g1 := s.le1
  have g2 := s.le2
  have nn : (0 : Rat) ≤ ((N : Nat) : Int) := cast_nn (by omega)
  have all : ∀ k, k < ps.length → Lowest (gp (stepG ps) k).1 (gp (stepG ps) k).2 ∧ OkV D N (gp (stepG ps) k) ∧ rv (gp (stepG ps) k) = rv (gp ps k) + ((if k = fls ps then rv (amt ps) else 0) + if k = fgr ps then - rv (amt ps) else 0) := fun k hk => by
    rw [s.at k]
    by_cases c1 : k = fls ps
    · subst c1
      rw [if_pos rfl, if_pos rfl, if_neg (fun z => s.ne z.symm)]
      exact ⟨pl_lowest lj.1 lg.1, (oj.pl h.d0 s.ok).re (by rw [r1]; grind) (by rw [r1]; grind), by rw [r1]; grind⟩
    · rw [if_neg c1, if_neg c1]
      by_cases c2 : k = fgr ps
      · subst c2
        rw [if_pos rfl, if_pos rfl]
        exact ⟨mi_low li.1 lg.1, (oi.mi h.d0 s.ok).re (by rw [r2]; grind) (by rw [r2]; grind), by rw [r2]; grind⟩
      · rw [if_neg c2, if_neg c2]
        exact ⟨h.low _ (gp_mem hk), h.ok _ (gp_mem hk), by grind⟩
  have el := stepG_len ps
  have mem : ∀ q ∈ stepG ps, ∃ k, k < ps.length ∧ gp (stepG ps) k = q := fun q hq => by
    obtain ⟨k, hk, e⟩ := gp_of_mem hq
    exact ⟨k, by omega, e⟩
  refine ⟨⟨fun q hq => ?_, fun q hq => ?_, ?_, h.d0⟩, ?_, ?_⟩
  · obtain ⟨k, hk, rfl⟩ := mem q hq
    exact (all k hk).1
  · obtain ⟨k, hk, rfl⟩ := mem q hq
    exact (all k hk).2.1
  · have e1 : ∀ l : List (Int × Int), (l.map rv).sum = sumF (fun j => rv (gp l j)) (List.range l.length) := fun l => (sum_range_gp l).symm
    rw [e1, el, sumF_congr (g := fun k => rv (gp ps k) + ((if k = fls ps then rv (amt ps) else 0) + if k = fgr ps then - rv (amt ps) else 0)) fun k hk => (all k (List.mem_range.mp hk)).2.2]
    have a1 := sumF_add (fun k => rv (gp ps k)) (fun k => (if k = fls ps then rv (amt ps) else 0) + if k = fgr ps then - rv (amt ps) else 0) (List.range ps.length)
    have a2 := sumF_add (fun k => if k = fls ps then rv (amt ps) else 0) (fun k => if k = fgr ps then - rv (amt ps) else 0) (List.range ps.length)
    rw [a1, a2, sumF_ind _ _ _ List.nodup_range, sumF_ind _ _ _ List.nodup_range, if_pos (List.mem_range.mpr s.j), if_pos (List.mem_range.mpr s.i), ← e1, h.z]
    grind
  · -- one of both has come to nought
    have nd : (nzL (stepG ps)).Nodup := List.nodup_range.filter _
    obtain ⟨x, hx, ex⟩ : ∃ x, x ∈ nzL ps ∧ gp (stepG ps) x = (0, 1) := by
      rcases s.one with e | e
      · refine ⟨fgr ps, ?_, ?_⟩
        · refine List.mem_filter.mpr ⟨List.mem_range.mpr s.i, ?_⟩
          rw [Bool.not_eq_true', decide_eq_false_iff_not]
          intro z
          rw [← e] at *
          have : rv (gp ps (fgr ps)) = 0 := by rw [z, rv_nought]
          grind
        · have a := all _ s.i
          refine low_zero a.1 ?_
          rw [a.2.2, if_neg s.ne, if_pos rfl]
          grind
      · refine ⟨fls ps, ?_, ?_⟩
        · refine List.mem_filter.mpr ⟨List.mem_range.mpr s.j, ?_⟩
          rw [Bool.not_eq_true', decide_eq_false_iff_not]
          intro z
          have : rv (gp ps (fls ps)) = 0 := by rw [z, rv_nought]
          grind
        · have a := all _ s.j
          refine low_zero a.1 ?_
          rw [a.2.2, if_pos rfl, if_neg (fun z => s.ne z.symm)]
          grind
    have sub : nzL (stepG ps) ⊆ (nzL ps).erase x := fun k hk => by
      obtain ⟨h1, h2⟩ := List.mem_filter.mp hk
      rw [Bool.not_eq_true', decide_eq_false_iff_not] at h2
      have hk' := List.mem_range.mp h1
      rw [el] at hk'
      have kx : k ≠ x := fun z => h2 (by rw [z]; exact ex)
      refine (List.mem_erase_of_ne kx).mpr (List.mem_filter.mpr ⟨List.mem_range.mpr hk', ?_⟩)
      rw [Bool.not_eq_true', decide_eq_false_iff_not]
      intro z
      have zz : rv (gp ps k) = 0 := by rw [z, rv_nought]
      have c1 : k ≠ fls ps := fun e => by
        rw [e] at zz
        grind
      have c2 : k ≠ fgr ps := fun e => by
        rw [e] at zz
        grind
      have a := s.at k
      rw [if_neg c1, if_neg c2, z] at a
      exact h2 a
    have l1 := List.Nodup.length_le_of_subset nd sub
    rw [List.length_erase_of_mem hx] at l1
    have : 0 < (nzL ps).length := List.length_pos_of_mem hx
    omega
  · have n2 : ([fgr ps, fls ps] : List Nat).Nodup := by simp [s.ne]
    refine List.Nodup.length_le_of_subset n2 fun k hk => ?_
    simp only [List.mem_cons, List.not_mem_nil, or_false] at hk
    rcases hk with rfl | rfl
    · refine List.mem_filter.mpr ⟨List.mem_range.mpr s.i, ?_⟩
      rw [Bool.not_eq_true', decide_eq_false_iff_not]
      intro z
      have : rv (gp ps (fgr ps)) = 0 := by rw [z, rv_nought]
      grind
    · refine List.mem_filter.mpr ⟨List.mem_range.mpr s.j, ?_⟩
      rw [Bool.not_eq_true', decide_eq_false_iff_not]
      intro z
      have : rv (gp ps (fls ps)) = 0 := by rw [z, rv_nought]
      grind
abbrev GiftT := Nat × Nat × (Int × Int)
def itG : Nat → List (Int × Int) → List (Int × Int)
  | 0, ps => ps
  | t + 1, ps => if allN (itG t ps) = true then itG t ps else stepG (itG t ps)
def giftAt (ps : List (Int × Int)) : GiftT := (fgr ps, fls ps, amt ps)
def gfG : Nat → List (Int × Int) → List GiftT
  | 0, _ => []
  | t + 1, ps => if allN (itG t ps) = true then gfG t ps else gfG t ps ++ [giftAt (itG t ps)]
/-- all gifts of a levelling -/
def giftsL (ps : List (Int × Int)) : List GiftT := gfG ps.length ps
end WS
set_option Elab.async false
set_option linter.all false
set_option maxRecDepth 100000
set_option maxHeartbeats 4000000
namespace WS
open PySem PySem.Spec PyProof.Rows L2
/-! ### levelling: moments -/
def sitL (ss : List Seat) : List Seat := ss.filter fun s => !decide (s.1 = "")
theorem names_sit (ss : List Seat) : names ss = (sitL ss).map Prod.fst := by
  unfold names sitL
  rw [List.filter_map]
  rfl
theorem sit_mem {ss : List Seat} {s : Seat} (h : s ∈ sitL ss) : s ∈ ss ∧ s.1 ≠ "" := by
  obtain ⟨a, b⟩ := List.mem_filter.mp h
  exact ⟨a, by simpa using b⟩
/-- the seat of the k-th that sits -/
def plK (ss : List Seat) (k : Nat) : Nat := idx ss (gs (sitL ss) k).1
theorem plK_ok {ss : List Seat} (nd : (names ss).Nodup) {k : Nat} (hk : k < (sitL ss).length) : plK ss k < ss.length ∧ gs ss (plK ss k) = gs (sitL ss) k ∧ (gs (sitL ss) k).1 ≠ "" ∧ (gs (sitL ss) k).1 ∈ names ss := by
  obtain ⟨m, ne⟩ := sit_mem (gs_mem hk)
  have hn : (gs (sitL ss) k).1 ∈ names ss := names_mem.mpr ⟨ne, _, m, rfl⟩
  obtain ⟨i, hi⟩ := List.getElem?_of_mem m
  have il := (List.getElem?_eq_some_iff.mp hi).1
  have eg := gs_at hi
  have e := idx_gs nd il (by rw [eg]; exact ne)
  rw [eg] at e
  refine ⟨idx_lt hn, ?_, ne, hn⟩
  unfold plK
  rw [e, eg]
theorem plK_inj {ss : List Seat} (nd : (names ss).Nodup) {i j : Nat} (hi : i < (sitL ss).length) (hj : j < (sitL ss).length) (e : plK ss i = plK ss j) : i = j := by
  obtain ⟨_, a, _, _⟩ := plK_ok nd hi
  obtain ⟨_, b, _, _⟩ := plK_ok nd hj
  rw [e, b] at a
  have nd' := nd
  rw [names_sit] at nd'
  have h1 : ((sitL ss).map Prod.fst)[i]'(by rw [List.length_map]; exact hi) = (gs (sitL ss) i).1 := by
    rw [List.getElem_map]
    congr 1
    exact (gs_at (List.getElem?_eq_getElem hi)).symm
  have h2 : ((sitL ss).map Prod.fst)[j]'(by rw [List.length_map]; exact hj) = (gs (sitL ss) j).1 := by
    rw [List.getElem_map]
    congr 1
    exact (gs_at (List.getElem?_eq_getElem hj)).symm
  exact (List.getElem_inj nd').mp (by rw [h1, h2, a])
def sumS (ss : List Seat) : Int × Int := ((sitL ss).map Prod.snd).foldl pl (0, 1)
/-- what each owes on average -/
def avP (ss : List Seat) : Int × Int := lo (sumS ss).1 ((sumS ss).2 * ((max 1 (sitL ss).length : Nat) : Int))
def gap0 (ss : List Seat) : List (Int × Int) := (sitL ss).map fun s => mi s.2 (avP ss)
/-- moments that are levelled -/
structure LK (D : Int) (W : Int) (ss : List Seat) : Prop where
  k : K23 D 26 W ss
  b : Bt 30 D
  av : (avP ss).2 ∣ D
section
variable {D W : Int} {ss : List Seat}
theorem LK.okv (h : LK D W ss) : ∀ s ∈ ss, OkV D (2 ^ 114) s.2 := fun s hs => by
  obtain ⟨lw, _, dv⟩ := h.k.ok s hs
  refine ⟨lw.1, dv, good_abs h.k.w h.k.g ?_ (fun s hs => (h.k.ok s hs).1.1) s hs⟩
  have b : W < 2 ^ 110 := by
    have h1 : W.natAbs < 2 ^ 110 := h.k.b
    have w := h.k.w
    have e : (2 : Int) ^ 110 = ((2 ^ 110 : Nat) : Int) := by decide +kernel
    omega
  have w := h.k.w
  have l : ((ss.length : Nat) : Int) ≤ 26 := by have := h.k.l; omega
  have : W * ((ss.length : Nat) : Int) ≤ W * 26 := Int.mul_le_mul_of_nonneg_left l (by omega)
  have e : ((2 ^ 114 : Nat) : Int) = 16 * 2 ^ 110 := by decide +kernel
  rw [e]
  omega
theorem LK.sum (h : LK D W ss) : Lowest (sumS ss).1 (sumS ss).2 ∧ OkV D (26 * 2 ^ 114) (sumS ss) := by
  have hq : ∀ q ∈ (sitL ss).map Prod.snd, OkV D (2 ^ 114) q := fun q hq => by
    obtain ⟨s, hs, rfl⟩ := List.mem_map.mp hq
    exact h.okv s (sit_mem hs).1
  refine ⟨fold_low _ fun q hq' => (hq q hq').1, (OkV.fold h.k.d0 _ (0, 1) 0 (OkV.nought D) hq).mono ?_⟩
  have l := h.k.l
  have l2 : (sitL ss).length ≤ ss.length := List.length_filter_le _ _
  rw [List.length_map, Nat.zero_add]
  exact Nat.mul_le_mul_right _ (by omega)
theorem lo_abs {N : Nat} {a b : Int} (hb : 0 < b) (hv : a.natAbs ≤ N * b.natAbs) : (lo a b).1.natAbs ≤ N * (lo a b).2.natAbs := by
  have g : 0 < Int.gcd a b := gcd_pos (by omega)
  have e1 := lo_fst a b
  have e2 := lo_snd a b
  have n1 : (WS.lo a b).1.natAbs * Int.gcd a b = a.natAbs := by
    have := congrArg Int.natAbs e1
    rwa [Int.natAbs_mul, Int.natAbs_natCast] at this
  have n2 : (WS.lo a b).2.natAbs * Int.gcd a b = b.natAbs := by
    have := congrArg Int.natAbs e2
    rwa [Int.natAbs_mul, Int.natAbs_natCast] at this
  rw [← n1, ← n2] at hv
  refine Nat.le_of_mul_le_mul_right (c := Int.gcd a b) ?_ g
  rw [Nat.mul_assoc]
  exact hv
theorem LK.avl (h : LK D W ss) : Lowest (avP ss).1 (avP ss).2 := lo_lowest (Int.mul_pos h.sum.1.1 (by omega))
theorem LK.avk (h : LK D W ss) : OkV D (26 * 2 ^ 114) (avP ss) := by
  obtain ⟨l, o⟩ := h.sum
  have hb : 0 < (sumS ss).2 * ((max 1 (sitL ss).length : Nat) : Int) := Int.mul_pos l.1 (by omega)
  refine ⟨h.avl.1, h.av, lo_abs hb ?_⟩
  refine Nat.le_trans o.2.2 (Nat.mul_le_mul_left _ ?_)
  rw [Int.natAbs_mul]
  exact Nat.le_mul_of_pos_right _ (by omega)
theorem LK.rvav (h : LK D W ss) : rv (avP ss) * (((max 1 (sitL ss).length : Nat) : Int) : Rat) = ((sitL ss).map fun s => rv s.2).sum := by
  obtain ⟨l, o⟩ := h.sum
  have m0 : (0 : Int) < ((max 1 (sitL ss).length : Nat) : Int) := by omega
  have e1 : rv (sumS ss) = ((sitL ss).map fun s => rv s.2).sum := by
    unfold sumS
    rw [rv_fold _ _ (by decide) fun q hq => by
      obtain ⟨s, hs, rfl⟩ := List.mem_map.mp hq
      exact (h.k.ok s (sit_mem hs).1).1.1, rv_nought, Rat.zero_add, List.map_map]
    rfl
  rw [← e1]
  unfold avP
  rw [rv_lo (Int.mul_pos l.1 m0), cast_mul]
  unfold rv
  have c1 := cast_ne l.1
  have c2 := cast_ne m0
  generalize (((max 1 (sitL ss).length : Nat) : Int) : Rat) = m at *
  generalize ((sumS ss).1 : Rat) = a
  generalize ((sumS ss).2 : Rat) = b at *
  have c3 : b * m ≠ 0 := fun z => (Rat.mul_eq_zero.mp z).elim c1 c2
  grind
theorem sum_minus (a : Rat) : ∀ l : List Rat, (l.map fun x => x - a).sum = l.sum - ((l.length : Nat) : Int) * a
  | [] => by
    show (0 : Rat) = 0 - ((0 : Nat) : Int) * a
    have : (((0 : Nat) : Int) : Rat) = 0 := rfl
    rw [this]
    grind
  | x :: l => by
    rw [List.map_cons, List.sum_cons, List.sum_cons, sum_minus a l, List.length_cons]
    have : (((l.length + 1 : Nat) : Int) : Rat) = ((l.length : Nat) : Int) + 1 := by
      rw [show ((l.length + 1 : Nat) : Int) = ((l.length : Nat) : Int) + 1 by omega, cast_add]
      rfl
    rw [this]
    grind
theorem LK.gap (h : LK D W ss) : Gap D (2 ^ 120) (gap0 ss) := by
  have ok : ∀ s ∈ sitL ss, OkV D (2 ^ 120) (mi s.2 (avP ss)) := fun s hs => ((h.okv s (sit_mem hs).1).mi h.k.d0 h.avk).mono (by decide +kernel)
  refine ⟨fun q hq => ?_, fun q hq => ?_, ?_, h.k.d0⟩
  · obtain ⟨s, hs, rfl⟩ := List.mem_map.mp hq
    exact mi_low (h.k.ok s (sit_mem hs).1).1.1 h.avl.1
  · obtain ⟨s, hs, rfl⟩ := List.mem_map.mp hq
    exact ok s hs
  · have e : (gap0 ss).map rv = ((sitL ss).map fun s => rv s.2).map fun x => x - rv (avP ss) := by
      unfold gap0
      rw [List.map_map, List.map_map]
      exact List.map_congr_left fun s hs => rv_mi (h.k.ok s (sit_mem hs).1).1.1 h.avl.1
    rw [e, sum_minus, ← h.rvav, List.length_map]
    by_cases c : (sitL ss).length = 0
    · have e0 : sitL ss = [] := List.eq_nil_of_length_eq_zero c
      have s0 := h.rvav
      rw [e0] at s0 ⊢
      have : (((max 1 ([] : List Seat).length : Nat) : Int) : Rat) = 1 := rfl
      rw [this] at s0 ⊢
      have : ((([] : List Seat).length : Nat) : Int) = 0 := rfl
      rw [this]
      have z0 : ((0 : Int) : Rat) = 0 := rfl
      have s1 : (([] : List Seat).map fun s => rv s.2).sum = 0 := rfl
      rw [s1] at s0
      rw [z0]
      grind
    · rw [show max 1 (sitL ss).length = (sitL ss).length by omega]
      grind
structure LvOk (D W : Int) (ss tt : List Seat) (q : List (Int × Int)) : Prop where
  len : tt.length = ss.length
  fst : ∀ k, k < ss.length → (gs tt k).1 = (gs ss k).1
  low : ∀ s ∈ tt, Lowest s.2.1 s.2.2 ∧ s.2.2 ∣ D
  g : Good W tt
  dom : Dom ss tt
  gap : ∀ k, k < (sitL ss).length → rv (gs tt (plK ss k)).2 = rv (gp q k) + rv (avP ss)
  emp : ∀ i, i < ss.length → (gs ss i).1 = "" → gs tt i = gs ss i
theorem giftS_gs {ss : List Seat} {i j k : Nat} {q : Int × Int} (hi : i < ss.length) (hj : j < ss.length) (ne : i ≠ j) (hk : k < ss.length) : gs (giftS ss i j q) k = ((gs ss k).1, if k = j then pl (gs ss j).2 q else if k = i then mi (gs ss i).2 q else (gs ss k).2) := by
  have rl : (giftR (ss.map Prod.snd) i j q).length = ss.length := by rw [giftR_len, List.length_map]
  unfold giftS
  rw [gs_setRow hk rl, giftR_at (by rw [List.length_map]; exact hi) (by rw [List.length_map]; exact hj) ne, gp_snd ss hi, gp_snd ss hj, gp_snd ss hk]
theorem giftS_len (ss : List Seat) (i j : Nat) (q : Int × Int) : (giftS ss i j q).length = ss.length := setRow_len (by rw [giftR_len, List.length_map])
theorem LvOk.fsts {tt : List Seat} {q : List (Int × Int)} (h : LvOk D W ss tt q) : tt.map Prod.fst = ss.map Prod.fst := by
  refine List.ext_getElem? fun k => ?_
  rw [List.getElem?_map, List.getElem?_map]
  by_cases c : k < ss.length
  · rw [at_gs c, at_gs (by rw [h.len]; exact c), Option.map_some, Option.map_some, h.fst k c]
  · have := h.len
    rw [List.getElem?_eq_none (by omega), List.getElem?_eq_none (by omega)]
theorem LvOk.names {tt : List Seat} {q : List (Int × Int)} (h : LvOk D W ss tt q) : names tt = names ss := by
  unfold WS.names
  rw [h.fsts]
/-- what a gift is, at its moment -/
structure GiftOk (ss tt : List Seat) (q : List (Int × Int)) : Prop where
  a : plK ss (fgr q) < tt.length
  b : plK ss (fls q) < tt.length
  ne : plK ss (fgr q) ≠ plK ss (fls q)
  ia : fgr q < (sitL ss).length
  ib : fls q < (sitL ss).length
  low : Lowest (amt q).1 (amt q).2
  pos : 0 < rv (amt q)
  le : rv (amt q) ≤ owF tt (plK ss (fgr q)) - owF tt (plK ss (fls q))
theorem LvOk.gift {tt : List Seat} {q : List (Int × Int)} (l : LK D W ss) (h : LvOk D W ss tt q) (hq : Gap D (2 ^ 120) q) (ql : q.length = (sitL ss).length) (na : allN q = false) : GiftOk ss tt q := by
  have s := hq.step na
  have ia : fgr q < (sitL ss).length := by have := s.i; omega
  have ib : fls q < (sitL ss).length := by have := s.j; omega
  obtain ⟨a1, a2, _, _⟩ := plK_ok l.k.nd ia
  obtain ⟨b1, b2, _, _⟩ := plK_ok l.k.nd ib
  refine ⟨by rw [h.len]; exact a1, by rw [h.len]; exact b1, fun e => s.ne (plK_inj l.k.nd ia ib e), ia, ib, s.low, s.pos, ?_⟩
  unfold owF
  rw [h.gap _ ia, h.gap _ ib]
  have := s.le1
  have := s.le2
  have := s.pos
  grind
theorem LvOk.next {tt : List Seat} {q : List (Int × Int)} (l : LK D W ss) (h : LvOk D W ss tt q) (hq : Gap D (2 ^ 120) q) (ql : q.length = (sitL ss).length) (na : allN q = false) : LvOk D W ss (giftS tt (plK ss (fgr q)) (plK ss (fls q)) (amt q)) (stepG q) := by
  have s := hq.step na
  have o := h.gift l hq ql na
  have pos : ∀ s ∈ tt, 0 < s.2.2 := fun s hs => (h.low s hs).1.1
  have g0 : (0 : Rat) ≤ rv (amt q) := Rat.le_of_lt o.pos
  have okv : ∀ s ∈ tt, OkV D (s.2.1.natAbs) s.2 := fun s hs => ⟨pos s hs, (h.low s hs).2, Nat.le_mul_of_pos_right _ (by have := pos s hs; omega)⟩
  refine ⟨by rw [giftS_len, h.len], fun k hk => ?_, fun z hz => ?_, good_gift h.g pos o.low.1 o.a o.b o.ne g0 o.le, h.dom.trans (Dom.gift pos o.low.1 o.a o.b o.ne g0 o.le), fun k hk => ?_, fun i hi e => ?_⟩
  · rw [giftS_gs o.a o.b o.ne (by rw [h.len]; exact hk)]
    exact h.fst k hk
  · obtain ⟨k, hk⟩ := List.getElem?_of_mem hz
    have kl := (List.getElem?_eq_some_iff.mp hk).1
    rw [giftS_len] at kl
    have e := gs_at hk
    rw [giftS_gs o.a o.b o.ne kl] at e
    rw [← e]
    show Lowest (if k = plK ss (fls q) then pl (gs tt (plK ss (fls q))).2 (amt q) else if k = plK ss (fgr q) then mi (gs tt (plK ss (fgr q))).2 (amt q) else (gs tt k).2).1 _ ∧ _
    by_cases c1 : k = plK ss (fls q)
    · rw [if_pos c1]
      have p := (okv _ (gs_mem o.b)).pl l.k.d0 s.ok
      exact ⟨pl_lowest (pos _ (gs_mem o.b)) o.low.1, p.2.1⟩
    · rw [if_neg c1]
      by_cases c2 : k = plK ss (fgr q)
      · rw [if_pos c2]
        have p := (okv _ (gs_mem o.a)).mi l.k.d0 s.ok
        exact ⟨mi_low (pos _ (gs_mem o.a)) o.low.1, p.2.1⟩
      · rw [if_neg c2]
        exact h.low _ (gs_mem kl)
  · obtain ⟨k1, k2, _, _⟩ := plK_ok l.k.nd hk
    have ow := owF_gift pos o.low.1 o.a o.b o.ne (show plK ss k < tt.length by rw [h.len]; exact k1)
    unfold owF at ow
    rw [ow, h.gap k hk]
    have at' := s.at k
    have lj := hq.low _ (gp_mem s.j)
    have li := hq.low _ (gp_mem s.i)
    rw [at']
    by_cases c1 : k = fls q
    · subst c1
      rw [if_pos rfl, if_pos rfl, if_neg (fun z => o.ne z.symm), rv_pl lj.1 o.low.1]
      grind
    · have d1 : plK ss k ≠ plK ss (fls q) := fun e => c1 (plK_inj l.k.nd hk o.ib e)
      rw [if_neg c1, if_neg d1]
      by_cases c2 : k = fgr q
      · subst c2
        rw [if_pos rfl, if_pos rfl, rv_mi li.1 o.low.1]
        grind
      · have d2 : plK ss k ≠ plK ss (fgr q) := fun e => c2 (plK_inj l.k.nd hk o.ia e)
        rw [if_neg c2, if_neg d2]
        grind
  · have n1 : i ≠ plK ss (fls q) := fun z => by
      obtain ⟨_, b, c, _⟩ := plK_ok l.k.nd o.ib
      rw [z, b] at e
      exact c e
    have n2 : i ≠ plK ss (fgr q) := fun z => by
      obtain ⟨_, b, c, _⟩ := plK_ok l.k.nd o.ia
      rw [z, b] at e
      exact c e
    rw [giftS_gs o.a o.b o.ne (by rw [h.len]; exact hi), if_neg n1, if_neg n2]
    exact h.emp i hi e
def nG (ss : List Seat) : Nat := (giftsL (gap0 ss)).length
end
end WS
set_option Elab.async false
set_option linter.all false
set_option maxRecDepth 100000
set_option maxHeartbeats 4000000
namespace WS
open PySem PySem.Spec PyProof.Rows L2
/-! ### levelling: promises -/
/-! rows of up to 26 seats, the last one's part set so that they come to nought -/
/-- a drawn moment, with the average's divisor -/
theorem LK.of {D W : Int} {ss : List Seat} (h : K23 D 26 W ss) (b : Bt 13 D) : ∃ D', LK D' W ss := by
  have m0 : (1 : Int) ≤ ((max 1 (sitL ss).length : Nat) : Int) := by omega
  have l2 : (sitL ss).length ≤ ss.length := List.length_filter_le _ _
  have bm : Bt 5 ((max 1 (sitL ss).length : Nat) : Int) := Bt.of_lt (by omega) (by have := h.l; omega)
  have bb : Bt 18 (D * ((max 1 (sitL ss).length : Nat) : Int)) := b.mul bm
  have dv : ∀ x : Int, x ∣ D → x ∣ D * ((max 1 (sitL ss).length : Nat) : Int) := fun x hx => Int.dvd_trans hx (Int.dvd_mul_right _ _)
  have k' : K23 (D * ((max 1 (sitL ss).length : Nat) : Int)) 26 W ss := ⟨h.l, h.w, h.b, h.nd, h.nm, fun s hs => ⟨(h.ok s hs).1, (h.ok s hs).2.1, dv _ (h.ok s hs).2.2⟩, h.g, Int.mul_pos h.d0 (by omega), bb.mono (by decide)⟩
  refine ⟨_, k', bb.mono (by decide), ?_⟩
  have hq : ∀ q ∈ (sitL ss).map Prod.snd, OkV D (q.1.natAbs) q := fun q hq => by
    obtain ⟨s, hs, rfl⟩ := List.mem_map.mp hq
    have o := h.ok s (sit_mem hs).1
    exact ⟨o.1.1, o.2.2, Nat.le_mul_of_pos_right _ (by have := o.1.1; omega)⟩
  have den : ∀ (qs : List (Int × Int)) (s : Int × Int), 0 < s.2 → s.2 ∣ D → (∀ q ∈ qs, OkV D q.1.natAbs q) → (qs.foldl pl s).2 ∣ D ∧ 0 < (qs.foldl pl s).2 := by
    intro qs
    induction qs with
    | nil => intro s p d _; exact ⟨d, p⟩
    | cons q qs ih =>
      intro s p d hq
      have o : OkV D s.1.natAbs s := ⟨p, d, Nat.le_mul_of_pos_right _ (by omega)⟩
      have oo := o.pl h.d0 (hq q List.mem_cons_self)
      exact ih (pl s q) oo.1 oo.2.1 fun x hx => hq x (List.mem_cons_of_mem _ hx)
  obtain ⟨sd, sp⟩ := den _ (0, 1) (by decide) (Int.one_dvd D) hq
  have hb : 0 < (sumS ss).2 * ((max 1 (sitL ss).length : Nat) : Int) := Int.mul_pos sp (by omega)
  have e : (avP ss).2 ∣ (sumS ss).2 * ((max 1 (sitL ss).length : Nat) : Int) := by
    have := lo_snd (sumS ss).1 ((sumS ss).2 * ((max 1 (sitL ss).length : Nat) : Int))
    exact ⟨_, this.symm⟩
  exact Int.dvd_trans e (Int.mul_dvd_mul_right _ sd)
end WS
set_option Elab.async false
set_option linter.all false
set_option maxRecDepth 100000
set_option maxHeartbeats 4000000
set_option Elab.async false
set_option linter.all false
set_option maxRecDepth 100000
set_option maxHeartbeats 4000000
/-! ### sum(d.values()) -/
namespace L2
open PySem PySem.Spec PyProof PyProof.Rows
end L2
set_option Elab.async false
set_option linter.all false
set_option maxRecDepth 100000
set_option maxHeartbeats 4000000
namespace WS
open PySem PySem.Spec PyProof.Rows L2
/-! ### k47: moments behind offers and gifts -/
theorem K23.bw {D W : Int} {n : Nat} {ss : List Seat} (h : K23 D n W ss) : W < 2 ^ 110 := by
  have h1 : W.natAbs < 2 ^ 110 := h.b
  have w := h.w
  have e : (2 : Int) ^ 110 = ((2 ^ 110 : Nat) : Int) := by decide +kernel
  omega
/-- rebuilt from what a good moment has -/
theorem K23.re {D W : Int} {n m : Nat} {ss tt : List Seat} (k : K23 D m W ss) (b : Bt 40 D) (hn : n ≤ 26) (l : tt.length ≤ n) (nd : (names tt).Nodup) (nm : ∀ s ∈ tt, Nm0 s.1) (low : ∀ s ∈ tt, Lowest s.2.1 s.2.2 ∧ s.2.2 ∣ D) (g : Good W tt) : K23 D n W tt := by
  refine ⟨l, k.w, k.b, nd, nm, fun s hs => ⟨(low s hs).1, ?_, (low s hs).2⟩, g, k.d0, k.db⟩
  have bw := k.bw
  have w := k.w
  have ll : ((tt.length : Nat) : Int) ≤ 26 := by omega
  have hw : W * ((tt.length : Nat) : Int) ≤ W * 26 := Int.mul_le_mul_of_nonneg_left ll (by omega)
  have o : OkV D (2 ^ 114) s.2 := ⟨(low s hs).1.1, (low s hs).2, good_abs w g (by
    have e : ((2 ^ 114 : Nat) : Int) = 16 * 2 ^ 110 := by decide +kernel
    rw [e]
    omega) (fun s hs => (low s hs).1.1) s hs⟩
  have o2 := o.okp k.d0 b (n := 115) (by decide +kernel) (Nat.le_refl 155)
  refine ⟨o.1, o2.2.1.mono (by decide), ?_⟩
  have le : s.2.2.natAbs ≤ D.natAbs := by
    have := Int.le_of_dvd k.d0 o.2.1
    have := o.1
    omega
  exact (show Bt 40 s.2.2 from Nat.lt_of_le_of_lt le b).mono (by decide)
structure M47 (D W : Int) (us : List Str) (ss : List Seat) : Prop where
  k : K23 D 14 W ss
  b : Bt 40 D
  dv : ∀ m : Nat, 1 ≤ m → m ≤ 14 → ((m : Nat) : Int) ∣ D
  ul : us.length = 14
  pool : ∀ z ∈ names ss, z ∈ us
section
variable {D W : Int} {us : List Str} {ss : List Seat}
theorem M47.pos (h : M47 D W us ss) : ∀ s ∈ ss, 0 < s.2.2 := fun s hs => (h.k.ok s hs).1.1
theorem M47.low (h : M47 D W us ss) : ∀ s ∈ ss, Lowest s.2.1 s.2.2 ∧ s.2.2 ∣ D := fun s hs => ⟨(h.k.ok s hs).1, (h.k.ok s hs).2.2⟩
theorem M47.okq (h : M47 D W us ss) : ∀ s ∈ ss, Okq 190 90 s.2 := fun s hs => (h.k.ok s hs).2.1
theorem M47.okp (h : M47 D W us ss) {m : Nat} (hm : 190 ≤ m) : ∀ s ∈ ss, Okp m s.2 := fun s hs => (h.okq s hs).okp hm (by omega)
theorem M47.ok2 (h : M47 D W us ss) : ∀ s ∈ ss, Ok2 190 90 s.2 := fun s hs => h.okq s hs
theorem M47.re {tt : List Seat} (h : M47 D W us ss) (l : tt.length ≤ 14) (nd : (names tt).Nodup) (nm : ∀ s ∈ tt, Nm0 s.1) (low : ∀ s ∈ tt, Lowest s.2.1 s.2.2 ∧ s.2.2 ∣ D) (g : Good W tt) (pool : ∀ z ∈ names tt, z ∈ us) : M47 D W us tt :=
  ⟨h.k.re h.b (by decide) l nd nm low g, h.b, h.dv, h.ul, pool⟩
theorem put_names {i : Nat} {z y : Str} (h : y ∈ names (put ss i z)) : y ∈ names ss ∨ y = z := by
  obtain ⟨ne, s, hs, rfl⟩ := names_mem.mp h
  rcases put_mem hs with hs | rfl
  · exact .inl (names_mem.mpr ⟨ne, s, hs, rfl⟩)
  · exact .inr rfl
theorem M47.come {z : Str} (h : M47 D W us ss) (hz : Nm z) (hu : z ∈ us) (hn : z ∉ names ss) : M47 D W us (put ss (room ss) z) := by
  have hr := room_le ss
  have l := h.k.l
  have k2 := h.k.come hz hn
  refine h.re ?_ k2.nd k2.nm (fun s hs => ⟨(k2.ok s hs).1, (k2.ok s hs).2.2⟩) k2.g fun y hy => ?_
  · rw [put_len ss _ z hr]
    by_cases c : room ss < ss.length
    · rw [if_pos c]
      exact l
    · rw [if_neg c]
      have e := names_full (room_full (show room ss = ss.length by omega))
      have nd : (z :: names ss).Nodup := List.nodup_cons.mpr ⟨hn, h.k.nd⟩
      have := List.Nodup.length_le_of_subset nd (l₂ := us) fun y hy => by
        rcases List.mem_cons.mp hy with rfl | hy
        · exact hu
        · exact h.pool y hy
      rw [List.length_cons, h.ul] at this
      omega
  · rcases put_names hy with hy | rfl
    · exact h.pool y hy
    · exact hu
theorem M47.leave {i : Nat} (h : M47 D W us ss) (hi : i < ss.length) : M47 D W us (put ss i "") := by
  have k2 := h.k.leave hi
  refine h.re k2.l k2.nd k2.nm (fun s hs => ⟨(k2.ok s hs).1, (k2.ok s hs).2.2⟩) k2.g fun y hy => ?_
  rcases put_names hy with hy | rfl
  · exact h.pool y hy
  · exact absurd rfl (names_mem.mp hy).1
theorem M47.gift {i j : Nat} {a : Int} (h : M47 D W us ss) (hi : i < ss.length) (hj : j < ss.length) (ne : i ≠ j) (a1 : 1 ≤ a) (le : rv (a, 1) ≤ owF ss i - owF ss j) : M47 D W us (giftS ss i j (a, 1)) := by
  have q0 : (0 : Int) < ((a, 1) : Int × Int).2 := show (0 : Int) < 1 by decide
  have g0 : (0 : Rat) ≤ rv (a, 1) := by
    have := (ltp_iff (p := (0, 1)) (q := (a, 1)) (by decide) q0).mp (decide_eq_true (by show (0 : Int) * 1 < a * 1; omega))
    rw [rv_nought] at this
    exact Rat.le_of_lt this
  have og : OkV D a.natAbs (a, 1) := ⟨q0, Int.one_dvd D, by simp⟩
  have okv : ∀ s ∈ ss, OkV D (s.2.1.natAbs) s.2 := fun s hs => ⟨h.pos s hs, (h.low s hs).2, Nat.le_mul_of_pos_right _ (by have := h.pos s hs; omega)⟩
  have fs : (giftS ss i j (a, 1)).map Prod.fst = ss.map Prod.fst := setRow_fst (by rw [giftR_len, List.length_map])
  have nms : names (giftS ss i j (a, 1)) = names ss := by
    unfold names
    rw [fs]
  have at' : ∀ s ∈ giftS ss i j (a, 1), ∃ k, k < ss.length ∧ s = ((gs ss k).1, if k = j then pl (gs ss j).2 (a, 1) else if k = i then mi (gs ss i).2 (a, 1) else (gs ss k).2) := fun s hs => by
    obtain ⟨k, hk⟩ := List.getElem?_of_mem hs
    have kl := (List.getElem?_eq_some_iff.mp hk).1
    rw [giftS_len] at kl
    exact ⟨k, kl, by rw [← giftS_gs hi hj ne kl]; exact (gs_at hk).symm⟩
  refine h.re (by rw [giftS_len]; exact h.k.l) (by rw [nms]; exact h.k.nd) (fun s hs => ?_) (fun s hs => ?_) (good_gift h.k.g h.pos q0 hi hj ne g0 le) (by rw [nms]; exact h.pool)
  · obtain ⟨k, kl, rfl⟩ := at' s hs
    exact h.k.nm (gs ss k) (gs_mem kl)
  · obtain ⟨k, kl, rfl⟩ := at' s hs
    show Lowest (if k = j then pl (gs ss j).2 (a, 1) else if k = i then mi (gs ss i).2 (a, 1) else (gs ss k).2).1 _ ∧ _
    by_cases c1 : k = j
    · rw [if_pos c1]
      exact ⟨pl_lowest (h.pos _ (gs_mem hj)) q0, ((okv _ (gs_mem hj)).pl h.k.d0 og).2.1⟩
    · rw [if_neg c1]
      by_cases c2 : k = i
      · rw [if_pos c2]
        exact ⟨mi_low (h.pos _ (gs_mem hi)) q0, ((okv _ (gs_mem hi)).mi h.k.d0 og).2.1⟩
      · rw [if_neg c2]
        exact h.low _ (gs_mem kl)
end
/-! promises whose moments are such that dict() takes their seats -/
/-! the law's own rows of lists -/
end WS
set_option Elab.async false
set_option linter.all false
set_option maxRecDepth 100000
set_option maxHeartbeats 4000000
namespace WS
open PySem PySem.Spec PyProof.Rows L2
/-! ## k47: the whole -/
theorem dv14 : ∀ m : Nat, m < 15 → 1 ≤ m → ((m : Nat) : Int) ∣ 360360 := by decide
theorem M47.of {D W : Int} {us : List Str} {ss : List Seat} (h : K23 D 26 W ss) (b : Bt 13 D) (l : ss.length ≤ 14) (ul : us.length = 14) (pool : ∀ z ∈ names ss, z ∈ us) : M47 (D * 360360) W us ss := by
  have b2 : Bt 40 (D * 360360) := (b.mul (by unfold Bt; decide : Bt 19 (360360 : Int))).mono (by decide)
  refine ⟨⟨l, h.w, h.b, h.nd, h.nm, fun s hs => ⟨(h.ok s hs).1, (h.ok s hs).2.1, Int.dvd_trans (h.ok s hs).2.2 (Int.dvd_mul_right _ _)⟩, h.g, Int.mul_pos h.d0 (by decide), b2.mono (by decide)⟩, b2, fun m h1 h2 => Int.dvd_trans (dv14 m (by omega) h1) (Int.dvd_mul_left _ _), ul, pool⟩
/-- what the law keeps, and the texts of it -/
def Line47 (K : PySem.W.Frag) (H : Hp) (L G : Addr) (n : Nat) : Prop := ∃ (rs : List V) (ds : List PyData), H L = some (.lst rs) ∧ H G = some (.lst ((ds.map PyData.shown).map V.str)) ∧ DpAll K H rs ds ∧ rs.length = n ∧ ds.length = n ∧ (∀ d ∈ ds, Sh 110000 5 d) ∧ immAll ds = true
theorem immAll_add {ds : List PyData} {d : PyData} (h : immAll ds = true) (k : imm d = true) : immAll (ds ++ [d]) = true := by
  induction ds with
  | nil => show (imm d && true) = true; rw [k]; rfl
  | cons a ds ih =>
    have h : (imm a && immAll ds) = true := h
    obtain ⟨h1, h2⟩ := Bool.and_eq_true_iff.mp h
    show (imm a && immAll (ds ++ [d])) = true
    rw [h1, ih h2]
    rfl
theorem Line47.add {K : PySem.W.Frag} {H : Hp} {L G : Addr} {n : Nat} {rs : List V} {ds : List PyData} (n1 : G ≠ L) (hL : H L = some (.lst rs)) (hG : H G = some (.lst ((ds.map PyData.shown).map V.str))) (hD : DpAll K H rs ds) (h1 : rs.length = n) (h2 : ds.length = n) (h3 : ∀ d ∈ ds, Sh 110000 5 d) (h4 : immAll ds = true)
    {v : V} {d : PyData} (hv : Dp K H v d) (sh : Sh 110000 5 d) (im : imm d = true) : Line47 K (upd (upd H L (.lst (rs ++ [v]))) G (.lst ((ds.map PyData.shown).map V.str ++ [.str d.shown]))) L G (n + 1) := by
  have k1 : KT H (upd H L (.lst (rs ++ [v]))) := kt_set hL
  have hG1 : (upd H L (.lst (rs ++ [v]))) G = some (.lst ((ds.map PyData.shown).map V.str)) := by rw [upd_ne n1]; exact hG
  have k2 := k1.trans (kt_set (ys := (ds.map PyData.shown).map V.str ++ [.str d.shown]) hG1)
  refine ⟨rs ++ [v], ds ++ [d], by rw [upd_ne n1.symm, upd_same], ?_, dpall_add (hD.kt k2 h4) (hv.kt k2 im), by simp [h1], by simp [h2], fun x hx => ?_, immAll_add h4 im⟩
  · rw [upd_same, List.map_append, List.map_append]
    rfl
  · rcases List.mem_append.mp hx with h | h
    · exact h3 x h
    · rw [List.mem_singleton.mp h]
      exact sh
end WS
set_option Elab.async false
set_option linter.all false
set_option maxRecDepth 100000
set_option maxHeartbeats 4000000
namespace WS
open PySem PySem.Spec PyProof.Rows L2
/-! ## exceptions as values -/
section
open L2
variable {X : Cx} {pins : List (Addr × Obj)} {σ : L2.St} {H : Hp} {s : Shared}
/-- at a: an exception of the class at D that was made, and not raised; fs what its own __init__ kept -/
def ExV (H : Hp) (a D : Addr) (fs : List (Str × V)) : Prop := (fs = [] ∧ H a = some (ExO (.ref D) a)) ∨ ∃ d, H a = some (exo a D (some d)) ∧ H d = some (exd d fs)
theorem exv_at {a D : Addr} {fs : List (Str × V)} (h : ExV H a D fs) (I : Inv X pins σ H s) : ∃ oe od, PySem.W.InstAt s.heap a oe D od ∧ ∀ f v, fs.lookup f = some v → ∃ o u, od = some o ∧ PySem.W.lookIn f o = some (some u) ∧ L2.RelV v u := by
  rcases h with ⟨rfl, ha⟩ | ⟨d, ha, hd⟩
  · have hx : ObjOk X.prog X.w H s.heap a (ExO (.ref D) a) := I.hok a _ ha
    obtain ⟨oe, vs, g, z, e, _⟩ := hx.1
    obtain ⟨oc, odc, oda, osl⟩ := oe
    obtain ⟨h1, h2⟩ := z
    dsimp only at h1 h2 e
    subst h1 h2 e
    exact ⟨_, none, ⟨g, rfl, rfl, trivial⟩, fun f v e => by cases e⟩
  · obtain ⟨t1, g⟩ := exo_at I.hok ha
    obtain ⟨mA, hns, hr⟩ := exd_at I.hok hd
    obtain ⟨od, ho, hl⟩ := lookIn_ns hns
    refine ⟨_, some od, ⟨g, rfl, rfl, ho⟩, fun f v e => ?_⟩
    obtain ⟨u, hu, ru⟩ := RelO.some_of (v := v) (o := mA f) (by rw [← e]; exact hr f)
    exact ⟨od, u, rfl, by rw [hl, hu], ru⟩
def rIsV (K : PySem.W.Frag) : List V → Hp → VK → Prop := fun xs H Q => ∃ (a D : Addr) (fs : List (Str × V)) (c : V) (cv : Value) (b : Bool), xs = [.ref a, c] ∧ ExV H a D fs ∧ ExcC K D ∧ ClsV c cv ∧ PySem.W.kitOne K (.ref D) cv = some b ∧ Q (.bl b) H
theorem call_isV : CallR X (.builtin "isinstance") (rIsV X.K) := by
  intro pins s σ H xs us Q inv vals want
  obtain ⟨a, D, fs, c, cv, b, rfl, hv, C, ck, kit, q⟩ := want
  obtain ⟨u1, u2, rfl, r1, r2⟩ := vals2 vals
  cases (show u1 = Value.ref a from r1)
  cases ck.eq r2
  obtain ⟨oe, od, J, _⟩ := exv_at hv inv
  exact PySem.W.kia_one (PySem.W.kitx_exc (exc_cls C.hd) C.hg C.hk C.hs C.ha C.hn C.ht C.hm) inv.kIn J kit (fun z => nomatch z) fun tk => ⟨.bl b, H, inv.tok tk, rfl, q⟩
/-- e.f of a made exception -/
def tXfV (K : PySem.W.Frag) (C : Addr) (f : Str) (te : TE) : TE := fun σ H Q => te σ H fun x H1 => ∃ (a : Addr) (fs : List (Str × V)) (v : V), x = .ref a ∧ ExV H1 a C fs ∧ fs.lookup f = some v ∧ Q v H1
theorem pe_xfV {C : Addr} {e : Expr} {te : TE} {pos : Pos} {n : Str} (T : XfC X.K C) (hno : PySem.W.findIn X.K (.ref C) n = some none) (he : PE X e te) (hb : attributeBase e n X.env (eval e X.env) = eval e X.env := by rfl) :
    PE X (.Attribute e n pos) (tXfV X.K C n te) := by
  refine ⟨fun pins s σ H Q I h => ?_⟩
  refine attr_of hb (thn (he.run pins s σ H _ I h) fun u s1 hh => ?_)
  obtain ⟨x, H1, I1, rx, a, fs, v, ex, hv, l, q⟩ := hh
  subst ex
  obtain rfl : u = Value.ref a := rx
  obtain ⟨oe, od, J, g⟩ := exv_at hv I1
  obtain ⟨o, u, rfl, hl, ru⟩ := g n v l
  exact HandSPX.exc_get I1.kIn J T.ga T.gg T.exC (PySem.W.findObj_own T.hdC hno rfl hl) (handed_of ru) ⟨v, H1, I1.tok _, ru, q⟩
/-- C(e, ..), C's own __init__ keeping sp, as a value -/
def tOexV (C : Addr) (sp : Sp) (dvs : List V) (ta : TA) : TE := fun σ H Q => ta σ H fun vs H1 => vs.length ≤ 1000 ∧ ∀ a, H1 a = none → sp (.ref a :: (vs ++ dvs)) (upd H1 a (exo a C none)) (fun v H2 => v = .non ∧ Q (.ref a) H2) (fun _ _ _ => False)
theorem pe_oexV {CX : CXT} {x : Str} {C fI : Addr} {k : Nat} {fd : FuncData} {ps : List Str} {sp : Sp} {ds : List Value} {dvs : List V} {e : Expr} {es : List Expr} {ta : TA} {p pos : Pos} (T : OexC X.K C) (iC : PySem.W.findIn X.K (.ref C) "__init__" = some (some (.ref fI))) (tI : PySem.W.typeIn X.K (.ref fI) = some (.type "function"))
    (F1 : FnOk X.prog X.w X.K X.mg X.base CX k fI fd ps sp) (hr : Room (k + 1) X.A) (hb : Binds X.K fd ps ds) (hd : Vals dvs ds) (hx : Passes CX X (fun _ _ _ => False)) (hg : Gl X x) (hm : X.mg x = some (.ref C)) (ha : PA X (e :: es) ta)
    (hdb : (x == ("__debug__" : Str)) = false := by decide) (he : starEach (e :: es) X.env = (false, eval e X.env) :: starEach es X.env := by rfl) (hpl : (backTo pos (starEach es X.env)).any (·.1) = false := by rfl) :
    PE X (.Call (.Name x p) (e :: es) [] pos) (tOexV C sp dvs ta) := by
  refine ⟨fun pins s σ H Q I h => ?_⟩
  obtain ⟨nm, q, N, bs, bm, sn, sub, ab, col, dd, k0, k1, k2, k3, k5, hC, hbm⟩ := T.cls
  refine wpAny_Call_Name_kw (ld_glob I hg hm ?_ hdb)
  refine PySem.W.callWith_K (h₀ := X.base) I.ok.mod.kin T.kC (thn (ha.run pos pins s σ H _ I h) fun us s1 ⟨vs, H1, I1, r1, hz, q1⟩ => ⟨I1.kIn, ?_⟩) he hpl
  show wpAny _ _ (call (.ref C) us) _ _ _
  obtain ⟨hp, g, dr, tk, os⟩ := s1
  have hsz : hp.objs.size ≤ hp.objs.size + 1 := Nat.le_succ _
  have hn : H1 (hp.objs.size + 1) = none := I1.hok.fresh hsz
  have hq := q1 (hp.objs.size + 1) hn
  have kk : ∀ b o, hp.get? b = some o → ((hp.push (PySem.W.kdv_tup us)).push (PySem.HandSPX.excO C hp.objs.size)).get? b = some o := fun b o e => Heap.get?_push_of_some _ (Heap.get?_push_of_some _ e)
  have hget : ((hp.push (PySem.W.kdv_tup us)).push (PySem.HandSPX.excO C hp.objs.size)).get? (hp.objs.size + 1) = some (PySem.HandSPX.excO C hp.objs.size) := by heap_get
  have I2 : Inv X pins σ (upd H1 (hp.objs.size + 1) (exo (hp.objs.size + 1) C none)) ⟨(hp.push (PySem.W.kdv_tup us)).push (PySem.HandSPX.excO C hp.objs.size), g, dr, tk, os⟩ :=
    I1.laid (t' := tk) (a := hp.objs.size + 1) (o := exo (hp.objs.size + 1) C none) (h' := (hp.push (PySem.W.kdv_tup us)).push (PySem.HandSPX.excO C hp.objs.size)) kk hsz (exo_ok hget)
  have r2 : Vals (V.ref (hp.objs.size + 1) :: (vs ++ dvs)) (Value.ref (hp.objs.size + 1) :: (us ++ ds)) := .cons rfl (r1.append hd)
  have hl : (Value.ref (hp.objs.size + 1) :: us ++ ds).length = ps.length := by
    have e := r2.length
    rw [F1.len _ _ _ _ hq] at e
    exact e.symm
  have hus : us.length ≤ sizeLine := by
    rw [← Paired.length r1, sizeLine_eq]
    omega
  refine wpAny_call (PySem.HandSPX.call_own F.excBase_ValueError (fun Y => PySem.HandSPX.refsVE_contains Y bm hbm) (I1.kIn _ _ hC) (PySem.W.looks_findIn I1.kIn iC) (fun self => PySem.W.bind_fn I1.kIn self tI) hus
    (codeAny_mono (F1.run _ X.stack _ _ ⟨Value.ref (hp.objs.size + 1) :: us, []⟩ (Value.ref (hp.objs.size + 1) :: (us ++ ds)) _ _ (fun _ _ _ => False) (hr.make C us []) (I2.env0.make C us []) (hb _ (Value.ref (hp.objs.size + 1) :: us) I2.kIn hl) r2 hq) fun r s' hq' => ?_))
  cases r with
  | error er => exact hx pins σ _ _ er s' I2 hq'
  | ok fl =>
    cases fl with
    | ret u =>
      obtain ⟨v, H2, os2, bare2, un2, hok2, rv, ev, q2⟩ := hq'
      subst ev
      obtain ⟨h2, g2, d2, t2, os'⟩ := s'
      exact ⟨rv, .ref _, H2, I2.call' (ch := []) os2 un2 hok2 bare2 (fun b z => absurd z (by simp)), rfl, q2⟩
    | next => exact False.elim hq'
    | brk => exact False.elim hq'
    | cont => exact False.elim hq'
end
end WS
set_option Elab.async false
set_option linter.all false
set_option maxRecDepth 100000
set_option maxHeartbeats 4000000
namespace WS
open PySem PySem.Spec PyProof.Rows L2
/-! ## k10: every class of refusals by itself -/
section
variable {K : PySem.W.Frag}
/-- the eighteen classes and, last, the one above them, as isinstance tells them -/
def rowsE (K : PySem.W.Frag) (cs : List Addr) : Bool := (List.range 19).all fun i => decide (PySem.W.kitOne K (.ref (cs.getD i 0)) (.ref (cs.getD 18 0)) = some true) && ((List.range 18).all fun j => decide (PySem.W.kitOne K (.ref (cs.getD i 0)) (.ref (cs.getD j 0)) = some (decide (i = j))))
theorem rowsE_top {cs : List Addr} (h : rowsE K cs = true) {i : Nat} (hi : i < 19) : PySem.W.kitOne K (.ref (cs.getD i 0)) (.ref (cs.getD 18 0)) = some true := by
  have h1 := List.all_eq_true.mp h i (List.mem_range.mpr hi)
  exact of_decide_eq_true (Bool.and_eq_true_iff.mp h1).1
theorem rowsE_at {cs : List Addr} (h : rowsE K cs = true) {i j : Nat} (hi : i < 19) (hj : j < 18) : PySem.W.kitOne K (.ref (cs.getD i 0)) (.ref (cs.getD j 0)) = some (decide (i = j)) := by
  have h1 := List.all_eq_true.mp h i (List.mem_range.mpr hi)
  exact of_decide_eq_true (List.all_eq_true.mp (Bool.and_eq_true_iff.mp h1).2 j (List.mem_range.mpr hj))
theorem ExV.same {H H' : Hp} {a D : Addr} {fs : List (Str × V)} (h : ExV H a D fs) (s : Same H H') : ExV H' a D fs := by
  rcases h with ⟨e, h⟩ | ⟨d, h1, h2⟩
  · exact .inl ⟨e, s _ _ h⟩
  · exact .inr ⟨d, s _ _ h1, s _ _ h2⟩
/-- the numbers of the classes that the i-th is of -/
def whL (i : Nat) : List V := ((List.range 18).filter fun j => decide (i = j)).map fun j : Nat => V.int j
theorem whL_lt {i : Nat} (h : i < 18) : whL i = [V.int i] := by
  have : ∀ i, i < 18 → ((List.range 18).filter fun j => decide (i = j)) = [i] := by decide
  unfold whL
  rw [this i h]
  rfl
def spWhichV (cs : List Addr) : Sp := fun vs H Q _ => ∃ (a : Addr) (i : Nat) (fs : List (Str × V)), vs = [.ref a] ∧ i < 19 ∧ ExV H a (cs.getD i 0) fs ∧ ∀ L H', Same H H' → H L = none → H' L = some (.lst (whL i)) → Q (.ref L) H'
def spWhichG (a : Addr) (cls : Value) (d : Option Addr) (cs : List Addr) : Sp := fun vs H Q _ => vs = [.ref a] ∧ DictIs d H ∧ ∃ i : Nat, i < 19 ∧ cls = .ref (cs.getD i 0) ∧ ∀ L H', Same H H' → H L = none → H' L = some (.lst (whL i)) → Q (.ref L) H'
def spPlain10 (cs : List Addr) : Sp := fun vs H Q _ => ∃ v : V, vs = [v] ∧ ∀ L (as : List Addr) H', Same H H' → H L = none → H' L = some (.lst (as.map V.ref)) → as.length = 14 → (∀ j a, as[j]? = some a → ExV H' a (cs.getD j 0) []) → Q (.ref L) H'
/-- what an exception's own fields are -/
def fldsE (i : Nat) (xs : List V) : List (Str × V) := if i = 14 then [("person", xs.getD 0 .non)] else if i = 15 then [("seats", xs.getD 2 .non), ("many", xs.getD 1 .non)] else if i = 16 then [("owed", xs.getD 3 .non)] else if i = 17 then [("seats", xs.getD 2 .non), ("many", xs.getD 1 .non), ("at", xs.getD 4 .non)] else []
/-- what is due of them -/
def dueE (i : Nat) (xs : List V) : List V := if i = 14 then [xs.getD 0 .non] else if i = 15 then [xs.getD 1 .non, xs.getD 2 .non] else if i = 16 then [xs.getD 3 .non] else if i = 17 then [xs.getD 4 .non, xs.getD 1 .non, xs.getD 2 .non] else []
def spFields10 (cs : List Addr) : Sp := fun vs H Q _ => ∃ (a : Addr) (i : Nat) (xs : List V), vs = [.ref a] ∧ i < 18 ∧ ExV H a (cs.getD i 0) (fldsE i xs) ∧ ∀ L H', Same H H' → H L = none → H' L = some (.lst (dueE i xs)) → Q (.ref L) H'
def spInit3 (C : Addr) (f g h : Str) : Sp := fun vs H Q _ => ∃ a x y z, vs = [.ref a, x, y, z] ∧ H a = some (exo a C none) ∧ ∀ d, H d = none → d ≠ a → Q .non (upd (upd (upd (upd H d (exd d [(f, x)])) a (exo a C (some d))) d (exd d [(g, y), (f, x)])) d (exd d [(h, z), (g, y), (f, x)]))
/-- the things at L -/
structure Th10 (K : PySem.W.Frag) (H : Hp) (xs : List V) (ds : List PyData) : Prop where
  d : DpAll K H xs ds
  l : xs.length = 5
  i : immAll ds = true
  s : ∀ d ∈ ds, Sh 3000 3 d
theorem Th10.same {H H' : Hp} {xs : List V} {ds : List PyData} (h : Th10 K H xs ds) (s : Same H H') : Th10 K H' xs ds := ⟨h.d.sm s, h.l, h.i, h.s⟩
theorem Th10.kt {H H' : Hp} {xs : List V} {ds : List PyData} (h : Th10 K H xs ds) (s : KT H H') : Th10 K H' xs ds := ⟨h.d.kt s h.i, h.l, h.i, h.s⟩
def spThings10 (K : PySem.W.Frag) : Sp := fun vs H Q _ => ∃ (p : Addr), vs = [.ref p] ∧ PotAt H p ∧ ∀ L xs ds H', SameX p H H' → PotAt H' p → H L = none → H' L = some (.lst xs) → Th10 K H' xs ds → Q (.ref L) H'
def spRaised10 : Sp := fun vs H Q _ => ∃ (k : Nat) (L : Addr) (xs : List V), vs = [.int k, .ref L] ∧ 13 ≤ k ∧ k < 18 ∧ H L = some (.lst xs) ∧ xs.length = 5 ∧ ∀ H', Same H H' → Q (.bl true) H'
end
end WS
set_option Elab.async false
set_option linter.all false
set_option maxRecDepth 100000
set_option maxHeartbeats 4000000
/-! ## lists walked, and comprehensions, while an exception is handled -/
namespace HotX
open PySem PySem.Spec PyProof.Rows
section
variable {prog : Program} {w : World} {A : Around} {E : Value → Shared → Prop} {s : Shared}
theorem pyNext_list_end_hot {it l x1 : Addr} {i : Nat} {items} {Q : Option Value → Shared → Prop} (hot : HotAt A x1 s.heap)
    (hit : s.heap.IsListIter it l i) (hl : s.heap.IsList l items) (hx : items[i]? = none)
    (hQ : ∀ h', (∀ b o, b ≠ it → s.heap.get? b = some o → h'.get? b = some o) → Q none { s with heap := h' }) : wpAny (model prog w) A (pyNext (.ref it)) Q E s := by
  obtain ⟨o, ho, hc, hd⟩ := id hit
  obtain ⟨ol, hol, _, nl, hdl⟩ := hl
  obtain ⟨hh, o1, vs1, h1, d1, c1⟩ := hot
  have ne : it ≠ x1 := fun z => by
    rw [z, h1] at ho
    have e := Option.some.inj ho
    subst e
    rw [hd] at d1
    have e := Data.fields.inj d1
    subst e
    simp at c1
  unfold pyNext
  refine wpAny_bind (wpAny_attempt (wpAny_callSpecial?_slot (name := Str.ofString "__next__") hit.typeIs slot_listiter_next
    (wpAny_call_entry slot_listiter_next hit.typeIs entry_listiter_next ?_ (args_listiter_next _))))
  show wpAny _ _ (field (.ref it) 0 >>= _) _ _ s
  refine wpAny_bind (wpAny_field ho hd (x := .ref l) rfl ?_)
  show wpAny _ _ (if (Value.ref l == Value.none) = true then _ else _) _ _ s
  rw [if_neg (show ¬ ((Value.ref l == Value.none) = true) from Bool.false_ne_true)]
  show wpAny _ _ (field (.ref it) 1 >>= _) _ _ s
  refine wpAny_bind (wpAny_field ho hd (x := .int i 0) rfl ?_)
  show wpAny _ _ (seqItems? (.ref l) >>= _) _ _ s
  refine wpAny_bind (wpAny_seqItems hol hdl ?_)
  simp only [Int.toNat_natCast, hx]
  refine wpAny_bind (wpAny_rule (wpAny_bind (wpAny_setField ho hd (by simp) ?_)))
  show wpAny _ _ (newExc (.type "StopIteration") [] >>= _) _ _ _
  refine wpAny_bind ?_
  simp only [newExc, newTuple]
  refine wpAny_bind (wpAny_newObj_type ?_ (by size_fits))
  refine wpAny_bind (m := firstArgMember _ _) (wpAny_of_eq (a := Value.none) (by first | rfl | (simp only [firstArgMember]; rfl)) ?_)
  refine wpAny_newObj_type ?_ (by size_fits)
  have h2 : ∀ {f : Obj → Obj}, (s.heap.update it f).get? x1 = some o1 := fun {f} => by
    rw [Heap.get?_update_other _ _ ne]
    exact h1
  refine raiseNew_hot ⟨hh, o1, vs1, Heap.get?_push_of_some _ (Heap.get?_push_of_some _ h2), d1, c1⟩ (Nat.ne_of_lt (Heap.lt_size (Heap.get?_push_of_some _ h2))) (Heap.get?_push_size _ rfl) rfl (by rw [Array.size_append]; exact Nat.lt_of_lt_of_le (by show 2 < 6; decide) (Nat.le_add_right _ _)) ?_
  refine wpAny_bind (wpAny_isInstance (T := "StopIteration") (b := true) ⟨_, Heap.get?_update_self _ (Heap.get?_push_size _ rfl) rfl, rfl⟩ isSubtype_stop ?_)
  refine wpAny_pure (hQ _ fun b o nb e => ?_)
  have e2 : ∀ {f : Obj → Obj}, (s.heap.update it f).get? b = some o := fun {f} => by
    rw [Heap.get?_update_other _ _ (Ne.symm nb)]
    exact e
  rw [Heap.get?_update_other _ _ (Nat.ne_of_gt (Heap.lt_size (Heap.get?_push_of_some _ e2)))]
  exact Heap.get?_push_of_some _ (Heap.get?_push_of_some _ e2)
end
end HotX
namespace L2H
open PySem PySem.Spec PyProof.Rows L2 HotX
theorem turn_listH {P : Program} {w : World} {K : PySem.W.Frag} {tg : Expr} (a it : Addr) : TurnH P w K tg (Itl K a) [it] it (fun i h => h.IsListIter it a i) where
  mem := by simp
  obj := fun i h st b hb => by
    have e : b = it := by simpa using hb
    subst e
    obtain ⟨o, e, c, d⟩ := st
    exact ⟨o, e, fun v z => by rw [d] at z; cases z⟩
  keep := fun i h h' st k => st.at fun o e => k it (by simp) o e
  item := by
    intro X hP hw hK hc i pins s σ H E I hf st hg
    subst hP hw hK
    obtain ⟨xs, x, hq, hx⟩ := hg
    obtain ⟨its, rv, p, hz⟩ := I.list hq
    obtain ⟨u, hu, ru⟩ := rv.get hx
    obtain ⟨f0, f1, f2, f3, f4, f5⟩ := hf it (by simp)
    refine wpAny_pyNext_list_item st p.isList (x := u) (by simpa using hu) fun h' st' sb => ?_
    have I1 : Inv X pins σ H { s with heap := h' } := I.turned (t' := s.toks) (fun b o hb e => (sb.2 b hb).trans e) f0 f1 f3 f4 f5
    obtain ⟨o, e, c, d⟩ := id st'
    exact ⟨u, rfl, go_of (s := { s with heap := h' }) e c d (by decide) ⟨x, H, I1, ru, ⟨rfl, fun ys hy => by rw [I.list_inj hy hq]; exact hx⟩, st', fun b hb => (hf b hb).1⟩⟩
  done := by
    intro X hP hw hK hc i pins s σ H E I hf st hg
    subst hP hw hK
    obtain ⟨xs, hq, hx⟩ := hg
    obtain ⟨its, rv, p, hz⟩ := I.list hq
    obtain ⟨f0, f1, f2, f3, f4, f5⟩ := hf it (by simp)
    have hl := rv.length
    obtain ⟨x1, hot⟩ := hc.at I
    exact pyNext_list_end_hot hot st p.isList (by simp; omega) fun h' eb => ⟨rfl, I.turned (t' := s.toks) (fun b o hb e => eb b o hb e) f0 f1 f3 f4 f5⟩
  self := fun _ _ _ _ _ st h => wpAny_pyIter_listiter st h
theorem pi_listH {X : Cx} {tg l : Expr} {tl : TE} (hl : PE X l tl) : PIH X tg l (iList X.K tl) := by
  refine ⟨fun pins s σ H R I h => ?_⟩
  refine thn (hl.run pins s σ H _ I h) fun v s1 ⟨x, H1, I1, r1, q1⟩ => ?_
  obtain ⟨a, e, ⟨xs, hq⟩, q⟩ := q1
  subst e
  cases r1
  obtain ⟨its, rv, p, hz⟩ := I1.list hq
  refine wpAny_pyIter_list p.isList ?_
  refine ⟨s1.heap.objs.size, [s1.heap.objs.size], _, _, H1, rfl, I1.kept (t' := s1.toks) fun b o e => Heap.get?_push_of_some _ e, turn_listH a _, ⟨_, Heap.get?_push_size _ rfl, rfl, rfl⟩, fun b hb => ?_, q⟩
  have e : b = s1.heap.objs.size := by simpa using hb
  subst e
  exact I1.fpOk (Nat.le_refl _) (I1.hok.fresh (Nat.le_refl _))
end L2H
set_option Elab.async false
set_option linter.all false
set_option maxRecDepth 100000
set_option maxHeartbeats 4000000
/-! ## a comprehension while an exception is handled: the block keeps what is pinned around it (a rule beside HandS.Comp's lc_core, which asks a calm context) -/
namespace L2H
open PySem PySem.Spec PyProof.Rows L2 HotX
/-- the block's context, with the pins of the one around it -/
abbrev blkP (X : Cx) (s : Shared) (H : Hp) (scope : Scope) (cenv : Env) (fp : List Addr) : Cx := { X.blk s H scope cenv fp with pn := X.pn }
section
variable {X : Cx} {pins : List (Addr × Obj)} {σ ρ : St} {G G' : Hp} {z z' : Shared} {scope : Scope} {ce : Env} {fp : List Addr}
theorem blk_pins (I : Inv X pins σ G z) (f : ∀ b ∈ fp, FpOk X pins G b) (cL : ce.locals = z.heap.objs.size) (J : Inv (X.blk z G scope ce fp) [] ρ G' z') : Inv (blkP X z G scope ce fp) [] ρ G' z' := by
  have ok := J.ok
  refine ⟨⟨ok.mod, ok.kind, ok.glob, ok.blt, ok.above, ok.inj, ok.has, ok.cab, ok.hd, ok.frames, ok.stk, ok.exf, ok.bs, ok.bsz, ok.noex, ok.exfs, ok.funs, ok.frf⟩, J.os, J.bare, J.base, J.loc, J.cell, J.free, J.freeC, fun p hp => ?_, J.hok, J.len⟩
  have hp : p ∈ X.pn := by
    rcases List.mem_append.mp hp with h | h
    · exact h
    · cases h
  obtain ⟨g, n, nl, nf, nc⟩ := I.pin p (List.mem_append_left _ hp)
  have nfs : p.1 ∉ (X.blk z G scope ce fp).fs := fun e => by
    rcases List.mem_cons.mp (I.stkSub _ e) with e | e
    · exact nl e
    · exact nf e
  have nfp : p.1 ∉ fp := fun e => (f _ e).2.2.2.2.2 p (List.mem_append_left _ hp) rfl
  refine ⟨J.base.keep _ _ g n nfs nfp, J.base.free _ _ g n nfp, ?_, nfs, nc⟩
  show p.1 ≠ ce.locals
  rw [cL]
  exact Nat.ne_of_lt (Heap.lt_size g)
/-- the iterator's objects, in the block -/
theorem blk_foot (f : ∀ b ∈ fp, FpOk X pins G b) (J : Inv (blkP X z G scope ce fp) [] ρ G' z') (n : ∀ b ∈ fp, G' b = none) : ∀ b ∈ fp, FpOk (blkP X z G scope ce fp) [] G' b := fun b hb =>
  ⟨n b hb, (J.ok.exf b hb).1, J.ok.exfs b hb, .inl hb, fun x c e => (J.ok.exf b hb).2 x c e, fun p hp => (f b hb).2.2.2.2.2 p (List.mem_append_left _ (by
    rcases List.mem_append.mp hp with h | h
    · exact h
    · cases h))⟩
/-- how things stand at the head of a turn -/
def Head (X : Cx) (z : Shared) (G : Hp) (scope : Scope) (ce : Env) (fp : List Addr) (ρ : St) (tn : Nat → Heap → Prop) (W : Nat → Nat → Hp → Prop) (n : Nat) (y : Shared) : Prop :=
  ∃ i G', Inv (blkP X z G scope ce fp) [] ρ G' y ∧ tn i y.heap ∧ (∀ b ∈ fp, G' b = none) ∧ W i n G'
/-- the end of a turn is the head of the next one -/
theorem head_next {J : It} {it : Addr} {tg : Expr} {tn : Nat → Heap → Prop} {W : Nat → Nat → Hp → Prop} {Nx : Hp → Prop} {own : List Nat} {τ : St} {i n : Nat} {h : Heap} {y : Shared} (T : TurnH X.prog X.w X.K tg J fp it tn) (st : tn (i + 1) h)
    (hN : ∀ H', Nx H' → ∃ m', m' < n ∧ W (i + 1) m' H') (hw : wipe τ own = wipe σ own) (I : Inv (blkP X z G scope ce fp) ([] ++ pinsAt fp h) τ G' y) (nx : Nx G') : ∃ m, m < n ∧ Head X z G scope ce fp (wipe σ own) tn W m y := by
  obtain ⟨m', hm, w⟩ := hN G' nx
  have at_ : ∀ b ∈ fp, ∀ o, h.get? b = some o → y.heap.get? b = some o ∧ G' b = none := fun b hb o e => by
    have q := I.pin (b, o) (List.mem_append_right _ (List.mem_append_right _ (mem_pinsAt hb e)))
    exact ⟨q.1, q.2.1⟩
  refine ⟨m', hm, i + 1, G', (I.unpinned (pins := [])).weak (by rw [← hw, wipe_length]) (fun j v e => ?_), T.keep _ _ _ st fun b hb o e => (at_ b hb o e).1, fun b hb => ?_, w⟩
  · rw [← hw] at e
    exact (wipe_some e).1
  · obtain ⟨o, e, _⟩ := T.obj _ _ st b hb
    exact (at_ b hb o e).2
end
section
variable {X : Cx}
theorem pe_lcH {elt tg iter : Expr} {ifs : List Expr} {scope : Scope} {own : List (Str × Nat)} {pos : Pos} {wi : TI} {g : TG} {tt : TT} {te : TE} (hc : HotC X) (hN : X.N.Nodup) (hi : PIH X tg iter wi) (ok : BlkOk X.N X.env.scope scope own)
    (hg : ∀ (s : Shared) (H : Hp) (C : Addr) (cl : List (Str × Addr)) (fp : List Addr), PG (blkP X s H scope (compEnvC scope cl C X.env) fp) tg g) (ht : ∀ (s : Shared) (H : Hp) (C : Addr) (cl : List (Str × Addr)) (fp : List Addr), PTs (blkP X s H scope (compEnvC scope cl C X.env) fp) ifs tt)
    (he : ∀ (s : Shared) (H : Hp) (C : Addr) (cl : List (Str × Addr)) (fp : List Addr), PE (blkP X s H scope (compEnvC scope cl C X.env) fp) elt te) (hs : ∀ x, foldedSetIterable iter X.env x = pure x := by intro _; rfl) :
    PE X (.ListComp elt [⟨tg, iter, ifs, 0⟩] scope pos) (tLc wi g tt te (own.map (·.2))) := by
  refine ⟨fun pins s σ H Q I want => ?_⟩
  rw [eval_ListComp]
  have cells : ∀ y ∈ scope.names, y.2 = .free → ∃ c, X.env.cells.lookup y.1 = some c := fun y hy e => by
    rcases ok.free y hy e with k | k
    · exact I.ok.has _ (.inl k)
    · exact I.ok.has _ (.inr k)
  refine wpAny_comprehension_free rfl hs (closure_ok cells) ok.kind (fun y hy e => by rw [ok.uniq y hy, e]) (thn (hi.run pins s σ H _ I want) fun xv s1 hx => thn hx fun itv s2 ⟨it, fp, tn, J, H2, e, I2, T, st2, f2, q⟩ => ?_)
  subst e
  refine wpAny_newObj_type (newEnv_comp ?_) (by show 0 ≤ sizeLine; decide)
  obtain ⟨D, hD⟩ : ∃ D, s2.heap.objs.size = D := ⟨_, rfl⟩
  have nD : H2 D = none := I2.hok.fresh (Nat.le_of_eq hD)
  obtain ⟨W, ⟨m0, w0⟩, turn⟩ := q D nD
  rw [hD]
  obtain ⟨z, hz⟩ : ∃ z : Shared, { s2 with heap := s2.heap.push { cls := .type "list", data := .seq ([] : List Value).toArray } } = z := ⟨_, rfl⟩
  have zh : z.heap = s2.heap.push { cls := .type "list", data := .seq ([] : List Value).toArray } := by rw [← hz]
  obtain ⟨G, hG⟩ : ∃ G, upd H2 D (.lst []) = G := ⟨_, rfl⟩
  rw [hG] at w0
  have I3 : Inv X pins σ G z := by
    rw [← hz, ← hG]
    exact I2.laid (t' := s2.toks) (fun b o e => Heap.get?_push_of_some _ e) (Nat.le_of_eq hD) ⟨Nat.zero_le _, [], 0, .nil, by rw [← hD]; exact Heap.get?_push_size _ rfl⟩
  have old : ∀ b ∈ fp, b < s2.heap.objs.size := fun b hb => by
    obtain ⟨o, e, _⟩ := T.obj _ _ st2 b hb
    exact Heap.lt_size e
  have f3 : ∀ b ∈ fp, FpOk X pins G b := fun b hb => ⟨by rw [← hG, upd_ne (by rw [← hD]; exact Nat.ne_of_lt (old b hb))]; exact (f2 b hb).1, (f2 b hb).2⟩
  have st3 : tn 0 z.heap := T.keep _ _ _ st2 fun b _ o e => by rw [zh]; exact Heap.get?_push_of_some _ e
  have I4 := block_start I3 ok hN fun b hb => ⟨f3 b hb, by rw [zh, Heap.size_push]; exact Nat.lt_succ_of_lt (old b hb)⟩
  have pg := hg z G z.heap.objs.size (cellsFrom (z.heap.objs.size + 1) scope.names (cloFrom X.env.cells scope.names [])) fp
  have pt := ht z G z.heap.objs.size (cellsFrom (z.heap.objs.size + 1) scope.names (cloFrom X.env.cells scope.names [])) fp
  have pe := he z G z.heap.objs.size (cellsFrom (z.heap.objs.size + 1) scope.names (cloFrom X.env.cells scope.names [])) fp
  obtain ⟨ce, hce⟩ : ∃ ce, compEnvC scope (cellsFrom (z.heap.objs.size + 1) scope.names (cloFrom X.env.cells scope.names [])) z.heap.objs.size X.env = ce := ⟨_, rfl⟩
  rw [hce] at I4 pg pt pe
  have cL : ce.locals = z.heap.objs.size := by rw [← hce]; rfl
  obtain ⟨y0, hy⟩ : ∃ y0 : Shared, { z with heap := pushCells (z.heap.push { cls := .type "dict", data := .dict #[] }) scope.names } = y0 := ⟨_, rfl⟩
  rw [hy] at I4
  have st4 : tn 0 y0.heap := T.keep _ _ _ st3 fun b _ o e => by rw [← hy]; exact pushCells_keeps _ _ _ _ (Heap.get?_push_of_some _ e)
  have loop : codeAny (model X.prog X.w) X.A (.compLoop (.ListComp elt [⟨tg, iter, ifs, 0⟩] scope pos) 0 (.ref it) (.ref D) ce) (compPost (model X.prog X.w) X.A X.xe none (EP X pins σ Q) (.ref D) z.heap.objs.size) y0 := by
    refine compLoop_any (Head X z G scope ce fp (wipe σ (own.map (·.2))) tn W) ?_ m0 ⟨0, G, blk_pins I3 f3 cL I4, st4, fun b hb => (f3 b hb).1, w0⟩
    rintro n y ⟨i, H5, J5, st5, n5, w5⟩
    have ft := blk_foot f3 J5 n5
    rcases turn i n H5 w5 with ⟨stop, qq⟩ | ⟨go, Nx, hNx, step⟩
    · refine thnF (T.done (blkP X z G scope ce fp) rfl rfl rfl hc i [] y _ H5 (fun _ _ => False) J5 ft st5 stop) fun r y6 ⟨hr, J6⟩ => ?_
      subst hr
      have I7 : Inv X pins σ H5 y6 := I3.call' (ch := fp) J6.os J6.base J6.hok J6.bare fun b hb => ⟨(f3 b hb).2.2.2.1, (f3 b hb).2.1, (f3 b hb).2.2.2.2.1, (f3 b hb).2.2.2.2.2⟩
      obtain ⟨m, hn, _⟩ := J6.loc
      have hn : y6.heap.Ns ce.locals m := hn
      have nC : H5 ce.locals = none := J6.free
      rw [cL] at hn nC
      obtain ⟨g0, g1, _, g3, g4, g5⟩ := I3.fpOk (Nat.le_refl _) nC
      exact ⟨m, hn, fun h'' sb => ⟨.ref D, H5, I7.turned (t' := y6.toks) (fun b o hb e => (sb.2 b hb).trans e) g0 g1 g3 g4 g5, rfl, qq⟩⟩
    · refine thnF (T.item (blkP X z G scope ce fp) rfl rfl rfl hc i [] y _ H5 (fun _ _ => False) J5 ft st5 go) fun r y6 ⟨u, hr, h6⟩ => ?_
      subst hr
      refine thnF h6 fun _ y7 ⟨x, H7, J7, r7, yld, st7, n7⟩ => ?_
      refine thnF (pg.run _ y7 _ H7 x u _ (J7.pinned (blk_foot f3 J7 n7) (T.obj _ _ st7)) r7 (step x H7 yld)) fun _ y8 ⟨σ8, H8, J8, hw8, q8⟩ => ?_
      refine thnF (pt.run _ y8 σ8 H8 _ J8 q8) fun b y9 ⟨H9, J9, q9⟩ => ?_
      have on : ∀ {y' : Shared} {H' : Hp}, Inv (blkP X z G scope ce fp) ([] ++ pinsAt fp y7.heap) σ8 H' y' → Nx H' → ∃ m, m < n ∧ Head X z G scope ce fp (wipe σ (own.map (·.2))) tn W m y' := fun J' nx => head_next T st7 hNx hw8 J' nx
      cases b with
      | false => exact on J9 q9
      | true =>
        refine thnF (pe.run _ y9 σ8 H9 _ J9 q9) fun v y10 ⟨yv, H10, J10, r10, acc, hD10, hz10, nx⟩ => ?_
        exact app_ok (X := blkP X z G scope ce fp) J10 hD10 hz10 r10 fun y11 J11 => on J11 nx
  have all := codeAny_compStart_list loop (T.self X.A 0 _ _ _ st4 loop)
  subst hy hce hz
  exact all
end
end L2H
set_option Elab.async false
set_option linter.all false
set_option maxRecDepth 100000
set_option maxHeartbeats 4000000
namespace WS
open PySem PySem.Spec PyProof.Rows L2
theorem _root_.L2H.pi_listKH {X : Cx} {K : PySem.W.Frag} {tg l : Expr} {tl : TE} (hk : X.K = K) (hl : PE X l tl) : L2H.PIH X tg l (iList K tl) := by
  subst hk
  exact L2H.pi_listH hl
theorem del_made1 {H1 : Hp} {a d : Addr} {o u o2 v : HO} (ha : H1 a = none) (hd : d ≠ a) : upd (del (upd (upd (upd H1 a o) d u) a o2) a) d v = upd H1 d v := by
  funext b
  by_cases e : b = d
  · rw [e, upd_same, upd_same]
  · rw [upd_ne e, upd_ne e]
    by_cases g : b = a
    · rw [g, del_same, ha]
    · rw [del_ne g, upd_ne g, upd_ne e, upd_ne g]
theorem del_made3 {H1 : Hp} {a d : Addr} {o u o2 o3 o4 v : HO} (ha : H1 a = none) (hd : d ≠ a) : upd (del (upd (upd (upd (upd (upd H1 a o) d u) a o2) d o3) d o4) a) d v = upd H1 d v := by
  funext b
  by_cases e : b = d
  · rw [e, upd_same, upd_same]
  · rw [upd_ne e, upd_ne e]
    by_cases g : b = a
    · rw [g, del_same, ha]
    · rw [del_ne g, upd_ne e, upd_ne e, upd_ne g, upd_ne e, upd_ne g]
theorem exv_same {H1 H' : Hp} {a : Addr} (h : ∀ b, b ≠ a → H1 b ≠ none → H' b = H1 b) (ha : H1 a = none) : Same H1 H' := fun b o e => by
  rw [h b (fun z => by rw [z, ha] at e; cases e) (by rw [e]; simp)]
  exact e
theorem made1 {C a d : Addr} {f : Str} {H1 : Hp} {x : V} {o : HO} (na : H1 a = none) (ne : d ≠ a) (hd : upd H1 a o d = none) : Same H1 (upd (upd (upd H1 a o) d (exd d [(f, x)])) a (exo a C (some d))) ∧ ExV (upd (upd (upd H1 a o) d (exd d [(f, x)])) a (exo a C (some d))) a C [(f, x)] := by
  rw [upd_ne ne] at hd
  refine ⟨exv_same (fun b nb hb => ?_) na, .inr ⟨d, upd_same, by rw [upd_ne ne]; exact upd_same⟩⟩
  rw [upd_ne nb, upd_ne (fun z => hb (by rw [z]; exact hd)), upd_ne nb]
theorem made2 {C a d : Addr} {f g : Str} {H1 : Hp} {x y : V} {o : HO} (na : H1 a = none) (ne : d ≠ a) (hd : upd H1 a o d = none) : Same H1 (upd (upd (upd (upd H1 a o) d (exd d [(f, x)])) a (exo a C (some d))) d (exd d [(g, y), (f, x)])) ∧ ExV (upd (upd (upd (upd H1 a o) d (exd d [(f, x)])) a (exo a C (some d))) d (exd d [(g, y), (f, x)])) a C [(g, y), (f, x)] := by
  rw [upd_ne ne] at hd
  refine ⟨exv_same (fun b nb hb => ?_) na, .inr ⟨d, by rw [upd_ne (fun z => ne z.symm)]; exact upd_same, upd_same⟩⟩
  have nd : b ≠ d := fun z => hb (by rw [z]; exact hd)
  rw [upd_ne nd, upd_ne nb, upd_ne nd, upd_ne nb]
theorem made3 {C a d : Addr} {f g k : Str} {H1 : Hp} {x y z : V} {o : HO} (na : H1 a = none) (ne : d ≠ a) (hd : upd H1 a o d = none) : Same H1 (upd (upd (upd (upd (upd H1 a o) d (exd d [(f, x)])) a (exo a C (some d))) d (exd d [(g, y), (f, x)])) d (exd d [(k, z), (g, y), (f, x)])) ∧ ExV (upd (upd (upd (upd (upd H1 a o) d (exd d [(f, x)])) a (exo a C (some d))) d (exd d [(g, y), (f, x)])) d (exd d [(k, z), (g, y), (f, x)])) a C [(k, z), (g, y), (f, x)] := by
  rw [upd_ne ne] at hd
  refine ⟨exv_same (fun b nb hb => ?_) na, .inr ⟨d, by rw [upd_ne (fun z => ne z.symm), upd_ne (fun z => ne z.symm)]; exact upd_same, upd_same⟩⟩
  have nd : b ≠ d := fun z => hb (by rw [z]; exact hd)
  rw [upd_ne nd, upd_ne nd, upd_ne nb, upd_ne nd, upd_ne nb]
end WS
set_option Elab.async false
set_option linter.all false
set_option maxRecDepth 100000
set_option maxHeartbeats 4000000
namespace WS
open PySem PySem.Spec PyProof.Rows L2
/-! ## k10: what is kept -/
section
variable {K : PySem.W.Frag} {p G : Addr} {H H' : Hp} {cs : List Addr}
def KeptV (cs : List Addr) (K : PySem.W.Frag) (p G : Addr) (H : Hp) (v : V) : Prop := ∃ (t a u : Addr) (i : Nat) (xs : List V) (es : List PyData), v = .ref t ∧ SqT K H t [.ref a, .ref u] ∧ i < 18 ∧ ExV H a (cs.getD i 0) (fldsE i xs) ∧ H u = some (.lst (dueE i xs)) ∧ u ≠ p ∧ u ≠ G ∧ DpAll K H (dueE i xs) es ∧ immAll es = true ∧ Sh 40000 5 (.list es)
theorem ExV.keep {a D : Addr} {fs : List (Str × V)} {S : List Addr} (h : ExV H a D fs) (x : ExtC S H H') (n : ∀ b ∈ S, ∃ ys, H b = some (.lst ys)) : ExV H' a D fs := by
  have ne : ∀ {b : Addr} {f : Heap → Prop}, H b = some (.ext f) → b ∉ S := fun {b f} e hb => by
    obtain ⟨ys, z⟩ := n b hb
    rw [e] at z
    cases z
  have kp : ∀ {b : Addr} {f : Heap → Prop}, H b = some (.ext f) → H' b = some (.ext f) := fun {b f} e => x b _ (ne e) e fun ps z => by cases z
  rcases h with ⟨e, h⟩ | ⟨d, h1, h2⟩
  · exact .inl ⟨e, kp h⟩
  · exact .inr ⟨d, kp h1, kp h2⟩
theorem KeptV.keep {v : V} (h : KeptV cs K p G H v) (x : ExtC [p, G] H H') (np : ∃ ys, H p = some (.lst ys)) (nG : ∃ ys, H G = some (.lst ys)) : KeptV cs K p G H' v := by
  have nl : ∀ b ∈ [p, G], ∃ ys, H b = some (.lst ys) := fun b hb => by
    rw [List.mem_cons, List.mem_singleton] at hb
    rcases hb with rfl | rfl
    · exact np
    · exact nG
  have kt : KT H H' := x.kt fun b hb => by
    obtain ⟨ys, e⟩ := nl b hb
    exact NoTup.lst e
  obtain ⟨t, a, u, i, xs, es, rfl, h1, h2, h3, h4, h5, h6, h7, h8, h9⟩ := h
  refine ⟨t, a, u, i, xs, es, rfl, kt.sqt h1, h2, h3.keep x nl, x u _ (fun hb => ?_) h4 (fun ps z => by cases z), h5, h6, h7.kt kt h8, h8, h9⟩
  rw [List.mem_cons, List.mem_singleton] at hb
  rcases hb with e | e
  · exact h5 e
  · exact h6 e
theorem pot_lst (h : PotAt H p) : ∃ ys, H p = some (.lst ys) := by
  obtain ⟨x, y, e, _⟩ := h
  exact ⟨_, e⟩
theorem due_dp {xs : List V} {ds : List PyData} (h : Th10 K H xs ds) (i : Nat) : ∃ es, DpAll K H (dueE i xs) es ∧ immAll es = true ∧ Sh 40000 5 (.list es) := by
  obtain ⟨hd, hl, hi, hs⟩ := h
  have sh : ∀ es : List PyData, es.length ≤ 3 → (∀ d ∈ es, Sh 3000 3 d) → Sh 40000 5 (.list es) := fun es l e => (Sh.lst e l).mono (by decide) (by decide)
  cases hd with
  | nil => cases hl
  | @cons v0 x1 d0 e1 h0 hd =>
    cases hd with
    | nil => cases hl
    | @cons v1 x2 d1 e2 h1 hd =>
      cases hd with
      | nil => cases hl
      | @cons v2 x3 d2 e3 h2 hd =>
        cases hd with
        | nil => cases hl
        | @cons v3 x4 d3 e4 h3 hd =>
          cases hd with
          | nil => cases hl
          | @cons v4 x5 d4 e5 h4 hd =>
            have hi : (imm d0 && (imm d1 && (imm d2 && (imm d3 && (imm d4 && immAll e5))))) = true := hi
            simp only [Bool.and_eq_true] at hi
            obtain ⟨i0, i1, i2, i3, i4, _⟩ := hi
            have m : ∀ d, d ∈ [d0, d1, d2, d3, d4] → Sh 3000 3 d := fun d hd => hs d (by
              simp only [List.mem_cons, List.not_mem_nil, or_false] at hd
              simp only [List.mem_cons]
              rcases hd with rfl | rfl | rfl | rfl | rfl <;> simp)
            unfold dueE
            by_cases c14 : i = 14
            · rw [if_pos c14]
              exact ⟨[d0], .cons h0 .nil, by show (imm d0 && true) = true; rw [i0]; rfl, sh _ (by show 1 ≤ 3; decide) fun d hd => m d (by simp at hd ⊢; simp [hd])⟩
            rw [if_neg c14]
            by_cases c15 : i = 15
            · rw [if_pos c15]
              exact ⟨[d1, d2], .cons h1 (.cons h2 .nil), by show (imm d1 && (imm d2 && true)) = true; rw [i1, i2]; rfl, sh _ (by show 2 ≤ 3; decide) fun d hd => m d (by simp at hd ⊢; rcases hd with rfl | rfl <;> simp)⟩
            rw [if_neg c15]
            by_cases c16 : i = 16
            · rw [if_pos c16]
              exact ⟨[d3], .cons h3 .nil, by show (imm d3 && true) = true; rw [i3]; rfl, sh _ (by show 1 ≤ 3; decide) fun d hd => m d (by simp at hd ⊢; simp [hd])⟩
            rw [if_neg c16]
            by_cases c17 : i = 17
            · rw [if_pos c17]
              exact ⟨[d4, d1, d2], .cons h4 (.cons h1 (.cons h2 .nil)), by show (imm d4 && (imm d1 && (imm d2 && true))) = true; rw [i4, i1, i2]; rfl, sh _ (by show 3 ≤ 3; decide) fun d hd => m d (by simp at hd ⊢; rcases hd with rfl | rfl | rfl <;> simp)⟩
            rw [if_neg c17]
            exact ⟨[], .nil, rfl, sh _ (by show 0 ≤ 3; decide) fun d hd => (List.not_mem_nil hd).elim⟩
def Kept10 (cs : List Addr) (K : PySem.W.Frag) (p G : Addr) (H : Hp) (n : Nat) : Prop := ∃ ks, H G = some (.lst ks) ∧ ks.length = n ∧ ∀ v ∈ ks, KeptV cs K p G H v
theorem Kept10.keep {n : Nat} (h : Kept10 cs K p G H n) (x : ExtC [p, G] H H') (np : ∃ ys, H p = some (.lst ys)) (g : H' G = H G) : Kept10 cs K p G H' n := by
  obtain ⟨ks, h1, h2, h3⟩ := h
  exact ⟨ks, by rw [g]; exact h1, h2, fun v hv => (h3 v hv).keep x np ⟨_, h1⟩⟩
/-- what the law builds of the things -/
structure Built10 (cs : List Addr) (p G Lx Du M : Addr) (xs : List V) (H : Hp) : Prop where
  x : H Lx = some (.lst xs)
  nx : Lx ≠ G
  d : ∃ us : List Addr, H Du = some (.lst (us.map V.ref)) ∧ ∀ k, k < 18 → ∃ u, us[k]? = some u ∧ H u = some (.lst (dueE k xs)) ∧ u ≠ p ∧ u ≠ G
  nd : Du ≠ G
  m : ∃ ms : List Addr, H M = some (.lst (ms.map V.ref)) ∧ ms.length = 18 ∧ ∀ (k : Nat) (a : Addr), ms[k]? = some a → ExV H a (cs.getD k 0) (fldsE k xs)
  nm : M ≠ G
theorem Built10.keep {Lx Du M : Addr} {xs : List V} (h : Built10 cs p G Lx Du M xs H) (x : SameX G H H') (g : ∃ ys, H G = some (.lst ys)) : Built10 cs p G Lx Du M xs H' := by
  refine ⟨x _ _ h.nx h.x, h.nx, ?_, h.nd, ?_, h.nm⟩
  · obtain ⟨us, h1, h2⟩ := h.d
    refine ⟨us, x _ _ h.nd h1, fun k hk => ?_⟩
    obtain ⟨u, e1, e2, e3, e4⟩ := h2 k hk
    exact ⟨u, e1, x _ _ e4 e2, e3, e4⟩
  · obtain ⟨ms, h1, h2, h3⟩ := h.m
    exact ⟨ms, x _ _ h.nm h1, h2, fun k a e => (h3 k a e).keep (S := [G]) (ExtC.sx x (by simp)) fun b hb => by rw [List.mem_singleton.mp hb]; exact g⟩
end
end WS
set_option Elab.async false
set_option linter.all false
set_option maxRecDepth 100000
set_option maxHeartbeats 4000000
namespace WS
open PySem PySem.Spec PyProof.Rows L2
def topS (i : Nat) : Stmt := PySem.Challenge.pw_whoserves_k10_refusals_by_themselves.main.body.getD i (.Pass ⟨0, 0, 0, 0⟩)
abbrev s_lpot : Stmt := topS 21
theorem sc_lpot : FnScope ["_law_script", "_law_k", "_law_cell"] ["_law_script", "_law_k"] (defScope s_lpot) := ⟨rfl, rfl, rfl, by decide +kernel, rfl, by decide +kernel, by decide +kernel⟩
abbrev s_ldigit : Stmt := topS 22
theorem sc_ldigit : FnScope ["_law_pot_here", "_law_many", "_law_digit_here"] ["_law_pot_here", "_law_many"] (defScope s_ldigit) := ⟨rfl, rfl, rfl, by decide +kernel, rfl, by decide +kernel, by decide +kernel⟩
abbrev s_lname : Stmt := topS 23
theorem sc_lname : FnScope ["_law_pot_here", "_law_used", "_law_letters", "_law_name_here", "_law_some", "_law_k", "_law_one"] ["_law_pot_here", "_law_used"] (defScope s_lname) := ⟨rfl, rfl, rfl, by decide +kernel, rfl, by decide +kernel, by decide +kernel⟩
abbrev s_llow : Stmt := topS 24
theorem sc_llow : FnScope ["_law_above", "_law_below", "_law_one", "_law_other"] ["_law_above", "_law_below"] (defScope s_llow) := ⟨rfl, rfl, rfl, by decide +kernel, rfl, by decide +kernel, by decide +kernel⟩
abbrev s_lplain : Stmt := topS 25
theorem sc_lplain : FnScope ["_law_text", "_law_some"] ["_law_text"] (defScope s_lplain) := ⟨rfl, rfl, rfl, by decide +kernel, rfl, by decide +kernel, by decide +kernel⟩
abbrev s_lwhich : Stmt := topS 26
theorem sc_lwhich : FnScope ["_law_e", "_law_some", "_law_k"] ["_law_e"] (defScope s_lwhich) := ⟨rfl, rfl, rfl, by decide +kernel, rfl, by decide +kernel, by decide +kernel⟩
abbrev s_lfields : Stmt := topS 27
theorem sc_lfields : FnScope ["_law_e"] ["_law_e"] (defScope s_lfields) := ⟨rfl, rfl, rfl, by decide +kernel, rfl, by decide +kernel, by decide +kernel⟩
abbrev s_lraised : Stmt := topS 28
theorem sc_lraised : FnScope ["_law_k", "_law_things_here", "_law_found", "_law_e", "_law_one"] ["_law_k", "_law_things_here"] (defScope s_lraised) := ⟨rfl, rfl, rfl, by decide +kernel, rfl, by decide +kernel, by decide +kernel⟩
abbrev s_lthings : Stmt := topS 29
theorem sc_lthings : FnScope ["_law_pot_here", "_law_name_here", "_law_many", "_law_seats", "_law_owed", "_law_turn"] ["_law_pot_here"] (defScope s_lthings) := ⟨rfl, rfl, rfl, by decide +kernel, rfl, by decide +kernel, by decide +kernel⟩
abbrev s_law : Stmt := topS 30
theorem sc_law : FnScope ["_law_script", "_law_pot_here", "_law_turn", "_law_text", "_law_kept", "_law_things_here", "_law_due", "_law_made", "_law_k", "_law_e"] ["_law_script"] (defScope s_law) := ⟨rfl, rfl, rfl, by decide +kernel, rfl, by decide +kernel, by decide +kernel⟩
abbrev s_Taken_init : Stmt := inClass (topS 16) 0
theorem sc_Taken_init : FnScope ["self", "person"] ["self", "person"] (defScope s_Taken_init) := ⟨rfl, rfl, rfl, by decide +kernel, rfl, by decide +kernel, by decide +kernel⟩
abbrev s_Beyond_init : Stmt := inClass (topS 17) 0
theorem sc_Beyond_init : FnScope ["self", "many", "seats"] ["self", "many", "seats"] (defScope s_Beyond_init) := ⟨rfl, rfl, rfl, by decide +kernel, rfl, by decide +kernel, by decide +kernel⟩
abbrev s_Unbalanced_init : Stmt := inClass (topS 18) 0
theorem sc_Unbalanced_init : FnScope ["self", "owed"] ["self", "owed"] (defScope s_Unbalanced_init) := ⟨rfl, rfl, rfl, by decide +kernel, rfl, by decide +kernel, by decide +kernel⟩
abbrev s_Astray_init : Stmt := inClass (topS 19) 0
theorem sc_Astray_init : FnScope ["self", "at", "many", "seats"] ["self", "at", "many", "seats"] (defScope s_Astray_init) := ⟨rfl, rfl, rfl, by decide +kernel, rfl, by decide +kernel, by decide +kernel⟩
structure Tx (K : PySem.W.Frag) (mg : Str → Option Value) where
  f_lpot : Addr
  d_lpot : FuncData
  g_lpot : mg "_law_pot" = some (.ref f_lpot)
  F_lpot : Fun K "_law_pot" "_law_pot" s_lpot f_lpot d_lpot
  b_lpot : Binds K d_lpot ["_law_script", "_law_k"] []
  f_ldigit : Addr
  d_ldigit : FuncData
  g_ldigit : mg "_law_digit" = some (.ref f_ldigit)
  F_ldigit : Fun K "_law_digit" "_law_digit" s_ldigit f_ldigit d_ldigit
  b_ldigit : Binds K d_ldigit ["_law_pot_here", "_law_many"] []
  f_lname : Addr
  d_lname : FuncData
  g_lname : mg "_law_name" = some (.ref f_lname)
  F_lname : Fun K "_law_name" "_law_name" s_lname f_lname d_lname
  b_lname : Binds K d_lname ["_law_pot_here", "_law_used"] []
  f_llow : Addr
  d_llow : FuncData
  g_llow : mg "_law_low" = some (.ref f_llow)
  F_llow : Fun K "_law_low" "_law_low" s_llow f_llow d_llow
  b_llow : Binds K d_llow ["_law_above", "_law_below"] []
  f_lplain : Addr
  d_lplain : FuncData
  g_lplain : mg "_law_plain" = some (.ref f_lplain)
  F_lplain : Fun K "_law_plain" "_law_plain" s_lplain f_lplain d_lplain
  b_lplain : Binds K d_lplain ["_law_text"] []
  f_lwhich : Addr
  d_lwhich : FuncData
  g_lwhich : mg "_law_which" = some (.ref f_lwhich)
  F_lwhich : Fun K "_law_which" "_law_which" s_lwhich f_lwhich d_lwhich
  b_lwhich : Binds K d_lwhich ["_law_e"] []
  f_lfields : Addr
  d_lfields : FuncData
  g_lfields : mg "_law_fields" = some (.ref f_lfields)
  F_lfields : Fun K "_law_fields" "_law_fields" s_lfields f_lfields d_lfields
  b_lfields : Binds K d_lfields ["_law_e"] []
  f_lraised : Addr
  d_lraised : FuncData
  g_lraised : mg "_law_raised" = some (.ref f_lraised)
  F_lraised : Fun K "_law_raised" "_law_raised" s_lraised f_lraised d_lraised
  b_lraised : Binds K d_lraised ["_law_k", "_law_things_here"] []
  f_lthings : Addr
  d_lthings : FuncData
  g_lthings : mg "_law_things" = some (.ref f_lthings)
  F_lthings : Fun K "_law_things" "_law_things" s_lthings f_lthings d_lthings
  b_lthings : Binds K d_lthings ["_law_pot_here"] []
  f_law : Addr
  d_law : FuncData
  g_law : mg "law" = some (.ref f_law)
  F_law : Fun K "law" "law" s_law f_law d_law
  b_law : Binds K d_law ["_law_script"] []
  c_NoPart : Addr
  gc_NoPart : mg "NoPart" = some (.ref c_NoPart)
  x_NoPart : PySem.W.excIn K c_NoPart [.type "ValueError", .type "Exception", .type "BaseException", .type "object"] "ValueError.__new__" = true
  kc_NoPart : PySem.W.keepIn K (.ref c_NoPart) = true
  bc_NoPart : PySem.W.subIn K (.ref c_NoPart) (.type "BaseException") = some true
  tc_NoPart : PySem.W.typeIn K (.ref c_NoPart) = some (.type "type")
  hc_NoPart : PySem.W.hasDictIn K c_NoPart = true
  sc_NoPart : PySem.W.subIn K (.ref c_NoPart) (.ref c_NoPart) = some true
  c_NoName : Addr
  gc_NoName : mg "NoName" = some (.ref c_NoName)
  x_NoName : PySem.W.excIn K c_NoName [.type "ValueError", .type "Exception", .type "BaseException", .type "object"] "ValueError.__new__" = true
  kc_NoName : PySem.W.keepIn K (.ref c_NoName) = true
  bc_NoName : PySem.W.subIn K (.ref c_NoName) (.type "BaseException") = some true
  tc_NoName : PySem.W.typeIn K (.ref c_NoName) = some (.type "type")
  hc_NoName : PySem.W.hasDictIn K c_NoName = true
  sc_NoName : PySem.W.subIn K (.ref c_NoName) (.ref c_NoName) = some true
  c_NoWeight : Addr
  gc_NoWeight : mg "NoWeight" = some (.ref c_NoWeight)
  x_NoWeight : PySem.W.excIn K c_NoWeight [.type "ValueError", .type "Exception", .type "BaseException", .type "object"] "ValueError.__new__" = true
  kc_NoWeight : PySem.W.keepIn K (.ref c_NoWeight) = true
  bc_NoWeight : PySem.W.subIn K (.ref c_NoWeight) (.type "BaseException") = some true
  tc_NoWeight : PySem.W.typeIn K (.ref c_NoWeight) = some (.type "type")
  hc_NoWeight : PySem.W.hasDictIn K c_NoWeight = true
  sc_NoWeight : PySem.W.subIn K (.ref c_NoWeight) (.ref c_NoWeight) = some true
  c_NoPerson : Addr
  gc_NoPerson : mg "NoPerson" = some (.ref c_NoPerson)
  x_NoPerson : PySem.W.excIn K c_NoPerson [.type "ValueError", .type "Exception", .type "BaseException", .type "object"] "ValueError.__new__" = true
  kc_NoPerson : PySem.W.keepIn K (.ref c_NoPerson) = true
  bc_NoPerson : PySem.W.subIn K (.ref c_NoPerson) (.type "BaseException") = some true
  tc_NoPerson : PySem.W.typeIn K (.ref c_NoPerson) = some (.type "type")
  hc_NoPerson : PySem.W.hasDictIn K c_NoPerson = true
  sc_NoPerson : PySem.W.subIn K (.ref c_NoPerson) (.ref c_NoPerson) = some true
  c_NoSeat : Addr
  gc_NoSeat : mg "NoSeat" = some (.ref c_NoSeat)
  x_NoSeat : PySem.W.excIn K c_NoSeat [.type "ValueError", .type "Exception", .type "BaseException", .type "object"] "ValueError.__new__" = true
  kc_NoSeat : PySem.W.keepIn K (.ref c_NoSeat) = true
  bc_NoSeat : PySem.W.subIn K (.ref c_NoSeat) (.type "BaseException") = some true
  tc_NoSeat : PySem.W.typeIn K (.ref c_NoSeat) = some (.type "type")
  hc_NoSeat : PySem.W.hasDictIn K c_NoSeat = true
  sc_NoSeat : PySem.W.subIn K (.ref c_NoSeat) (.ref c_NoSeat) = some true
  c_NoEvening : Addr
  gc_NoEvening : mg "NoEvening" = some (.ref c_NoEvening)
  x_NoEvening : PySem.W.excIn K c_NoEvening [.type "ValueError", .type "Exception", .type "BaseException", .type "object"] "ValueError.__new__" = true
  kc_NoEvening : PySem.W.keepIn K (.ref c_NoEvening) = true
  bc_NoEvening : PySem.W.subIn K (.ref c_NoEvening) (.type "BaseException") = some true
  tc_NoEvening : PySem.W.typeIn K (.ref c_NoEvening) = some (.type "type")
  hc_NoEvening : PySem.W.hasDictIn K c_NoEvening = true
  sc_NoEvening : PySem.W.subIn K (.ref c_NoEvening) (.ref c_NoEvening) = some true
  c_NoDuty : Addr
  gc_NoDuty : mg "NoDuty" = some (.ref c_NoDuty)
  x_NoDuty : PySem.W.excIn K c_NoDuty [.type "ValueError", .type "Exception", .type "BaseException", .type "object"] "ValueError.__new__" = true
  kc_NoDuty : PySem.W.keepIn K (.ref c_NoDuty) = true
  bc_NoDuty : PySem.W.subIn K (.ref c_NoDuty) (.type "BaseException") = some true
  tc_NoDuty : PySem.W.typeIn K (.ref c_NoDuty) = some (.type "type")
  hc_NoDuty : PySem.W.hasDictIn K c_NoDuty = true
  sc_NoDuty : PySem.W.subIn K (.ref c_NoDuty) (.ref c_NoDuty) = some true
  c_NoGift : Addr
  gc_NoGift : mg "NoGift" = some (.ref c_NoGift)
  x_NoGift : PySem.W.excIn K c_NoGift [.type "ValueError", .type "Exception", .type "BaseException", .type "object"] "ValueError.__new__" = true
  kc_NoGift : PySem.W.keepIn K (.ref c_NoGift) = true
  bc_NoGift : PySem.W.subIn K (.ref c_NoGift) (.type "BaseException") = some true
  tc_NoGift : PySem.W.typeIn K (.ref c_NoGift) = some (.type "type")
  hc_NoGift : PySem.W.hasDictIn K c_NoGift = true
  sc_NoGift : PySem.W.subIn K (.ref c_NoGift) (.ref c_NoGift) = some true
  c_Unlike : Addr
  gc_Unlike : mg "Unlike" = some (.ref c_Unlike)
  x_Unlike : PySem.W.excIn K c_Unlike [.type "ValueError", .type "Exception", .type "BaseException", .type "object"] "ValueError.__new__" = true
  kc_Unlike : PySem.W.keepIn K (.ref c_Unlike) = true
  bc_Unlike : PySem.W.subIn K (.ref c_Unlike) (.type "BaseException") = some true
  tc_Unlike : PySem.W.typeIn K (.ref c_Unlike) = some (.type "type")
  hc_Unlike : PySem.W.hasDictIn K c_Unlike = true
  sc_Unlike : PySem.W.subIn K (.ref c_Unlike) (.ref c_Unlike) = some true
  c_NoFact : Addr
  gc_NoFact : mg "NoFact" = some (.ref c_NoFact)
  x_NoFact : PySem.W.excIn K c_NoFact [.type "ValueError", .type "Exception", .type "BaseException", .type "object"] "ValueError.__new__" = true
  kc_NoFact : PySem.W.keepIn K (.ref c_NoFact) = true
  bc_NoFact : PySem.W.subIn K (.ref c_NoFact) (.type "BaseException") = some true
  tc_NoFact : PySem.W.typeIn K (.ref c_NoFact) = some (.type "type")
  hc_NoFact : PySem.W.hasDictIn K c_NoFact = true
  sc_NoFact : PySem.W.subIn K (.ref c_NoFact) (.ref c_NoFact) = some true
  c_NoBack : Addr
  gc_NoBack : mg "NoBack" = some (.ref c_NoBack)
  x_NoBack : PySem.W.excIn K c_NoBack [.type "ValueError", .type "Exception", .type "BaseException", .type "object"] "ValueError.__new__" = true
  kc_NoBack : PySem.W.keepIn K (.ref c_NoBack) = true
  bc_NoBack : PySem.W.subIn K (.ref c_NoBack) (.type "BaseException") = some true
  tc_NoBack : PySem.W.typeIn K (.ref c_NoBack) = some (.type "type")
  hc_NoBack : PySem.W.hasDictIn K c_NoBack = true
  sc_NoBack : PySem.W.subIn K (.ref c_NoBack) (.ref c_NoBack) = some true
  c_NoDeed : Addr
  gc_NoDeed : mg "NoDeed" = some (.ref c_NoDeed)
  x_NoDeed : PySem.W.excIn K c_NoDeed [.type "ValueError", .type "Exception", .type "BaseException", .type "object"] "ValueError.__new__" = true
  kc_NoDeed : PySem.W.keepIn K (.ref c_NoDeed) = true
  bc_NoDeed : PySem.W.subIn K (.ref c_NoDeed) (.type "BaseException") = some true
  tc_NoDeed : PySem.W.typeIn K (.ref c_NoDeed) = some (.type "type")
  hc_NoDeed : PySem.W.hasDictIn K c_NoDeed = true
  sc_NoDeed : PySem.W.subIn K (.ref c_NoDeed) (.ref c_NoDeed) = some true
  c_NoText : Addr
  gc_NoText : mg "NoText" = some (.ref c_NoText)
  x_NoText : PySem.W.excIn K c_NoText [.type "ValueError", .type "Exception", .type "BaseException", .type "object"] "ValueError.__new__" = true
  kc_NoText : PySem.W.keepIn K (.ref c_NoText) = true
  bc_NoText : PySem.W.subIn K (.ref c_NoText) (.type "BaseException") = some true
  tc_NoText : PySem.W.typeIn K (.ref c_NoText) = some (.type "type")
  hc_NoText : PySem.W.hasDictIn K c_NoText = true
  sc_NoText : PySem.W.subIn K (.ref c_NoText) (.ref c_NoText) = some true
  c_NoRow : Addr
  gc_NoRow : mg "NoRow" = some (.ref c_NoRow)
  x_NoRow : PySem.W.excIn K c_NoRow [.type "ValueError", .type "Exception", .type "BaseException", .type "object"] "ValueError.__new__" = true
  kc_NoRow : PySem.W.keepIn K (.ref c_NoRow) = true
  bc_NoRow : PySem.W.subIn K (.ref c_NoRow) (.type "BaseException") = some true
  tc_NoRow : PySem.W.typeIn K (.ref c_NoRow) = some (.type "type")
  hc_NoRow : PySem.W.hasDictIn K c_NoRow = true
  sc_NoRow : PySem.W.subIn K (.ref c_NoRow) (.ref c_NoRow) = some true
  c_ClubError : Addr
  gc_ClubError : mg "ClubError" = some (.ref c_ClubError)
  x_ClubError : PySem.W.excIn K c_ClubError [.type "ValueError", .type "Exception", .type "BaseException", .type "object"] "ValueError.__new__" = true
  kc_ClubError : PySem.W.keepIn K (.ref c_ClubError) = true
  bc_ClubError : PySem.W.subIn K (.ref c_ClubError) (.type "BaseException") = some true
  tc_ClubError : PySem.W.typeIn K (.ref c_ClubError) = some (.type "type")
  hc_ClubError : PySem.W.hasDictIn K c_ClubError = true
  sc_ClubError : PySem.W.subIn K (.ref c_ClubError) (.ref c_ClubError) = some true
  c_Taken : Addr
  gc_Taken : mg "Taken" = some (.ref c_Taken)
  kc_Taken : PySem.W.keepIn K (.ref c_Taken) = true
  bc_Taken : PySem.W.subIn K (.ref c_Taken) (.type "BaseException") = some true
  tc_Taken : PySem.W.typeIn K (.ref c_Taken) = some (.type "type")
  hc_Taken : PySem.W.hasDictIn K c_Taken = true
  sc_Taken : PySem.W.subIn K (.ref c_Taken) (.ref c_Taken) = some true
  oc_Taken : OexC K c_Taken
  fi_Taken : Addr
  fd_Taken : FuncData
  ic_Taken : PySem.W.findIn K (.ref c_Taken) "__init__" = some (some (.ref fi_Taken))
  ti_Taken : PySem.W.typeIn K (.ref fi_Taken) = some (.type "function")
  FI_Taken : Fun K "__init__" "Taken.__init__" s_Taken_init fi_Taken fd_Taken
  bi_Taken : Binds K fd_Taken ["self", "person"] []
  xf_Taken : XfC K c_Taken
  fno_Taken_person : PySem.W.findIn K (.ref c_Taken) "person" = some none
  c_Beyond : Addr
  gc_Beyond : mg "Beyond" = some (.ref c_Beyond)
  kc_Beyond : PySem.W.keepIn K (.ref c_Beyond) = true
  bc_Beyond : PySem.W.subIn K (.ref c_Beyond) (.type "BaseException") = some true
  tc_Beyond : PySem.W.typeIn K (.ref c_Beyond) = some (.type "type")
  hc_Beyond : PySem.W.hasDictIn K c_Beyond = true
  sc_Beyond : PySem.W.subIn K (.ref c_Beyond) (.ref c_Beyond) = some true
  oc_Beyond : OexC K c_Beyond
  fi_Beyond : Addr
  fd_Beyond : FuncData
  ic_Beyond : PySem.W.findIn K (.ref c_Beyond) "__init__" = some (some (.ref fi_Beyond))
  ti_Beyond : PySem.W.typeIn K (.ref fi_Beyond) = some (.type "function")
  FI_Beyond : Fun K "__init__" "Beyond.__init__" s_Beyond_init fi_Beyond fd_Beyond
  bi_Beyond : Binds K fd_Beyond ["self", "many", "seats"] []
  xf_Beyond : XfC K c_Beyond
  fno_Beyond_many : PySem.W.findIn K (.ref c_Beyond) "many" = some none
  fno_Beyond_seats : PySem.W.findIn K (.ref c_Beyond) "seats" = some none
  c_Unbalanced : Addr
  gc_Unbalanced : mg "Unbalanced" = some (.ref c_Unbalanced)
  kc_Unbalanced : PySem.W.keepIn K (.ref c_Unbalanced) = true
  bc_Unbalanced : PySem.W.subIn K (.ref c_Unbalanced) (.type "BaseException") = some true
  tc_Unbalanced : PySem.W.typeIn K (.ref c_Unbalanced) = some (.type "type")
  hc_Unbalanced : PySem.W.hasDictIn K c_Unbalanced = true
  sc_Unbalanced : PySem.W.subIn K (.ref c_Unbalanced) (.ref c_Unbalanced) = some true
  oc_Unbalanced : OexC K c_Unbalanced
  fi_Unbalanced : Addr
  fd_Unbalanced : FuncData
  ic_Unbalanced : PySem.W.findIn K (.ref c_Unbalanced) "__init__" = some (some (.ref fi_Unbalanced))
  ti_Unbalanced : PySem.W.typeIn K (.ref fi_Unbalanced) = some (.type "function")
  FI_Unbalanced : Fun K "__init__" "Unbalanced.__init__" s_Unbalanced_init fi_Unbalanced fd_Unbalanced
  bi_Unbalanced : Binds K fd_Unbalanced ["self", "owed"] []
  xf_Unbalanced : XfC K c_Unbalanced
  fno_Unbalanced_owed : PySem.W.findIn K (.ref c_Unbalanced) "owed" = some none
  c_Astray : Addr
  gc_Astray : mg "Astray" = some (.ref c_Astray)
  kc_Astray : PySem.W.keepIn K (.ref c_Astray) = true
  bc_Astray : PySem.W.subIn K (.ref c_Astray) (.type "BaseException") = some true
  tc_Astray : PySem.W.typeIn K (.ref c_Astray) = some (.type "type")
  hc_Astray : PySem.W.hasDictIn K c_Astray = true
  sc_Astray : PySem.W.subIn K (.ref c_Astray) (.ref c_Astray) = some true
  oc_Astray : OexC K c_Astray
  fi_Astray : Addr
  fd_Astray : FuncData
  ic_Astray : PySem.W.findIn K (.ref c_Astray) "__init__" = some (some (.ref fi_Astray))
  ti_Astray : PySem.W.typeIn K (.ref fi_Astray) = some (.type "function")
  FI_Astray : Fun K "__init__" "Astray.__init__" s_Astray_init fi_Astray fd_Astray
  bi_Astray : Binds K fd_Astray ["self", "at", "many", "seats"] []
  xf_Astray : XfC K c_Astray
  fno_Astray_at : PySem.W.findIn K (.ref c_Astray) "at" = some none
  fno_Astray_many : PySem.W.findIn K (.ref c_Astray) "many" = some none
  fno_Astray_seats : PySem.W.findIn K (.ref c_Astray) "seats" = some none
  xc_NoPart : ExcC K c_NoPart
  sv_NoPart : PySem.W.subIn K (.ref c_NoPart) (.type "ValueError") = some true
  xc_NoName : ExcC K c_NoName
  sv_NoName : PySem.W.subIn K (.ref c_NoName) (.type "ValueError") = some true
  xc_NoWeight : ExcC K c_NoWeight
  sv_NoWeight : PySem.W.subIn K (.ref c_NoWeight) (.type "ValueError") = some true
  xc_NoPerson : ExcC K c_NoPerson
  sv_NoPerson : PySem.W.subIn K (.ref c_NoPerson) (.type "ValueError") = some true
  xc_NoSeat : ExcC K c_NoSeat
  sv_NoSeat : PySem.W.subIn K (.ref c_NoSeat) (.type "ValueError") = some true
  xc_NoEvening : ExcC K c_NoEvening
  sv_NoEvening : PySem.W.subIn K (.ref c_NoEvening) (.type "ValueError") = some true
  xc_NoDuty : ExcC K c_NoDuty
  sv_NoDuty : PySem.W.subIn K (.ref c_NoDuty) (.type "ValueError") = some true
  xc_NoGift : ExcC K c_NoGift
  sv_NoGift : PySem.W.subIn K (.ref c_NoGift) (.type "ValueError") = some true
  xc_Unlike : ExcC K c_Unlike
  sv_Unlike : PySem.W.subIn K (.ref c_Unlike) (.type "ValueError") = some true
  xc_NoFact : ExcC K c_NoFact
  sv_NoFact : PySem.W.subIn K (.ref c_NoFact) (.type "ValueError") = some true
  xc_NoBack : ExcC K c_NoBack
  sv_NoBack : PySem.W.subIn K (.ref c_NoBack) (.type "ValueError") = some true
  xc_NoDeed : ExcC K c_NoDeed
  sv_NoDeed : PySem.W.subIn K (.ref c_NoDeed) (.type "ValueError") = some true
  xc_NoText : ExcC K c_NoText
  sv_NoText : PySem.W.subIn K (.ref c_NoText) (.type "ValueError") = some true
  xc_NoRow : ExcC K c_NoRow
  sv_NoRow : PySem.W.subIn K (.ref c_NoRow) (.type "ValueError") = some true
  xc_Taken : ExcC K c_Taken
  sv_Taken : PySem.W.subIn K (.ref c_Taken) (.type "ValueError") = some true
  xc_Beyond : ExcC K c_Beyond
  sv_Beyond : PySem.W.subIn K (.ref c_Beyond) (.type "ValueError") = some true
  xc_Unbalanced : ExcC K c_Unbalanced
  sv_Unbalanced : PySem.W.subIn K (.ref c_Unbalanced) (.type "ValueError") = some true
  xc_Astray : ExcC K c_Astray
  sv_Astray : PySem.W.subIn K (.ref c_Astray) (.type "ValueError") = some true
  xc_ClubError : ExcC K c_ClubError
  sv_ClubError : PySem.W.subIn K (.ref c_ClubError) (.type "ValueError") = some true
  kall : rowsE K [c_NoPart, c_NoName, c_NoWeight, c_NoPerson, c_NoSeat, c_NoEvening, c_NoDuty, c_NoGift, c_Unlike, c_NoFact, c_NoBack, c_NoDeed, c_NoText, c_NoRow, c_Taken, c_Beyond, c_Unbalanced, c_Astray, c_ClubError] = true
  em_Taken_ClubError : PySem.W.exmOne K (.ref c_Taken) (.ref c_ClubError) = some true
  em_Beyond_ClubError : PySem.W.exmOne K (.ref c_Beyond) (.ref c_ClubError) = some true
  em_Unbalanced_ClubError : PySem.W.exmOne K (.ref c_Unbalanced) (.ref c_ClubError) = some true
  em_Astray_ClubError : PySem.W.exmOne K (.ref c_Astray) (.ref c_ClubError) = some true
  em_ClubError_ClubError : PySem.W.exmOne K (.ref c_ClubError) (.ref c_ClubError) = some true
  n_ValueError : mg "ValueError" = none
  n_abs : mg "abs" = none
  n_all : mg "all" = none
  n_divmod : mg "divmod" = none
  n_enumerate : mg "enumerate" = none
  n_isinstance : mg "isinstance" = none
  n_len : mg "len" = none
  n_max : mg "max" = none
  n_range : mg "range" = none
  n_repr : mg "repr" = none
  n_tuple : mg "tuple" = none
def Tx.cs {K : PySem.W.Frag} {mg : Str → Option Value} (T : Tx K mg) : List Addr := [T.c_NoPart, T.c_NoName, T.c_NoWeight, T.c_NoPerson, T.c_NoSeat, T.c_NoEvening, T.c_NoDuty, T.c_NoGift, T.c_Unlike, T.c_NoFact, T.c_NoBack, T.c_NoDeed, T.c_NoText, T.c_NoRow, T.c_Taken, T.c_Beyond, T.c_Unbalanced, T.c_Astray, T.c_ClubError]
section
variable {P : Program} {w : World} {K : PySem.W.Frag} {mg : Str → Option Value} {base : Heap}
theorem ok_Taken_init (T : Tx K mg) : FnOk P w K mg base CX0 1 T.fi_Taken T.fd_Taken ["self", "person"] (spInit1 T.c_Taken "person") := by
  refine T.FI_Taken.ok sc_Taken_init (fun vs H Q E h => ?_) (fun cdv A outer s H vs Q E hr h => ?_)
  · obtain ⟨a, x0, rfl, _⟩ := h
    rfl
  · obtain ⟨a, x0, rfl, ha, q⟩ := h
    refine ⟨_, (pss_one (ps_ost (pv 0) (pv 1))), ?_⟩
    refine ⟨_, rfl, _, rfl, a, T.c_Taken, rfl, T.oc_Taken, T.fno_Taken_person, .inl ⟨ha, fun d hd ne => ?_⟩⟩
    exact q d hd ne
theorem ok_Beyond_init (T : Tx K mg) : FnOk P w K mg base CX0 1 T.fi_Beyond T.fd_Beyond ["self", "many", "seats"] (spInit2 T.c_Beyond "many" "seats") := by
  refine T.FI_Beyond.ok sc_Beyond_init (fun vs H Q E h => ?_) (fun cdv A outer s H vs Q E hr h => ?_)
  · obtain ⟨a, x0, x1, rfl, _⟩ := h
    rfl
  · obtain ⟨a, x0, x1, rfl, ha, q⟩ := h
    refine ⟨_, (pss_cons (ps_ost (pv 0) (pv 1)) (pss_one (ps_ost (pv 0) (pv 2)))), ?_⟩
    refine ⟨_, rfl, _, rfl, a, T.c_Beyond, rfl, T.oc_Beyond, T.fno_Beyond_many, .inl ⟨ha, fun d hd ne => ?_⟩⟩
    refine ⟨_, rfl, _, rfl, a, T.c_Beyond, rfl, T.oc_Beyond, T.fno_Beyond_seats, .inr ⟨d, _, upd_same, (by rw [upd_ne ne]; exact upd_same), by simp, ?_⟩⟩
    exact q d hd ne
theorem ok_Unbalanced_init (T : Tx K mg) : FnOk P w K mg base CX0 1 T.fi_Unbalanced T.fd_Unbalanced ["self", "owed"] (spInit1 T.c_Unbalanced "owed") := by
  refine T.FI_Unbalanced.ok sc_Unbalanced_init (fun vs H Q E h => ?_) (fun cdv A outer s H vs Q E hr h => ?_)
  · obtain ⟨a, x0, rfl, _⟩ := h
    rfl
  · obtain ⟨a, x0, rfl, ha, q⟩ := h
    refine ⟨_, (pss_one (ps_ost (pv 0) (pv 1))), ?_⟩
    refine ⟨_, rfl, _, rfl, a, T.c_Unbalanced, rfl, T.oc_Unbalanced, T.fno_Unbalanced_owed, .inl ⟨ha, fun d hd ne => ?_⟩⟩
    exact q d hd ne
theorem ok_Astray_init (T : Tx K mg) : FnOk P w K mg base CX0 1 T.fi_Astray T.fd_Astray ["self", "at", "many", "seats"] (spInit3 T.c_Astray "at" "many" "seats") := by
  refine T.FI_Astray.ok sc_Astray_init (fun vs H Q E h => ?_) (fun cdv A outer s H vs Q E hr h => ?_)
  · obtain ⟨a, x0, x1, x2, rfl, _⟩ := h
    rfl
  · obtain ⟨a, x0, x1, x2, rfl, ha, q⟩ := h
    refine ⟨_, (pss_cons (ps_ost (pv 0) (pv 1)) (pss_cons (ps_ost (pv 0) (pv 2)) (pss_one (ps_ost (pv 0) (pv 3))))), ?_⟩
    refine ⟨_, rfl, _, rfl, a, T.c_Astray, rfl, T.oc_Astray, T.fno_Astray_at, .inl ⟨ha, fun d hd ne => ?_⟩⟩
    refine ⟨_, rfl, _, rfl, a, T.c_Astray, rfl, T.oc_Astray, T.fno_Astray_many, .inr ⟨d, _, upd_same, (by rw [upd_ne ne]; exact upd_same), by simp, ?_⟩⟩
    refine ⟨_, rfl, _, rfl, a, T.c_Astray, rfl, T.oc_Astray, T.fno_Astray_seats, .inr ⟨d, _, by rw [upd_ne (fun z => ne z.symm)]; exact upd_same, upd_same, by simp, ?_⟩⟩
    exact q d hd ne
theorem ok_lpot (T : Tx K mg) : FnOk P w K mg base CX0 1 T.f_lpot T.d_lpot ["_law_script", "_law_k"] (spPot K) := by
  refine T.F_lpot.ok sc_lpot (fun vs H Q E h => ?_) (fun cdv A outer s H vs Q E hr h => ?_)
  · obtain ⟨a, ns, k, rfl, _⟩ := h
    rfl
  · obtain ⟨a, ns, k, rfl, hS, k0, k1, q⟩ := h
    refine ⟨_, (pss_cons (ps_set (i := 2) sc_lpot.nd rfl (.inl rfl) pe_int)
        (pss_cons (ps_if (pt_cmpR op_lt (pv 1) (pe_callB call_len_seq (by rfl) T.n_len (by decide +kernel) (pa_cons (pv 0) pa_nil)) (nomark _)) (pss_one (ps_set (i := 2) sc_lpot.nd rfl (.inl rfl) (pe_callB call_abs (by rfl) T.n_abs (by decide +kernel) (pa_cons (pe_ix ix_list (pv 0) (pv 1) (fun _ _ => rfl)) pa_nil)))) pss_nil)
        (pss_one (ps_ret (pe_lst (pa_cons (pe_callB (call_max2 (by rfl)) (by rfl) T.n_max (by decide +kernel) (pa_cons pe_int (pa_cons (pe_op op_sub (pv 2) (pe_op op_pow pe_int pe_int)) pa_nil))) (pa_cons (pe_op op_add (pe_op op_mod (pe_op op_pow (pe_op op_add (pe_op op_add (pe_op op_mod (pv 2) pe_int) (pe_op op_mulW pe_int (pv 1))) pe_int) pe_int) pe_int) pe_int) pa_nil))))))), ?_⟩
    have fin : ∀ c : Int, 0 ≤ c → (tRet (tLst (tCons (tCB (fun xs H Q => ∃ i j, xs = [.int i, .int j] ∧ Q (.int (if j > i then j else i)) H) (tCons (tC (.int 0)) (tCons (tOp (rI0 fun i j => .int (i - j)) (tVar 2) (tOp (rI CPow fun i j => .int (i ^ j.toNat)) (tC (.int 10)) (tC (.int 18)))) tNil))) (tCons (tOp (rI0 fun i j => .int (i + j)) (tOp (rI (fun _ j => 0 < j) fun i j => .int (i % j)) (tOp (rI CPow fun i j => .int (i ^ j.toNat)) (tOp (rI0 fun i j => .int (i + j)) (tOp (rI0 fun i j => .int (i + j)) (tOp (rI (fun _ j => 0 < j) fun i j => .int (i % j)) (tVar 2) (tC (.int 2147483423))) (tOp (rI CMulW fun i j => .int (i * j)) (tC (.int 89)) (tVar 1))) (tC (.int 7))) (tC (.int 2))) (tC (.int 2147483399))) (tC (.int 1))) tNil)))) { nx := fun _ H' => Q .non H', rt := Q } [some (.ref a), some (.int k), some (.int c)] H := by
      intro c hc
      refine ⟨_, rfl, _, _, rfl, rfl, ⟨by decide, by decide, by decide⟩, _, _, rfl, rfl, _, _, rfl, ?_⟩
      have m0 : 0 ≤ c % 2147483423 := Int.emod_nonneg _ (by decide)
      have m1 : c % 2147483423 < 2147483423 := Int.emod_lt_of_pos _ (by decide)
      refine ⟨_, rfl, _, _, rfl, rfl, by show (0 : Int) < 2147483423; decide, _, rfl, _, _, rfl, rfl, ?_, _, _, rfl, rfl, _, _, rfl, rfl, _, _, rfl, rfl, ⟨by decide, by decide, ?_⟩, _, _, rfl, rfl, by show (0 : Int) < 2147483399; decide, _, _, rfl, rfl, by show 2 ≤ sizeLine; decide, fun p np => ?_⟩
      · exact Bt.cmul (n := 10) (m := 10) (Bt.of_lt (by decide) (by decide)) (Bt.of_lt (by omega) (by omega)) (by decide)
      · show (c % 2147483423 + 89 * k + 7).natAbs < 2 ^ 64
        omega
      · refine q p _ (same_new np) np ⟨_, _, upd_same, by split <;> omega, ?_, ?_⟩
        · have := Int.emod_nonneg ((c % 2147483423 + 89 * k + 7) ^ (2 : Int).toNat) (b := 2147483399) (by decide)
          omega
        · have := Int.emod_lt_of_pos ((c % 2147483423 + 89 * k + 7) ^ (2 : Int).toNat) (b := 2147483399) (by decide)
          omega
    refine ⟨_, rfl, _, rfl, a, _, rfl, .inl hS, _, _, rfl, rfl, _, rfl, ?_⟩
    refine ite2 (fun c => ?_) (fun c => ?_)
    · have c := of_decide_eq_true c
      rw [List.length_map] at c
      have hk : k.toNat < ns.length := by omega
      have g : (ns.map V.int)[k.toNat]? = some (.int ns[k.toNat]) := by
        rw [List.getElem?_map, List.getElem?_eq_getElem hk]
        rfl
      refine ⟨_, rfl, _, rfl, a, _, k, _, rfl, rfl, hS, at_of (j := k.toNat) (by omega) g, _, rfl, ?_⟩
      exact fin _ (by split <;> omega)
    · exact fin 0 (by decide)
theorem ok_ldigit (T : Tx K mg) : FnOk P w K mg base CX0 1 T.f_ldigit T.d_ldigit ["_law_pot_here", "_law_many"] spDigit := by
  refine T.F_ldigit.ok sc_ldigit (fun vs H Q E h => ?_) (fun cdv A outer s H vs Q E hr h => ?_)
  · obtain ⟨p, m, rfl, _⟩ := h
    rfl
  · obtain ⟨p, m, rfl, ⟨x, y, hp, hx, hy, hy2⟩, hm, bm, q⟩ := h
    refine ⟨_, (pss_cons (ps_if (pt_cmpR op_gt (pe_ix ix_list (pv 0) pe_int (fun _ _ => rfl)) pe_int (nomark _)) (pss_cons (ps_asg (pe_callB call_divmodW (by rfl) T.n_divmod (by decide +kernel) (pa_cons (pe_ix ix_list (pv 0) pe_int (fun _ _ => rfl)) (pa_cons (pv 1) pa_nil))) (pg_tup (by rfl) (pgs_cons (pg_sub (pv 0) pe_int set_list) (pgs_cons (pg_name (i := 2) sc_ldigit.nd rfl (.inl rfl)) pgs_nil))))
        (pss_one (ps_ret (pv 2)))) pss_nil)
        (pss_cons (ps_asg (pe_op op_mod (pe_op op_add (pe_op op_mulW (pe_ix ix_list (pv 0) pe_int (fun _ _ => rfl)) pe_int) pe_int) pe_int) (pg_sub (pv 0) pe_int set_list))
        (pss_one (ps_ret (pe_op op_mod (pe_op op_fdivW (pe_op op_mod (pe_op op_mulW (pe_ix ix_list (pv 0) pe_int (fun _ _ => rfl)) (pe_ix ix_list (pv 0) pe_int (fun _ _ => rfl))) pe_int) pe_int) (pv 1)))))), ?_⟩
    have hL : SqL K H p [.int x, .int y] := .inl (.inl hp)
    refine ⟨_, rfl, p, _, 0, _, rfl, rfl, hL, atI_nat (j := 0) rfl, _, _, rfl, rfl, _, rfl, ?_⟩
    refine ite2 (fun c => ?_) (fun c => ?_)
    · have c := of_decide_eq_true c
      refine ⟨_, rfl, p, _, 0, _, rfl, rfl, hL, atI_nat (j := 0) rfl, _, rfl, _, _, rfl, ⟨hm, PyProof.noPylong_of_log2 (Nat.lt_of_lt_of_le (PySem.Flt.log2_lt_of (by decide) bm) (by decide))⟩, fun t nt => ?_⟩
      have npt : p ≠ t := ne_of_none hp nt
      have hp' : (upd H t (.tup [.int (x / m), .int (x % m)])) p = some (.lst [.int x, .int y]) := by rw [upd_ne npt]; exact hp
      refine ⟨t, _, rfl, .inl (.inl upd_same), rfl, _, _, rfl, _, rfl, p, _, _, 0, rfl, rfl, hp', rfl, _, _, rfl, rfl, ?_⟩
      refine ⟨_, rfl, ?_⟩
      refine q _ _ (Int.emod_nonneg x (by omega)) (Int.emod_lt_of_pos x hm) ((Same.x (same_new nt)).trans samex_set) ⟨x / m, y, upd_same, Int.ediv_nonneg (by omega) (by omega), hy, hy2⟩
    · refine ⟨_, rfl, p, _, 1, _, rfl, rfl, hL, atI_nat (j := 1) rfl, _, _, rfl, rfl, ?_, _, _, rfl, rfl, _, _, rfl, rfl, by show (0 : Int) < 2147483563; decide, ?_⟩
      · exact Bt.cmul (n := 32) (m := 32) (Bt.of_lt (by omega) (by omega)) (Bt.of_lt (by decide) (by decide)) (by decide)
      · refine ⟨_, rfl, p, _, _, 1, rfl, rfl, hp, rfl, ?_⟩
        have z0 : 0 ≤ (y * 45763 + 10061) % 2147483563 := Int.emod_nonneg _ (by decide)
        have z1 : (y * 45763 + 10061) % 2147483563 < 2147483563 := Int.emod_lt_of_pos _ (by decide)
        have hL2 : SqL K (upd H p (.lst [.int x, .int ((y * 45763 + 10061) % 2147483563)])) p [.int x, .int ((y * 45763 + 10061) % 2147483563)] := .inl (.inl upd_same)
        refine ⟨_, rfl, p, _, 1, _, rfl, rfl, hL2, atI_nat (j := 1) rfl, _, rfl, p, _, 1, _, rfl, rfl, hL2, atI_nat (j := 1) rfl, _, _, rfl, rfl, ?_, _, _, rfl, rfl, by show (0 : Int) < 2147483477; decide, _, _, rfl, rfl, ?_, _, rfl, _, _, rfl, rfl, hm, ?_⟩
        · exact Bt.cmul (n := 32) (m := 32) (Bt.of_lt (by omega) (by omega)) (Bt.of_lt (by omega) (by omega)) (by decide)
        · exact Bt.cdiv (n := 10) (by decide) (Bt.of_lt (by decide) (by decide)) (by decide)
        · exact q _ _ (Int.emod_nonneg _ (by omega)) (Int.emod_lt_of_pos _ hm) samex_set ⟨x, _, upd_same, hx, z0, by omega⟩
theorem ok_llow (T : Tx K mg) : FnOk P w K mg base CX0 1 T.f_llow T.d_llow ["_law_above", "_law_below"] (spLow K) := by
  refine T.F_llow.ok sc_llow (fun vs H Q E h => ?_) (fun cdv A outer s H vs Q E hr h => ?_)
  · obtain ⟨a, b, rfl, _⟩ := h
    rfl
  · obtain ⟨x, y, rfl, hy, h9, q⟩ := h
    refine ⟨_, (pss_cons (ps_par (i := 2) (j := 3) (by rfl) sc_llow.nd rfl rfl (by decide) rfl rfl (pa_cons (pe_callB call_abs (by rfl) T.n_abs (by decide +kernel) (pa_cons (pv 0) pa_nil)) (pa_cons (pv 1) pa_nil)) (by rfl))
        (pss_cons (ps_while PassesOwn.never (pt_cmpR op_gt (pv 3) pe_int (nomark _)) (pss_one (ps_par (i := 2) (j := 3) (by rfl) sc_llow.nd rfl rfl (by decide) rfl rfl (pa_cons (pv 3) (pa_cons (pe_op op_mod (pv 2) (pv 3)) pa_nil)) (by rfl))))
        (pss_one (ps_ret (pe_tup (pa_cons (pe_op op_fdivW (pv 0) (pv 2)) (pa_cons (pe_op op_fdivW (pv 1) (pv 2)) pa_nil))))))), ?_⟩
    refine ⟨_, rfl, _, rfl, _, rfl, _, _, rfl, ?_⟩
    refine while_by (fun σ H' => ∃ a b : Int, σ = [some (.int x), some (.int y), some (.int a), some (.int b)] ∧ 0 ≤ a ∧ 0 ≤ b ∧ Int.gcd a b = Int.gcd x y ∧ H' = H)
      (fun σ _ => match σ with | [_, _, _, some (.int b)] => b.toNat | _ => 0) ⟨_, _, rfl, by split <;> omega, by omega, gcd_abs x y, rfl⟩ ?_ ?_
    · rintro σ H' ⟨a, b, rfl, ha, hb, eg, rfl⟩
      refine ⟨_, rfl, _, _, rfl, rfl, _, rfl, ?_⟩
      by_cases c : b = 0
      · subst c
        rw [show decide ((0 : Int) < 0) = false from rfl]
        refine iteF ?_
        have e := gcd_zero ha
        rw [eg] at e
        have g0 : 0 < (Int.gcd x y : Int) := by have := gcd_pos (a := x) (b := y) (by omega); omega
        have g9 : Bt 8999 (Int.gcd x y : Int) := gcd_bt hy h9
        rw [← e]
        refine ⟨_, rfl, _, rfl, _, _, rfl, rfl, g9.cdiv g0 (by decide), _, rfl, _, rfl, _, _, rfl, rfl, g9.cdiv g0 (by decide), by show 2 ≤ sizeLine; decide, fun p np => q _ _ (same_new np) TupI.new⟩
      · have hb' : 0 < b := by omega
        rw [show decide (0 < b) = true from decide_eq_true hb']
        refine iteT ?_
        refine ⟨_, rfl, _, rfl, _, rfl, _, _, rfl, rfl, hb', _, _, rfl, ?_, ?_⟩
        · exact ⟨b, a % b, rfl, hb, Int.emod_nonneg a c, (gcd_step ha hb').trans eg, rfl⟩
        · show (a % b).toNat < b.toNat
          have := Int.emod_lt_of_pos a hb'
          omega
    · rintro σ H Q Q' k ⟨v, h1, i, j, h2, h3, c, h4, q⟩
      exact ⟨v, h1, i, j, h2, h3, c, h4, k _ _ q⟩
open TL
theorem ok_lname (T : Tx K mg) : FnOk P w K mg base CX0 2 T.f_lname T.d_lname ["_law_pot_here", "_law_used"] spName := by
  refine T.F_lname.ok sc_lname (fun vs H Q E h => ?_) (fun cdv A outer s H vs Q E hr h => ?_)
  · obtain ⟨p, U, us, rfl, _⟩ := h
    rfl
  · obtain ⟨p, U, us, rfl, hp, nUp, hU, hl, q⟩ := h
    refine ⟨_, (pss_cons (ps_set (i := 2) sc_lname.nd rfl (.inr rfl) pe_str)
        (pss_cons (ps_set (i := 3) sc_lname.nd rfl (.inl rfl) (pe_join pe_str (pe_lc (own := [("_law_k", 5)]) (g := gName 5) (tt := tYes) (by rfl) sc_lname.nd (pi_range1 (by rfl) T.n_range (pa_cons (pe_ix ix_list (pe_lst (pa_cons pe_int (pa_cons pe_int (pa_cons pe_int (pa_cons pe_int pa_nil))))) (pe_call (ok_ldigit T) (hr.mono (by decide)) (by rfl) T.g_ldigit T.F_ldigit.kp T.b_ldigit .nil pass0 (pa_cons (pv 0) (pa_cons pe_int pa_nil))) (fun _ _ => rfl)) pa_nil)) (blkOk_by (own := [("_law_k", 5)]) (N := ["_law_pot_here", "_law_used", "_law_letters", "_law_name_here", "_law_some", "_law_k", "_law_one"]) (sc := defScope s_lname) (by decide +kernel)) (fun _ _ _ _ _ => (pg_name (i := 5) sc_lname.nd rfl (.inl rfl))) (fun _ _ _ _ _ => pts_nil) (fun _ _ _ _ _ => (pe_ix ix_str (pv 2) (pe_call (ok_ldigit T) (hr.mono (by decide)) (by rfl) T.g_ldigit T.F_ldigit.kp T.b_ldigit .nil pass0 (pa_cons (pv 0) (pa_cons pe_int pa_nil))) (fun _ _ => rfl))))))
        (pss_cons (ps_if (pt_cmpR op_in_seq (pv 3) (pv 1) (by rfl)) (pss_cons (ps_set (i := 4) sc_lname.nd rfl (.inl rfl) (pe_op op_cat (pe_lc (own := [("_law_one", 6)]) (g := gName 6) (by rfl) sc_lname.nd (pi_str (pv 2)) (blkOk_by (own := [("_law_one", 6)]) (N := ["_law_pot_here", "_law_used", "_law_letters", "_law_name_here", "_law_some", "_law_k", "_law_one"]) (sc := defScope s_lname) (by decide +kernel)) (fun _ _ _ _ _ => (pg_name (i := 6) sc_lname.nd rfl (.inl rfl))) (fun _ _ _ _ _ => (pts_one (pt_cmpR (show OpR _ _ (rIn K true) from op_notIn_seq) (pv 6) (pv 1) (by rfl)))) (fun _ _ _ _ _ => (pv 6))) (pe_lc (own := [("_law_one", 6)]) (g := gName 6) (by rfl) sc_lname.nd (pi_str (pv 2)) (blkOk_by (own := [("_law_one", 6)]) (N := ["_law_pot_here", "_law_used", "_law_letters", "_law_name_here", "_law_some", "_law_k", "_law_one"]) (sc := defScope s_lname) (by decide +kernel)) (fun _ _ _ _ _ => (pg_name (i := 6) sc_lname.nd rfl (.inl rfl))) (fun _ _ _ _ _ => (pts_one (pt_cmpR (show OpR _ _ (rIn K true) from op_notIn_seq) (pe_op op_add_str (pv 6) pe_str) (pv 1) (by rfl)))) (fun _ _ _ _ _ => (pe_op op_add_str (pv 6) pe_str)))))
        (pss_one (ps_ret (pe_ix ix_list (pv 4) pe_int (fun _ _ => rfl))))) pss_nil)
        (pss_one (ps_ret (pv 3)))))), ?_⟩
    refine ⟨⟨_, rfl⟩, by show 4 ≤ sizeLine; decide, fun l nl => ?_⟩
    obtain ⟨B, fB, eB, hL⟩ : ∃ B, B = upd H l (.lst [.int 1, .int 2, .int 3, .int 8]) ∧ Same H B ∧ B l = some (.lst [.int 1, .int 2, .int 3, .int 8]) := ⟨_, rfl, same_new nl, upd_same⟩
    rw [← fB]
    have pB := hp.same eB
    refine ⟨_, rfl, p, _, rfl, pB, by decide, by unfold Bt; decide +kernel, fun d H1 d0 d1 s1 p1 => ?_⟩
    obtain ⟨v2, hv, hm⟩ := pick (xs := [V.int 1, V.int 2, V.int 3, V.int 8]) (d := d) d0 d1
    obtain ⟨m, rfl, m1, m8⟩ : ∃ m : Nat, v2 = .int (m : Int) ∧ 1 ≤ m ∧ m ≤ 8 := by
      simp only [List.mem_cons, List.not_mem_nil, or_false] at hm
      rcases hm with rfl | rfl | rfl | rfl
      · exact ⟨1, rfl, by decide, by decide⟩
      · exact ⟨2, rfl, by decide, by decide⟩
      · exact ⟨3, rfl, by decide, by decide⟩
      · exact ⟨8, rfl, by decide, by decide⟩
    have nlp : l ≠ p := pB.nel hL (by decide)
    refine ⟨l, _, _, _, rfl, rfl, .inl (.inl (s1 _ _ nlp hL)), hv, _, rfl, by omega, by omega, fun D nD => ?_⟩
    have sH1 : SameX p H H1 := (Same.x eB).trans s1
    have nDp : D ≠ p := p1.ne nD
    have hU1 := sH1 _ _ nUp hU
    have nUD : U ≠ D := ne_of_none hU1 nD
    refine lc_range (lo := 0) (n := ((m : Nat) : Int).toNat) (fun i H' => ∃ cs : List Nat, H' D = some (.lst ((cs.map sg1).map V.str)) ∧ cs.length = i ∧ (∀ c ∈ cs, 97 ≤ c ∧ c ≤ 122) ∧ SameX p H1 H' ∧ PotAt H' p)
      ⟨[], upd_same, rfl, fun _ h => (List.not_mem_nil h).elim, Same.x (same_new nD), p1.same (same_new nD)⟩ ?_ ?_
    · rintro i H' hi ⟨cs, hD, hcl, hcs, sx, px⟩
      refine ⟨rfl, tyes (iteT ?_)⟩
      refine ⟨_, rfl, _, rfl, p, _, rfl, px, by decide, by unfold Bt; decide +kernel, fun d2 H2 e0 e1 s2 p2 => ?_⟩
      obtain ⟨c, hc, c1, c2⟩ := abc_at e0 e1
      refine ⟨_, _, c, rfl, rfl, by decide, hc, ?_⟩
      have hD2 := s2 _ _ nDp hD
      refine ⟨_, hD2, by rw [List.length_map, List.length_map]; exact small1000 (by omega), cs ++ [c], ?_, by simp [hcl], ?_, samex_upd (sx.trans s2) nD, p2.upd nDp⟩
      · rw [upd_same]
        simp [sg1]
      · intro x hx
        rcases List.mem_append.mp hx with h | h
        · exact hcs x h
        · rw [List.mem_singleton.mp h]; exact ⟨c1, c2⟩
    rintro H2 ⟨cs, hD, hcl, hcs, sx, px⟩
    have hcl : cs.length = m := by omega
    refine ⟨_, D, cs.map sg1, rfl, rfl, .inl (.inl (.inl hD)), ?_, ?_⟩
    · have : ((cs.map sg1).map (·.length)).sum ≤ cs.length := by
        exact sg_len cs
      rw [List.length_map]
      have : (Str.ofString "").length = 0 := rfl
      rw [this]
      omega
    have nz : Nm (Txt.join "" (cs.map sg1)) := by rw [join_eq]; exact join_nm (by omega) (by omega) hcs
    have sH2 := sH1.trans sx
    have hU2 := sH2 _ _ nUp hU
    refine ⟨_, rfl, _, rfl, U, _, rfl, .inl (.inl (.inl hU2)), rfl, flat_strs us, _, rfl, ?_⟩
    show if inV (.str (Txt.join "" (cs.map sg1))) (us.map V.str) = true then _ else _
    rw [inV_str]
    by_cases hin : Txt.join "" (cs.map sg1) ∈ us
    · rw [decide_eq_true hin]
      refine iteT ?_
      refine ⟨_, rfl, _, rfl, fun D1 n1 => ?_⟩
      have n1U : U ≠ D1 := ne_of_none hU2 n1
      refine lc_it walk_str (fun i H' => H' D1 = some (.lst ((((lets.take i).filter fun c => !decide (sg1 c ∈ us)).map sg1).map V.str)) ∧ Same H2 H') ⟨upd_same, same_new n1⟩ (fun _ _ _ _ => trivial) ?_ ?_
      · rintro i x H' H'' hi ⟨hD1, s3⟩ ⟨rfl, c, hc, rfl⟩
        have hc' : lets[i]? = some c := by
          have : abc.cps.toList[i]? = some c := by simpa using hc
          exact this
        refine ⟨rfl, _, rfl, _, rfl, U, _, rfl, .inl (.inl (.inl (s3 _ _ hU2))), rfl, flat_strs us, _, rfl, ?_⟩
        show if (!inV (.str (sg1 c)) (us.map V.str)) = true then _ else _
        rw [inV_str, List.take_add_one, hc', List.filter_append, List.map_append, List.map_append]
        by_cases hn : sg1 c ∈ us
        · rw [decide_eq_true hn]
          refine iteF ⟨?_, s3⟩
          rw [hD1]
          simp [hn]
        · rw [decide_eq_false hn]
          refine iteT ⟨_, rfl, _, hD1, ?_, ?_, same_upd s3 n1⟩
          · rw [List.length_map, List.length_map]
            have := List.length_filter_le (fun c => !decide (sg1 c ∈ us)) (lets.take i)
            rw [List.length_take, lets_ok.2.1] at this
            exact small1000 (by omega)
          · rw [upd_same]
            simp [hn]
            rfl
      rintro H3 ⟨hD1, s3⟩
      rw [show lets.take abc.cps.size = lets by rw [lets_ok.2.2.2, ← lets_ok.2.1, List.take_length]] at hD1
      refine ⟨_, rfl, _, rfl, fun D2 n2 => ?_⟩
      have n21 : D1 ≠ D2 := ne_of_none hD1 n2
      refine lc_it walk_str (fun i H' => (∃ ys : List V, H' D2 = some (.lst ys) ∧ ys.length ≤ i) ∧ Same H3 H') ⟨⟨[], upd_same, Nat.le_refl _⟩, same_new n2⟩ (fun _ _ _ _ => trivial) ?_ ?_
      · rintro i x H' H'' hi ⟨⟨ys, hD2, hyl⟩, s4⟩ ⟨rfl, c, hc, rfl⟩
        have hi : i < 26 := by rw [lets_ok.2.2.2] at hi; exact hi
        refine ⟨rfl, _, rfl, _, _, rfl, rfl, (by show 2 ≤ sizeLine; decide), _, rfl, U, _, rfl, .inl (.inl (.inl (s4 _ _ (s3 _ _ hU2)))), rfl, flat_strs us, _, rfl, ite2 (fun _ => ?_) (fun _ => ?_)⟩
        · exact ⟨_, rfl, _, _, rfl, rfl, (by show 2 ≤ sizeLine; decide), ys, hD2, small1000 (by omega), ⟨_, upd_same, by simp; omega⟩, same_upd s4 n2⟩
        · exact ⟨⟨ys, hD2, by omega⟩, s4⟩
      rintro H4 ⟨⟨ys, hD2, hyl⟩, s4⟩
      rw [lets_ok.2.2.2] at hyl
      have hD14 := s4 _ _ hD1
      refine ⟨D1, D2, _, _, rfl, rfl, hD14, hD2, ?_, fun C nC => ?_⟩
      · rw [List.length_map, List.length_map, sizeLine_eq]
        have := List.length_filter_le (fun c => !decide (sg1 c ∈ us)) lets
        rw [lets_ok.2.1] at this
        omega
      have ne := some_free hl
      cases hf : (lets.filter fun c => !decide (sg1 c ∈ us)) with
      | nil => exact absurd hf ne
      | cons c r =>
        rw [hf] at hD14
        have hc : c ∈ lets.filter fun c => !decide (sg1 c ∈ us) := by rw [hf]; exact List.mem_cons_self
        obtain ⟨hc1, hc2⟩ := List.mem_filter.mp hc
        have hc2 : sg1 c ∉ us := by simpa using hc2
        have eC := same_new (o := .lst (((c :: r).map sg1).map V.str ++ ys)) nC
        refine ⟨_, rfl, C, _, 0, _, rfl, rfl, .inl (.inl upd_same), atI_nat (j := 0) rfl, ?_⟩
        have s24 := s3.trans (s4.trans eC)
        have hcl := lets_ok.2.2.1 c hc1
        exact q (sg1 c) _ ⟨Nat.le_refl 1, by show 1 ≤ 8; decide, fun x hx => by rw [List.mem_singleton.mp hx]; exact hcl⟩ hc2 (sH2.trans (Same.x s24)) (px.same s24)
    · rw [decide_eq_false hin]
      refine iteF ?_
      exact ⟨_, rfl, q _ H2 nz hin sH2 px⟩
end
end WS
set_option Elab.async false
set_option linter.all false
set_option maxRecDepth 100000
set_option maxHeartbeats 4000000
namespace WS
open PySem PySem.Spec PyProof.Rows L2
section
variable {P : Program} {w : World} {K : PySem.W.Frag} {mg : Str → Option Value} {base : Heap}
open TL
theorem ok_lplain (T : Tx K mg) : FnOk P w K mg base CX0 3 T.f_lplain T.d_lplain ["_law_text"] (spPlain10 T.cs) := by
  refine T.F_lplain.ok sc_lplain (fun vs H Q E h => ?_) (fun cdv A outer s H vs Q E hr h => ?_)
  · obtain ⟨v, rfl, _⟩ := h
    rfl
  · obtain ⟨v, rfl, q⟩ := h
    refine ⟨_, (pss_cons (ps_set (i := 1) sc_lplain.nd rfl (.inl rfl) (pe_lst (pa_cons (pe_exc1 PySem.F.excBase_ValueError T.x_NoPart T.gc_NoPart T.kc_NoPart (by rfl) (pv 0)) (pa_cons (pe_exc1 PySem.F.excBase_ValueError T.x_NoName T.gc_NoName T.kc_NoName (by rfl) (pv 0)) (pa_cons (pe_exc1 PySem.F.excBase_ValueError T.x_NoWeight T.gc_NoWeight T.kc_NoWeight (by rfl) (pv 0)) (pa_cons (pe_exc1 PySem.F.excBase_ValueError T.x_NoPerson T.gc_NoPerson T.kc_NoPerson (by rfl) (pv 0)) (pa_cons (pe_exc1 PySem.F.excBase_ValueError T.x_NoSeat T.gc_NoSeat T.kc_NoSeat (by rfl) (pv 0)) (pa_cons (pe_exc1 PySem.F.excBase_ValueError T.x_NoEvening T.gc_NoEvening T.kc_NoEvening (by rfl) (pv 0)) (pa_cons (pe_exc1 PySem.F.excBase_ValueError T.x_NoDuty T.gc_NoDuty T.kc_NoDuty (by rfl) (pv 0)) pa_nil)))))))))
        (pss_cons (ps_set (i := 1) sc_lplain.nd rfl (.inl rfl) (pe_op op_cat (pv 1) (pe_lst (pa_cons (pe_exc1 PySem.F.excBase_ValueError T.x_NoGift T.gc_NoGift T.kc_NoGift (by rfl) (pv 0)) (pa_cons (pe_exc1 PySem.F.excBase_ValueError T.x_Unlike T.gc_Unlike T.kc_Unlike (by rfl) (pv 0)) (pa_cons (pe_exc1 PySem.F.excBase_ValueError T.x_NoFact T.gc_NoFact T.kc_NoFact (by rfl) (pv 0)) (pa_cons (pe_exc1 PySem.F.excBase_ValueError T.x_NoBack T.gc_NoBack T.kc_NoBack (by rfl) (pv 0)) (pa_cons (pe_exc1 PySem.F.excBase_ValueError T.x_NoDeed T.gc_NoDeed T.kc_NoDeed (by rfl) (pv 0)) (pa_cons (pe_exc1 PySem.F.excBase_ValueError T.x_NoText T.gc_NoText T.kc_NoText (by rfl) (pv 0)) (pa_cons (pe_exc1 PySem.F.excBase_ValueError T.x_NoRow T.gc_NoRow T.kc_NoRow (by rfl) (pv 0)) pa_nil))))))))))
        (pss_one (ps_ret (pv 1))))), ?_⟩
    refine ⟨_, rfl, fun a0 n0 => ?_⟩
    obtain ⟨H0, f0, e0, h0⟩ : ∃ B, B = upd H a0 (ExO (.ref T.c_NoPart) a0) ∧ Same H B ∧ B a0 = some (ExO (.ref T.c_NoPart) a0) := ⟨_, rfl, same_new n0, upd_same⟩
    rw [← f0]
    have g0 := e0
    refine ⟨_, rfl, fun a1 n1 => ?_⟩
    obtain ⟨H1, f1, e1, h1⟩ : ∃ B, B = upd H0 a1 (ExO (.ref T.c_NoName) a1) ∧ Same H0 B ∧ B a1 = some (ExO (.ref T.c_NoName) a1) := ⟨_, rfl, same_new n1, upd_same⟩
    rw [← f1]
    have g1 := g0.trans e1
    refine ⟨_, rfl, fun a2 n2 => ?_⟩
    obtain ⟨H2, f2, e2, h2⟩ : ∃ B, B = upd H1 a2 (ExO (.ref T.c_NoWeight) a2) ∧ Same H1 B ∧ B a2 = some (ExO (.ref T.c_NoWeight) a2) := ⟨_, rfl, same_new n2, upd_same⟩
    rw [← f2]
    have g2 := g1.trans e2
    refine ⟨_, rfl, fun a3 n3 => ?_⟩
    obtain ⟨H3, f3, e3, h3⟩ : ∃ B, B = upd H2 a3 (ExO (.ref T.c_NoPerson) a3) ∧ Same H2 B ∧ B a3 = some (ExO (.ref T.c_NoPerson) a3) := ⟨_, rfl, same_new n3, upd_same⟩
    rw [← f3]
    have g3 := g2.trans e3
    refine ⟨_, rfl, fun a4 n4 => ?_⟩
    obtain ⟨H4, f4, e4, h4⟩ : ∃ B, B = upd H3 a4 (ExO (.ref T.c_NoSeat) a4) ∧ Same H3 B ∧ B a4 = some (ExO (.ref T.c_NoSeat) a4) := ⟨_, rfl, same_new n4, upd_same⟩
    rw [← f4]
    have g4 := g3.trans e4
    refine ⟨_, rfl, fun a5 n5 => ?_⟩
    obtain ⟨H5, f5, e5, h5⟩ : ∃ B, B = upd H4 a5 (ExO (.ref T.c_NoEvening) a5) ∧ Same H4 B ∧ B a5 = some (ExO (.ref T.c_NoEvening) a5) := ⟨_, rfl, same_new n5, upd_same⟩
    rw [← f5]
    have g5 := g4.trans e5
    refine ⟨_, rfl, fun a6 n6 => ?_⟩
    obtain ⟨H6, f6, e6, h6⟩ : ∃ B, B = upd H5 a6 (ExO (.ref T.c_NoDuty) a6) ∧ Same H5 B ∧ B a6 = some (ExO (.ref T.c_NoDuty) a6) := ⟨_, rfl, same_new n6, upd_same⟩
    rw [← f6]
    have g6 := g5.trans e6
    refine ⟨by show 7 ≤ sizeLine; decide, fun L1 m1 => ?_⟩
    obtain ⟨G1, j1, s1, l1⟩ : ∃ B, B = upd H6 L1 (.lst ([a0, a1, a2, a3, a4, a5, a6].map V.ref)) ∧ Same H6 B ∧ B L1 = some (.lst ([a0, a1, a2, a3, a4, a5, a6].map V.ref)) := ⟨_, rfl, same_new m1, upd_same⟩
    rw [show upd H6 L1 (.lst [V.ref a0, V.ref a1, V.ref a2, V.ref a3, V.ref a4, V.ref a5, V.ref a6]) = G1 from j1.symm]
    have g7 := g6.trans s1
    refine ⟨_, rfl, _, rfl, fun a7 n7 => ?_⟩
    obtain ⟨H7, f7, e7, h7⟩ : ∃ B, B = upd G1 a7 (ExO (.ref T.c_NoGift) a7) ∧ Same G1 B ∧ B a7 = some (ExO (.ref T.c_NoGift) a7) := ⟨_, rfl, same_new n7, upd_same⟩
    rw [← f7]
    have g8 := g7.trans e7
    refine ⟨_, rfl, fun a8 n8 => ?_⟩
    obtain ⟨H8, f8, e8, h8⟩ : ∃ B, B = upd H7 a8 (ExO (.ref T.c_Unlike) a8) ∧ Same H7 B ∧ B a8 = some (ExO (.ref T.c_Unlike) a8) := ⟨_, rfl, same_new n8, upd_same⟩
    rw [← f8]
    have g9 := g8.trans e8
    refine ⟨_, rfl, fun a9 n9 => ?_⟩
    obtain ⟨H9, f9, e9, h9⟩ : ∃ B, B = upd H8 a9 (ExO (.ref T.c_NoFact) a9) ∧ Same H8 B ∧ B a9 = some (ExO (.ref T.c_NoFact) a9) := ⟨_, rfl, same_new n9, upd_same⟩
    rw [← f9]
    have g10 := g9.trans e9
    refine ⟨_, rfl, fun a10 n10 => ?_⟩
    obtain ⟨H10, f10, e10, h10⟩ : ∃ B, B = upd H9 a10 (ExO (.ref T.c_NoBack) a10) ∧ Same H9 B ∧ B a10 = some (ExO (.ref T.c_NoBack) a10) := ⟨_, rfl, same_new n10, upd_same⟩
    rw [← f10]
    have g11 := g10.trans e10
    refine ⟨_, rfl, fun a11 n11 => ?_⟩
    obtain ⟨H11, f11, e11, h11⟩ : ∃ B, B = upd H10 a11 (ExO (.ref T.c_NoDeed) a11) ∧ Same H10 B ∧ B a11 = some (ExO (.ref T.c_NoDeed) a11) := ⟨_, rfl, same_new n11, upd_same⟩
    rw [← f11]
    have g12 := g11.trans e11
    refine ⟨_, rfl, fun a12 n12 => ?_⟩
    obtain ⟨H12, f12, e12, h12⟩ : ∃ B, B = upd H11 a12 (ExO (.ref T.c_NoText) a12) ∧ Same H11 B ∧ B a12 = some (ExO (.ref T.c_NoText) a12) := ⟨_, rfl, same_new n12, upd_same⟩
    rw [← f12]
    have g13 := g12.trans e12
    refine ⟨_, rfl, fun a13 n13 => ?_⟩
    obtain ⟨H13, f13, e13, h13⟩ : ∃ B, B = upd H12 a13 (ExO (.ref T.c_NoRow) a13) ∧ Same H12 B ∧ B a13 = some (ExO (.ref T.c_NoRow) a13) := ⟨_, rfl, same_new n13, upd_same⟩
    rw [← f13]
    have g14 := g13.trans e13
    refine ⟨by show 7 ≤ sizeLine; decide, fun L2 m2 => ?_⟩
    obtain ⟨G2, j2, s2, l2⟩ : ∃ B, B = upd H13 L2 (.lst ([a7, a8, a9, a10, a11, a12, a13].map V.ref)) ∧ Same H13 B ∧ B L2 = some (.lst ([a7, a8, a9, a10, a11, a12, a13].map V.ref)) := ⟨_, rfl, same_new m2, upd_same⟩
    rw [show upd H13 L2 (.lst [V.ref a7, V.ref a8, V.ref a9, V.ref a10, V.ref a11, V.ref a12, V.ref a13]) = G2 from j2.symm]
    have x7 : Same G1 G2 := e7.trans (e8.trans (e9.trans (e10.trans (e11.trans (e12.trans (e13.trans s2))))))
    refine ⟨L1, L2, _, _, rfl, rfl, x7 _ _ l1, l2, by show 14 ≤ sizeLine; decide, fun p np => ?_⟩
    have sp := same_new (o := .lst ([a0, a1, a2, a3, a4, a5, a6, a7, a8, a9, a10, a11, a12, a13].map V.ref)) np
    have z := s2.trans sp
    have gz := g14.trans z
    refine ⟨_, rfl, q p [a0, a1, a2, a3, a4, a5, a6, a7, a8, a9, a10, a11, a12, a13] _ gz ?_ upd_same rfl fun j a ea => ?_⟩
    · cases e : H p with
      | none => rfl
      | some o => rw [(g14.trans s2) _ _ e] at np; cases np
    match j, ea with
    | 0, ea => obtain rfl := Option.some.inj ea; exact ExV.same (.inl ⟨rfl, h0⟩) (e1.trans (e2.trans (e3.trans (e4.trans (e5.trans (e6.trans (s1.trans (e7.trans (e8.trans (e9.trans (e10.trans (e11.trans (e12.trans (e13.trans (z)))))))))))))))
    | 1, ea => obtain rfl := Option.some.inj ea; exact ExV.same (.inl ⟨rfl, h1⟩) (e2.trans (e3.trans (e4.trans (e5.trans (e6.trans (s1.trans (e7.trans (e8.trans (e9.trans (e10.trans (e11.trans (e12.trans (e13.trans (z))))))))))))))
    | 2, ea => obtain rfl := Option.some.inj ea; exact ExV.same (.inl ⟨rfl, h2⟩) (e3.trans (e4.trans (e5.trans (e6.trans (s1.trans (e7.trans (e8.trans (e9.trans (e10.trans (e11.trans (e12.trans (e13.trans (z)))))))))))))
    | 3, ea => obtain rfl := Option.some.inj ea; exact ExV.same (.inl ⟨rfl, h3⟩) (e4.trans (e5.trans (e6.trans (s1.trans (e7.trans (e8.trans (e9.trans (e10.trans (e11.trans (e12.trans (e13.trans (z))))))))))))
    | 4, ea => obtain rfl := Option.some.inj ea; exact ExV.same (.inl ⟨rfl, h4⟩) (e5.trans (e6.trans (s1.trans (e7.trans (e8.trans (e9.trans (e10.trans (e11.trans (e12.trans (e13.trans (z)))))))))))
    | 5, ea => obtain rfl := Option.some.inj ea; exact ExV.same (.inl ⟨rfl, h5⟩) (e6.trans (s1.trans (e7.trans (e8.trans (e9.trans (e10.trans (e11.trans (e12.trans (e13.trans (z))))))))))
    | 6, ea => obtain rfl := Option.some.inj ea; exact ExV.same (.inl ⟨rfl, h6⟩) (s1.trans (e7.trans (e8.trans (e9.trans (e10.trans (e11.trans (e12.trans (e13.trans (z)))))))))
    | 7, ea => obtain rfl := Option.some.inj ea; exact ExV.same (.inl ⟨rfl, h7⟩) (e8.trans (e9.trans (e10.trans (e11.trans (e12.trans (e13.trans (z)))))))
    | 8, ea => obtain rfl := Option.some.inj ea; exact ExV.same (.inl ⟨rfl, h8⟩) (e9.trans (e10.trans (e11.trans (e12.trans (e13.trans (z))))))
    | 9, ea => obtain rfl := Option.some.inj ea; exact ExV.same (.inl ⟨rfl, h9⟩) (e10.trans (e11.trans (e12.trans (e13.trans (z)))))
    | 10, ea => obtain rfl := Option.some.inj ea; exact ExV.same (.inl ⟨rfl, h10⟩) (e11.trans (e12.trans (e13.trans (z))))
    | 11, ea => obtain rfl := Option.some.inj ea; exact ExV.same (.inl ⟨rfl, h11⟩) (e12.trans (e13.trans (z)))
    | 12, ea => obtain rfl := Option.some.inj ea; exact ExV.same (.inl ⟨rfl, h12⟩) (e13.trans (z))
    | 13, ea => obtain rfl := Option.some.inj ea; exact ExV.same (.inl ⟨rfl, h13⟩) (z)
    | k + 14, ea => cases ea
end
end WS
set_option Elab.async false
set_option linter.all false
set_option maxRecDepth 100000
set_option maxHeartbeats 4000000
namespace WS
open PySem PySem.Spec PyProof.Rows L2
section
variable {P : Program} {w : World} {K : PySem.W.Frag} {mg : Str → Option Value} {base : Heap}
open TL
theorem Tx.xcs {K : PySem.W.Frag} {mg : Str → Option Value} (T : Tx K mg) {i : Nat} (h : i < 19) : ExcC K (T.cs.getD i 0) := by
  match i, h with
  | 0, _ => exact T.xc_NoPart
  | 1, _ => exact T.xc_NoName
  | 2, _ => exact T.xc_NoWeight
  | 3, _ => exact T.xc_NoPerson
  | 4, _ => exact T.xc_NoSeat
  | 5, _ => exact T.xc_NoEvening
  | 6, _ => exact T.xc_NoDuty
  | 7, _ => exact T.xc_NoGift
  | 8, _ => exact T.xc_Unlike
  | 9, _ => exact T.xc_NoFact
  | 10, _ => exact T.xc_NoBack
  | 11, _ => exact T.xc_NoDeed
  | 12, _ => exact T.xc_NoText
  | 13, _ => exact T.xc_NoRow
  | 14, _ => exact T.xc_Taken
  | 15, _ => exact T.xc_Beyond
  | 16, _ => exact T.xc_Unbalanced
  | 17, _ => exact T.xc_Astray
  | 18, _ => exact T.xc_ClubError
  | k + 19, h => exact absurd h (by omega)
theorem Tx.svs {K : PySem.W.Frag} {mg : Str → Option Value} (T : Tx K mg) {i : Nat} (h : i < 19) : PySem.W.kitOne K (.ref (T.cs.getD i 0)) (.type "ValueError") = some true := by
  match i, h with
  | 0, _ => exact ve_kit T.sv_NoPart
  | 1, _ => exact ve_kit T.sv_NoName
  | 2, _ => exact ve_kit T.sv_NoWeight
  | 3, _ => exact ve_kit T.sv_NoPerson
  | 4, _ => exact ve_kit T.sv_NoSeat
  | 5, _ => exact ve_kit T.sv_NoEvening
  | 6, _ => exact ve_kit T.sv_NoDuty
  | 7, _ => exact ve_kit T.sv_NoGift
  | 8, _ => exact ve_kit T.sv_Unlike
  | 9, _ => exact ve_kit T.sv_NoFact
  | 10, _ => exact ve_kit T.sv_NoBack
  | 11, _ => exact ve_kit T.sv_NoDeed
  | 12, _ => exact ve_kit T.sv_NoText
  | 13, _ => exact ve_kit T.sv_NoRow
  | 14, _ => exact ve_kit T.sv_Taken
  | 15, _ => exact ve_kit T.sv_Beyond
  | 16, _ => exact ve_kit T.sv_Unbalanced
  | 17, _ => exact ve_kit T.sv_Astray
  | 18, _ => exact ve_kit T.sv_ClubError
  | k + 19, h => exact absurd h (by omega)
theorem ok_lwhich (T : Tx K mg) : FnOk P w K mg base CX0 1 T.f_lwhich T.d_lwhich ["_law_e"] (spWhichV T.cs) := by
  refine T.F_lwhich.ok sc_lwhich (fun vs H Q E h => ?_) (fun cdv A outer s H vs Q E hr h => ?_)
  · obtain ⟨a, i, fs, rfl, _⟩ := h
    rfl
  · obtain ⟨a, i, fs, rfl, hi, hv, q⟩ := h
    refine ⟨_, (pss_cons (ps_set (i := 1) sc_lwhich.nd rfl (.inr rfl) (pe_lst (pa_cons (pe_callB call_isV (by rfl) T.n_isinstance (by decide +kernel) (pa_cons (pv 0) (pa_cons (pe_glob (v := .ref T.c_NoPart) (by rfl) T.gc_NoPart rfl) pa_nil))) (pa_cons (pe_callB call_isV (by rfl) T.n_isinstance (by decide +kernel) (pa_cons (pv 0) (pa_cons (pe_glob (v := .ref T.c_NoName) (by rfl) T.gc_NoName rfl) pa_nil))) (pa_cons (pe_callB call_isV (by rfl) T.n_isinstance (by decide +kernel) (pa_cons (pv 0) (pa_cons (pe_glob (v := .ref T.c_NoWeight) (by rfl) T.gc_NoWeight rfl) pa_nil))) (pa_cons (pe_callB call_isV (by rfl) T.n_isinstance (by decide +kernel) (pa_cons (pv 0) (pa_cons (pe_glob (v := .ref T.c_NoPerson) (by rfl) T.gc_NoPerson rfl) pa_nil))) pa_nil))))))
        (pss_cons (ps_set (i := 1) sc_lwhich.nd rfl (.inr rfl) (pe_op op_cat (pv 1) (pe_lst (pa_cons (pe_callB call_isV (by rfl) T.n_isinstance (by decide +kernel) (pa_cons (pv 0) (pa_cons (pe_glob (v := .ref T.c_NoSeat) (by rfl) T.gc_NoSeat rfl) pa_nil))) (pa_cons (pe_callB call_isV (by rfl) T.n_isinstance (by decide +kernel) (pa_cons (pv 0) (pa_cons (pe_glob (v := .ref T.c_NoEvening) (by rfl) T.gc_NoEvening rfl) pa_nil))) (pa_cons (pe_callB call_isV (by rfl) T.n_isinstance (by decide +kernel) (pa_cons (pv 0) (pa_cons (pe_glob (v := .ref T.c_NoDuty) (by rfl) T.gc_NoDuty rfl) pa_nil))) (pa_cons (pe_callB call_isV (by rfl) T.n_isinstance (by decide +kernel) (pa_cons (pv 0) (pa_cons (pe_glob (v := .ref T.c_NoGift) (by rfl) T.gc_NoGift rfl) pa_nil))) pa_nil)))))))
        (pss_cons (ps_set (i := 1) sc_lwhich.nd rfl (.inr rfl) (pe_op op_cat (pv 1) (pe_lst (pa_cons (pe_callB call_isV (by rfl) T.n_isinstance (by decide +kernel) (pa_cons (pv 0) (pa_cons (pe_glob (v := .ref T.c_Unlike) (by rfl) T.gc_Unlike rfl) pa_nil))) (pa_cons (pe_callB call_isV (by rfl) T.n_isinstance (by decide +kernel) (pa_cons (pv 0) (pa_cons (pe_glob (v := .ref T.c_NoFact) (by rfl) T.gc_NoFact rfl) pa_nil))) (pa_cons (pe_callB call_isV (by rfl) T.n_isinstance (by decide +kernel) (pa_cons (pv 0) (pa_cons (pe_glob (v := .ref T.c_NoBack) (by rfl) T.gc_NoBack rfl) pa_nil))) (pa_cons (pe_callB call_isV (by rfl) T.n_isinstance (by decide +kernel) (pa_cons (pv 0) (pa_cons (pe_glob (v := .ref T.c_NoDeed) (by rfl) T.gc_NoDeed rfl) pa_nil))) pa_nil)))))))
        (pss_cons (ps_set (i := 1) sc_lwhich.nd rfl (.inr rfl) (pe_op op_cat (pv 1) (pe_lst (pa_cons (pe_callB call_isV (by rfl) T.n_isinstance (by decide +kernel) (pa_cons (pv 0) (pa_cons (pe_glob (v := .ref T.c_NoText) (by rfl) T.gc_NoText rfl) pa_nil))) (pa_cons (pe_callB call_isV (by rfl) T.n_isinstance (by decide +kernel) (pa_cons (pv 0) (pa_cons (pe_glob (v := .ref T.c_NoRow) (by rfl) T.gc_NoRow rfl) pa_nil))) (pa_cons (pe_callB call_isV (by rfl) T.n_isinstance (by decide +kernel) (pa_cons (pv 0) (pa_cons (pe_glob (v := .ref T.c_Taken) (by rfl) T.gc_Taken rfl) pa_nil))) (pa_cons (pe_callB call_isV (by rfl) T.n_isinstance (by decide +kernel) (pa_cons (pv 0) (pa_cons (pe_glob (v := .ref T.c_Beyond) (by rfl) T.gc_Beyond rfl) pa_nil))) pa_nil)))))))
        (pss_cons (ps_set (i := 1) sc_lwhich.nd rfl (.inr rfl) (pe_op op_cat (pv 1) (pe_lst (pa_cons (pe_callB call_isV (by rfl) T.n_isinstance (by decide +kernel) (pa_cons (pv 0) (pa_cons (pe_glob (v := .ref T.c_Unbalanced) (by rfl) T.gc_Unbalanced rfl) pa_nil))) (pa_cons (pe_callB call_isV (by rfl) T.n_isinstance (by decide +kernel) (pa_cons (pv 0) (pa_cons (pe_glob (v := .ref T.c_Astray) (by rfl) T.gc_Astray rfl) pa_nil))) pa_nil)))))
        (pss_one (ps_ret (pe_lc (own := [("_law_k", 2)]) (g := gName 2) (by rfl) sc_lwhich.nd (pi_range1 (by rfl) T.n_range (pa_cons (pe_callB call_len_seq (by rfl) T.n_len (by decide +kernel) (pa_cons (pv 1) pa_nil)) pa_nil)) (blkOk_by (own := [("_law_k", 2)]) (N := ["_law_e", "_law_some", "_law_k"]) (sc := defScope s_lwhich) (by decide +kernel)) (fun _ _ _ _ _ => (pg_name (i := 2) sc_lwhich.nd rfl (.inl rfl))) (fun _ _ _ _ _ => (pts_one (pt_val (pe_ix (show IxR _ (rIxL K) from ix_list) (pv 1) (pv 2) (fun _ _ => rfl))))) (fun _ _ _ _ _ => (pv 2)))))))))), ?_⟩
    have xc := T.xcs hi
    have kk : ∀ j, j < 18 → PySem.W.kitOne K (.ref (T.cs.getD i 0)) (.ref (T.cs.getD j 0)) = some (decide (i = j)) := fun j hj => rowsE_at T.kall hi hj
    refine ⟨_, rfl, a, _, fs, _, _, _, rfl, hv, xc, .own _, kk 0 (by decide), ?_⟩
    refine ⟨_, rfl, a, _, fs, _, _, _, rfl, hv, xc, .own _, kk 1 (by decide), ?_⟩
    refine ⟨_, rfl, a, _, fs, _, _, _, rfl, hv, xc, .own _, kk 2 (by decide), ?_⟩
    refine ⟨_, rfl, a, _, fs, _, _, _, rfl, hv, xc, .own _, kk 3 (by decide), ?_⟩
    refine ⟨by show 4 ≤ sizeLine; decide, fun t1 n1 => ?_⟩
    obtain ⟨H1, f1, e1, h1⟩ : ∃ B, B = upd H t1 (.lst [V.bl (decide (i = 0)), V.bl (decide (i = 1)), V.bl (decide (i = 2)), V.bl (decide (i = 3))]) ∧ Same H B ∧ B t1 = some (.lst [V.bl (decide (i = 0)), V.bl (decide (i = 1)), V.bl (decide (i = 2)), V.bl (decide (i = 3))]) := ⟨_, rfl, same_new n1, upd_same⟩
    rw [← f1]
    have g1 := e1
    refine ⟨_, rfl, _, rfl, a, _, fs, _, _, _, rfl, hv.same g1, xc, .own _, kk 4 (by decide), ?_⟩
    refine ⟨_, rfl, a, _, fs, _, _, _, rfl, hv.same g1, xc, .own _, kk 5 (by decide), ?_⟩
    refine ⟨_, rfl, a, _, fs, _, _, _, rfl, hv.same g1, xc, .own _, kk 6 (by decide), ?_⟩
    refine ⟨_, rfl, a, _, fs, _, _, _, rfl, hv.same g1, xc, .own _, kk 7 (by decide), ?_⟩
    refine ⟨by show 4 ≤ sizeLine; decide, fun t2 n2 => ?_⟩
    obtain ⟨H2, f2, e2, h2⟩ : ∃ B, B = upd H1 t2 (.lst [V.bl (decide (i = 4)), V.bl (decide (i = 5)), V.bl (decide (i = 6)), V.bl (decide (i = 7))]) ∧ Same H1 B ∧ B t2 = some (.lst [V.bl (decide (i = 4)), V.bl (decide (i = 5)), V.bl (decide (i = 6)), V.bl (decide (i = 7))]) := ⟨_, rfl, same_new n2, upd_same⟩
    rw [← f2]
    have g2 := g1.trans e2
    refine ⟨t1, t2, _, _, rfl, rfl, e2 _ _ h1, h2, by show 8 ≤ sizeLine; decide, fun p2 m2 => ?_⟩
    obtain ⟨G2, j2, k2, l2⟩ : ∃ B, B = upd H2 p2 (.lst [V.bl (decide (i = 0)), V.bl (decide (i = 1)), V.bl (decide (i = 2)), V.bl (decide (i = 3)), V.bl (decide (i = 4)), V.bl (decide (i = 5)), V.bl (decide (i = 6)), V.bl (decide (i = 7))]) ∧ Same H2 B ∧ B p2 = some (.lst [V.bl (decide (i = 0)), V.bl (decide (i = 1)), V.bl (decide (i = 2)), V.bl (decide (i = 3)), V.bl (decide (i = 4)), V.bl (decide (i = 5)), V.bl (decide (i = 6)), V.bl (decide (i = 7))]) := ⟨_, rfl, same_new m2, upd_same⟩
    rw [show upd H2 p2 (.lst (_ ++ _)) = G2 from j2.symm]
    have q2 := g2.trans k2
    refine ⟨_, rfl, _, rfl, a, _, fs, _, _, _, rfl, hv.same q2, xc, .own _, kk 8 (by decide), ?_⟩
    refine ⟨_, rfl, a, _, fs, _, _, _, rfl, hv.same q2, xc, .own _, kk 9 (by decide), ?_⟩
    refine ⟨_, rfl, a, _, fs, _, _, _, rfl, hv.same q2, xc, .own _, kk 10 (by decide), ?_⟩
    refine ⟨_, rfl, a, _, fs, _, _, _, rfl, hv.same q2, xc, .own _, kk 11 (by decide), ?_⟩
    refine ⟨by show 4 ≤ sizeLine; decide, fun t3 n3 => ?_⟩
    obtain ⟨H3, f3, e3, h3⟩ : ∃ B, B = upd G2 t3 (.lst [V.bl (decide (i = 8)), V.bl (decide (i = 9)), V.bl (decide (i = 10)), V.bl (decide (i = 11))]) ∧ Same G2 B ∧ B t3 = some (.lst [V.bl (decide (i = 8)), V.bl (decide (i = 9)), V.bl (decide (i = 10)), V.bl (decide (i = 11))]) := ⟨_, rfl, same_new n3, upd_same⟩
    rw [← f3]
    have g3 := q2.trans e3
    refine ⟨p2, t3, _, _, rfl, rfl, e3 _ _ l2, h3, by show 12 ≤ sizeLine; decide, fun p3 m3 => ?_⟩
    obtain ⟨G3, j3, k3, l3⟩ : ∃ B, B = upd H3 p3 (.lst [V.bl (decide (i = 0)), V.bl (decide (i = 1)), V.bl (decide (i = 2)), V.bl (decide (i = 3)), V.bl (decide (i = 4)), V.bl (decide (i = 5)), V.bl (decide (i = 6)), V.bl (decide (i = 7)), V.bl (decide (i = 8)), V.bl (decide (i = 9)), V.bl (decide (i = 10)), V.bl (decide (i = 11))]) ∧ Same H3 B ∧ B p3 = some (.lst [V.bl (decide (i = 0)), V.bl (decide (i = 1)), V.bl (decide (i = 2)), V.bl (decide (i = 3)), V.bl (decide (i = 4)), V.bl (decide (i = 5)), V.bl (decide (i = 6)), V.bl (decide (i = 7)), V.bl (decide (i = 8)), V.bl (decide (i = 9)), V.bl (decide (i = 10)), V.bl (decide (i = 11))]) := ⟨_, rfl, same_new m3, upd_same⟩
    rw [show upd H3 p3 (.lst (_ ++ _)) = G3 from j3.symm]
    have q3 := g3.trans k3
    refine ⟨_, rfl, _, rfl, a, _, fs, _, _, _, rfl, hv.same q3, xc, .own _, kk 12 (by decide), ?_⟩
    refine ⟨_, rfl, a, _, fs, _, _, _, rfl, hv.same q3, xc, .own _, kk 13 (by decide), ?_⟩
    refine ⟨_, rfl, a, _, fs, _, _, _, rfl, hv.same q3, xc, .own _, kk 14 (by decide), ?_⟩
    refine ⟨_, rfl, a, _, fs, _, _, _, rfl, hv.same q3, xc, .own _, kk 15 (by decide), ?_⟩
    refine ⟨by show 4 ≤ sizeLine; decide, fun t4 n4 => ?_⟩
    obtain ⟨H4, f4, e4, h4⟩ : ∃ B, B = upd G3 t4 (.lst [V.bl (decide (i = 12)), V.bl (decide (i = 13)), V.bl (decide (i = 14)), V.bl (decide (i = 15))]) ∧ Same G3 B ∧ B t4 = some (.lst [V.bl (decide (i = 12)), V.bl (decide (i = 13)), V.bl (decide (i = 14)), V.bl (decide (i = 15))]) := ⟨_, rfl, same_new n4, upd_same⟩
    rw [← f4]
    have g4 := q3.trans e4
    refine ⟨p3, t4, _, _, rfl, rfl, e4 _ _ l3, h4, by show 16 ≤ sizeLine; decide, fun p4 m4 => ?_⟩
    obtain ⟨G4, j4, k4, l4⟩ : ∃ B, B = upd H4 p4 (.lst [V.bl (decide (i = 0)), V.bl (decide (i = 1)), V.bl (decide (i = 2)), V.bl (decide (i = 3)), V.bl (decide (i = 4)), V.bl (decide (i = 5)), V.bl (decide (i = 6)), V.bl (decide (i = 7)), V.bl (decide (i = 8)), V.bl (decide (i = 9)), V.bl (decide (i = 10)), V.bl (decide (i = 11)), V.bl (decide (i = 12)), V.bl (decide (i = 13)), V.bl (decide (i = 14)), V.bl (decide (i = 15))]) ∧ Same H4 B ∧ B p4 = some (.lst [V.bl (decide (i = 0)), V.bl (decide (i = 1)), V.bl (decide (i = 2)), V.bl (decide (i = 3)), V.bl (decide (i = 4)), V.bl (decide (i = 5)), V.bl (decide (i = 6)), V.bl (decide (i = 7)), V.bl (decide (i = 8)), V.bl (decide (i = 9)), V.bl (decide (i = 10)), V.bl (decide (i = 11)), V.bl (decide (i = 12)), V.bl (decide (i = 13)), V.bl (decide (i = 14)), V.bl (decide (i = 15))]) := ⟨_, rfl, same_new m4, upd_same⟩
    rw [show upd H4 p4 (.lst (_ ++ _)) = G4 from j4.symm]
    have q4 := g4.trans k4
    refine ⟨_, rfl, _, rfl, a, _, fs, _, _, _, rfl, hv.same q4, xc, .own _, kk 16 (by decide), ?_⟩
    refine ⟨_, rfl, a, _, fs, _, _, _, rfl, hv.same q4, xc, .own _, kk 17 (by decide), ?_⟩
    refine ⟨by show 2 ≤ sizeLine; decide, fun t5 n5 => ?_⟩
    obtain ⟨H5, f5, e5, h5⟩ : ∃ B, B = upd G4 t5 (.lst [V.bl (decide (i = 16)), V.bl (decide (i = 17))]) ∧ Same G4 B ∧ B t5 = some (.lst [V.bl (decide (i = 16)), V.bl (decide (i = 17))]) := ⟨_, rfl, same_new n5, upd_same⟩
    rw [← f5]
    have g5 := q4.trans e5
    refine ⟨p4, t5, _, _, rfl, rfl, e5 _ _ l4, h5, by show 18 ≤ sizeLine; decide, fun p5 m5 => ?_⟩
    obtain ⟨G5, j5, k5, l5⟩ : ∃ B, B = upd H5 p5 (.lst [V.bl (decide (i = 0)), V.bl (decide (i = 1)), V.bl (decide (i = 2)), V.bl (decide (i = 3)), V.bl (decide (i = 4)), V.bl (decide (i = 5)), V.bl (decide (i = 6)), V.bl (decide (i = 7)), V.bl (decide (i = 8)), V.bl (decide (i = 9)), V.bl (decide (i = 10)), V.bl (decide (i = 11)), V.bl (decide (i = 12)), V.bl (decide (i = 13)), V.bl (decide (i = 14)), V.bl (decide (i = 15)), V.bl (decide (i = 16)), V.bl (decide (i = 17))]) ∧ Same H5 B ∧ B p5 = some (.lst [V.bl (decide (i = 0)), V.bl (decide (i = 1)), V.bl (decide (i = 2)), V.bl (decide (i = 3)), V.bl (decide (i = 4)), V.bl (decide (i = 5)), V.bl (decide (i = 6)), V.bl (decide (i = 7)), V.bl (decide (i = 8)), V.bl (decide (i = 9)), V.bl (decide (i = 10)), V.bl (decide (i = 11)), V.bl (decide (i = 12)), V.bl (decide (i = 13)), V.bl (decide (i = 14)), V.bl (decide (i = 15)), V.bl (decide (i = 16)), V.bl (decide (i = 17))]) := ⟨_, rfl, same_new m5, upd_same⟩
    rw [show upd H5 p5 (.lst (_ ++ _)) = G5 from j5.symm]
    have q5 := g5.trans k5
    have ls : ([V.bl (decide (i = 0)), V.bl (decide (i = 1)), V.bl (decide (i = 2)), V.bl (decide (i = 3)), V.bl (decide (i = 4)), V.bl (decide (i = 5)), V.bl (decide (i = 6)), V.bl (decide (i = 7)), V.bl (decide (i = 8)), V.bl (decide (i = 9)), V.bl (decide (i = 10)), V.bl (decide (i = 11)), V.bl (decide (i = 12)), V.bl (decide (i = 13)), V.bl (decide (i = 14)), V.bl (decide (i = 15)), V.bl (decide (i = 16)), V.bl (decide (i = 17))] : List V) = (List.range 18).map fun j => V.bl (decide (i = j)) := rfl
    rw [ls] at l5
    refine ⟨_, rfl, p5, _, rfl, .inl (.inl (.inl l5)), _, rfl, by rw [List.length_map, List.length_range]; omega, by rw [List.length_map, List.length_range]; omega, fun L nL => ?_⟩
    rw [show (((List.range 18).map fun j => V.bl (decide (i = j))).length : Int).toNat = 18 from by rw [List.length_map, List.length_range]; rfl]
    refine lc_range (lo := 0) (n := 18) (fun j H' => H' L = some (.lst (((List.range j).filter fun j => decide (i = j)).map fun j : Nat => V.int j)) ∧ Same G5 H') ⟨upd_same, same_new nL⟩ ?_ ?_
    · rintro j H' hj ⟨hL, s1⟩
      have ej : (0 : Int) + (j : Nat) = ((j : Nat) : Int) := by omega
      rw [ej]
      have hl : ((List.range 18).map fun j => V.bl (decide (i = j)))[j]? = some (V.bl (decide (i = j))) := by rw [List.getElem?_map, List.getElem?_range hj]; rfl
      refine ⟨rfl, _, rfl, _, rfl, p5, _, _, _, rfl, rfl, .inl (.inl (s1 _ _ l5)), atI_nat hl, _, rfl, ?_⟩
      rw [List.range_succ, List.filter_append, List.map_append]
      by_cases c : i = j
      · subst c
        rw [decide_eq_true rfl]
        refine iteT ⟨_, rfl, _, hL, by rw [List.length_map]; have := List.length_filter_le (fun j => decide (i = j)) (List.range i); rw [List.length_range] at this; exact small1000 (by omega), ?_, same_upd s1 nL⟩
        rw [upd_same]
        simp
      · rw [decide_eq_false c]
        refine iteF ⟨?_, s1⟩
        rw [hL]
        simp [c]
    rintro H' ⟨hL, s1⟩
    have nH : H L = none := by
      cases e : H L with
      | none => rfl
      | some o => rw [q5 _ _ e] at nL; cases nL
    exact q L H' (q5.trans s1) nH hL
end
end WS
set_option Elab.async false
set_option linter.all false
set_option maxRecDepth 100000
set_option maxHeartbeats 4000000
namespace WS
open PySem PySem.Spec PyProof.Rows L2
section
variable {P : Program} {w : World} {K : PySem.W.Frag} {mg : Str → Option Value} {base : Heap}
open TL
theorem ok_lfields (T : Tx K mg) : FnOk P w K mg base CX0 1 T.f_lfields T.d_lfields ["_law_e"] (spFields10 T.cs) := by
  refine T.F_lfields.ok sc_lfields (fun vs H Q E h => ?_) (fun cdv A outer s H vs Q E hr h => ?_)
  · obtain ⟨a, i, xs, rfl, _⟩ := h
    rfl
  · obtain ⟨a, i, xs, rfl, hi, hv, q⟩ := h
    refine ⟨_, (pss_cons (ps_if (pt_val (pe_callB call_isV (by rfl) T.n_isinstance (by decide +kernel) (pa_cons (pv 0) (pa_cons (pe_glob (v := .ref T.c_Taken) (by rfl) T.gc_Taken rfl) pa_nil)))) (pss_one (ps_ret (pe_lst (pa_cons (pe_xfV T.xf_Taken T.fno_Taken_person (pv 0)) pa_nil)))) pss_nil)
        (pss_cons (ps_if (pt_val (pe_callB call_isV (by rfl) T.n_isinstance (by decide +kernel) (pa_cons (pv 0) (pa_cons (pe_glob (v := .ref T.c_Beyond) (by rfl) T.gc_Beyond rfl) pa_nil)))) (pss_one (ps_ret (pe_lst (pa_cons (pe_xfV T.xf_Beyond T.fno_Beyond_many (pv 0)) (pa_cons (pe_xfV T.xf_Beyond T.fno_Beyond_seats (pv 0)) pa_nil))))) pss_nil)
        (pss_cons (ps_if (pt_val (pe_callB call_isV (by rfl) T.n_isinstance (by decide +kernel) (pa_cons (pv 0) (pa_cons (pe_glob (v := .ref T.c_Unbalanced) (by rfl) T.gc_Unbalanced rfl) pa_nil)))) (pss_one (ps_ret (pe_lst (pa_cons (pe_xfV T.xf_Unbalanced T.fno_Unbalanced_owed (pv 0)) pa_nil)))) pss_nil)
        (pss_cons (ps_if (pt_val (pe_callB call_isV (by rfl) T.n_isinstance (by decide +kernel) (pa_cons (pv 0) (pa_cons (pe_glob (v := .ref T.c_Astray) (by rfl) T.gc_Astray rfl) pa_nil)))) (pss_one (ps_ret (pe_lst (pa_cons (pe_xfV T.xf_Astray T.fno_Astray_at (pv 0)) (pa_cons (pe_xfV T.xf_Astray T.fno_Astray_many (pv 0)) (pa_cons (pe_xfV T.xf_Astray T.fno_Astray_seats (pv 0)) pa_nil)))))) pss_nil)
        (pss_one (ps_ret (pe_lst pa_nil))))))), ?_⟩
    have xc := T.xcs (i := i) (by omega)
    have kk : ∀ j, j < 18 → PySem.W.kitOne K (.ref (T.cs.getD i 0)) (.ref (T.cs.getD j 0)) = some (decide (i = j)) := fun j hj => rowsE_at T.kall (by omega) hj
    refine ⟨_, rfl, a, _, _, _, _, _, rfl, hv, xc, .own _, kk 14 (by decide), _, rfl, ?_⟩
    by_cases c14 : i = 14
    · subst c14
      rw [decide_eq_true rfl]
      refine iteT ?_
      refine ⟨_, rfl, a, _, _, rfl, hv, rfl, ?_⟩
      exact ⟨by show 1 ≤ sizeLine; decide, fun L nL => q L _ (same_new nL) nL upd_same⟩
    rw [decide_eq_false c14]
    refine iteF ?_
    refine ⟨_, rfl, a, _, _, _, _, _, rfl, hv, xc, .own _, kk 15 (by decide), _, rfl, ?_⟩
    by_cases c15 : i = 15
    · subst c15
      rw [decide_eq_true rfl]
      refine iteT ?_
      refine ⟨_, rfl, a, _, _, rfl, hv, rfl, ?_⟩
      refine ⟨_, rfl, a, _, _, rfl, hv, rfl, ?_⟩
      exact ⟨by show 2 ≤ sizeLine; decide, fun L nL => q L _ (same_new nL) nL upd_same⟩
    rw [decide_eq_false c15]
    refine iteF ?_
    refine ⟨_, rfl, a, _, _, _, _, _, rfl, hv, xc, .own _, kk 16 (by decide), _, rfl, ?_⟩
    by_cases c16 : i = 16
    · subst c16
      rw [decide_eq_true rfl]
      refine iteT ?_
      refine ⟨_, rfl, a, _, _, rfl, hv, rfl, ?_⟩
      exact ⟨by show 1 ≤ sizeLine; decide, fun L nL => q L _ (same_new nL) nL upd_same⟩
    rw [decide_eq_false c16]
    refine iteF ?_
    refine ⟨_, rfl, a, _, _, _, _, _, rfl, hv, xc, .own _, kk 17 (by decide), _, rfl, ?_⟩
    by_cases c17 : i = 17
    · subst c17
      rw [decide_eq_true rfl]
      refine iteT ?_
      refine ⟨_, rfl, a, _, _, rfl, hv, rfl, ?_⟩
      refine ⟨_, rfl, a, _, _, rfl, hv, rfl, ?_⟩
      refine ⟨_, rfl, a, _, _, rfl, hv, rfl, ?_⟩
      exact ⟨by show 3 ≤ sizeLine; decide, fun L nL => q L _ (same_new nL) nL upd_same⟩
    rw [decide_eq_false c17]
    refine iteF ?_
    have ew : dueE i xs = [] := by unfold dueE; rw [if_neg c14, if_neg c15, if_neg c16, if_neg c17]
    rw [ew] at q
    exact ⟨by show 0 ≤ sizeLine; decide, fun L nL => q L _ (same_new nL) nL upd_same⟩
end
end WS
set_option Elab.async false
set_option linter.all false
set_option maxRecDepth 100000
set_option maxHeartbeats 4000000
namespace WS
open PySem PySem.Spec PyProof.Rows L2
section
variable {P : Program} {w : World} {K : PySem.W.Frag} {mg : Str → Option Value} {base : Heap}
open TL
theorem ok_lthings (T : Tx K mg) : FnOk P w K mg base CX0 3 T.f_lthings T.d_lthings ["_law_pot_here"] (spThings10 K) := by
  refine T.F_lthings.ok sc_lthings (fun vs H Q E h => ?_) (fun cdv A outer s H vs Q E hr h => ?_)
  · obtain ⟨p, rfl, _⟩ := h
    rfl
  · obtain ⟨p, rfl, hp, q⟩ := h
    refine ⟨_, (pss_cons (ps_set (i := 1) sc_lthings.nd rfl (.inl rfl) (pe_call (ok_lname T) (hr.mono (by decide)) (by rfl) T.g_lname T.F_lname.kp T.b_lname .nil pass0 (pa_cons (pv 0) (pa_cons (pe_lst pa_nil) pa_nil))))
        (pss_cons (ps_set (i := 2) sc_lthings.nd rfl (.inl rfl) (pe_op op_add pe_int (pe_call (ok_ldigit T) (hr.mono (by decide)) (by rfl) T.g_ldigit T.F_ldigit.kp T.b_ldigit .nil pass0 (pa_cons (pv 0) (pa_cons pe_int pa_nil)))))
        (pss_cons (ps_set (i := 3) sc_lthings.nd rfl (.inl rfl) (pe_callTy call_tuple_of (by rfl) T.n_tuple (by decide +kernel) (pa_cons (pe_lc (own := [("_law_turn", 5)]) (g := gName 5) (tt := tYes) (by rfl) sc_lthings.nd (pi_range1 (by rfl) T.n_range (pa_cons (pe_call (ok_ldigit T) (hr.mono (by decide)) (by rfl) T.g_ldigit T.F_ldigit.kp T.b_ldigit .nil pass0 (pa_cons (pv 0) (pa_cons pe_int pa_nil))) pa_nil)) (blkOk_by (own := [("_law_turn", 5)]) (N := ["_law_pot_here", "_law_name_here", "_law_many", "_law_seats", "_law_owed", "_law_turn"]) (sc := defScope s_lthings) (by decide +kernel)) (fun _ _ _ _ _ => (pg_name (i := 5) sc_lthings.nd rfl (.inl rfl))) (fun _ _ _ _ _ => pts_nil) (fun _ _ _ _ _ => (pe_call (ok_ldigit T) (hr.mono (by decide)) (by rfl) T.g_ldigit T.F_ldigit.kp T.b_ldigit .nil pass0 (pa_cons (pv 0) (pa_cons pe_int pa_nil))))) pa_nil)))
        (pss_cons (ps_set (i := 4) sc_lthings.nd rfl (.inl rfl) (pe_call (ok_llow T) (hr.mono (by decide)) (by rfl) T.g_llow T.F_llow.kp T.b_llow .nil pass0 (pa_cons (pe_op op_sub (pe_call (ok_ldigit T) (hr.mono (by decide)) (by rfl) T.g_ldigit T.F_ldigit.kp T.b_ldigit .nil pass0 (pa_cons (pv 0) (pa_cons pe_int pa_nil))) pe_int) (pa_cons (pe_op op_add pe_int (pe_call (ok_ldigit T) (hr.mono (by decide)) (by rfl) T.g_ldigit T.F_ldigit.kp T.b_ldigit .nil pass0 (pa_cons (pv 0) (pa_cons pe_int pa_nil)))) pa_nil))))
        (pss_one (ps_ret (pe_lst (pa_cons (pv 1) (pa_cons (pv 2) (pa_cons (pv 3) (pa_cons (pv 4) (pa_cons (pe_call (ok_ldigit T) (hr.mono (by decide)) (by rfl) T.g_ldigit T.F_ldigit.kp T.b_ldigit .nil pass0 (pa_cons (pv 0) (pa_cons pe_int pa_nil))) pa_nil)))))))))))), ?_⟩
    refine ⟨_, rfl, by show 0 ≤ sizeLine; decide, fun U nU => ?_⟩
    obtain ⟨H0, f0, e0, hU⟩ : ∃ B, B = upd H U (.lst (([] : List Str).map V.str)) ∧ Same H B ∧ B U = some (.lst (([] : List Str).map V.str)) := ⟨_, rfl, same_new nU, upd_same⟩
    rw [show upd H U (.lst []) = H0 from f0.symm]
    refine ⟨p, U, [], rfl, hp.same e0, hp.ne nU, hU, by decide, fun z H1 nz _ s1 p1 => ?_⟩
    refine ⟨_, rfl, p, _, rfl, p1, by decide, by unfold Bt; decide +kernel, fun d1 H2 d10 d11 s2 p2 => ?_⟩
    refine ⟨_, _, rfl, rfl, ?_⟩
    refine ⟨_, rfl, p, _, rfl, p2, by decide, by unfold Bt; decide +kernel, fun d2 H3 d20 d21 s3 p3 => ?_⟩
    refine ⟨_, rfl, by omega, by omega, fun D nD => ?_⟩
    refine lc_range (lo := 0) (n := d2.toNat) (fun j H' => ∃ ns : List Int, H' D = some (.lst (ns.map V.int)) ∧ ns.length = j ∧ (∀ n ∈ ns, Bt 7 n) ∧ SameX p H3 H' ∧ PotAt H' p) ⟨[], upd_same, rfl, fun _ h => (List.not_mem_nil h).elim, Same.x (same_new nD), p3.same (same_new nD)⟩ ?_ ?_
    · rintro j H' hj ⟨ns, hD, nl, nb, sx, px⟩
      refine ⟨rfl, tyes (iteT ?_)⟩
      refine ⟨_, rfl, p, _, rfl, px, by decide, by unfold Bt; decide +kernel, fun e H4 e0 e1 s4 p4 => ?_⟩
      have nDp : D ≠ p := p3.ne nD
      have hD4 := s4 _ _ nDp hD
      refine ⟨_, hD4, by rw [List.length_map, nl]; exact small1000 (by omega), ns ++ [e], by rw [upd_same, List.map_append]; rfl, by rw [List.length_append, nl]; rfl, fun n hn => ?_, fun b o nb' h => by rw [upd_ne (ne_of_none h nD)]; exact s4 b o nb' (sx b o nb' h), p4.upd nDp⟩
      rcases List.mem_append.mp hn with h | h
      · exact nb n h
      · rw [List.mem_singleton.mp h]
        exact Bt.of_lt (by omega) (by omega)
    rintro H4 ⟨ns, hD, nl, nb, s4, p4⟩
    refine ⟨D, _, rfl, .inl ⟨.inl (.inl hD), fun t nt => ?_⟩⟩
    obtain ⟨H5, f5, e5, ht⟩ : ∃ B, B = upd H4 t (.tup (ns.map V.int)) ∧ Same H4 B ∧ SqT K B t (ns.map V.int) := ⟨_, rfl, same_new nt, .inl (.inl upd_same)⟩
    rw [← f5]
    refine ⟨_, rfl, p, _, rfl, p4.same e5, by decide, by unfold Bt; decide +kernel, fun d3 H6 d30 d31 s6 p6 => ?_⟩
    refine ⟨_, _, rfl, rfl, ?_⟩
    refine ⟨_, rfl, p, _, rfl, p6, by decide, by unfold Bt; decide +kernel, fun d4 H7 d40 d41 s7 p7 => ?_⟩
    refine ⟨_, _, rfl, rfl, ?_⟩
    refine ⟨_, _, rfl, by omega, Bt.of_lt (n := 8) (by omega) (by omega) |>.mono (by decide), fun ov H8 s8 ho => ?_⟩
    refine ⟨_, rfl, _, rfl, _, rfl, _, rfl, _, rfl, p, _, rfl, p7.same s8, by decide, by unfold Bt; decide +kernel, fun d5 H9 d50 d51 s9 p9 => ?_⟩
    refine ⟨by show 5 ≤ sizeLine; decide, fun L nL => ?_⟩
    have sL := same_new (o := .lst [V.str z, V.int (1 + d1), V.ref t, ov, V.int d5]) nL
    have x49 : SameX p H5 H9 := s6.trans (s7.trans ((Same.x s8).trans s9))
    have x09 : SameX p H H9 := (Same.x e0).trans (s1.trans (s2.trans (s3.trans (s4.trans ((Same.x e5).trans x49)))))
    have ht9 := Same.tup sL ((kt_x x49 (p4.same e5)).sqt ht)
    have ho9 := ho.k ((kt_x s9 (p7.same s8)).trans (kt_same sL))
    have nLH : H L = none := by
      cases e : H L with
      | none => rfl
      | some o =>
        have nLp : L ≠ p := p9.ne nL
        rw [x09 _ _ nLp e] at nL
        cases nL
    refine q L _ [.str z, .int (1 + d1), .tuple (ns.map PyData.int), pdP (lo (d3 - 1000) (1 + d4)), .int d5] _ (x09.trans (Same.x sL)) (p9.same sL) nLH upd_same ⟨.cons (.str _) (.cons (.int _) (.cons (ints_dpT ht9) (.cons (pd_dp ho9) (.cons (.int _) .nil)))), rfl, ?_, ?_⟩
    · show (imm (.tuple (ns.map PyData.int)) && true) = true
      rw [Bool.and_true]
      exact imm_ints ns
    · intro d hd
      simp only [List.mem_cons, List.not_mem_nil, or_false] at hd
      rcases hd with rfl | rfl | rfl | rfl | rfl
      · exact (nm_sh (.inr nz)).mono (by decide) (by decide)
      · exact (Sh.int (m := 7) (by decide) (by decide) (Bt.of_lt (by omega) (by omega))).mono (by decide) (by decide)
      · refine (Sh.tup (n := 8) (k := 1) (m := 4) (fun d hd => ?_) (by rw [List.length_map, nl]; omega)).mono (by decide) (by decide)
        obtain ⟨n, hn, rfl⟩ := List.mem_map.mp hd
        exact Sh.int (m := 7) (by decide) (by decide) (nb n hn)
      · exact (Sh.pd (m := 20) (by decide) (by decide) ((Bt.of_lt (n := 10) (by omega) (by omega)).mono (by decide)).lo1 ((Bt.of_lt (n := 7) (by omega) (by omega)).mono (by decide)).lo2).mono (by decide) (by decide)
      · exact (Sh.int (m := 7) (by decide) (by decide) (Bt.of_lt (by omega) (by omega))).mono (by decide) (by decide)
end
end WS
set_option Elab.async false
set_option linter.all false
set_option maxRecDepth 100000
set_option maxHeartbeats 4000000
namespace WS
open PySem PySem.Spec PyProof.Rows L2
section
variable {P : Program} {w : World} {K : PySem.W.Frag} {mg : Str → Option Value} {base : Heap}
open TL
theorem ok_lwhichH (T : Tx K mg) {A : Around} {a : Addr} {oe : Obj} {cls : Value} {d : Option Addr} (hot : L2H.Hot1 A (a, oe)) (hz : L2N.Zn cls d oe) : FnHot A (a, oe) P w K mg base 1 T.f_lwhich T.d_lwhich ["_law_e"] (spWhichG a cls d T.cs) := by
  refine fun_hot T.F_lwhich sc_lwhich (fun vs H Q E h => ?_) (fun cdv outer s H vs Q hr h => ?_)
  · obtain ⟨rfl, _⟩ := h
    rfl
  · obtain ⟨rfl, hd, i, hi, hc, q⟩ := h
    have hmem : (a, oe) ∈ (L2H.cxH CX0 P w K mg base ["_law_e", "_law_some", "_law_k"] "_law_which" (defScope s_lwhich) T.f_lwhich cdv A outer s H E0 (a, oe)).pn := List.mem_cons_self
    have hfi : ∃ vs, oe.data = .fields vs := by
      obtain ⟨_, vs, e, _⟩ := hot
      exact ⟨vs, e⟩
    refine ⟨_, (pss_cons (ps_set (i := 1) sc_lwhich.nd rfl (.inr rfl) (pe_lst (pa_cons (pe_callB (call_isG hmem hz.zc hfi) (by rfl) T.n_isinstance (by decide +kernel) (pa_cons (pv 0) (pa_cons (pe_glob (v := .ref T.c_NoPart) (by rfl) T.gc_NoPart rfl) pa_nil))) (pa_cons (pe_callB (call_isG hmem hz.zc hfi) (by rfl) T.n_isinstance (by decide +kernel) (pa_cons (pv 0) (pa_cons (pe_glob (v := .ref T.c_NoName) (by rfl) T.gc_NoName rfl) pa_nil))) (pa_cons (pe_callB (call_isG hmem hz.zc hfi) (by rfl) T.n_isinstance (by decide +kernel) (pa_cons (pv 0) (pa_cons (pe_glob (v := .ref T.c_NoWeight) (by rfl) T.gc_NoWeight rfl) pa_nil))) (pa_cons (pe_callB (call_isG hmem hz.zc hfi) (by rfl) T.n_isinstance (by decide +kernel) (pa_cons (pv 0) (pa_cons (pe_glob (v := .ref T.c_NoPerson) (by rfl) T.gc_NoPerson rfl) pa_nil))) pa_nil))))))
        (pss_cons (ps_set (i := 1) sc_lwhich.nd rfl (.inr rfl) (pe_op op_cat (pv 1) (pe_lst (pa_cons (pe_callB (call_isG hmem hz.zc hfi) (by rfl) T.n_isinstance (by decide +kernel) (pa_cons (pv 0) (pa_cons (pe_glob (v := .ref T.c_NoSeat) (by rfl) T.gc_NoSeat rfl) pa_nil))) (pa_cons (pe_callB (call_isG hmem hz.zc hfi) (by rfl) T.n_isinstance (by decide +kernel) (pa_cons (pv 0) (pa_cons (pe_glob (v := .ref T.c_NoEvening) (by rfl) T.gc_NoEvening rfl) pa_nil))) (pa_cons (pe_callB (call_isG hmem hz.zc hfi) (by rfl) T.n_isinstance (by decide +kernel) (pa_cons (pv 0) (pa_cons (pe_glob (v := .ref T.c_NoDuty) (by rfl) T.gc_NoDuty rfl) pa_nil))) (pa_cons (pe_callB (call_isG hmem hz.zc hfi) (by rfl) T.n_isinstance (by decide +kernel) (pa_cons (pv 0) (pa_cons (pe_glob (v := .ref T.c_NoGift) (by rfl) T.gc_NoGift rfl) pa_nil))) pa_nil)))))))
        (pss_cons (ps_set (i := 1) sc_lwhich.nd rfl (.inr rfl) (pe_op op_cat (pv 1) (pe_lst (pa_cons (pe_callB (call_isG hmem hz.zc hfi) (by rfl) T.n_isinstance (by decide +kernel) (pa_cons (pv 0) (pa_cons (pe_glob (v := .ref T.c_Unlike) (by rfl) T.gc_Unlike rfl) pa_nil))) (pa_cons (pe_callB (call_isG hmem hz.zc hfi) (by rfl) T.n_isinstance (by decide +kernel) (pa_cons (pv 0) (pa_cons (pe_glob (v := .ref T.c_NoFact) (by rfl) T.gc_NoFact rfl) pa_nil))) (pa_cons (pe_callB (call_isG hmem hz.zc hfi) (by rfl) T.n_isinstance (by decide +kernel) (pa_cons (pv 0) (pa_cons (pe_glob (v := .ref T.c_NoBack) (by rfl) T.gc_NoBack rfl) pa_nil))) (pa_cons (pe_callB (call_isG hmem hz.zc hfi) (by rfl) T.n_isinstance (by decide +kernel) (pa_cons (pv 0) (pa_cons (pe_glob (v := .ref T.c_NoDeed) (by rfl) T.gc_NoDeed rfl) pa_nil))) pa_nil)))))))
        (pss_cons (ps_set (i := 1) sc_lwhich.nd rfl (.inr rfl) (pe_op op_cat (pv 1) (pe_lst (pa_cons (pe_callB (call_isG hmem hz.zc hfi) (by rfl) T.n_isinstance (by decide +kernel) (pa_cons (pv 0) (pa_cons (pe_glob (v := .ref T.c_NoText) (by rfl) T.gc_NoText rfl) pa_nil))) (pa_cons (pe_callB (call_isG hmem hz.zc hfi) (by rfl) T.n_isinstance (by decide +kernel) (pa_cons (pv 0) (pa_cons (pe_glob (v := .ref T.c_NoRow) (by rfl) T.gc_NoRow rfl) pa_nil))) (pa_cons (pe_callB (call_isG hmem hz.zc hfi) (by rfl) T.n_isinstance (by decide +kernel) (pa_cons (pv 0) (pa_cons (pe_glob (v := .ref T.c_Taken) (by rfl) T.gc_Taken rfl) pa_nil))) (pa_cons (pe_callB (call_isG hmem hz.zc hfi) (by rfl) T.n_isinstance (by decide +kernel) (pa_cons (pv 0) (pa_cons (pe_glob (v := .ref T.c_Beyond) (by rfl) T.gc_Beyond rfl) pa_nil))) pa_nil)))))))
        (pss_cons (ps_set (i := 1) sc_lwhich.nd rfl (.inr rfl) (pe_op op_cat (pv 1) (pe_lst (pa_cons (pe_callB (call_isG hmem hz.zc hfi) (by rfl) T.n_isinstance (by decide +kernel) (pa_cons (pv 0) (pa_cons (pe_glob (v := .ref T.c_Unbalanced) (by rfl) T.gc_Unbalanced rfl) pa_nil))) (pa_cons (pe_callB (call_isG hmem hz.zc hfi) (by rfl) T.n_isinstance (by decide +kernel) (pa_cons (pv 0) (pa_cons (pe_glob (v := .ref T.c_Astray) (by rfl) T.gc_Astray rfl) pa_nil))) pa_nil)))))
        (pss_one (ps_ret (L2H.pe_lcH (own := [("_law_k", 2)]) (g := gName 2) ⟨(a, oe), hot, hmem⟩ sc_lwhich.nd (L2H.pi_range1H (by rfl) T.n_range (pa_cons (pe_callB call_len_seq (by rfl) T.n_len (by decide +kernel) (pa_cons (pv 1) pa_nil)) pa_nil)) (blkOk_by (own := [("_law_k", 2)]) (N := ["_law_e", "_law_some", "_law_k"]) (sc := defScope s_lwhich) (by decide +kernel)) (fun _ _ _ _ _ => (pg_name (i := 2) sc_lwhich.nd rfl (.inl rfl))) (fun _ _ _ _ _ => (pts_one (pt_val (pe_ix (show IxR _ (rIxL K) from ix_list) (pv 1) (pv 2) (fun _ _ => rfl))))) (fun _ _ _ _ _ => (pv 2)))))))))), ?_⟩
    have xc := T.xcs hi
    have kk : ∀ j, j < 18 → PySem.W.kitOne K (.ref (T.cs.getD i 0)) (.ref (T.cs.getD j 0)) = some (decide (i = j)) := fun j hj => rowsE_at T.kall hi hj
    refine ⟨_, rfl, _, _, _, _, hc, xc, hd, rfl, .own _, kk 0 (by decide), ?_⟩
    refine ⟨_, rfl, _, _, _, _, hc, xc, hd, rfl, .own _, kk 1 (by decide), ?_⟩
    refine ⟨_, rfl, _, _, _, _, hc, xc, hd, rfl, .own _, kk 2 (by decide), ?_⟩
    refine ⟨_, rfl, _, _, _, _, hc, xc, hd, rfl, .own _, kk 3 (by decide), ?_⟩
    refine ⟨by show 4 ≤ sizeLine; decide, fun t1 n1 => ?_⟩
    obtain ⟨H1, f1, e1, h1⟩ : ∃ B, B = upd H t1 (.lst [V.bl (decide (i = 0)), V.bl (decide (i = 1)), V.bl (decide (i = 2)), V.bl (decide (i = 3))]) ∧ Same H B ∧ B t1 = some (.lst [V.bl (decide (i = 0)), V.bl (decide (i = 1)), V.bl (decide (i = 2)), V.bl (decide (i = 3))]) := ⟨_, rfl, same_new n1, upd_same⟩
    rw [← f1]
    have g1 := e1
    refine ⟨_, rfl, _, rfl, _, _, _, _, hc, xc, hd.sm g1, rfl, .own _, kk 4 (by decide), ?_⟩
    refine ⟨_, rfl, _, _, _, _, hc, xc, hd.sm g1, rfl, .own _, kk 5 (by decide), ?_⟩
    refine ⟨_, rfl, _, _, _, _, hc, xc, hd.sm g1, rfl, .own _, kk 6 (by decide), ?_⟩
    refine ⟨_, rfl, _, _, _, _, hc, xc, hd.sm g1, rfl, .own _, kk 7 (by decide), ?_⟩
    refine ⟨by show 4 ≤ sizeLine; decide, fun t2 n2 => ?_⟩
    obtain ⟨H2, f2, e2, h2⟩ : ∃ B, B = upd H1 t2 (.lst [V.bl (decide (i = 4)), V.bl (decide (i = 5)), V.bl (decide (i = 6)), V.bl (decide (i = 7))]) ∧ Same H1 B ∧ B t2 = some (.lst [V.bl (decide (i = 4)), V.bl (decide (i = 5)), V.bl (decide (i = 6)), V.bl (decide (i = 7))]) := ⟨_, rfl, same_new n2, upd_same⟩
    rw [← f2]
    have g2 := g1.trans e2
    refine ⟨t1, t2, _, _, rfl, rfl, e2 _ _ h1, h2, by show 8 ≤ sizeLine; decide, fun p2 m2 => ?_⟩
    obtain ⟨G2, j2, k2, l2⟩ : ∃ B, B = upd H2 p2 (.lst [V.bl (decide (i = 0)), V.bl (decide (i = 1)), V.bl (decide (i = 2)), V.bl (decide (i = 3)), V.bl (decide (i = 4)), V.bl (decide (i = 5)), V.bl (decide (i = 6)), V.bl (decide (i = 7))]) ∧ Same H2 B ∧ B p2 = some (.lst [V.bl (decide (i = 0)), V.bl (decide (i = 1)), V.bl (decide (i = 2)), V.bl (decide (i = 3)), V.bl (decide (i = 4)), V.bl (decide (i = 5)), V.bl (decide (i = 6)), V.bl (decide (i = 7))]) := ⟨_, rfl, same_new m2, upd_same⟩
    rw [show upd H2 p2 (.lst (_ ++ _)) = G2 from j2.symm]
    have q2 := g2.trans k2
    refine ⟨_, rfl, _, rfl, _, _, _, _, hc, xc, hd.sm q2, rfl, .own _, kk 8 (by decide), ?_⟩
    refine ⟨_, rfl, _, _, _, _, hc, xc, hd.sm q2, rfl, .own _, kk 9 (by decide), ?_⟩
    refine ⟨_, rfl, _, _, _, _, hc, xc, hd.sm q2, rfl, .own _, kk 10 (by decide), ?_⟩
    refine ⟨_, rfl, _, _, _, _, hc, xc, hd.sm q2, rfl, .own _, kk 11 (by decide), ?_⟩
    refine ⟨by show 4 ≤ sizeLine; decide, fun t3 n3 => ?_⟩
    obtain ⟨H3, f3, e3, h3⟩ : ∃ B, B = upd G2 t3 (.lst [V.bl (decide (i = 8)), V.bl (decide (i = 9)), V.bl (decide (i = 10)), V.bl (decide (i = 11))]) ∧ Same G2 B ∧ B t3 = some (.lst [V.bl (decide (i = 8)), V.bl (decide (i = 9)), V.bl (decide (i = 10)), V.bl (decide (i = 11))]) := ⟨_, rfl, same_new n3, upd_same⟩
    rw [← f3]
    have g3 := q2.trans e3
    refine ⟨p2, t3, _, _, rfl, rfl, e3 _ _ l2, h3, by show 12 ≤ sizeLine; decide, fun p3 m3 => ?_⟩
    obtain ⟨G3, j3, k3, l3⟩ : ∃ B, B = upd H3 p3 (.lst [V.bl (decide (i = 0)), V.bl (decide (i = 1)), V.bl (decide (i = 2)), V.bl (decide (i = 3)), V.bl (decide (i = 4)), V.bl (decide (i = 5)), V.bl (decide (i = 6)), V.bl (decide (i = 7)), V.bl (decide (i = 8)), V.bl (decide (i = 9)), V.bl (decide (i = 10)), V.bl (decide (i = 11))]) ∧ Same H3 B ∧ B p3 = some (.lst [V.bl (decide (i = 0)), V.bl (decide (i = 1)), V.bl (decide (i = 2)), V.bl (decide (i = 3)), V.bl (decide (i = 4)), V.bl (decide (i = 5)), V.bl (decide (i = 6)), V.bl (decide (i = 7)), V.bl (decide (i = 8)), V.bl (decide (i = 9)), V.bl (decide (i = 10)), V.bl (decide (i = 11))]) := ⟨_, rfl, same_new m3, upd_same⟩
    rw [show upd H3 p3 (.lst (_ ++ _)) = G3 from j3.symm]
    have q3 := g3.trans k3
    refine ⟨_, rfl, _, rfl, _, _, _, _, hc, xc, hd.sm q3, rfl, .own _, kk 12 (by decide), ?_⟩
    refine ⟨_, rfl, _, _, _, _, hc, xc, hd.sm q3, rfl, .own _, kk 13 (by decide), ?_⟩
    refine ⟨_, rfl, _, _, _, _, hc, xc, hd.sm q3, rfl, .own _, kk 14 (by decide), ?_⟩
    refine ⟨_, rfl, _, _, _, _, hc, xc, hd.sm q3, rfl, .own _, kk 15 (by decide), ?_⟩
    refine ⟨by show 4 ≤ sizeLine; decide, fun t4 n4 => ?_⟩
    obtain ⟨H4, f4, e4, h4⟩ : ∃ B, B = upd G3 t4 (.lst [V.bl (decide (i = 12)), V.bl (decide (i = 13)), V.bl (decide (i = 14)), V.bl (decide (i = 15))]) ∧ Same G3 B ∧ B t4 = some (.lst [V.bl (decide (i = 12)), V.bl (decide (i = 13)), V.bl (decide (i = 14)), V.bl (decide (i = 15))]) := ⟨_, rfl, same_new n4, upd_same⟩
    rw [← f4]
    have g4 := q3.trans e4
    refine ⟨p3, t4, _, _, rfl, rfl, e4 _ _ l3, h4, by show 16 ≤ sizeLine; decide, fun p4 m4 => ?_⟩
    obtain ⟨G4, j4, k4, l4⟩ : ∃ B, B = upd H4 p4 (.lst [V.bl (decide (i = 0)), V.bl (decide (i = 1)), V.bl (decide (i = 2)), V.bl (decide (i = 3)), V.bl (decide (i = 4)), V.bl (decide (i = 5)), V.bl (decide (i = 6)), V.bl (decide (i = 7)), V.bl (decide (i = 8)), V.bl (decide (i = 9)), V.bl (decide (i = 10)), V.bl (decide (i = 11)), V.bl (decide (i = 12)), V.bl (decide (i = 13)), V.bl (decide (i = 14)), V.bl (decide (i = 15))]) ∧ Same H4 B ∧ B p4 = some (.lst [V.bl (decide (i = 0)), V.bl (decide (i = 1)), V.bl (decide (i = 2)), V.bl (decide (i = 3)), V.bl (decide (i = 4)), V.bl (decide (i = 5)), V.bl (decide (i = 6)), V.bl (decide (i = 7)), V.bl (decide (i = 8)), V.bl (decide (i = 9)), V.bl (decide (i = 10)), V.bl (decide (i = 11)), V.bl (decide (i = 12)), V.bl (decide (i = 13)), V.bl (decide (i = 14)), V.bl (decide (i = 15))]) := ⟨_, rfl, same_new m4, upd_same⟩
    rw [show upd H4 p4 (.lst (_ ++ _)) = G4 from j4.symm]
    have q4 := g4.trans k4
    refine ⟨_, rfl, _, rfl, _, _, _, _, hc, xc, hd.sm q4, rfl, .own _, kk 16 (by decide), ?_⟩
    refine ⟨_, rfl, _, _, _, _, hc, xc, hd.sm q4, rfl, .own _, kk 17 (by decide), ?_⟩
    refine ⟨by show 2 ≤ sizeLine; decide, fun t5 n5 => ?_⟩
    obtain ⟨H5, f5, e5, h5⟩ : ∃ B, B = upd G4 t5 (.lst [V.bl (decide (i = 16)), V.bl (decide (i = 17))]) ∧ Same G4 B ∧ B t5 = some (.lst [V.bl (decide (i = 16)), V.bl (decide (i = 17))]) := ⟨_, rfl, same_new n5, upd_same⟩
    rw [← f5]
    have g5 := q4.trans e5
    refine ⟨p4, t5, _, _, rfl, rfl, e5 _ _ l4, h5, by show 18 ≤ sizeLine; decide, fun p5 m5 => ?_⟩
    obtain ⟨G5, j5, k5, l5⟩ : ∃ B, B = upd H5 p5 (.lst [V.bl (decide (i = 0)), V.bl (decide (i = 1)), V.bl (decide (i = 2)), V.bl (decide (i = 3)), V.bl (decide (i = 4)), V.bl (decide (i = 5)), V.bl (decide (i = 6)), V.bl (decide (i = 7)), V.bl (decide (i = 8)), V.bl (decide (i = 9)), V.bl (decide (i = 10)), V.bl (decide (i = 11)), V.bl (decide (i = 12)), V.bl (decide (i = 13)), V.bl (decide (i = 14)), V.bl (decide (i = 15)), V.bl (decide (i = 16)), V.bl (decide (i = 17))]) ∧ Same H5 B ∧ B p5 = some (.lst [V.bl (decide (i = 0)), V.bl (decide (i = 1)), V.bl (decide (i = 2)), V.bl (decide (i = 3)), V.bl (decide (i = 4)), V.bl (decide (i = 5)), V.bl (decide (i = 6)), V.bl (decide (i = 7)), V.bl (decide (i = 8)), V.bl (decide (i = 9)), V.bl (decide (i = 10)), V.bl (decide (i = 11)), V.bl (decide (i = 12)), V.bl (decide (i = 13)), V.bl (decide (i = 14)), V.bl (decide (i = 15)), V.bl (decide (i = 16)), V.bl (decide (i = 17))]) := ⟨_, rfl, same_new m5, upd_same⟩
    rw [show upd H5 p5 (.lst (_ ++ _)) = G5 from j5.symm]
    have q5 := g5.trans k5
    have ls : ([V.bl (decide (i = 0)), V.bl (decide (i = 1)), V.bl (decide (i = 2)), V.bl (decide (i = 3)), V.bl (decide (i = 4)), V.bl (decide (i = 5)), V.bl (decide (i = 6)), V.bl (decide (i = 7)), V.bl (decide (i = 8)), V.bl (decide (i = 9)), V.bl (decide (i = 10)), V.bl (decide (i = 11)), V.bl (decide (i = 12)), V.bl (decide (i = 13)), V.bl (decide (i = 14)), V.bl (decide (i = 15)), V.bl (decide (i = 16)), V.bl (decide (i = 17))] : List V) = (List.range 18).map fun j => V.bl (decide (i = j)) := rfl
    rw [ls] at l5
    refine ⟨_, rfl, p5, _, rfl, .inl (.inl (.inl l5)), _, rfl, by rw [List.length_map, List.length_range]; omega, by rw [List.length_map, List.length_range]; omega, fun L nL => ?_⟩
    rw [show (((List.range 18).map fun j => V.bl (decide (i = j))).length : Int).toNat = 18 from by rw [List.length_map, List.length_range]; rfl]
    refine lc_range (lo := 0) (n := 18) (fun j H' => H' L = some (.lst (((List.range j).filter fun j => decide (i = j)).map fun j : Nat => V.int j)) ∧ Same G5 H') ⟨upd_same, same_new nL⟩ ?_ ?_
    · rintro j H' hj ⟨hL, s1⟩
      have ej : (0 : Int) + (j : Nat) = ((j : Nat) : Int) := by omega
      rw [ej]
      have hl : ((List.range 18).map fun j => V.bl (decide (i = j)))[j]? = some (V.bl (decide (i = j))) := by rw [List.getElem?_map, List.getElem?_range hj]; rfl
      refine ⟨rfl, _, rfl, _, rfl, p5, _, _, _, rfl, rfl, .inl (.inl (s1 _ _ l5)), atI_nat hl, _, rfl, ?_⟩
      rw [List.range_succ, List.filter_append, List.map_append]
      by_cases c : i = j
      · subst c
        rw [decide_eq_true rfl]
        refine iteT ⟨_, rfl, _, hL, by rw [List.length_map]; have := List.length_filter_le (fun j => decide (i = j)) (List.range i); rw [List.length_range] at this; exact small1000 (by omega), ?_, same_upd s1 nL⟩
        rw [upd_same]
        simp
      · rw [decide_eq_false c]
        refine iteF ⟨?_, s1⟩
        rw [hL]
        simp [c]
    rintro H' ⟨hL, s1⟩
    have nH : H L = none := by
      cases e : H L with
      | none => rfl
      | some o => rw [q5 _ _ e] at nL; cases nL
    exact q L H' (q5.trans s1) nH hL
end
end WS
set_option Elab.async false
set_option linter.all false
set_option maxRecDepth 100000
set_option maxHeartbeats 4000000
namespace WS
open PySem PySem.Spec PyProof.Rows L2
section
variable {P : Program} {w : World} {K : PySem.W.Frag} {mg : Str → Option Value} {base : Heap}
open TL
theorem ok_lraised (T : Tx K mg) : FnOk P w K mg base CX0 3 T.f_lraised T.d_lraised ["_law_k", "_law_things_here"] spRaised10 := by
  refine T.F_lraised.ok sc_lraised (fun vs H Q E h => ?_) (fun cdv A outer s H vs Q E hr h => ?_)
  · obtain ⟨k, L, xs, rfl, _⟩ := h
    rfl
  · obtain ⟨k, L, xs, rfl, k0, k1, hL, xl, q⟩ := h
    refine ⟨_, (pss_cons (ps_set (i := 2) sc_lraised.nd rfl (.inl rfl) pe_non)
        (pss_cons (L2N.ps_try_as (i := 3) rfl rfl sc_lraised.nd rfl rfl ⟨rfl, by decide, .inl T.gc_ClubError⟩ takes0N
      (fun W pn xe tk _ => (pss_cons (ps_if (pt_cmpR op_eq (pv 0) pe_int (nomark _)) (pss_one (L2N.ps_raise rfl tk (pmk_oexN T.oc_Taken T.ic_Taken T.ti_Taken (ok_Taken_init T) (hr.mono (by decide)) T.bi_Taken pass0 (by rfl) T.gc_Taken (pa_cons (pe_ix (show IxR _ (rIxL K) from ix_list) (pv 1) pe_int (fun _ _ => rfl)) pa_nil)))) pss_nil)
        (pss_cons (ps_if (pt_cmpR op_eq (pv 0) pe_int (nomark _)) (pss_one (L2N.ps_raise rfl tk (pmk_oexN T.oc_Beyond T.ic_Beyond T.ti_Beyond (ok_Beyond_init T) (hr.mono (by decide)) T.bi_Beyond pass0 (by rfl) T.gc_Beyond (pa_cons (pe_ix (show IxR _ (rIxL K) from ix_list) (pv 1) pe_int (fun _ _ => rfl)) (pa_cons (pe_ix (show IxR _ (rIxL K) from ix_list) (pv 1) pe_int (fun _ _ => rfl)) pa_nil))))) pss_nil)
        (pss_cons (ps_if (pt_cmpR op_eq (pv 0) pe_int (nomark _)) (pss_one (L2N.ps_raise rfl tk (pmk_oexN T.oc_Unbalanced T.ic_Unbalanced T.ti_Unbalanced (ok_Unbalanced_init T) (hr.mono (by decide)) T.bi_Unbalanced pass0 (by rfl) T.gc_Unbalanced (pa_cons (pe_ix (show IxR _ (rIxL K) from ix_list) (pv 1) pe_int (fun _ _ => rfl)) pa_nil)))) pss_nil)
        (pss_cons (ps_if (pt_cmpR op_eq (pv 0) pe_int (nomark _)) (pss_one (L2N.ps_raise rfl tk (pmk_oexN T.oc_Astray T.ic_Astray T.ti_Astray (ok_Astray_init T) (hr.mono (by decide)) T.bi_Astray pass0 (by rfl) T.gc_Astray (pa_cons (pe_ix (show IxR _ (rIxL K) from ix_list) (pv 1) pe_int (fun _ _ => rfl)) (pa_cons (pe_ix (show IxR _ (rIxL K) from ix_list) (pv 1) pe_int (fun _ _ => rfl)) (pa_cons (pe_ix (show IxR _ (rIxL K) from ix_list) (pv 1) pe_int (fun _ _ => rfl)) pa_nil)))))) pss_nil)
        (pss_one (L2N.ps_raise rfl tk (L2N.pmk_own PySem.F.excBase_ValueError T.x_ClubError T.gc_ClubError T.kc_ClubError (raises_own T.bc_ClubError T.tc_ClubError) (by rfl)))))))))
      (fun a oe cls d pn hz hf => (pss_one (ps_set (i := 2) sc_lraised.nd rfl (.inl rfl) (pe_and (pe_callB (show CallR _ (.builtin "isinstance") (rIsG K a cls d) from call_isG List.mem_cons_self hz.zc hf) (by rfl) T.n_isinstance (by decide +kernel) (pa_cons (pv 3) (pa_cons (pe_bltn (v := .ty "ValueError") (by rfl) T.n_ValueError (by decide +kernel) rfl) pa_nil))) (pe_one (pe_cmpR (show OpR _ _ (rEqD K) from op_eqD (by exact hr.units)) (pe_callHot (p := (a, oe)) (ok_lwhichH T (hot_of hz hf) hz) (room_hot (hr.mono (by decide))) List.mem_cons_self (by rfl) T.g_lwhich T.F_lwhich.kp T.b_lwhich (pa_cons (pv 3) pa_nil)) (L2H.pe_lcH (own := [("_law_one", 4)]) (g := gName 4) ⟨(a, oe), hot_of hz hf, List.mem_cons_self⟩ sc_lraised.nd (L2H.pi_listKH (K := K) rfl (pe_lst (pa_cons (pv 0) pa_nil))) (blkOk_by (own := [("_law_one", 4)]) (N := ["_law_k", "_law_things_here", "_law_found", "_law_e", "_law_one"]) (sc := defScope s_lraised) (by decide +kernel)) (fun _ _ _ _ _ => (pg_name (i := 4) sc_lraised.nd rfl (.inl rfl))) (fun _ _ _ _ _ => (pts_one (pt_cmpR op_gt (pv 0) pe_int (nomark _)))) (fun _ _ _ _ _ => (pv 4))) (nomark _))))))))
        (pss_one (ps_ret (pv 2))))), ?_⟩
    have l0 : ∀ j, j < 5 → ∃ v, xs[j]? = some v := fun j hj => ⟨_, List.getElem?_eq_getElem (by omega)⟩
    obtain ⟨v0, hv0⟩ := l0 0 (by decide)
    obtain ⟨v1, hv1⟩ := l0 1 (by decide)
    obtain ⟨v2, hv2⟩ := l0 2 (by decide)
    obtain ⟨v3, hv3⟩ := l0 3 (by decide)
    obtain ⟨v4, hv4⟩ := l0 4 (by decide)
    have ks : k = 13 ∨ k = 14 ∨ k = 15 ∨ k = 16 ∨ k = 17 := by omega
    rcases ks with rfl | rfl | rfl | rfl | rfl
    · show _
      refine ⟨_, rfl, rfl, _, rfl, iteF ?_⟩
      refine ⟨_, rfl, rfl, _, rfl, iteF ?_⟩
      refine ⟨_, rfl, rfl, _, rfl, iteF ?_⟩
      refine ⟨_, rfl, rfl, _, rfl, iteF ?_⟩
      have s1 : Same H H := Same.refl H
      have hd : DictIs none H := .inl rfl
      refine ⟨true, T.em_ClubError_ClubError, fun _ e ne => ?_, fun z => nomatch z⟩
      refine ⟨_, rfl, _, _, _, true, rfl, T.xc_ClubError, hd, rfl, .ty "ValueError", ve_kit T.sv_ClubError, true, rfl, iteT ?_⟩
      refine ⟨_, rfl, rfl, hd, 18, by decide, rfl, fun W H2 s2 nW hW => ?_⟩
      refine ⟨_, rfl, by show 1 ≤ sizeLine; decide, fun M nM => ?_⟩
      obtain ⟨H3, f3, s3, hM⟩ : ∃ B, B = upd H2 M (.lst [V.int ((13 : Nat) : Int)]) ∧ Same H2 B ∧ B M = some (.lst [V.int ((13 : Nat) : Int)]) := ⟨_, rfl, same_new nM, upd_same⟩
      rw [← f3]
      refine ⟨M, rfl, ⟨_, .inl (.inl hM)⟩, fun R nR => ?_⟩
      refine lc_list (K := K) (a := M) (xs := [V.int ((13 : Nat) : Int)]) (fun j H' => H' R = some (.lst ([])) ∧ Same H3 H') ⟨upd_same, same_new nR⟩ (fun j H' _ ⟨_, s⟩ => .inl (.inl (s _ _ hM))) ?_ ?_
      · rintro j x H' hx ⟨hR, s4⟩
        refine ⟨rfl, _, rfl, _, _, rfl, rfl, _, rfl, iteF ⟨hR, s4⟩⟩
      rintro H' ⟨hR, s4⟩
      have hW' : H' W = some (.lst (([] : List Int).map V.int)) := s4 _ _ (s3 _ _ hW)
      have hR' : H' R = some (.lst (([] : List Int).map V.int)) := hR
      refine ⟨.list (([] : List Int).map PyData.int), .list (([] : List Int).map PyData.int), ints_dp (.inl (.inl hW')), ints_dp (.inl (.inl hR')), by rfl, by rfl, ?_⟩
      rw [eqv_refl_ints]
      exact ⟨_, rfl, q H' (s1.trans (s2.trans (s3.trans s4)))⟩
    · show _
      refine ⟨_, rfl, rfl, _, rfl, iteT ?_⟩
      refine ⟨_, rfl, L, _, 0, _, rfl, rfl, .inl (.inl hL), atI_nat (j := 0) hv0, by show 1 ≤ 1000; decide, fun a na => ?_⟩
      refine ⟨a, _, rfl, upd_same, fun d hd ne => ⟨rfl, d, _, upd_same, (by rw [upd_ne ne]; exact upd_same), (by rw [upd_ne ne] at hd; exact hd), ?_⟩⟩
      rw [del_made1 na ne]
      rw [upd_ne ne] at hd
      have nd : H d = none := hd
      clear hd
      have s1 := same_new (H := H) (o := (.xd [("person", v0)])) nd
      have hd : DictIs (some d) (upd H d (.xd [("person", v0)])) := .inr ⟨d, _, rfl, upd_same⟩
      generalize hH1 : upd H d (.xd [("person", v0)]) = H1 at s1 hd ⊢
      refine ⟨true, T.em_Taken_ClubError, fun _ e ne => ?_, fun z => nomatch z⟩
      refine ⟨_, rfl, _, _, _, true, rfl, T.xc_Taken, hd, rfl, .ty "ValueError", ve_kit T.sv_Taken, true, rfl, iteT ?_⟩
      refine ⟨_, rfl, rfl, hd, 14, by decide, rfl, fun W H2 s2 nW hW => ?_⟩
      refine ⟨_, rfl, by show 1 ≤ sizeLine; decide, fun M nM => ?_⟩
      obtain ⟨H3, f3, s3, hM⟩ : ∃ B, B = upd H2 M (.lst [V.int ((14 : Nat) : Int)]) ∧ Same H2 B ∧ B M = some (.lst [V.int ((14 : Nat) : Int)]) := ⟨_, rfl, same_new nM, upd_same⟩
      rw [← f3]
      refine ⟨M, rfl, ⟨_, .inl (.inl hM)⟩, fun R nR => ?_⟩
      refine lc_list (K := K) (a := M) (xs := [V.int ((14 : Nat) : Int)]) (fun j H' => H' R = some (.lst ([V.int ((14 : Nat) : Int)].take j)) ∧ Same H3 H') ⟨upd_same, same_new nR⟩ (fun j H' _ ⟨_, s⟩ => .inl (.inl (s _ _ hM))) ?_ ?_
      · rintro j x H' hx ⟨hR, s4⟩
        have hj : j = 0 := by
          have := (List.getElem?_eq_some_iff.mp hx).1
          simp at this
          omega
        subst hj
        cases hx
        exact ⟨rfl, _, rfl, _, _, rfl, rfl, _, rfl, iteT ⟨_, rfl, _, hR, by decide, upd_same, same_upd s4 nR⟩⟩
      rintro H' ⟨hR, s4⟩
      have hW' : H' W = some (.lst (([((14 : Nat) : Int)] : List Int).map V.int)) := s4 _ _ (s3 _ _ hW)
      have hR' : H' R = some (.lst (([((14 : Nat) : Int)] : List Int).map V.int)) := hR
      refine ⟨.list (([((14 : Nat) : Int)] : List Int).map PyData.int), .list (([((14 : Nat) : Int)] : List Int).map PyData.int), ints_dp (.inl (.inl hW')), ints_dp (.inl (.inl hR')), by rfl, by rfl, ?_⟩
      rw [eqv_refl_ints]
      exact ⟨_, rfl, q H' (s1.trans (s2.trans (s3.trans s4)))⟩
    · show _
      refine ⟨_, rfl, rfl, _, rfl, iteF ?_⟩
      refine ⟨_, rfl, rfl, _, rfl, iteT ?_⟩
      refine ⟨_, rfl, L, _, 1, _, rfl, rfl, .inl (.inl hL), atI_nat (j := 1) hv1, _, rfl, L, _, 2, _, rfl, rfl, .inl (.inl hL), atI_nat (j := 2) hv2, by show 2 ≤ 1000; decide, fun a na => ?_⟩
      refine ⟨a, _, _, rfl, upd_same, fun d hd ne => ⟨rfl, d, _, (by rw [upd_ne (fun z => ne z.symm)]; exact upd_same), upd_same, (by rw [upd_ne ne] at hd; exact hd), ?_⟩⟩
      rw [del_made na ne]
      rw [upd_ne ne] at hd
      have nd : H d = none := hd
      clear hd
      have s1 := same_new (H := H) (o := (.xd [("seats", v2), ("many", v1)])) nd
      have hd : DictIs (some d) (upd H d (.xd [("seats", v2), ("many", v1)])) := .inr ⟨d, _, rfl, upd_same⟩
      generalize hH1 : upd H d (.xd [("seats", v2), ("many", v1)]) = H1 at s1 hd ⊢
      refine ⟨true, T.em_Beyond_ClubError, fun _ e ne => ?_, fun z => nomatch z⟩
      refine ⟨_, rfl, _, _, _, true, rfl, T.xc_Beyond, hd, rfl, .ty "ValueError", ve_kit T.sv_Beyond, true, rfl, iteT ?_⟩
      refine ⟨_, rfl, rfl, hd, 15, by decide, rfl, fun W H2 s2 nW hW => ?_⟩
      refine ⟨_, rfl, by show 1 ≤ sizeLine; decide, fun M nM => ?_⟩
      obtain ⟨H3, f3, s3, hM⟩ : ∃ B, B = upd H2 M (.lst [V.int ((15 : Nat) : Int)]) ∧ Same H2 B ∧ B M = some (.lst [V.int ((15 : Nat) : Int)]) := ⟨_, rfl, same_new nM, upd_same⟩
      rw [← f3]
      refine ⟨M, rfl, ⟨_, .inl (.inl hM)⟩, fun R nR => ?_⟩
      refine lc_list (K := K) (a := M) (xs := [V.int ((15 : Nat) : Int)]) (fun j H' => H' R = some (.lst ([V.int ((15 : Nat) : Int)].take j)) ∧ Same H3 H') ⟨upd_same, same_new nR⟩ (fun j H' _ ⟨_, s⟩ => .inl (.inl (s _ _ hM))) ?_ ?_
      · rintro j x H' hx ⟨hR, s4⟩
        have hj : j = 0 := by
          have := (List.getElem?_eq_some_iff.mp hx).1
          simp at this
          omega
        subst hj
        cases hx
        exact ⟨rfl, _, rfl, _, _, rfl, rfl, _, rfl, iteT ⟨_, rfl, _, hR, by decide, upd_same, same_upd s4 nR⟩⟩
      rintro H' ⟨hR, s4⟩
      have hW' : H' W = some (.lst (([((15 : Nat) : Int)] : List Int).map V.int)) := s4 _ _ (s3 _ _ hW)
      have hR' : H' R = some (.lst (([((15 : Nat) : Int)] : List Int).map V.int)) := hR
      refine ⟨.list (([((15 : Nat) : Int)] : List Int).map PyData.int), .list (([((15 : Nat) : Int)] : List Int).map PyData.int), ints_dp (.inl (.inl hW')), ints_dp (.inl (.inl hR')), by rfl, by rfl, ?_⟩
      rw [eqv_refl_ints]
      exact ⟨_, rfl, q H' (s1.trans (s2.trans (s3.trans s4)))⟩
    · show _
      refine ⟨_, rfl, rfl, _, rfl, iteF ?_⟩
      refine ⟨_, rfl, rfl, _, rfl, iteF ?_⟩
      refine ⟨_, rfl, rfl, _, rfl, iteT ?_⟩
      refine ⟨_, rfl, L, _, 3, _, rfl, rfl, .inl (.inl hL), atI_nat (j := 3) hv3, by show 1 ≤ 1000; decide, fun a na => ?_⟩
      refine ⟨a, _, rfl, upd_same, fun d hd ne => ⟨rfl, d, _, upd_same, (by rw [upd_ne ne]; exact upd_same), (by rw [upd_ne ne] at hd; exact hd), ?_⟩⟩
      rw [del_made1 na ne]
      rw [upd_ne ne] at hd
      have nd : H d = none := hd
      clear hd
      have s1 := same_new (H := H) (o := (.xd [("owed", v3)])) nd
      have hd : DictIs (some d) (upd H d (.xd [("owed", v3)])) := .inr ⟨d, _, rfl, upd_same⟩
      generalize hH1 : upd H d (.xd [("owed", v3)]) = H1 at s1 hd ⊢
      refine ⟨true, T.em_Unbalanced_ClubError, fun _ e ne => ?_, fun z => nomatch z⟩
      refine ⟨_, rfl, _, _, _, true, rfl, T.xc_Unbalanced, hd, rfl, .ty "ValueError", ve_kit T.sv_Unbalanced, true, rfl, iteT ?_⟩
      refine ⟨_, rfl, rfl, hd, 16, by decide, rfl, fun W H2 s2 nW hW => ?_⟩
      refine ⟨_, rfl, by show 1 ≤ sizeLine; decide, fun M nM => ?_⟩
      obtain ⟨H3, f3, s3, hM⟩ : ∃ B, B = upd H2 M (.lst [V.int ((16 : Nat) : Int)]) ∧ Same H2 B ∧ B M = some (.lst [V.int ((16 : Nat) : Int)]) := ⟨_, rfl, same_new nM, upd_same⟩
      rw [← f3]
      refine ⟨M, rfl, ⟨_, .inl (.inl hM)⟩, fun R nR => ?_⟩
      refine lc_list (K := K) (a := M) (xs := [V.int ((16 : Nat) : Int)]) (fun j H' => H' R = some (.lst ([V.int ((16 : Nat) : Int)].take j)) ∧ Same H3 H') ⟨upd_same, same_new nR⟩ (fun j H' _ ⟨_, s⟩ => .inl (.inl (s _ _ hM))) ?_ ?_
      · rintro j x H' hx ⟨hR, s4⟩
        have hj : j = 0 := by
          have := (List.getElem?_eq_some_iff.mp hx).1
          simp at this
          omega
        subst hj
        cases hx
        exact ⟨rfl, _, rfl, _, _, rfl, rfl, _, rfl, iteT ⟨_, rfl, _, hR, by decide, upd_same, same_upd s4 nR⟩⟩
      rintro H' ⟨hR, s4⟩
      have hW' : H' W = some (.lst (([((16 : Nat) : Int)] : List Int).map V.int)) := s4 _ _ (s3 _ _ hW)
      have hR' : H' R = some (.lst (([((16 : Nat) : Int)] : List Int).map V.int)) := hR
      refine ⟨.list (([((16 : Nat) : Int)] : List Int).map PyData.int), .list (([((16 : Nat) : Int)] : List Int).map PyData.int), ints_dp (.inl (.inl hW')), ints_dp (.inl (.inl hR')), by rfl, by rfl, ?_⟩
      rw [eqv_refl_ints]
      exact ⟨_, rfl, q H' (s1.trans (s2.trans (s3.trans s4)))⟩
    · show _
      refine ⟨_, rfl, rfl, _, rfl, iteF ?_⟩
      refine ⟨_, rfl, rfl, _, rfl, iteF ?_⟩
      refine ⟨_, rfl, rfl, _, rfl, iteF ?_⟩
      refine ⟨_, rfl, rfl, _, rfl, iteT ?_⟩
      refine ⟨_, rfl, L, _, 4, _, rfl, rfl, .inl (.inl hL), atI_nat (j := 4) hv4, _, rfl, L, _, 1, _, rfl, rfl, .inl (.inl hL), atI_nat (j := 1) hv1, _, rfl, L, _, 2, _, rfl, rfl, .inl (.inl hL), atI_nat (j := 2) hv2, by show 3 ≤ 1000; decide, fun a na => ?_⟩
      refine ⟨a, _, _, _, rfl, upd_same, fun d hd ne => ⟨rfl, d, _, (by rw [upd_ne (fun z => ne z.symm), upd_ne (fun z => ne z.symm)]; exact upd_same), upd_same, (by rw [upd_ne ne] at hd; exact hd), ?_⟩⟩
      rw [del_made3 na ne]
      rw [upd_ne ne] at hd
      have nd : H d = none := hd
      clear hd
      have s1 := same_new (H := H) (o := (.xd [("seats", v2), ("many", v1), ("at", v4)])) nd
      have hd : DictIs (some d) (upd H d (.xd [("seats", v2), ("many", v1), ("at", v4)])) := .inr ⟨d, _, rfl, upd_same⟩
      generalize hH1 : upd H d (.xd [("seats", v2), ("many", v1), ("at", v4)]) = H1 at s1 hd ⊢
      refine ⟨true, T.em_Astray_ClubError, fun _ e ne => ?_, fun z => nomatch z⟩
      refine ⟨_, rfl, _, _, _, true, rfl, T.xc_Astray, hd, rfl, .ty "ValueError", ve_kit T.sv_Astray, true, rfl, iteT ?_⟩
      refine ⟨_, rfl, rfl, hd, 17, by decide, rfl, fun W H2 s2 nW hW => ?_⟩
      refine ⟨_, rfl, by show 1 ≤ sizeLine; decide, fun M nM => ?_⟩
      obtain ⟨H3, f3, s3, hM⟩ : ∃ B, B = upd H2 M (.lst [V.int ((17 : Nat) : Int)]) ∧ Same H2 B ∧ B M = some (.lst [V.int ((17 : Nat) : Int)]) := ⟨_, rfl, same_new nM, upd_same⟩
      rw [← f3]
      refine ⟨M, rfl, ⟨_, .inl (.inl hM)⟩, fun R nR => ?_⟩
      refine lc_list (K := K) (a := M) (xs := [V.int ((17 : Nat) : Int)]) (fun j H' => H' R = some (.lst ([V.int ((17 : Nat) : Int)].take j)) ∧ Same H3 H') ⟨upd_same, same_new nR⟩ (fun j H' _ ⟨_, s⟩ => .inl (.inl (s _ _ hM))) ?_ ?_
      · rintro j x H' hx ⟨hR, s4⟩
        have hj : j = 0 := by
          have := (List.getElem?_eq_some_iff.mp hx).1
          simp at this
          omega
        subst hj
        cases hx
        exact ⟨rfl, _, rfl, _, _, rfl, rfl, _, rfl, iteT ⟨_, rfl, _, hR, by decide, upd_same, same_upd s4 nR⟩⟩
      rintro H' ⟨hR, s4⟩
      have hW' : H' W = some (.lst (([((17 : Nat) : Int)] : List Int).map V.int)) := s4 _ _ (s3 _ _ hW)
      have hR' : H' R = some (.lst (([((17 : Nat) : Int)] : List Int).map V.int)) := hR
      refine ⟨.list (([((17 : Nat) : Int)] : List Int).map PyData.int), .list (([((17 : Nat) : Int)] : List Int).map PyData.int), ints_dp (.inl (.inl hW')), ints_dp (.inl (.inl hR')), by rfl, by rfl, ?_⟩
      rw [eqv_refl_ints]
      exact ⟨_, rfl, q H' (s1.trans (s2.trans (s3.trans s4)))⟩
end
end WS
set_option Elab.async false
set_option linter.all false
set_option maxRecDepth 100000
set_option maxHeartbeats 4000000
namespace WS
open PySem PySem.Spec PyProof.Rows L2
section
variable {P : Program} {w : World} {K : PySem.W.Frag} {mg : Str → Option Value} {base : Heap}
open TL
theorem ok_law (T : Tx K mg) {A : Around} (hg : Calm A) : FnAt A P w K mg base CX0 4 T.f_law T.d_law ["_law_script"] (spLaw K) := by
  refine fun_at T.F_law sc_law (fun vs H Q E h => ?_) (fun cdv outer s H vs Q E hr h => ?_)
  · obtain ⟨a, ns, rfl, _⟩ := h
    rfl
  · obtain ⟨a, ns, rfl, hS, hlen, q⟩ := h
    refine ⟨_, PSs.nox (pss_cons (ps_set (i := 1) sc_law.nd rfl (.inr rfl) (pe_call (ok_lpot T) (hr.mono (by decide)) (by rfl) T.g_lpot T.F_lpot.kp T.b_lpot .nil pass0 (pa_cons (pv 0) (pa_cons pe_int pa_nil))))
        (pss_cons (ps_set (i := 3) sc_law.nd rfl (.inl rfl) (pe_join pe_str (pe_lc (own := [("_law_turn", 2)]) (g := gName 2) (tt := tYes) (by rfl) sc_law.nd (pi_range1 (by rfl) T.n_range (pa_cons (pe_call (ok_ldigit T) (hr.mono (by decide)) (by rfl) T.g_ldigit T.F_ldigit.kp T.b_ldigit .nil pass0 (pa_cons (pv 1) (pa_cons pe_int pa_nil))) pa_nil)) (blkOk_by (own := [("_law_turn", 2)]) (N := ["_law_script", "_law_pot_here", "_law_turn", "_law_text", "_law_kept", "_law_things_here", "_law_due", "_law_made", "_law_k", "_law_e"]) (sc := defScope s_law) (by decide +kernel)) (fun _ _ _ _ _ => (pg_name (i := 2) sc_law.nd rfl (.inl rfl))) (fun _ _ _ _ _ => pts_nil) (fun _ _ _ _ _ => (pe_ix ix_str pe_str (pe_call (ok_ldigit T) (hr.mono (by decide)) (by rfl) T.g_ldigit T.F_ldigit.kp T.b_ldigit .nil pass0 (pa_cons (pv 1) (pa_cons pe_int pa_nil))) (fun _ _ => rfl))))))
        (pss_cons (ps_set (i := 4) sc_law.nd rfl (.inl rfl) (pe_lst pa_nil))
        (pss_cons (ps_for PassesOwn.never rfl (pi_range1 (by rfl) T.n_range (pa_cons pe_int pa_nil)) (pg_name (i := 2) sc_law.nd rfl (.inl rfl)) (pss_cons (ps_set (i := 5) sc_law.nd rfl (.inr rfl) (pe_call (ok_lthings T) (hr.mono (by decide)) (by rfl) T.g_lthings T.F_lthings.kp T.b_lthings .nil pass0 (pa_cons (pv 1) pa_nil)))
        (pss_cons (ps_set (i := 6) sc_law.nd rfl (.inl rfl) (pe_op op_cat (pe_op op_rep (pe_lst (pa_cons (pe_lst pa_nil) pa_nil)) pe_int) (pe_lst (pa_cons (pe_lst (pa_cons (pe_ix ix_list (pv 5) pe_int (fun _ _ => rfl)) pa_nil)) (pa_cons (pe_lst (pa_cons (pe_ix ix_list (pv 5) pe_int (fun _ _ => rfl)) (pa_cons (pe_ix ix_list (pv 5) pe_int (fun _ _ => rfl)) pa_nil))) (pa_cons (pe_lst (pa_cons (pe_ix ix_list (pv 5) pe_int (fun _ _ => rfl)) pa_nil)) (pa_cons (pe_lst (pa_cons (pe_ix ix_list (pv 5) pe_int (fun _ _ => rfl)) (pa_cons (pe_ix ix_list (pv 5) pe_int (fun _ _ => rfl)) (pa_cons (pe_ix ix_list (pv 5) pe_int (fun _ _ => rfl)) pa_nil)))) pa_nil)))))))
        (pss_cons (ps_set (i := 7) sc_law.nd rfl (.inl rfl) (pe_op op_cat (pe_call (ok_lplain T) (hr.mono (by decide)) (by rfl) T.g_lplain T.F_lplain.kp T.b_lplain .nil pass0 (pa_cons (pv 3) pa_nil)) (pe_lst (pa_cons (pe_oexV T.oc_Taken T.ic_Taken T.ti_Taken (ok_Taken_init T) (hr.mono (by decide)) T.bi_Taken .nil pass0 (by rfl) T.gc_Taken (pa_cons (pe_ix ix_list (pv 5) pe_int (fun _ _ => rfl)) pa_nil)) (pa_cons (pe_oexV T.oc_Beyond T.ic_Beyond T.ti_Beyond (ok_Beyond_init T) (hr.mono (by decide)) T.bi_Beyond .nil pass0 (by rfl) T.gc_Beyond (pa_cons (pe_ix ix_list (pv 5) pe_int (fun _ _ => rfl)) (pa_cons (pe_ix ix_list (pv 5) pe_int (fun _ _ => rfl)) pa_nil))) (pa_cons (pe_oexV T.oc_Unbalanced T.ic_Unbalanced T.ti_Unbalanced (ok_Unbalanced_init T) (hr.mono (by decide)) T.bi_Unbalanced .nil pass0 (by rfl) T.gc_Unbalanced (pa_cons (pe_ix ix_list (pv 5) pe_int (fun _ _ => rfl)) pa_nil)) pa_nil))))))
        (pss_cons (ps_expr (pe_bm PySem.F.plainAttrs_list PySem.F.slot_list_append PySem.F.type_list_append mt_append (pv 7) (pa_cons (pe_oexV T.oc_Astray T.ic_Astray T.ti_Astray (ok_Astray_init T) (hr.mono (by decide)) T.bi_Astray .nil pass0 (by rfl) T.gc_Astray (pa_cons (pe_ix ix_list (pv 5) pe_int (fun _ _ => rfl)) (pa_cons (pe_ix ix_list (pv 5) pe_int (fun _ _ => rfl)) (pa_cons (pe_ix ix_list (pv 5) pe_int (fun _ _ => rfl)) pa_nil)))) pa_nil)))
        (pss_cons (ps_for PassesOwn.never rfl (pi_enB (by rfl) T.n_enumerate (pa_cons (pv 7) pa_nil)) (pg_tup (by rfl) (pgs_cons (pg_name (i := 8) sc_law.nd rfl (.inl rfl)) (pgs_cons (pg_name (i := 9) sc_law.nd rfl (.inl rfl)) pgs_nil))) (pss_cons (ps_if (PW.pt (pw_or (pt_not (pt_val (pe_callB call_isV (by rfl) T.n_isinstance (by decide +kernel) (pa_cons (pv 9) (pa_cons (pe_glob (v := .ref T.c_ClubError) (by rfl) T.gc_ClubError rfl) pa_nil))))) (pw_or (pt_not (pt_val (pe_callB call_isV (by rfl) T.n_isinstance (by decide +kernel) (pa_cons (pv 9) (pa_cons (pe_bltn (v := .ty "ValueError") (by rfl) T.n_ValueError (by decide +kernel) rfl) pa_nil))))) (pw_or1 (pt_cmpR (op_neD hr.units) (pe_call (ok_lwhich T) (hr.mono (by decide)) (by rfl) T.g_lwhich T.F_lwhich.kp T.b_lwhich .nil pass0 (pa_cons (pv 9) pa_nil)) (pe_lst (pa_cons (pv 8) pa_nil)) (nomark _)))))) (pss_one (ps_ret pe_bl)) pss_nil)
        (pss_one (ps_expr (pe_bm PySem.F.plainAttrs_list PySem.F.slot_list_append PySem.F.type_list_append mt_append (pv 4) (pa_cons (pe_tup (pa_cons (pv 9) (pa_cons (pe_ix ix_list (pv 6) (pv 8) (fun _ _ => rfl)) pa_nil))) pa_nil))))))
        (pss_one (ps_if (pt_not (pt_val (pe_callB (cr_all (by rfl)) (by rfl) T.n_all (by decide +kernel) (pa_cons (pe_lc (own := [("_law_k", 8)]) (g := gName 8) (tt := tYes) (by rfl) sc_law.nd (pi_range2 (by rfl) T.n_range (pa_cons pe_int (pa_cons pe_int pa_nil))) (blkOk_by (own := [("_law_k", 8)]) (N := ["_law_script", "_law_pot_here", "_law_turn", "_law_text", "_law_kept", "_law_things_here", "_law_due", "_law_made", "_law_k", "_law_e"]) (sc := defScope s_law) (by decide +kernel)) (fun _ _ _ _ _ => (pg_name (i := 8) sc_law.nd rfl (.inl rfl))) (fun _ _ _ _ _ => pts_nil) (fun _ _ _ _ _ => (pe_call (ok_lraised T) (hr.mono (by decide)) (by rfl) T.g_lraised T.F_lraised.kp T.b_lraised .nil pass0 (pa_cons (pv 8) (pa_cons (pv 5) pa_nil))))) pa_nil)))) (pss_one (ps_ret pe_bl)) pss_nil))))))))
        (pss_one (ps_ret (pe_callB (cr_all (by rfl)) (by rfl) T.n_all (by decide +kernel) (pa_cons (pe_lc (own := [("_law_e", 9), ("_law_due", 6)]) (g := gTup K 2 (gCons (gName 9) (gCons (gName 6) gNil))) (tt := tYes) (by rfl) sc_law.nd (pi_list (pv 4)) (blkOk_by (own := [("_law_e", 9), ("_law_due", 6)]) (N := ["_law_script", "_law_pot_here", "_law_turn", "_law_text", "_law_kept", "_law_things_here", "_law_due", "_law_made", "_law_k", "_law_e"]) (sc := defScope s_law) (by decide +kernel)) (fun _ _ _ _ _ => (pg_tup (by rfl) (pgs_cons (pg_name (i := 9) sc_law.nd rfl (.inl rfl)) (pgs_cons (pg_name (i := 6) sc_law.nd rfl (.inl rfl)) pgs_nil)))) (fun _ _ _ _ _ => pts_nil) (fun _ _ _ _ _ => (pe_cmpR op_eq (pe_callB (id := "repr") (show CallR _ (.builtin "repr") (rReprK K) from call_reprK (by exact hg) (by exact hr.units)) (by rfl) T.n_repr (by decide +kernel) (pa_cons (pe_call (ok_lfields T) (hr.mono (by decide)) (by rfl) T.g_lfields T.F_lfields.kp T.b_lfields .nil pass0 (pa_cons (pv 9) pa_nil)) pa_nil)) (pe_callB (id := "repr") (show CallR _ (.builtin "repr") (rReprK K) from call_reprK (by exact hg) (by exact hr.units)) (by rfl) T.n_repr (by decide +kernel) (pa_cons (pv 6) pa_nil)) (nomark _)))) pa_nil)))))))), ?_⟩
    refine ⟨_, rfl, a, ns, 0, rfl, hS, by decide, by decide, fun p H1 s1 np p1 => ?_⟩
    refine ⟨⟨_, rfl⟩, _, rfl, p, _, rfl, p1, by decide, by unfold Bt; decide +kernel, fun d1 H2 d10 d11 s2 p2 => ?_⟩
    refine ⟨_, rfl, by omega, by omega, fun D nD => ?_⟩
    refine lc_range (lo := 0) (n := d1.toNat) (fun j H' => ∃ ts : List Str, H' D = some (.lst (ts.map V.str)) ∧ ts.length = j ∧ (ts.map (·.length)).sum ≤ j ∧ SameX p H2 H' ∧ PotAt H' p) ⟨[], upd_same, rfl, Nat.le_refl _, Same.x (same_new nD), p2.same (same_new nD)⟩ ?_ ?_
    · rintro j H' hj ⟨ts, hD, tl, ts1, sx, px⟩
      refine ⟨rfl, tyes (iteT ?_)⟩
      refine ⟨_, rfl, p, _, rfl, px, by decide, by unfold Bt; decide +kernel, fun e H4 e0 e1 s4 p4 => ?_⟩
      obtain ⟨c, hc⟩ : ∃ c, atI (Str.ofString "ab -:").cps.toList e = some c := by
        obtain ⟨m, rfl⟩ := Int.eq_ofNat_of_zero_le e0
        have hm : m < 5 := by omega
        have ln : (Str.ofString "ab -:").cps.toList.length = 5 := by decide +kernel
        exact ⟨_, atI_nat (List.getElem?_eq_getElem (by rw [ln]; exact hm))⟩
      refine ⟨_, _, c, rfl, rfl, by decide, hc, ?_⟩
      have nDp : D ≠ p := p2.ne nD
      refine ⟨_, s4 _ _ nDp hD, by rw [List.length_map]; exact small1000 (by omega), ts ++ [⟨#[c]⟩], by rw [upd_same, List.map_append]; rfl, by simp [tl], ?_, samex_upd (sx.trans s4) nD, p4.upd nDp⟩
      rw [List.map_append, List.sum_append]
      show _ + (1 + 0) ≤ _
      omega
    rintro H3 ⟨ts, hD, tl, ts1, s3, p3⟩
    refine ⟨_, D, ts, rfl, rfl, .inl (.inl (.inl hD)), ?_, ?_⟩
    · have : (Str.ofString "").length = 0 := rfl
      rw [this]
      omega
    obtain ⟨tx, etx⟩ : ∃ tx, Txt.join (Str.ofString "") ts = tx := ⟨_, rfl⟩
    rw [etx]
    refine ⟨by show 0 ≤ sizeLine; decide, fun G nG => ?_⟩
    obtain ⟨H4, f4, e4, hG⟩ : ∃ B, B = upd H3 G (.lst []) ∧ Same H3 B ∧ B G = some (.lst []) := ⟨_, rfl, same_new nG, upd_same⟩
    rw [← f4]
    have p4 := p3.same e4
    have nGp : G ≠ p := p3.ne nG
    dsimp only [List.set_cons_succ, List.set_cons_zero]
    refine ⟨_, rfl, by decide, by decide, for_range (lo := 0) (n := (2 : Int).toNat) (fun i σ H' => ∃ y2 y5 y6 y7 y8 y9, σ = [some (.ref a), some (.ref p), y2, some (.str tx), some (.ref G), y5, y6, y7, y8, y9] ∧ PotAt H' p ∧ Kept10 T.cs K p G H' (18 * i)) ⟨none, none, none, none, none, none, rfl, p4, [], hG, rfl, fun _ h => (List.not_mem_nil h).elim⟩ ?_ ?_⟩
    · rintro i σ H0 hi ⟨y2, y5, y6, y7, y8, y9, rfl, q0, kep0⟩
      have hi : i < 2 := hi
      dsimp only [List.set_cons_succ, List.set_cons_zero]
      refine ⟨_, rfl, p, rfl, q0, fun Lx xs ds B1 r1 q1 nLx hLx th => ?_⟩
      obtain ⟨v0, hv0⟩ : ∃ v, xs[0]? = some v := ⟨_, List.getElem?_eq_getElem (by rw [th.l]; decide)⟩
      obtain ⟨v1, hv1⟩ : ∃ v, xs[1]? = some v := ⟨_, List.getElem?_eq_getElem (by rw [th.l]; decide)⟩
      obtain ⟨v2, hv2⟩ : ∃ v, xs[2]? = some v := ⟨_, List.getElem?_eq_getElem (by rw [th.l]; decide)⟩
      obtain ⟨v3, hv3⟩ : ∃ v, xs[3]? = some v := ⟨_, List.getElem?_eq_getElem (by rw [th.l]; decide)⟩
      obtain ⟨v4, hv4⟩ : ∃ v, xs[4]? = some v := ⟨_, List.getElem?_eq_getElem (by rw [th.l]; decide)⟩
      have g : ∀ (j : Nat) (v : V), xs[j]? = some v → xs.getD j .non = v := fun j v e => by rw [List.getD_eq_getElem?_getD, e]; rfl
      have g0 := g 0 _ hv0
      have g1 := g 1 _ hv1
      have g2 := g 2 _ hv2
      have g3 := g 3 _ hv3
      have g4 := g 4 _ hv4
      -- what is due
      refine ⟨by show 0 ≤ sizeLine; decide, fun u0 m0 => ?_⟩
      obtain ⟨B2, f2, e2, hu0⟩ : ∃ B, B = upd B1 u0 (.lst []) ∧ Same B1 B ∧ B u0 = some (.lst []) := ⟨_, rfl, same_new m0, upd_same⟩
      rw [← f2]
      refine ⟨by show 1 ≤ sizeLine; decide, fun l1 m1 => ?_⟩
      obtain ⟨B3, f3, e3, hl1⟩ : ∃ B, B = upd B2 l1 (.lst [V.ref u0]) ∧ Same B2 B ∧ B l1 = some (.lst [V.ref u0]) := ⟨_, rfl, same_new m1, upd_same⟩
      rw [← f3]
      refine ⟨l1, _, _, rfl, rfl, hl1, by decide, by decide, by show 1 * 14 ≤ sizeLine; decide, fun l2 m2 => ?_⟩
      obtain ⟨B4, f4, e4, hl2⟩ : ∃ B, B = upd B3 l2 (.lst ((List.replicate 14 u0).map V.ref)) ∧ Same B3 B ∧ B l2 = some (.lst ((List.replicate 14 u0).map V.ref)) := ⟨_, rfl, same_new m2, upd_same⟩
      rw [show upd B3 l2 (.lst (List.replicate (14 : Int).toNat [V.ref u0]).flatten) = B4 from f4.symm]
      have t14 := e2.trans (e3.trans e4)
      have hLx4 := t14 _ _ hLx
      refine ⟨_, rfl, Lx, _, 0, _, rfl, rfl, .inl (.inl hLx4), atI_nat (j := 0) hv0, by show 1 ≤ sizeLine; decide, fun u14 m14 => ?_⟩
      obtain ⟨B5, f5, e5, hu14⟩ : ∃ B, B = upd B4 u14 (.lst [v0]) ∧ Same B4 B ∧ B u14 = some (.lst [v0]) := ⟨_, rfl, same_new m14, upd_same⟩
      rw [← f5]
      have hLx5 := e5 _ _ hLx4
      refine ⟨_, rfl, Lx, _, 1, _, rfl, rfl, .inl (.inl hLx5), atI_nat (j := 1) hv1, _, rfl, Lx, _, 2, _, rfl, rfl, .inl (.inl hLx5), atI_nat (j := 2) hv2, by show 2 ≤ sizeLine; decide, fun u15 m15 => ?_⟩
      obtain ⟨B6, f6, e6, hu15⟩ : ∃ B, B = upd B5 u15 (.lst [v1, v2]) ∧ Same B5 B ∧ B u15 = some (.lst [v1, v2]) := ⟨_, rfl, same_new m15, upd_same⟩
      rw [← f6]
      have hLx6 := e6 _ _ hLx5
      refine ⟨_, rfl, Lx, _, 3, _, rfl, rfl, .inl (.inl hLx6), atI_nat (j := 3) hv3, by show 1 ≤ sizeLine; decide, fun u16 m16 => ?_⟩
      obtain ⟨B7, f7, e7, hu16⟩ : ∃ B, B = upd B6 u16 (.lst [v3]) ∧ Same B6 B ∧ B u16 = some (.lst [v3]) := ⟨_, rfl, same_new m16, upd_same⟩
      rw [← f7]
      have hLx7 := e7 _ _ hLx6
      refine ⟨_, rfl, Lx, _, 4, _, rfl, rfl, .inl (.inl hLx7), atI_nat (j := 4) hv4, _, rfl, Lx, _, 1, _, rfl, rfl, .inl (.inl hLx7), atI_nat (j := 1) hv1, _, rfl, Lx, _, 2, _, rfl, rfl, .inl (.inl hLx7), atI_nat (j := 2) hv2, by show 3 ≤ sizeLine; decide, fun u17 m17 => ?_⟩
      obtain ⟨B8, f8, e8, hu17⟩ : ∃ B, B = upd B7 u17 (.lst [v4, v1, v2]) ∧ Same B7 B ∧ B u17 = some (.lst [v4, v1, v2]) := ⟨_, rfl, same_new m17, upd_same⟩
      rw [← f8]
      have hLx8 := e8 _ _ hLx7
      refine ⟨by show 4 ≤ sizeLine; decide, fun l3 m3 => ?_⟩
      obtain ⟨B9, f9, e9, hl3⟩ : ∃ B, B = upd B8 l3 (.lst ([u14, u15, u16, u17].map V.ref)) ∧ Same B8 B ∧ B l3 = some (.lst ([u14, u15, u16, u17].map V.ref)) := ⟨_, rfl, same_new m3, upd_same⟩
      rw [show upd B8 l3 (.lst [V.ref u14, V.ref u15, V.ref u16, V.ref u17]) = B9 from f9.symm]
      have t49 : Same B4 B9 := e5.trans (e6.trans (e7.trans (e8.trans e9)))
      refine ⟨l2, l3, _, _, rfl, rfl, t49 _ _ hl2, hl3, by show 18 ≤ sizeLine; decide, fun Du mD => ?_⟩
      rw [← List.map_append]
      obtain ⟨B10, f10, e10, hDu⟩ : ∃ B, B = upd B9 Du (.lst ((List.replicate 14 u0 ++ [u14, u15, u16, u17]).map V.ref)) ∧ Same B9 B ∧ B Du = some (.lst ((List.replicate 14 u0 ++ [u14, u15, u16, u17]).map V.ref)) := ⟨_, rfl, same_new mD, upd_same⟩
      rw [← f10]
      have t4 : Same B4 B10 := t49.trans e10
      have t110 : Same B1 B10 := t14.trans t4
      have q10 := q1.same t110
      -- what is made
      refine ⟨_, rfl, _, rfl, fun Pl as B11 e11 nP hP la hA => ?_⟩
      have hLx11 := e11 _ _ (t110 _ _ hLx)
      refine ⟨_, rfl, Lx, _, 0, _, rfl, rfl, .inl (.inl hLx11), atI_nat (j := 0) hv0, by show 1 ≤ 1000; decide, fun a14 na14 => ⟨a14, v0, rfl, upd_same, fun d14 hd14 ne14 => ⟨rfl, ?_⟩⟩⟩
      obtain ⟨B12, f12, e12, ha14⟩ : ∃ B, B = upd (upd (upd B11 a14 (exo a14 T.c_Taken none)) d14 (exd d14 [("person", v0)])) a14 (exo a14 T.c_Taken (some d14)) ∧ Same B11 B ∧ ExV B a14 T.c_Taken [("person", v0)] := ⟨_, rfl, made1 na14 ne14 hd14⟩
      rw [← f12]
      have hLx12 := e12 _ _ hLx11
      refine ⟨_, rfl, Lx, _, 1, _, rfl, rfl, .inl (.inl hLx12), atI_nat (j := 1) hv1, _, rfl, Lx, _, 2, _, rfl, rfl, .inl (.inl hLx12), atI_nat (j := 2) hv2, by show 2 ≤ 1000; decide, fun a15 na15 => ⟨a15, v1, v2, rfl, upd_same, fun d15 hd15 ne15 => ⟨rfl, ?_⟩⟩⟩
      obtain ⟨B13, f13, e13, ha15⟩ : ∃ B, B = upd (upd (upd (upd B12 a15 (exo a15 T.c_Beyond none)) d15 (exd d15 [("many", v1)])) a15 (exo a15 T.c_Beyond (some d15))) d15 (exd d15 [("seats", v2), ("many", v1)]) ∧ Same B12 B ∧ ExV B a15 T.c_Beyond [("seats", v2), ("many", v1)] := ⟨_, rfl, made2 na15 ne15 hd15⟩
      rw [← f13]
      have hLx13 := e13 _ _ hLx12
      refine ⟨_, rfl, Lx, _, 3, _, rfl, rfl, .inl (.inl hLx13), atI_nat (j := 3) hv3, by show 1 ≤ 1000; decide, fun a16 na16 => ⟨a16, v3, rfl, upd_same, fun d16 hd16 ne16 => ⟨rfl, ?_⟩⟩⟩
      obtain ⟨B14, f14, e14, ha16⟩ : ∃ B, B = upd (upd (upd B13 a16 (exo a16 T.c_Unbalanced none)) d16 (exd d16 [("owed", v3)])) a16 (exo a16 T.c_Unbalanced (some d16)) ∧ Same B13 B ∧ ExV B a16 T.c_Unbalanced [("owed", v3)] := ⟨_, rfl, made1 na16 ne16 hd16⟩
      rw [← f14]
      have hLx14 := e14 _ _ hLx13
      refine ⟨by show 3 ≤ sizeLine; decide, fun l4 m4 => ?_⟩
      obtain ⟨B15, f15, e15, hl4⟩ : ∃ B, B = upd B14 l4 (.lst ([a14, a15, a16].map V.ref)) ∧ Same B14 B ∧ B l4 = some (.lst ([a14, a15, a16].map V.ref)) := ⟨_, rfl, same_new m4, upd_same⟩
      rw [show upd B14 l4 (.lst [V.ref a14, V.ref a15, V.ref a16]) = B15 from f15.symm]
      have t1115 : Same B11 B15 := e12.trans (e13.trans (e14.trans e15))
      refine ⟨Pl, l4, _, _, rfl, rfl, t1115 _ _ hP, hl4, by rw [List.length_map, la]; show 17 ≤ sizeLine; decide, fun M mM => ?_⟩
      rw [← List.map_append]
      obtain ⟨B16, f16, e16, hM⟩ : ∃ B, B = upd B15 M (.lst ((as ++ [a14, a15, a16]).map V.ref)) ∧ Same B15 B ∧ B M = some (.lst ((as ++ [a14, a15, a16]).map V.ref)) := ⟨_, rfl, same_new mM, upd_same⟩
      rw [← f16]
      have hLx16 := e16 _ _ (e15 _ _ hLx14)
      refine ⟨_, rfl, .inl ⟨rfl, _, .inl (.inl hM)⟩, _, rfl, Lx, _, 4, _, rfl, rfl, .inl (.inl hLx16), atI_nat (j := 4) hv4, _, rfl, Lx, _, 1, _, rfl, rfl, .inl (.inl hLx16), atI_nat (j := 1) hv1, _, rfl, Lx, _, 2, _, rfl, rfl, .inl (.inl hLx16), atI_nat (j := 2) hv2, by show 3 ≤ 1000; decide, fun a17 na17 => ⟨a17, v4, v1, v2, rfl, upd_same, fun d17 hd17 ne17 => ⟨rfl, ?_⟩⟩⟩
      obtain ⟨B17, f17, e17, ha17⟩ : ∃ B, B = upd (upd (upd (upd (upd B16 a17 (exo a17 T.c_Astray none)) d17 (exd d17 [("at", v4)])) a17 (exo a17 T.c_Astray (some d17))) d17 (exd d17 [("many", v1), ("at", v4)])) d17 (exd d17 [("seats", v2), ("many", v1), ("at", v4)]) ∧ Same B16 B ∧ ExV B a17 T.c_Astray [("seats", v2), ("many", v1), ("at", v4)] := ⟨_, rfl, made3 na17 ne17 hd17⟩
      rw [← f17]
      have hM17 := e17 _ _ hM
      refine ⟨M, _, .ref a17, rfl, rfl, hM17, by rw [List.length_map, List.length_append, la]; show 17 < sizeLine; decide, ?_⟩
      have emm : ((as ++ [a14, a15, a16]).map V.ref ++ [V.ref a17]) = ((as ++ [a14, a15, a16] ++ [a17]).map V.ref) := by simp
      rw [emm]
      have t1518 : Same B15 (upd B17 M (.lst ((as ++ [a14, a15, a16] ++ [a17]).map V.ref))) := same_upd (e16.trans e17) mM
      have ha17' : ExV (upd B17 M (.lst ((as ++ [a14, a15, a16] ++ [a17]).map V.ref))) a17 T.c_Astray [("seats", v2), ("many", v1), ("at", v4)] := ha17.keep (S := [M]) (fun b o nb h _ => by rw [upd_ne (fun z => nb (by rw [z]; exact List.mem_singleton.mpr rfl))]; exact h) fun b hb => by rw [List.mem_singleton.mp hb]; exact ⟨_, hM17⟩
      obtain ⟨B18, f18, hM18⟩ : ∃ B, B = upd B17 M (.lst ((as ++ [a14, a15, a16] ++ [a17]).map V.ref)) ∧ B M = some (.lst ((as ++ [a14, a15, a16] ++ [a17]).map V.ref)) := ⟨_, rfl, upd_same⟩
      rw [← f18] at t1518 ha17' ⊢
      have t1118 := t1115.trans t1518
      have t1018 := e11.trans t1118
      have t118 := t110.trans t1018
      have q18 := q1.same t118
      obtain ⟨ks0, hG0, kl0, kk0⟩ := id kep0
      have hG1 := r1 _ _ nGp hG0
      have hG9 := t14.trans t49 _ _ hG1
      have bu : Built10 T.cs p G Lx Du M xs B18 := by
        refine ⟨t118 _ _ hLx, (ne_of_none hG0 nLx).symm, ⟨_, t1018 _ _ hDu, fun k hk => ?_⟩, (ne_of_none (e9 _ _ (e8 _ _ (e7 _ _ (e6 _ _ (e5 _ _ (t14 _ _ hG1)))))) mD).symm, ⟨_, hM18, by simp [la], fun k a ea => ?_⟩, (ne_of_none (t1115 _ _ (e11 _ _ (t110 _ _ hG1))) mM).symm⟩
        · have q4 := q1.same t14
          have hG4 := t14 _ _ hG1
          have hG5 := e5 _ _ hG4
          have hG6 := e6 _ _ hG5
          have hG7 := e7 _ _ hG6
          have c8 : Same B8 B18 := e9.trans (e10.trans t1018)
          by_cases c : k < 14
          · refine ⟨u0, ?_, ?_, q1.ne m0, (ne_of_none hG1 m0).symm⟩
            · rw [List.getElem?_append_left (by rw [List.length_replicate]; exact c), List.getElem?_replicate, if_pos c]
            · have ed : dueE k xs = [] := by unfold dueE; rw [if_neg (by omega), if_neg (by omega), if_neg (by omega), if_neg (by omega)]
              rw [ed]
              exact (e3.trans (e4.trans (t4.trans t1018))) _ _ hu0
          have kc : k = 14 ∨ k = 15 ∨ k = 16 ∨ k = 17 := by omega
          rcases kc with rfl | rfl | rfl | rfl
          · exact ⟨u14, rfl, by rw [show dueE 14 xs = [v0] from by show [xs.getD 0 .non] = _; rw [g0]]; exact (e6.trans (e7.trans (e8.trans c8))) _ _ hu14, q4.ne m14, (ne_of_none hG4 m14).symm⟩
          · exact ⟨u15, rfl, by rw [show dueE 15 xs = [v1, v2] from by show [xs.getD 1 .non, xs.getD 2 .non] = _; rw [g1, g2]]; exact (e7.trans (e8.trans c8)) _ _ hu15, (q4.same e5).ne m15, (ne_of_none hG5 m15).symm⟩
          · exact ⟨u16, rfl, by rw [show dueE 16 xs = [v3] from by show [xs.getD 3 .non] = _; rw [g3]]; exact (e8.trans c8) _ _ hu16, (q4.same (e5.trans e6)).ne m16, (ne_of_none hG6 m16).symm⟩
          · exact ⟨u17, rfl, by rw [show dueE 17 xs = [v4, v1, v2] from by show [xs.getD 4 .non, xs.getD 1 .non, xs.getD 2 .non] = _; rw [g4, g1, g2]]; exact c8 _ _ hu17, (q4.same (e5.trans (e6.trans e7))).ne m17, (ne_of_none hG7 m17).symm⟩
        · have c15 : Same B12 B18 := e13.trans (e14.trans (e15.trans t1518))
          by_cases c : k < 14
          · rw [List.append_assoc, List.getElem?_append_left (by rw [la]; exact c)] at ea
            have ed : fldsE k xs = [] := by unfold fldsE; rw [if_neg (by omega), if_neg (by omega), if_neg (by omega), if_neg (by omega)]
            rw [ed]
            exact (hA k a ea).same t1118
          rw [List.append_assoc, List.getElem?_append_right (by rw [la]; omega), la] at ea
          have kc : k = 14 ∨ k = 15 ∨ k = 16 ∨ k = 17 ∨ 18 ≤ k := by omega
          rcases kc with rfl | rfl | rfl | rfl | kc
          · cases ea
            rw [show fldsE 14 xs = [(("person" : Str), v0)] from by show [(_, xs.getD 0 .non)] = _; rw [g0]]
            exact ha14.same c15
          · cases ea
            rw [show fldsE 15 xs = [(("seats" : Str), v2), ("many", v1)] from by show [(_, xs.getD 2 .non), (_, xs.getD 1 .non)] = _; rw [g1, g2]]
            exact ha15.same (e14.trans (e15.trans t1518))
          · cases ea
            rw [show fldsE 16 xs = [(("owed" : Str), v3)] from by show [(_, xs.getD 3 .non)] = _; rw [g3]]
            exact ha16.same (e15.trans t1518)
          · cases ea
            rw [show fldsE 17 xs = [(("seats" : Str), v2), ("many", v1), ("at", v4)] from by show [(_, xs.getD 2 .non), (_, xs.getD 1 .non), (_, xs.getD 4 .non)] = _; rw [g1, g2, g4]]
            exact ha17'
          · rw [List.getElem?_eq_none (by show 4 ≤ _; omega)] at ea
            cases ea
      have kep1 := kep0.keep (ExtC.sx (r1.trans (Same.x t118)) (by simp)) (pot_lst q0) (by rw [t118 _ _ hG1, hG0])
      dsimp only [List.set_cons_succ, List.set_cons_zero]
      obtain ⟨ms, hMs, ml, hms⟩ := id bu.m
      have hG18 := t118 _ _ hG1
      clear f2 f3 f4 f5 f6 f7 f8 f9 f10 f12 f13 f14 f15 f16 f17 f18 emm
      refine ⟨_, rfl, true, M, _, rfl, .inl (.inl hMs), for_it (walk_enB (K := K) (b := true) (a := M) (xs := ms.map V.ref) (k := 0)) (fun j σ H' => ∃ y8 y9, σ = [some (.ref a), some (.ref p), some (.int (0 + (i : Nat))), some (.str tx), some (.ref G), some (.ref Lx), some (.ref Du), some (.ref M), y8, y9] ∧ SameX G B18 H' ∧ Kept10 T.cs K p G H' (18 * i + j))
        ⟨_, _, rfl, fun _ _ _ h => h, kep1⟩ (fun j σ H' _ ⟨_, _, _, sx, _⟩ => .inl (.inl (sx _ _ bu.nm hMs))) ?_ ?_⟩
      · rintro j x σ H' H'' hj ⟨y8, y9, rfl, sx, kp⟩ ⟨t, w1, w2, rfl, nt, rfl, ev1, ev2⟩
        have ev1 : some (V.int (0 + (j : Nat))) = some w1 := ev1
        rw [Int.zero_add] at ev1
        obtain rfl : V.int (j : Nat) = w1 := Option.some.inj ev1
        have hj : j < (ms.map V.ref).length := hj
        rw [List.length_map, ml] at hj
        have ev2 : (ms.map V.ref)[j]? = some w2 := ev2
        rw [List.getElem?_map] at ev2
        obtain ⟨aj, ej⟩ : ∃ aj, ms[j]? = some aj := ⟨_, List.getElem?_eq_getElem (by omega)⟩
        rw [ej] at ev2
        obtain rfl : V.ref aj = w2 := Option.some.inj ev2
        have e0 := same_new (o := .tup [.int (j : Nat), .ref aj]) nt
        have buH := bu.keep sx ⟨_, hG18⟩
        obtain ⟨ks, hGk, kl, kks⟩ := id kp
        obtain ⟨ms', hMs', _, hms'⟩ := buH.m
        rw [sx _ _ bu.nm hMs] at hMs'
        obtain rfl : ms = ms' := by
          have e := Option.some.inj hMs'
          injection e with e
          exact (List.map_inj_right fun _ _ h => V.ref.inj h).mp e
        have hv := (hms j aj ej)
        have hvH : ExV (upd H' t (.tup [.int (j : Nat), .ref aj])) aj (T.cs.getD j 0) (fldsE j xs) := (hms' j aj ej).same e0
        refine ⟨t, _, rfl, .inl (.inl upd_same), rfl, _, _, rfl, _, _, rfl, rfl, ?_⟩
        refine ⟨_, rfl, aj, _, _, _, _, true, rfl, hvH, T.xcs (by omega), .own _, rowsE_top T.kall (by omega), true, rfl, iteF ?_⟩
        refine ⟨_, rfl, aj, _, _, _, _, true, rfl, hvH, T.xcs (by omega), .ty "ValueError", T.svs (by omega), true, rfl, iteF ?_⟩
        refine ⟨_, rfl, aj, j, _, rfl, by omega, hvH, fun W2 H2 s2 nW hW => ?_⟩
        rw [whL_lt hj] at hW
        refine ⟨_, rfl, by show 1 ≤ sizeLine; decide, fun W3 nW3 => ?_⟩
        obtain ⟨H3, f3', s3', hW3⟩ : ∃ B, B = upd H2 W3 (.lst [V.int (j : Nat)]) ∧ Same H2 B ∧ B W3 = some (.lst [V.int (j : Nat)]) := ⟨_, rfl, same_new nW3, upd_same⟩
        rw [← f3']
        have hWa : H3 W2 = some (.lst (([((j : Nat) : Int)] : List Int).map V.int)) := s3' _ _ hW
        have hWb : H3 W3 = some (.lst (([((j : Nat) : Int)] : List Int).map V.int)) := hW3
        refine ⟨.list (([((j : Nat) : Int)] : List Int).map PyData.int), .list (([((j : Nat) : Int)] : List Int).map PyData.int), ints_dp (.inl (.inl hWa)), ints_dp (.inl (.inl hWb)), by rfl, by rfl, ?_⟩
        rw [eqv_refl_ints]
        refine ⟨false, rfl, iteF ?_⟩
        have sH3 := e0.trans (s2.trans s3')
        obtain ⟨us, hDu3, husk⟩ := (buH.keep (Same.x sH3) ⟨_, hGk⟩).d
        obtain ⟨uj, euj, huj, ujp, ujG⟩ := husk j hj
        have euj' : (us.map V.ref)[j]? = some (V.ref uj) := by rw [List.getElem?_map, euj]; rfl
        have hG3 := sH3 _ _ hGk
        refine ⟨_, rfl, .inl ⟨rfl, _, .inl (.inl hG3)⟩, _, rfl, _, rfl, _, rfl, Du, _, _, _, rfl, rfl, .inl (.inl hDu3), atI_nat euj', by show 2 ≤ sizeLine; decide, fun tt ntt => ?_⟩
        obtain ⟨H4, f4', s4', htt⟩ : ∃ B, B = upd H3 tt (.tup [V.ref aj, V.ref uj]) ∧ Same H3 B ∧ B tt = some (.tup [V.ref aj, V.ref uj]) := ⟨_, rfl, same_new ntt, upd_same⟩
        rw [← f4']
        have hG4 := s4' _ _ hG3
        refine ⟨G, _, .ref tt, rfl, rfl, hG4, small1000 (by rw [kl]; omega), ?_⟩
        have sH4 := sH3.trans s4'
        have xF : SameX G H' (upd H4 G (.lst (ks ++ [V.ref tt]))) := fun b o nb h => by rw [upd_ne nb]; exact sH4 b o h
        have ttG : tt ≠ G := fun z => by rw [z, hG3] at ntt; cases ntt
        have buF := buH.keep xF ⟨_, hGk⟩
        obtain ⟨pl0, hpl⟩ := pot_lst q18
        have hpl' := sx _ _ nGp.symm hpl
        have xBF := sx.trans xF
        have gl : ∀ b ∈ [G], ∃ ys, B18 b = some (.lst ys) := fun b hb => by rw [List.mem_singleton.mp hb]; exact ⟨_, hG18⟩
        have ktF : KT B18 (upd H4 G (.lst (ks ++ [V.ref tt]))) := (ExtC.sx (S := [G]) xBF (by simp)).kt fun b hb => by rw [List.mem_singleton.mp hb]; exact NoTup.lst hG18
        obtain ⟨es, de, ie, se⟩ := due_dp ((th.same t118).kt ktF) j
        refine ⟨_, _, rfl, xBF, ks ++ [V.ref tt], upd_same, by rw [List.length_append, kl]; rfl, fun v hv => ?_⟩
        rcases List.mem_append.mp hv with h | h
        · exact (kks v h).keep (ExtC.sx xF (by simp)) ⟨_, hpl'⟩ ⟨_, hGk⟩
        · rw [List.mem_singleton.mp h]
          exact ⟨tt, aj, uj, j, xs, es, rfl, .inl (.inl (by rw [upd_ne ttG]; exact htt)), hj, (hms j aj ej).keep (S := [G]) (ExtC.sx xBF (by simp)) gl, by rw [upd_ne ujG]; exact s4' _ _ huj, ujp, ujG, de, ie, se⟩
      rintro σ H' ⟨y8, y9, rfl, sx, kp⟩
      rw [List.length_map, ml] at kp
      obtain ⟨pl0, hpl⟩ := pot_lst q18
      have hpl' := sx _ _ nGp.symm hpl
      have qz : PotAt H' p := by
        obtain ⟨x, y, e, r⟩ := q18
        exact ⟨x, y, sx _ _ nGp.symm e, r⟩
      have hLxz := sx _ _ bu.nx bu.x
      have xl := th.l
      refine ⟨_, _, rfl, ⟨by decide, by decide, by decide, by decide⟩, fun R nR => ?_⟩
      refine lc_range (lo := 13) (n := ((18 : Int) - 13).toNat) (fun j H'' => H'' R = some (.lst ((List.replicate j true).map V.bl)) ∧ Same H' H'') ⟨upd_same, same_new nR⟩ ?_ ?_
      · rintro j H'' hj ⟨hR, s5⟩
        have hj : j < 5 := hj
        have ek : (13 : Int) + (j : Nat) = ((13 + j : Nat) : Int) := by omega
        rw [ek]
        refine ⟨rfl, tyes (iteT ?_)⟩
        refine ⟨_, rfl, _, rfl, 13 + j, Lx, xs, rfl, by omega, by omega, s5 _ _ hLxz, xl, fun H3 s6 => ?_⟩
        refine ⟨_, s6 _ _ hR, by rw [List.length_map, List.length_replicate]; exact small1000 (by omega), ?_, same_upd (s5.trans s6) nR⟩
        rw [upd_same, List.replicate_succ', List.map_append]
        rfl
      rintro H'' ⟨hR, s5⟩
      refine ⟨R, _, rfl, .inl (.inl hR), ?_⟩
      rw [all_true]
      obtain ⟨ks, hGk, kl, kks⟩ := id kp
      refine ⟨true, rfl, iteF ⟨_, _, _, _, _, _, rfl, qz.same s5, ?_⟩⟩
      have kz := kp.keep (H' := H'') (ExtC.s s5) ⟨_, hpl'⟩ (by rw [s5 _ _ hGk, hGk])
      rw [show 18 * (i + 1) = 18 * i + 18 from by omega]
      exact kz
    rintro σ H' ⟨y2, y5, y6, y7, y8, y9, rfl, qz, ks, hGk, kl, kks⟩
    refine ⟨_, rfl, G, rfl, ⟨_, .inl (.inl hGk)⟩, fun R nR => ?_⟩
    refine lc_list (K := K) (a := G) (xs := ks) (fun j H'' => H'' R = some (.lst ((List.replicate j true).map V.bl)) ∧ Same H' H'') ⟨upd_same, same_new nR⟩ (fun j H'' _ ⟨_, s⟩ => .inl (.inl (s _ _ hGk))) ?_ ?_
    · rintro j x H'' hx ⟨hR, s5⟩
      obtain ⟨t, aj, u, k, xs, es, rfl, h1, h2, h3, h4, h5, h6, h7, h8, h9⟩ := kks x (List.mem_of_getElem? hx)
      have hj : j < ks.length := (List.getElem?_eq_some_iff.mp hx).1
      have kb : ks.length = 36 := kl
      obtain ⟨c1, c2, c3, c4⟩ := (h9.mono (by decide) (by decide) : Sh 1000000 60 (.list es)).ok (Nat.le_refl _) (Nat.le_refl _)
      refine ⟨t, _, rfl, Same.tup s5 h1, rfl, _, _, rfl, _, _, rfl, rfl, rfl, tyes (iteT ?_)⟩
      refine ⟨_, rfl, aj, k, xs, rfl, h2, h3.same s5, fun L H3 s6 nL hL => ?_⟩
      refine ⟨_, .list es, rfl, .lst (.inl (.inl hL)) ((h7.sm s5).sm s6), c1, c2, c3, c4, ?_⟩
      refine ⟨_, rfl, _, .list es, rfl, .lst (.inl (.inl (s6 _ _ (s5 _ _ h4)))) ((h7.sm s5).sm s6), c1, c2, c3, c4, rfl, ?_⟩
      rw [decide_eq_true rfl]
      refine ⟨_, s6 _ _ hR, by rw [List.length_map, List.length_replicate]; exact small1000 (by omega), ?_, same_upd (s5.trans s6) nR⟩
      rw [upd_same, List.replicate_succ', List.map_append]
      rfl
    rintro H'' ⟨hR, s5⟩
    refine ⟨R, _, rfl, .inl (.inl hR), ?_⟩
    rw [all_true]
    exact q _
end
end WS
set_option Elab.async false
set_option linter.all false
set_option maxRecDepth 100000
set_option maxHeartbeats 4000000
namespace WS
open PySem PySem.Spec PyProof.Rows L2
theorem all_mk {l : PySem.W.OpenLaw} {w : World} {K : PySem.W.Frag} {h : Heap} {mg : Str → Option Value} {fa : Addr} (X : K.In h) (G : h.Ns mainGlobals mg) (hfa : mg "law" = some (.ref fa))
    {f_lpot : Addr} {od_lpot an_lpot : Option Addr} {sl_lpot : Array (Option Value)} {oc_lpot dc_lpot pm_lpot cd_lpot ct_lpot : Value} {kV_lpot : Value}
    {f_ldigit : Addr} {od_ldigit an_ldigit : Option Addr} {sl_ldigit : Array (Option Value)} {oc_ldigit dc_ldigit pm_ldigit cd_ldigit ct_ldigit : Value} {kV_ldigit : Value}
    {f_lname : Addr} {od_lname an_lname : Option Addr} {sl_lname : Array (Option Value)} {oc_lname dc_lname pm_lname cd_lname ct_lname : Value} {kV_lname : Value}
    {f_llow : Addr} {od_llow an_llow : Option Addr} {sl_llow : Array (Option Value)} {oc_llow dc_llow pm_llow cd_llow ct_llow : Value} {kV_llow : Value}
    {f_lplain : Addr} {od_lplain an_lplain : Option Addr} {sl_lplain : Array (Option Value)} {oc_lplain dc_lplain pm_lplain cd_lplain ct_lplain : Value} {kV_lplain : Value}
    {f_lwhich : Addr} {od_lwhich an_lwhich : Option Addr} {sl_lwhich : Array (Option Value)} {oc_lwhich dc_lwhich pm_lwhich cd_lwhich ct_lwhich : Value} {kV_lwhich : Value}
    {f_lfields : Addr} {od_lfields an_lfields : Option Addr} {sl_lfields : Array (Option Value)} {oc_lfields dc_lfields pm_lfields cd_lfields ct_lfields : Value} {kV_lfields : Value}
    {f_lraised : Addr} {od_lraised an_lraised : Option Addr} {sl_lraised : Array (Option Value)} {oc_lraised dc_lraised pm_lraised cd_lraised ct_lraised : Value} {kV_lraised : Value}
    {f_lthings : Addr} {od_lthings an_lthings : Option Addr} {sl_lthings : Array (Option Value)} {oc_lthings dc_lthings pm_lthings cd_lthings ct_lthings : Value} {kV_lthings : Value}
    {f_law : Addr} {od_law an_law : Option Addr} {sl_law : Array (Option Value)} {oc_law dc_law pm_law cd_law ct_law : Value} {kV_law : Value}
    {c_NoPart : Addr}
    {c_NoName : Addr}
    {c_NoWeight : Addr}
    {c_NoPerson : Addr}
    {c_NoSeat : Addr}
    {c_NoEvening : Addr}
    {c_NoDuty : Addr}
    {c_NoGift : Addr}
    {c_Unlike : Addr}
    {c_NoFact : Addr}
    {c_NoBack : Addr}
    {c_NoDeed : Addr}
    {c_NoText : Addr}
    {c_NoRow : Addr}
    {c_ClubError : Addr}
    {c_Taken fi_Taken N_Taken : Addr} {nm_Taken q_Taken : Str} {bs_Taken bm_Taken sub_Taken : List Value} {sn_Taken : List Str} {ab_Taken : Bool} {col_Taken : Option Bool} {dd_Taken iod_Taken ian_Taken : Option Addr} {m0_Taken m1_Taken m2_Taken m3_Taken m5_Taken : Option Value} {isl_Taken : Array (Option Value)} {ioc_Taken ikV_Taken idc_Taken ipm_Taken icd_Taken ict_Taken : Value}
    {c_Beyond fi_Beyond N_Beyond : Addr} {nm_Beyond q_Beyond : Str} {bs_Beyond bm_Beyond sub_Beyond : List Value} {sn_Beyond : List Str} {ab_Beyond : Bool} {col_Beyond : Option Bool} {dd_Beyond iod_Beyond ian_Beyond : Option Addr} {m0_Beyond m1_Beyond m2_Beyond m3_Beyond m5_Beyond : Option Value} {isl_Beyond : Array (Option Value)} {ioc_Beyond ikV_Beyond idc_Beyond ipm_Beyond icd_Beyond ict_Beyond : Value}
    {c_Unbalanced fi_Unbalanced N_Unbalanced : Addr} {nm_Unbalanced q_Unbalanced : Str} {bs_Unbalanced bm_Unbalanced sub_Unbalanced : List Value} {sn_Unbalanced : List Str} {ab_Unbalanced : Bool} {col_Unbalanced : Option Bool} {dd_Unbalanced iod_Unbalanced ian_Unbalanced : Option Addr} {m0_Unbalanced m1_Unbalanced m2_Unbalanced m3_Unbalanced m5_Unbalanced : Option Value} {isl_Unbalanced : Array (Option Value)} {ioc_Unbalanced ikV_Unbalanced idc_Unbalanced ipm_Unbalanced icd_Unbalanced ict_Unbalanced : Value}
    {c_Astray fi_Astray N_Astray : Addr} {nm_Astray q_Astray : Str} {bs_Astray bm_Astray sub_Astray : List Value} {sn_Astray : List Str} {ab_Astray : Bool} {col_Astray : Option Bool} {dd_Astray iod_Astray ian_Astray : Option Addr} {m0_Astray m1_Astray m2_Astray m3_Astray m5_Astray : Option Value} {isl_Astray : Array (Option Value)} {ioc_Astray ikV_Astray idc_Astray ipm_Astray icd_Astray ict_Astray : Value}
    (a_lpot : PySem.W.nsIn K mainGlobals "_law_pot" = some (some (.ref f_lpot)))
    (l_lpot : K.lookup f_lpot = some ⟨oc_lpot, od_lpot, .func (PySem.W.fnOf "_law_pot" "_law_pot" (defArgs s_lpot) (defBody s_lpot) (defScope s_lpot) .none kV_lpot dc_lpot pm_lpot an_lpot cd_lpot ct_lpot), sl_lpot⟩)
    (c_lpot : PySem.W.codeIn K cd_lpot "_law_pot" = true) (k_lpot : PySem.W.keepIn K (.ref f_lpot) = true)
    (a_ldigit : PySem.W.nsIn K mainGlobals "_law_digit" = some (some (.ref f_ldigit)))
    (l_ldigit : K.lookup f_ldigit = some ⟨oc_ldigit, od_ldigit, .func (PySem.W.fnOf "_law_digit" "_law_digit" (defArgs s_ldigit) (defBody s_ldigit) (defScope s_ldigit) .none kV_ldigit dc_ldigit pm_ldigit an_ldigit cd_ldigit ct_ldigit), sl_ldigit⟩)
    (c_ldigit : PySem.W.codeIn K cd_ldigit "_law_digit" = true) (k_ldigit : PySem.W.keepIn K (.ref f_ldigit) = true)
    (a_lname : PySem.W.nsIn K mainGlobals "_law_name" = some (some (.ref f_lname)))
    (l_lname : K.lookup f_lname = some ⟨oc_lname, od_lname, .func (PySem.W.fnOf "_law_name" "_law_name" (defArgs s_lname) (defBody s_lname) (defScope s_lname) .none kV_lname dc_lname pm_lname an_lname cd_lname ct_lname), sl_lname⟩)
    (c_lname : PySem.W.codeIn K cd_lname "_law_name" = true) (k_lname : PySem.W.keepIn K (.ref f_lname) = true)
    (a_llow : PySem.W.nsIn K mainGlobals "_law_low" = some (some (.ref f_llow)))
    (l_llow : K.lookup f_llow = some ⟨oc_llow, od_llow, .func (PySem.W.fnOf "_law_low" "_law_low" (defArgs s_llow) (defBody s_llow) (defScope s_llow) .none kV_llow dc_llow pm_llow an_llow cd_llow ct_llow), sl_llow⟩)
    (c_llow : PySem.W.codeIn K cd_llow "_law_low" = true) (k_llow : PySem.W.keepIn K (.ref f_llow) = true)
    (a_lplain : PySem.W.nsIn K mainGlobals "_law_plain" = some (some (.ref f_lplain)))
    (l_lplain : K.lookup f_lplain = some ⟨oc_lplain, od_lplain, .func (PySem.W.fnOf "_law_plain" "_law_plain" (defArgs s_lplain) (defBody s_lplain) (defScope s_lplain) .none kV_lplain dc_lplain pm_lplain an_lplain cd_lplain ct_lplain), sl_lplain⟩)
    (c_lplain : PySem.W.codeIn K cd_lplain "_law_plain" = true) (k_lplain : PySem.W.keepIn K (.ref f_lplain) = true)
    (a_lwhich : PySem.W.nsIn K mainGlobals "_law_which" = some (some (.ref f_lwhich)))
    (l_lwhich : K.lookup f_lwhich = some ⟨oc_lwhich, od_lwhich, .func (PySem.W.fnOf "_law_which" "_law_which" (defArgs s_lwhich) (defBody s_lwhich) (defScope s_lwhich) .none kV_lwhich dc_lwhich pm_lwhich an_lwhich cd_lwhich ct_lwhich), sl_lwhich⟩)
    (c_lwhich : PySem.W.codeIn K cd_lwhich "_law_which" = true) (k_lwhich : PySem.W.keepIn K (.ref f_lwhich) = true)
    (a_lfields : PySem.W.nsIn K mainGlobals "_law_fields" = some (some (.ref f_lfields)))
    (l_lfields : K.lookup f_lfields = some ⟨oc_lfields, od_lfields, .func (PySem.W.fnOf "_law_fields" "_law_fields" (defArgs s_lfields) (defBody s_lfields) (defScope s_lfields) .none kV_lfields dc_lfields pm_lfields an_lfields cd_lfields ct_lfields), sl_lfields⟩)
    (c_lfields : PySem.W.codeIn K cd_lfields "_law_fields" = true) (k_lfields : PySem.W.keepIn K (.ref f_lfields) = true)
    (a_lraised : PySem.W.nsIn K mainGlobals "_law_raised" = some (some (.ref f_lraised)))
    (l_lraised : K.lookup f_lraised = some ⟨oc_lraised, od_lraised, .func (PySem.W.fnOf "_law_raised" "_law_raised" (defArgs s_lraised) (defBody s_lraised) (defScope s_lraised) .none kV_lraised dc_lraised pm_lraised an_lraised cd_lraised ct_lraised), sl_lraised⟩)
    (c_lraised : PySem.W.codeIn K cd_lraised "_law_raised" = true) (k_lraised : PySem.W.keepIn K (.ref f_lraised) = true)
    (a_lthings : PySem.W.nsIn K mainGlobals "_law_things" = some (some (.ref f_lthings)))
    (l_lthings : K.lookup f_lthings = some ⟨oc_lthings, od_lthings, .func (PySem.W.fnOf "_law_things" "_law_things" (defArgs s_lthings) (defBody s_lthings) (defScope s_lthings) .none kV_lthings dc_lthings pm_lthings an_lthings cd_lthings ct_lthings), sl_lthings⟩)
    (c_lthings : PySem.W.codeIn K cd_lthings "_law_things" = true) (k_lthings : PySem.W.keepIn K (.ref f_lthings) = true)
    (a_law : PySem.W.nsIn K mainGlobals "law" = some (some (.ref f_law)))
    (l_law : K.lookup f_law = some ⟨oc_law, od_law, .func (PySem.W.fnOf "law" "law" (defArgs s_law) (defBody s_law) (defScope s_law) .none kV_law dc_law pm_law an_law cd_law ct_law), sl_law⟩)
    (c_law : PySem.W.codeIn K cd_law "law" = true) (k_law : PySem.W.keepIn K (.ref f_law) = true)
    (gc_NoPart : PySem.W.nsIn K mainGlobals "NoPart" = some (some (.ref c_NoPart))) (x_NoPart : PySem.W.excIn K c_NoPart [.type "ValueError", .type "Exception", .type "BaseException", .type "object"] "ValueError.__new__" = true) (kc_NoPart : PySem.W.keepIn K (.ref c_NoPart) = true) (bc_NoPart : PySem.W.subIn K (.ref c_NoPart) (.type "BaseException") = some true) (tc_NoPart : PySem.W.typeIn K (.ref c_NoPart) = some (.type "type")) (hc_NoPart : PySem.W.hasDictIn K c_NoPart = true) (sc_NoPart : PySem.W.subIn K (.ref c_NoPart) (.ref c_NoPart) = some true)
    (gc_NoName : PySem.W.nsIn K mainGlobals "NoName" = some (some (.ref c_NoName))) (x_NoName : PySem.W.excIn K c_NoName [.type "ValueError", .type "Exception", .type "BaseException", .type "object"] "ValueError.__new__" = true) (kc_NoName : PySem.W.keepIn K (.ref c_NoName) = true) (bc_NoName : PySem.W.subIn K (.ref c_NoName) (.type "BaseException") = some true) (tc_NoName : PySem.W.typeIn K (.ref c_NoName) = some (.type "type")) (hc_NoName : PySem.W.hasDictIn K c_NoName = true) (sc_NoName : PySem.W.subIn K (.ref c_NoName) (.ref c_NoName) = some true)
    (gc_NoWeight : PySem.W.nsIn K mainGlobals "NoWeight" = some (some (.ref c_NoWeight))) (x_NoWeight : PySem.W.excIn K c_NoWeight [.type "ValueError", .type "Exception", .type "BaseException", .type "object"] "ValueError.__new__" = true) (kc_NoWeight : PySem.W.keepIn K (.ref c_NoWeight) = true) (bc_NoWeight : PySem.W.subIn K (.ref c_NoWeight) (.type "BaseException") = some true) (tc_NoWeight : PySem.W.typeIn K (.ref c_NoWeight) = some (.type "type")) (hc_NoWeight : PySem.W.hasDictIn K c_NoWeight = true) (sc_NoWeight : PySem.W.subIn K (.ref c_NoWeight) (.ref c_NoWeight) = some true)
    (gc_NoPerson : PySem.W.nsIn K mainGlobals "NoPerson" = some (some (.ref c_NoPerson))) (x_NoPerson : PySem.W.excIn K c_NoPerson [.type "ValueError", .type "Exception", .type "BaseException", .type "object"] "ValueError.__new__" = true) (kc_NoPerson : PySem.W.keepIn K (.ref c_NoPerson) = true) (bc_NoPerson : PySem.W.subIn K (.ref c_NoPerson) (.type "BaseException") = some true) (tc_NoPerson : PySem.W.typeIn K (.ref c_NoPerson) = some (.type "type")) (hc_NoPerson : PySem.W.hasDictIn K c_NoPerson = true) (sc_NoPerson : PySem.W.subIn K (.ref c_NoPerson) (.ref c_NoPerson) = some true)
    (gc_NoSeat : PySem.W.nsIn K mainGlobals "NoSeat" = some (some (.ref c_NoSeat))) (x_NoSeat : PySem.W.excIn K c_NoSeat [.type "ValueError", .type "Exception", .type "BaseException", .type "object"] "ValueError.__new__" = true) (kc_NoSeat : PySem.W.keepIn K (.ref c_NoSeat) = true) (bc_NoSeat : PySem.W.subIn K (.ref c_NoSeat) (.type "BaseException") = some true) (tc_NoSeat : PySem.W.typeIn K (.ref c_NoSeat) = some (.type "type")) (hc_NoSeat : PySem.W.hasDictIn K c_NoSeat = true) (sc_NoSeat : PySem.W.subIn K (.ref c_NoSeat) (.ref c_NoSeat) = some true)
    (gc_NoEvening : PySem.W.nsIn K mainGlobals "NoEvening" = some (some (.ref c_NoEvening))) (x_NoEvening : PySem.W.excIn K c_NoEvening [.type "ValueError", .type "Exception", .type "BaseException", .type "object"] "ValueError.__new__" = true) (kc_NoEvening : PySem.W.keepIn K (.ref c_NoEvening) = true) (bc_NoEvening : PySem.W.subIn K (.ref c_NoEvening) (.type "BaseException") = some true) (tc_NoEvening : PySem.W.typeIn K (.ref c_NoEvening) = some (.type "type")) (hc_NoEvening : PySem.W.hasDictIn K c_NoEvening = true) (sc_NoEvening : PySem.W.subIn K (.ref c_NoEvening) (.ref c_NoEvening) = some true)
    (gc_NoDuty : PySem.W.nsIn K mainGlobals "NoDuty" = some (some (.ref c_NoDuty))) (x_NoDuty : PySem.W.excIn K c_NoDuty [.type "ValueError", .type "Exception", .type "BaseException", .type "object"] "ValueError.__new__" = true) (kc_NoDuty : PySem.W.keepIn K (.ref c_NoDuty) = true) (bc_NoDuty : PySem.W.subIn K (.ref c_NoDuty) (.type "BaseException") = some true) (tc_NoDuty : PySem.W.typeIn K (.ref c_NoDuty) = some (.type "type")) (hc_NoDuty : PySem.W.hasDictIn K c_NoDuty = true) (sc_NoDuty : PySem.W.subIn K (.ref c_NoDuty) (.ref c_NoDuty) = some true)
    (gc_NoGift : PySem.W.nsIn K mainGlobals "NoGift" = some (some (.ref c_NoGift))) (x_NoGift : PySem.W.excIn K c_NoGift [.type "ValueError", .type "Exception", .type "BaseException", .type "object"] "ValueError.__new__" = true) (kc_NoGift : PySem.W.keepIn K (.ref c_NoGift) = true) (bc_NoGift : PySem.W.subIn K (.ref c_NoGift) (.type "BaseException") = some true) (tc_NoGift : PySem.W.typeIn K (.ref c_NoGift) = some (.type "type")) (hc_NoGift : PySem.W.hasDictIn K c_NoGift = true) (sc_NoGift : PySem.W.subIn K (.ref c_NoGift) (.ref c_NoGift) = some true)
    (gc_Unlike : PySem.W.nsIn K mainGlobals "Unlike" = some (some (.ref c_Unlike))) (x_Unlike : PySem.W.excIn K c_Unlike [.type "ValueError", .type "Exception", .type "BaseException", .type "object"] "ValueError.__new__" = true) (kc_Unlike : PySem.W.keepIn K (.ref c_Unlike) = true) (bc_Unlike : PySem.W.subIn K (.ref c_Unlike) (.type "BaseException") = some true) (tc_Unlike : PySem.W.typeIn K (.ref c_Unlike) = some (.type "type")) (hc_Unlike : PySem.W.hasDictIn K c_Unlike = true) (sc_Unlike : PySem.W.subIn K (.ref c_Unlike) (.ref c_Unlike) = some true)
    (gc_NoFact : PySem.W.nsIn K mainGlobals "NoFact" = some (some (.ref c_NoFact))) (x_NoFact : PySem.W.excIn K c_NoFact [.type "ValueError", .type "Exception", .type "BaseException", .type "object"] "ValueError.__new__" = true) (kc_NoFact : PySem.W.keepIn K (.ref c_NoFact) = true) (bc_NoFact : PySem.W.subIn K (.ref c_NoFact) (.type "BaseException") = some true) (tc_NoFact : PySem.W.typeIn K (.ref c_NoFact) = some (.type "type")) (hc_NoFact : PySem.W.hasDictIn K c_NoFact = true) (sc_NoFact : PySem.W.subIn K (.ref c_NoFact) (.ref c_NoFact) = some true)
    (gc_NoBack : PySem.W.nsIn K mainGlobals "NoBack" = some (some (.ref c_NoBack))) (x_NoBack : PySem.W.excIn K c_NoBack [.type "ValueError", .type "Exception", .type "BaseException", .type "object"] "ValueError.__new__" = true) (kc_NoBack : PySem.W.keepIn K (.ref c_NoBack) = true) (bc_NoBack : PySem.W.subIn K (.ref c_NoBack) (.type "BaseException") = some true) (tc_NoBack : PySem.W.typeIn K (.ref c_NoBack) = some (.type "type")) (hc_NoBack : PySem.W.hasDictIn K c_NoBack = true) (sc_NoBack : PySem.W.subIn K (.ref c_NoBack) (.ref c_NoBack) = some true)
    (gc_NoDeed : PySem.W.nsIn K mainGlobals "NoDeed" = some (some (.ref c_NoDeed))) (x_NoDeed : PySem.W.excIn K c_NoDeed [.type "ValueError", .type "Exception", .type "BaseException", .type "object"] "ValueError.__new__" = true) (kc_NoDeed : PySem.W.keepIn K (.ref c_NoDeed) = true) (bc_NoDeed : PySem.W.subIn K (.ref c_NoDeed) (.type "BaseException") = some true) (tc_NoDeed : PySem.W.typeIn K (.ref c_NoDeed) = some (.type "type")) (hc_NoDeed : PySem.W.hasDictIn K c_NoDeed = true) (sc_NoDeed : PySem.W.subIn K (.ref c_NoDeed) (.ref c_NoDeed) = some true)
    (gc_NoText : PySem.W.nsIn K mainGlobals "NoText" = some (some (.ref c_NoText))) (x_NoText : PySem.W.excIn K c_NoText [.type "ValueError", .type "Exception", .type "BaseException", .type "object"] "ValueError.__new__" = true) (kc_NoText : PySem.W.keepIn K (.ref c_NoText) = true) (bc_NoText : PySem.W.subIn K (.ref c_NoText) (.type "BaseException") = some true) (tc_NoText : PySem.W.typeIn K (.ref c_NoText) = some (.type "type")) (hc_NoText : PySem.W.hasDictIn K c_NoText = true) (sc_NoText : PySem.W.subIn K (.ref c_NoText) (.ref c_NoText) = some true)
    (gc_NoRow : PySem.W.nsIn K mainGlobals "NoRow" = some (some (.ref c_NoRow))) (x_NoRow : PySem.W.excIn K c_NoRow [.type "ValueError", .type "Exception", .type "BaseException", .type "object"] "ValueError.__new__" = true) (kc_NoRow : PySem.W.keepIn K (.ref c_NoRow) = true) (bc_NoRow : PySem.W.subIn K (.ref c_NoRow) (.type "BaseException") = some true) (tc_NoRow : PySem.W.typeIn K (.ref c_NoRow) = some (.type "type")) (hc_NoRow : PySem.W.hasDictIn K c_NoRow = true) (sc_NoRow : PySem.W.subIn K (.ref c_NoRow) (.ref c_NoRow) = some true)
    (gc_ClubError : PySem.W.nsIn K mainGlobals "ClubError" = some (some (.ref c_ClubError))) (x_ClubError : PySem.W.excIn K c_ClubError [.type "ValueError", .type "Exception", .type "BaseException", .type "object"] "ValueError.__new__" = true) (kc_ClubError : PySem.W.keepIn K (.ref c_ClubError) = true) (bc_ClubError : PySem.W.subIn K (.ref c_ClubError) (.type "BaseException") = some true) (tc_ClubError : PySem.W.typeIn K (.ref c_ClubError) = some (.type "type")) (hc_ClubError : PySem.W.hasDictIn K c_ClubError = true) (sc_ClubError : PySem.W.subIn K (.ref c_ClubError) (.ref c_ClubError) = some true)
    (gc_Taken : PySem.W.nsIn K mainGlobals "Taken" = some (some (.ref c_Taken))) (xL_Taken : K.lookup c_Taken = some (excClassObj nm_Taken q_Taken c_Taken N_Taken bs_Taken bm_Taken true sn_Taken sub_Taken ab_Taken col_Taken dd_Taken m0_Taken m1_Taken m2_Taken m3_Taken m5_Taken "ValueError.__new__")) (rv_Taken : PySem.HandSPX.refsVE bm_Taken = true) (kc_Taken : PySem.W.keepIn K (.ref c_Taken) = true) (bc_Taken : PySem.W.subIn K (.ref c_Taken) (.type "BaseException") = some true) (tc_Taken : PySem.W.typeIn K (.ref c_Taken) = some (.type "type")) (hc_Taken : PySem.W.hasDictIn K c_Taken = true) (sc_Taken : PySem.W.subIn K (.ref c_Taken) (.ref c_Taken) = some true) (sa_Taken : PySem.W.findIn K (.ref c_Taken) "__setattr__" = some (some (.builtin "object.__setattr__"))) (ic_Taken : PySem.W.findIn K (.ref c_Taken) "__init__" = some (some (.ref fi_Taken))) (ti_Taken : PySem.W.typeIn K (.ref fi_Taken) = some (.type "function")) (il_Taken : K.lookup fi_Taken = some ⟨ioc_Taken, iod_Taken, .func (PySem.W.fnOf "__init__" "Taken.__init__" (defArgs s_Taken_init) (defBody s_Taken_init) (defScope s_Taken_init) .none ikV_Taken idc_Taken ipm_Taken ian_Taken icd_Taken ict_Taken), isl_Taken⟩) (icc_Taken : PySem.W.codeIn K icd_Taken "Taken.__init__" = true) (ik_Taken : PySem.W.keepIn K (.ref fi_Taken) = true) (fno_Taken_person : PySem.W.findIn K (.ref c_Taken) "person" = some none)
    (gc_Beyond : PySem.W.nsIn K mainGlobals "Beyond" = some (some (.ref c_Beyond))) (xL_Beyond : K.lookup c_Beyond = some (excClassObj nm_Beyond q_Beyond c_Beyond N_Beyond bs_Beyond bm_Beyond true sn_Beyond sub_Beyond ab_Beyond col_Beyond dd_Beyond m0_Beyond m1_Beyond m2_Beyond m3_Beyond m5_Beyond "ValueError.__new__")) (rv_Beyond : PySem.HandSPX.refsVE bm_Beyond = true) (kc_Beyond : PySem.W.keepIn K (.ref c_Beyond) = true) (bc_Beyond : PySem.W.subIn K (.ref c_Beyond) (.type "BaseException") = some true) (tc_Beyond : PySem.W.typeIn K (.ref c_Beyond) = some (.type "type")) (hc_Beyond : PySem.W.hasDictIn K c_Beyond = true) (sc_Beyond : PySem.W.subIn K (.ref c_Beyond) (.ref c_Beyond) = some true) (sa_Beyond : PySem.W.findIn K (.ref c_Beyond) "__setattr__" = some (some (.builtin "object.__setattr__"))) (ic_Beyond : PySem.W.findIn K (.ref c_Beyond) "__init__" = some (some (.ref fi_Beyond))) (ti_Beyond : PySem.W.typeIn K (.ref fi_Beyond) = some (.type "function")) (il_Beyond : K.lookup fi_Beyond = some ⟨ioc_Beyond, iod_Beyond, .func (PySem.W.fnOf "__init__" "Beyond.__init__" (defArgs s_Beyond_init) (defBody s_Beyond_init) (defScope s_Beyond_init) .none ikV_Beyond idc_Beyond ipm_Beyond ian_Beyond icd_Beyond ict_Beyond), isl_Beyond⟩) (icc_Beyond : PySem.W.codeIn K icd_Beyond "Beyond.__init__" = true) (ik_Beyond : PySem.W.keepIn K (.ref fi_Beyond) = true) (fno_Beyond_many : PySem.W.findIn K (.ref c_Beyond) "many" = some none) (fno_Beyond_seats : PySem.W.findIn K (.ref c_Beyond) "seats" = some none)
    (gc_Unbalanced : PySem.W.nsIn K mainGlobals "Unbalanced" = some (some (.ref c_Unbalanced))) (xL_Unbalanced : K.lookup c_Unbalanced = some (excClassObj nm_Unbalanced q_Unbalanced c_Unbalanced N_Unbalanced bs_Unbalanced bm_Unbalanced true sn_Unbalanced sub_Unbalanced ab_Unbalanced col_Unbalanced dd_Unbalanced m0_Unbalanced m1_Unbalanced m2_Unbalanced m3_Unbalanced m5_Unbalanced "ValueError.__new__")) (rv_Unbalanced : PySem.HandSPX.refsVE bm_Unbalanced = true) (kc_Unbalanced : PySem.W.keepIn K (.ref c_Unbalanced) = true) (bc_Unbalanced : PySem.W.subIn K (.ref c_Unbalanced) (.type "BaseException") = some true) (tc_Unbalanced : PySem.W.typeIn K (.ref c_Unbalanced) = some (.type "type")) (hc_Unbalanced : PySem.W.hasDictIn K c_Unbalanced = true) (sc_Unbalanced : PySem.W.subIn K (.ref c_Unbalanced) (.ref c_Unbalanced) = some true) (sa_Unbalanced : PySem.W.findIn K (.ref c_Unbalanced) "__setattr__" = some (some (.builtin "object.__setattr__"))) (ic_Unbalanced : PySem.W.findIn K (.ref c_Unbalanced) "__init__" = some (some (.ref fi_Unbalanced))) (ti_Unbalanced : PySem.W.typeIn K (.ref fi_Unbalanced) = some (.type "function")) (il_Unbalanced : K.lookup fi_Unbalanced = some ⟨ioc_Unbalanced, iod_Unbalanced, .func (PySem.W.fnOf "__init__" "Unbalanced.__init__" (defArgs s_Unbalanced_init) (defBody s_Unbalanced_init) (defScope s_Unbalanced_init) .none ikV_Unbalanced idc_Unbalanced ipm_Unbalanced ian_Unbalanced icd_Unbalanced ict_Unbalanced), isl_Unbalanced⟩) (icc_Unbalanced : PySem.W.codeIn K icd_Unbalanced "Unbalanced.__init__" = true) (ik_Unbalanced : PySem.W.keepIn K (.ref fi_Unbalanced) = true) (fno_Unbalanced_owed : PySem.W.findIn K (.ref c_Unbalanced) "owed" = some none)
    (gc_Astray : PySem.W.nsIn K mainGlobals "Astray" = some (some (.ref c_Astray))) (xL_Astray : K.lookup c_Astray = some (excClassObj nm_Astray q_Astray c_Astray N_Astray bs_Astray bm_Astray true sn_Astray sub_Astray ab_Astray col_Astray dd_Astray m0_Astray m1_Astray m2_Astray m3_Astray m5_Astray "ValueError.__new__")) (rv_Astray : PySem.HandSPX.refsVE bm_Astray = true) (kc_Astray : PySem.W.keepIn K (.ref c_Astray) = true) (bc_Astray : PySem.W.subIn K (.ref c_Astray) (.type "BaseException") = some true) (tc_Astray : PySem.W.typeIn K (.ref c_Astray) = some (.type "type")) (hc_Astray : PySem.W.hasDictIn K c_Astray = true) (sc_Astray : PySem.W.subIn K (.ref c_Astray) (.ref c_Astray) = some true) (sa_Astray : PySem.W.findIn K (.ref c_Astray) "__setattr__" = some (some (.builtin "object.__setattr__"))) (ic_Astray : PySem.W.findIn K (.ref c_Astray) "__init__" = some (some (.ref fi_Astray))) (ti_Astray : PySem.W.typeIn K (.ref fi_Astray) = some (.type "function")) (il_Astray : K.lookup fi_Astray = some ⟨ioc_Astray, iod_Astray, .func (PySem.W.fnOf "__init__" "Astray.__init__" (defArgs s_Astray_init) (defBody s_Astray_init) (defScope s_Astray_init) .none ikV_Astray idc_Astray ipm_Astray ian_Astray icd_Astray ict_Astray), isl_Astray⟩) (icc_Astray : PySem.W.codeIn K icd_Astray "Astray.__init__" = true) (ik_Astray : PySem.W.keepIn K (.ref fi_Astray) = true) (fno_Astray_at : PySem.W.findIn K (.ref c_Astray) "at" = some none) (fno_Astray_many : PySem.W.findIn K (.ref c_Astray) "many" = some none) (fno_Astray_seats : PySem.W.findIn K (.ref c_Astray) "seats" = some none)
    (e1_NoPart : PySem.W.findIn K (.ref c_NoPart) "__getattribute__" = some (some (.builtin "BaseException.__getattribute__"))) (e2_NoPart : PySem.W.findIn K (.ref c_NoPart) "__getattr__" = some none) (e3_NoPart : PySem.W.findIn K (.ref c_NoPart) "__class__" = some (some (.builtin "object.__class__"))) (e4_NoPart : PySem.W.specialIn K (.builtin "object.__class__") "__get__" = some (some (.builtin "getset_descriptor.__get__"))) (e5_NoPart : PySem.W.takesIn K (.builtin "object.__class__") = some true) (e6_NoPart : PySem.W.mroIn K c_NoPart (.type "object") = some true) (e7_NoPart : PySem.W.subIn K (.ref c_NoPart) (.type "ValueError") = some true) (icl_NoPart : PySem.W.isClsIn K c_NoPart = true)
    (e1_NoName : PySem.W.findIn K (.ref c_NoName) "__getattribute__" = some (some (.builtin "BaseException.__getattribute__"))) (e2_NoName : PySem.W.findIn K (.ref c_NoName) "__getattr__" = some none) (e3_NoName : PySem.W.findIn K (.ref c_NoName) "__class__" = some (some (.builtin "object.__class__"))) (e4_NoName : PySem.W.specialIn K (.builtin "object.__class__") "__get__" = some (some (.builtin "getset_descriptor.__get__"))) (e5_NoName : PySem.W.takesIn K (.builtin "object.__class__") = some true) (e6_NoName : PySem.W.mroIn K c_NoName (.type "object") = some true) (e7_NoName : PySem.W.subIn K (.ref c_NoName) (.type "ValueError") = some true) (icl_NoName : PySem.W.isClsIn K c_NoName = true)
    (e1_NoWeight : PySem.W.findIn K (.ref c_NoWeight) "__getattribute__" = some (some (.builtin "BaseException.__getattribute__"))) (e2_NoWeight : PySem.W.findIn K (.ref c_NoWeight) "__getattr__" = some none) (e3_NoWeight : PySem.W.findIn K (.ref c_NoWeight) "__class__" = some (some (.builtin "object.__class__"))) (e4_NoWeight : PySem.W.specialIn K (.builtin "object.__class__") "__get__" = some (some (.builtin "getset_descriptor.__get__"))) (e5_NoWeight : PySem.W.takesIn K (.builtin "object.__class__") = some true) (e6_NoWeight : PySem.W.mroIn K c_NoWeight (.type "object") = some true) (e7_NoWeight : PySem.W.subIn K (.ref c_NoWeight) (.type "ValueError") = some true) (icl_NoWeight : PySem.W.isClsIn K c_NoWeight = true)
    (e1_NoPerson : PySem.W.findIn K (.ref c_NoPerson) "__getattribute__" = some (some (.builtin "BaseException.__getattribute__"))) (e2_NoPerson : PySem.W.findIn K (.ref c_NoPerson) "__getattr__" = some none) (e3_NoPerson : PySem.W.findIn K (.ref c_NoPerson) "__class__" = some (some (.builtin "object.__class__"))) (e4_NoPerson : PySem.W.specialIn K (.builtin "object.__class__") "__get__" = some (some (.builtin "getset_descriptor.__get__"))) (e5_NoPerson : PySem.W.takesIn K (.builtin "object.__class__") = some true) (e6_NoPerson : PySem.W.mroIn K c_NoPerson (.type "object") = some true) (e7_NoPerson : PySem.W.subIn K (.ref c_NoPerson) (.type "ValueError") = some true) (icl_NoPerson : PySem.W.isClsIn K c_NoPerson = true)
    (e1_NoSeat : PySem.W.findIn K (.ref c_NoSeat) "__getattribute__" = some (some (.builtin "BaseException.__getattribute__"))) (e2_NoSeat : PySem.W.findIn K (.ref c_NoSeat) "__getattr__" = some none) (e3_NoSeat : PySem.W.findIn K (.ref c_NoSeat) "__class__" = some (some (.builtin "object.__class__"))) (e4_NoSeat : PySem.W.specialIn K (.builtin "object.__class__") "__get__" = some (some (.builtin "getset_descriptor.__get__"))) (e5_NoSeat : PySem.W.takesIn K (.builtin "object.__class__") = some true) (e6_NoSeat : PySem.W.mroIn K c_NoSeat (.type "object") = some true) (e7_NoSeat : PySem.W.subIn K (.ref c_NoSeat) (.type "ValueError") = some true) (icl_NoSeat : PySem.W.isClsIn K c_NoSeat = true)
    (e1_NoEvening : PySem.W.findIn K (.ref c_NoEvening) "__getattribute__" = some (some (.builtin "BaseException.__getattribute__"))) (e2_NoEvening : PySem.W.findIn K (.ref c_NoEvening) "__getattr__" = some none) (e3_NoEvening : PySem.W.findIn K (.ref c_NoEvening) "__class__" = some (some (.builtin "object.__class__"))) (e4_NoEvening : PySem.W.specialIn K (.builtin "object.__class__") "__get__" = some (some (.builtin "getset_descriptor.__get__"))) (e5_NoEvening : PySem.W.takesIn K (.builtin "object.__class__") = some true) (e6_NoEvening : PySem.W.mroIn K c_NoEvening (.type "object") = some true) (e7_NoEvening : PySem.W.subIn K (.ref c_NoEvening) (.type "ValueError") = some true) (icl_NoEvening : PySem.W.isClsIn K c_NoEvening = true)
    (e1_NoDuty : PySem.W.findIn K (.ref c_NoDuty) "__getattribute__" = some (some (.builtin "BaseException.__getattribute__"))) (e2_NoDuty : PySem.W.findIn K (.ref c_NoDuty) "__getattr__" = some none) (e3_NoDuty : PySem.W.findIn K (.ref c_NoDuty) "__class__" = some (some (.builtin "object.__class__"))) (e4_NoDuty : PySem.W.specialIn K (.builtin "object.__class__") "__get__" = some (some (.builtin "getset_descriptor.__get__"))) (e5_NoDuty : PySem.W.takesIn K (.builtin "object.__class__") = some true) (e6_NoDuty : PySem.W.mroIn K c_NoDuty (.type "object") = some true) (e7_NoDuty : PySem.W.subIn K (.ref c_NoDuty) (.type "ValueError") = some true) (icl_NoDuty : PySem.W.isClsIn K c_NoDuty = true)
    (e1_NoGift : PySem.W.findIn K (.ref c_NoGift) "__getattribute__" = some (some (.builtin "BaseException.__getattribute__"))) (e2_NoGift : PySem.W.findIn K (.ref c_NoGift) "__getattr__" = some none) (e3_NoGift : PySem.W.findIn K (.ref c_NoGift) "__class__" = some (some (.builtin "object.__class__"))) (e4_NoGift : PySem.W.specialIn K (.builtin "object.__class__") "__get__" = some (some (.builtin "getset_descriptor.__get__"))) (e5_NoGift : PySem.W.takesIn K (.builtin "object.__class__") = some true) (e6_NoGift : PySem.W.mroIn K c_NoGift (.type "object") = some true) (e7_NoGift : PySem.W.subIn K (.ref c_NoGift) (.type "ValueError") = some true) (icl_NoGift : PySem.W.isClsIn K c_NoGift = true)
    (e1_Unlike : PySem.W.findIn K (.ref c_Unlike) "__getattribute__" = some (some (.builtin "BaseException.__getattribute__"))) (e2_Unlike : PySem.W.findIn K (.ref c_Unlike) "__getattr__" = some none) (e3_Unlike : PySem.W.findIn K (.ref c_Unlike) "__class__" = some (some (.builtin "object.__class__"))) (e4_Unlike : PySem.W.specialIn K (.builtin "object.__class__") "__get__" = some (some (.builtin "getset_descriptor.__get__"))) (e5_Unlike : PySem.W.takesIn K (.builtin "object.__class__") = some true) (e6_Unlike : PySem.W.mroIn K c_Unlike (.type "object") = some true) (e7_Unlike : PySem.W.subIn K (.ref c_Unlike) (.type "ValueError") = some true) (icl_Unlike : PySem.W.isClsIn K c_Unlike = true)
    (e1_NoFact : PySem.W.findIn K (.ref c_NoFact) "__getattribute__" = some (some (.builtin "BaseException.__getattribute__"))) (e2_NoFact : PySem.W.findIn K (.ref c_NoFact) "__getattr__" = some none) (e3_NoFact : PySem.W.findIn K (.ref c_NoFact) "__class__" = some (some (.builtin "object.__class__"))) (e4_NoFact : PySem.W.specialIn K (.builtin "object.__class__") "__get__" = some (some (.builtin "getset_descriptor.__get__"))) (e5_NoFact : PySem.W.takesIn K (.builtin "object.__class__") = some true) (e6_NoFact : PySem.W.mroIn K c_NoFact (.type "object") = some true) (e7_NoFact : PySem.W.subIn K (.ref c_NoFact) (.type "ValueError") = some true) (icl_NoFact : PySem.W.isClsIn K c_NoFact = true)
    (e1_NoBack : PySem.W.findIn K (.ref c_NoBack) "__getattribute__" = some (some (.builtin "BaseException.__getattribute__"))) (e2_NoBack : PySem.W.findIn K (.ref c_NoBack) "__getattr__" = some none) (e3_NoBack : PySem.W.findIn K (.ref c_NoBack) "__class__" = some (some (.builtin "object.__class__"))) (e4_NoBack : PySem.W.specialIn K (.builtin "object.__class__") "__get__" = some (some (.builtin "getset_descriptor.__get__"))) (e5_NoBack : PySem.W.takesIn K (.builtin "object.__class__") = some true) (e6_NoBack : PySem.W.mroIn K c_NoBack (.type "object") = some true) (e7_NoBack : PySem.W.subIn K (.ref c_NoBack) (.type "ValueError") = some true) (icl_NoBack : PySem.W.isClsIn K c_NoBack = true)
    (e1_NoDeed : PySem.W.findIn K (.ref c_NoDeed) "__getattribute__" = some (some (.builtin "BaseException.__getattribute__"))) (e2_NoDeed : PySem.W.findIn K (.ref c_NoDeed) "__getattr__" = some none) (e3_NoDeed : PySem.W.findIn K (.ref c_NoDeed) "__class__" = some (some (.builtin "object.__class__"))) (e4_NoDeed : PySem.W.specialIn K (.builtin "object.__class__") "__get__" = some (some (.builtin "getset_descriptor.__get__"))) (e5_NoDeed : PySem.W.takesIn K (.builtin "object.__class__") = some true) (e6_NoDeed : PySem.W.mroIn K c_NoDeed (.type "object") = some true) (e7_NoDeed : PySem.W.subIn K (.ref c_NoDeed) (.type "ValueError") = some true) (icl_NoDeed : PySem.W.isClsIn K c_NoDeed = true)
    (e1_NoText : PySem.W.findIn K (.ref c_NoText) "__getattribute__" = some (some (.builtin "BaseException.__getattribute__"))) (e2_NoText : PySem.W.findIn K (.ref c_NoText) "__getattr__" = some none) (e3_NoText : PySem.W.findIn K (.ref c_NoText) "__class__" = some (some (.builtin "object.__class__"))) (e4_NoText : PySem.W.specialIn K (.builtin "object.__class__") "__get__" = some (some (.builtin "getset_descriptor.__get__"))) (e5_NoText : PySem.W.takesIn K (.builtin "object.__class__") = some true) (e6_NoText : PySem.W.mroIn K c_NoText (.type "object") = some true) (e7_NoText : PySem.W.subIn K (.ref c_NoText) (.type "ValueError") = some true) (icl_NoText : PySem.W.isClsIn K c_NoText = true)
    (e1_NoRow : PySem.W.findIn K (.ref c_NoRow) "__getattribute__" = some (some (.builtin "BaseException.__getattribute__"))) (e2_NoRow : PySem.W.findIn K (.ref c_NoRow) "__getattr__" = some none) (e3_NoRow : PySem.W.findIn K (.ref c_NoRow) "__class__" = some (some (.builtin "object.__class__"))) (e4_NoRow : PySem.W.specialIn K (.builtin "object.__class__") "__get__" = some (some (.builtin "getset_descriptor.__get__"))) (e5_NoRow : PySem.W.takesIn K (.builtin "object.__class__") = some true) (e6_NoRow : PySem.W.mroIn K c_NoRow (.type "object") = some true) (e7_NoRow : PySem.W.subIn K (.ref c_NoRow) (.type "ValueError") = some true) (icl_NoRow : PySem.W.isClsIn K c_NoRow = true)
    (e1_Taken : PySem.W.findIn K (.ref c_Taken) "__getattribute__" = some (some (.builtin "BaseException.__getattribute__"))) (e2_Taken : PySem.W.findIn K (.ref c_Taken) "__getattr__" = some none) (e3_Taken : PySem.W.findIn K (.ref c_Taken) "__class__" = some (some (.builtin "object.__class__"))) (e4_Taken : PySem.W.specialIn K (.builtin "object.__class__") "__get__" = some (some (.builtin "getset_descriptor.__get__"))) (e5_Taken : PySem.W.takesIn K (.builtin "object.__class__") = some true) (e6_Taken : PySem.W.mroIn K c_Taken (.type "object") = some true) (e7_Taken : PySem.W.subIn K (.ref c_Taken) (.type "ValueError") = some true) (icl_Taken : PySem.W.isClsIn K c_Taken = true)
    (e1_Beyond : PySem.W.findIn K (.ref c_Beyond) "__getattribute__" = some (some (.builtin "BaseException.__getattribute__"))) (e2_Beyond : PySem.W.findIn K (.ref c_Beyond) "__getattr__" = some none) (e3_Beyond : PySem.W.findIn K (.ref c_Beyond) "__class__" = some (some (.builtin "object.__class__"))) (e4_Beyond : PySem.W.specialIn K (.builtin "object.__class__") "__get__" = some (some (.builtin "getset_descriptor.__get__"))) (e5_Beyond : PySem.W.takesIn K (.builtin "object.__class__") = some true) (e6_Beyond : PySem.W.mroIn K c_Beyond (.type "object") = some true) (e7_Beyond : PySem.W.subIn K (.ref c_Beyond) (.type "ValueError") = some true) (icl_Beyond : PySem.W.isClsIn K c_Beyond = true)
    (e1_Unbalanced : PySem.W.findIn K (.ref c_Unbalanced) "__getattribute__" = some (some (.builtin "BaseException.__getattribute__"))) (e2_Unbalanced : PySem.W.findIn K (.ref c_Unbalanced) "__getattr__" = some none) (e3_Unbalanced : PySem.W.findIn K (.ref c_Unbalanced) "__class__" = some (some (.builtin "object.__class__"))) (e4_Unbalanced : PySem.W.specialIn K (.builtin "object.__class__") "__get__" = some (some (.builtin "getset_descriptor.__get__"))) (e5_Unbalanced : PySem.W.takesIn K (.builtin "object.__class__") = some true) (e6_Unbalanced : PySem.W.mroIn K c_Unbalanced (.type "object") = some true) (e7_Unbalanced : PySem.W.subIn K (.ref c_Unbalanced) (.type "ValueError") = some true) (icl_Unbalanced : PySem.W.isClsIn K c_Unbalanced = true)
    (e1_Astray : PySem.W.findIn K (.ref c_Astray) "__getattribute__" = some (some (.builtin "BaseException.__getattribute__"))) (e2_Astray : PySem.W.findIn K (.ref c_Astray) "__getattr__" = some none) (e3_Astray : PySem.W.findIn K (.ref c_Astray) "__class__" = some (some (.builtin "object.__class__"))) (e4_Astray : PySem.W.specialIn K (.builtin "object.__class__") "__get__" = some (some (.builtin "getset_descriptor.__get__"))) (e5_Astray : PySem.W.takesIn K (.builtin "object.__class__") = some true) (e6_Astray : PySem.W.mroIn K c_Astray (.type "object") = some true) (e7_Astray : PySem.W.subIn K (.ref c_Astray) (.type "ValueError") = some true) (icl_Astray : PySem.W.isClsIn K c_Astray = true)
    (e1_ClubError : PySem.W.findIn K (.ref c_ClubError) "__getattribute__" = some (some (.builtin "BaseException.__getattribute__"))) (e2_ClubError : PySem.W.findIn K (.ref c_ClubError) "__getattr__" = some none) (e3_ClubError : PySem.W.findIn K (.ref c_ClubError) "__class__" = some (some (.builtin "object.__class__"))) (e4_ClubError : PySem.W.specialIn K (.builtin "object.__class__") "__get__" = some (some (.builtin "getset_descriptor.__get__"))) (e5_ClubError : PySem.W.takesIn K (.builtin "object.__class__") = some true) (e6_ClubError : PySem.W.mroIn K c_ClubError (.type "object") = some true) (e7_ClubError : PySem.W.subIn K (.ref c_ClubError) (.type "ValueError") = some true) (icl_ClubError : PySem.W.isClsIn K c_ClubError = true)
    (kall : rowsE K [c_NoPart, c_NoName, c_NoWeight, c_NoPerson, c_NoSeat, c_NoEvening, c_NoDuty, c_NoGift, c_Unlike, c_NoFact, c_NoBack, c_NoDeed, c_NoText, c_NoRow, c_Taken, c_Beyond, c_Unbalanced, c_Astray, c_ClubError] = true)
    (s_CE_Taken : PySem.W.subIn K (.ref c_Taken) (.ref c_ClubError) = some true)
    (s_CE_Beyond : PySem.W.subIn K (.ref c_Beyond) (.ref c_ClubError) = some true)
    (s_CE_Unbalanced : PySem.W.subIn K (.ref c_Unbalanced) (.ref c_ClubError) = some true)
    (s_CE_Astray : PySem.W.subIn K (.ref c_Astray) (.ref c_ClubError) = some true)
    (s_CE_ClubError : PySem.W.subIn K (.ref c_ClubError) (.ref c_ClubError) = some true)
    (n_ValueError : PySem.W.nsIn K mainGlobals "ValueError" = some none)
    (n_abs : PySem.W.nsIn K mainGlobals "abs" = some none)
    (n_all : PySem.W.nsIn K mainGlobals "all" = some none)
    (n_divmod : PySem.W.nsIn K mainGlobals "divmod" = some none)
    (n_enumerate : PySem.W.nsIn K mainGlobals "enumerate" = some none)
    (n_isinstance : PySem.W.nsIn K mainGlobals "isinstance" = some none)
    (n_len : PySem.W.nsIn K mainGlobals "len" = some none)
    (n_max : PySem.W.nsIn K mainGlobals "max" = some none)
    (n_range : PySem.W.nsIn K mainGlobals "range" = some none)
    (n_repr : PySem.W.nsIn K mainGlobals "repr" = some none)
    (n_tuple : PySem.W.nsIn K mainGlobals "tuple" = some none)
    : ∃ fd : FuncData, (∀ (s : Shared) (v : Value), BindsTo s fd ⟨[v], []⟩ [("_law_script", v)]) ∧ ∀ base : Heap, K.In base → base.Ns mainGlobals mg → FnAt callerA l.prog w K mg base CX0 4 fa fd ["_law_script"] (spLaw K) := by
  have e := hfa.symm.trans (PySem.W.mg_of X G a_law)
  cases e
  have F_lpot := fun_mk (st := s_lpot) l_lpot c_lpot k_lpot
  have F_ldigit := fun_mk (st := s_ldigit) l_ldigit c_ldigit k_ldigit
  have F_lname := fun_mk (st := s_lname) l_lname c_lname k_lname
  have F_llow := fun_mk (st := s_llow) l_llow c_llow k_llow
  have F_lplain := fun_mk (st := s_lplain) l_lplain c_lplain k_lplain
  have F_lwhich := fun_mk (st := s_lwhich) l_lwhich c_lwhich k_lwhich
  have F_lfields := fun_mk (st := s_lfields) l_lfields c_lfields k_lfields
  have F_lraised := fun_mk (st := s_lraised) l_lraised c_lraised k_lraised
  have F_lthings := fun_mk (st := s_lthings) l_lthings c_lthings k_lthings
  have F_law := fun_mk (st := s_law) l_law c_law k_law
  exact ⟨_, fun s v => .of_eq rfl, fun base _ _ => ok_law (P := l.prog) (w := w) (base := base) ({
      f_lpot := f_lpot, d_lpot := _, g_lpot := PySem.W.mg_of X G a_lpot, F_lpot := F_lpot, b_lpot := F_lpot.binds (ps := ["_law_script", "_law_k"]) (fun _ _ _ _ _ _ us hl => match us, hl with | [_, _], _ => rfl),
      f_ldigit := f_ldigit, d_ldigit := _, g_ldigit := PySem.W.mg_of X G a_ldigit, F_ldigit := F_ldigit, b_ldigit := F_ldigit.binds (ps := ["_law_pot_here", "_law_many"]) (fun _ _ _ _ _ _ us hl => match us, hl with | [_, _], _ => rfl),
      f_lname := f_lname, d_lname := _, g_lname := PySem.W.mg_of X G a_lname, F_lname := F_lname, b_lname := F_lname.binds (ps := ["_law_pot_here", "_law_used"]) (fun _ _ _ _ _ _ us hl => match us, hl with | [_, _], _ => rfl),
      f_llow := f_llow, d_llow := _, g_llow := PySem.W.mg_of X G a_llow, F_llow := F_llow, b_llow := F_llow.binds (ps := ["_law_above", "_law_below"]) (fun _ _ _ _ _ _ us hl => match us, hl with | [_, _], _ => rfl),
      f_lplain := f_lplain, d_lplain := _, g_lplain := PySem.W.mg_of X G a_lplain, F_lplain := F_lplain, b_lplain := F_lplain.binds (ps := ["_law_text"]) (fun _ _ _ _ _ _ us hl => match us, hl with | [_], _ => rfl),
      f_lwhich := f_lwhich, d_lwhich := _, g_lwhich := PySem.W.mg_of X G a_lwhich, F_lwhich := F_lwhich, b_lwhich := F_lwhich.binds (ps := ["_law_e"]) (fun _ _ _ _ _ _ us hl => match us, hl with | [_], _ => rfl),
      f_lfields := f_lfields, d_lfields := _, g_lfields := PySem.W.mg_of X G a_lfields, F_lfields := F_lfields, b_lfields := F_lfields.binds (ps := ["_law_e"]) (fun _ _ _ _ _ _ us hl => match us, hl with | [_], _ => rfl),
      f_lraised := f_lraised, d_lraised := _, g_lraised := PySem.W.mg_of X G a_lraised, F_lraised := F_lraised, b_lraised := F_lraised.binds (ps := ["_law_k", "_law_things_here"]) (fun _ _ _ _ _ _ us hl => match us, hl with | [_, _], _ => rfl),
      f_lthings := f_lthings, d_lthings := _, g_lthings := PySem.W.mg_of X G a_lthings, F_lthings := F_lthings, b_lthings := F_lthings.binds (ps := ["_law_pot_here"]) (fun _ _ _ _ _ _ us hl => match us, hl with | [_], _ => rfl),
      f_law := _, d_law := _, g_law := PySem.W.mg_of X G a_law, F_law := F_law, b_law := F_law.binds (ps := ["_law_script"]) (fun _ _ _ _ _ _ us hl => match us, hl with | [_], _ => rfl),
      c_NoPart := c_NoPart, gc_NoPart := PySem.W.mg_of X G gc_NoPart, x_NoPart := x_NoPart, kc_NoPart := kc_NoPart, bc_NoPart := bc_NoPart, tc_NoPart := tc_NoPart, hc_NoPart := hc_NoPart, sc_NoPart := sc_NoPart,
      c_NoName := c_NoName, gc_NoName := PySem.W.mg_of X G gc_NoName, x_NoName := x_NoName, kc_NoName := kc_NoName, bc_NoName := bc_NoName, tc_NoName := tc_NoName, hc_NoName := hc_NoName, sc_NoName := sc_NoName,
      c_NoWeight := c_NoWeight, gc_NoWeight := PySem.W.mg_of X G gc_NoWeight, x_NoWeight := x_NoWeight, kc_NoWeight := kc_NoWeight, bc_NoWeight := bc_NoWeight, tc_NoWeight := tc_NoWeight, hc_NoWeight := hc_NoWeight, sc_NoWeight := sc_NoWeight,
      c_NoPerson := c_NoPerson, gc_NoPerson := PySem.W.mg_of X G gc_NoPerson, x_NoPerson := x_NoPerson, kc_NoPerson := kc_NoPerson, bc_NoPerson := bc_NoPerson, tc_NoPerson := tc_NoPerson, hc_NoPerson := hc_NoPerson, sc_NoPerson := sc_NoPerson,
      c_NoSeat := c_NoSeat, gc_NoSeat := PySem.W.mg_of X G gc_NoSeat, x_NoSeat := x_NoSeat, kc_NoSeat := kc_NoSeat, bc_NoSeat := bc_NoSeat, tc_NoSeat := tc_NoSeat, hc_NoSeat := hc_NoSeat, sc_NoSeat := sc_NoSeat,
      c_NoEvening := c_NoEvening, gc_NoEvening := PySem.W.mg_of X G gc_NoEvening, x_NoEvening := x_NoEvening, kc_NoEvening := kc_NoEvening, bc_NoEvening := bc_NoEvening, tc_NoEvening := tc_NoEvening, hc_NoEvening := hc_NoEvening, sc_NoEvening := sc_NoEvening,
      c_NoDuty := c_NoDuty, gc_NoDuty := PySem.W.mg_of X G gc_NoDuty, x_NoDuty := x_NoDuty, kc_NoDuty := kc_NoDuty, bc_NoDuty := bc_NoDuty, tc_NoDuty := tc_NoDuty, hc_NoDuty := hc_NoDuty, sc_NoDuty := sc_NoDuty,
      c_NoGift := c_NoGift, gc_NoGift := PySem.W.mg_of X G gc_NoGift, x_NoGift := x_NoGift, kc_NoGift := kc_NoGift, bc_NoGift := bc_NoGift, tc_NoGift := tc_NoGift, hc_NoGift := hc_NoGift, sc_NoGift := sc_NoGift,
      c_Unlike := c_Unlike, gc_Unlike := PySem.W.mg_of X G gc_Unlike, x_Unlike := x_Unlike, kc_Unlike := kc_Unlike, bc_Unlike := bc_Unlike, tc_Unlike := tc_Unlike, hc_Unlike := hc_Unlike, sc_Unlike := sc_Unlike,
      c_NoFact := c_NoFact, gc_NoFact := PySem.W.mg_of X G gc_NoFact, x_NoFact := x_NoFact, kc_NoFact := kc_NoFact, bc_NoFact := bc_NoFact, tc_NoFact := tc_NoFact, hc_NoFact := hc_NoFact, sc_NoFact := sc_NoFact,
      c_NoBack := c_NoBack, gc_NoBack := PySem.W.mg_of X G gc_NoBack, x_NoBack := x_NoBack, kc_NoBack := kc_NoBack, bc_NoBack := bc_NoBack, tc_NoBack := tc_NoBack, hc_NoBack := hc_NoBack, sc_NoBack := sc_NoBack,
      c_NoDeed := c_NoDeed, gc_NoDeed := PySem.W.mg_of X G gc_NoDeed, x_NoDeed := x_NoDeed, kc_NoDeed := kc_NoDeed, bc_NoDeed := bc_NoDeed, tc_NoDeed := tc_NoDeed, hc_NoDeed := hc_NoDeed, sc_NoDeed := sc_NoDeed,
      c_NoText := c_NoText, gc_NoText := PySem.W.mg_of X G gc_NoText, x_NoText := x_NoText, kc_NoText := kc_NoText, bc_NoText := bc_NoText, tc_NoText := tc_NoText, hc_NoText := hc_NoText, sc_NoText := sc_NoText,
      c_NoRow := c_NoRow, gc_NoRow := PySem.W.mg_of X G gc_NoRow, x_NoRow := x_NoRow, kc_NoRow := kc_NoRow, bc_NoRow := bc_NoRow, tc_NoRow := tc_NoRow, hc_NoRow := hc_NoRow, sc_NoRow := sc_NoRow,
      c_ClubError := c_ClubError, gc_ClubError := PySem.W.mg_of X G gc_ClubError, x_ClubError := x_ClubError, kc_ClubError := kc_ClubError, bc_ClubError := bc_ClubError, tc_ClubError := tc_ClubError, hc_ClubError := hc_ClubError, sc_ClubError := sc_ClubError,
      c_Taken := c_Taken, gc_Taken := PySem.W.mg_of X G gc_Taken, kc_Taken := kc_Taken, bc_Taken := bc_Taken, tc_Taken := tc_Taken, hc_Taken := hc_Taken, sc_Taken := sc_Taken, oc_Taken := ⟨⟨nm_Taken, q_Taken, N_Taken, bs_Taken, bm_Taken, sn_Taken, sub_Taken, ab_Taken, col_Taken, dd_Taken, m0_Taken, m1_Taken, m2_Taken, m3_Taken, m5_Taken, xL_Taken, rv_Taken⟩, sa_Taken, bc_Taken, tc_Taken, kc_Taken⟩, fi_Taken := fi_Taken, fd_Taken := _, ic_Taken := ic_Taken, ti_Taken := ti_Taken, FI_Taken := fun_mk (st := s_Taken_init) il_Taken icc_Taken ik_Taken, bi_Taken := (fun_mk (st := s_Taken_init) il_Taken icc_Taken ik_Taken).binds (ps := ["self", "person"]) (fun _ _ _ _ _ _ us hl => match us, hl with | [_, _], _ => rfl), xf_Taken := ⟨e1_Taken, e2_Taken, bc_Taken, hc_Taken⟩, fno_Taken_person := fno_Taken_person,
      c_Beyond := c_Beyond, gc_Beyond := PySem.W.mg_of X G gc_Beyond, kc_Beyond := kc_Beyond, bc_Beyond := bc_Beyond, tc_Beyond := tc_Beyond, hc_Beyond := hc_Beyond, sc_Beyond := sc_Beyond, oc_Beyond := ⟨⟨nm_Beyond, q_Beyond, N_Beyond, bs_Beyond, bm_Beyond, sn_Beyond, sub_Beyond, ab_Beyond, col_Beyond, dd_Beyond, m0_Beyond, m1_Beyond, m2_Beyond, m3_Beyond, m5_Beyond, xL_Beyond, rv_Beyond⟩, sa_Beyond, bc_Beyond, tc_Beyond, kc_Beyond⟩, fi_Beyond := fi_Beyond, fd_Beyond := _, ic_Beyond := ic_Beyond, ti_Beyond := ti_Beyond, FI_Beyond := fun_mk (st := s_Beyond_init) il_Beyond icc_Beyond ik_Beyond, bi_Beyond := (fun_mk (st := s_Beyond_init) il_Beyond icc_Beyond ik_Beyond).binds (ps := ["self", "many", "seats"]) (fun _ _ _ _ _ _ us hl => match us, hl with | [_, _, _], _ => rfl), xf_Beyond := ⟨e1_Beyond, e2_Beyond, bc_Beyond, hc_Beyond⟩, fno_Beyond_many := fno_Beyond_many, fno_Beyond_seats := fno_Beyond_seats,
      c_Unbalanced := c_Unbalanced, gc_Unbalanced := PySem.W.mg_of X G gc_Unbalanced, kc_Unbalanced := kc_Unbalanced, bc_Unbalanced := bc_Unbalanced, tc_Unbalanced := tc_Unbalanced, hc_Unbalanced := hc_Unbalanced, sc_Unbalanced := sc_Unbalanced, oc_Unbalanced := ⟨⟨nm_Unbalanced, q_Unbalanced, N_Unbalanced, bs_Unbalanced, bm_Unbalanced, sn_Unbalanced, sub_Unbalanced, ab_Unbalanced, col_Unbalanced, dd_Unbalanced, m0_Unbalanced, m1_Unbalanced, m2_Unbalanced, m3_Unbalanced, m5_Unbalanced, xL_Unbalanced, rv_Unbalanced⟩, sa_Unbalanced, bc_Unbalanced, tc_Unbalanced, kc_Unbalanced⟩, fi_Unbalanced := fi_Unbalanced, fd_Unbalanced := _, ic_Unbalanced := ic_Unbalanced, ti_Unbalanced := ti_Unbalanced, FI_Unbalanced := fun_mk (st := s_Unbalanced_init) il_Unbalanced icc_Unbalanced ik_Unbalanced, bi_Unbalanced := (fun_mk (st := s_Unbalanced_init) il_Unbalanced icc_Unbalanced ik_Unbalanced).binds (ps := ["self", "owed"]) (fun _ _ _ _ _ _ us hl => match us, hl with | [_, _], _ => rfl), xf_Unbalanced := ⟨e1_Unbalanced, e2_Unbalanced, bc_Unbalanced, hc_Unbalanced⟩, fno_Unbalanced_owed := fno_Unbalanced_owed,
      c_Astray := c_Astray, gc_Astray := PySem.W.mg_of X G gc_Astray, kc_Astray := kc_Astray, bc_Astray := bc_Astray, tc_Astray := tc_Astray, hc_Astray := hc_Astray, sc_Astray := sc_Astray, oc_Astray := ⟨⟨nm_Astray, q_Astray, N_Astray, bs_Astray, bm_Astray, sn_Astray, sub_Astray, ab_Astray, col_Astray, dd_Astray, m0_Astray, m1_Astray, m2_Astray, m3_Astray, m5_Astray, xL_Astray, rv_Astray⟩, sa_Astray, bc_Astray, tc_Astray, kc_Astray⟩, fi_Astray := fi_Astray, fd_Astray := _, ic_Astray := ic_Astray, ti_Astray := ti_Astray, FI_Astray := fun_mk (st := s_Astray_init) il_Astray icc_Astray ik_Astray, bi_Astray := (fun_mk (st := s_Astray_init) il_Astray icc_Astray ik_Astray).binds (ps := ["self", "at", "many", "seats"]) (fun _ _ _ _ _ _ us hl => match us, hl with | [_, _, _, _], _ => rfl), xf_Astray := ⟨e1_Astray, e2_Astray, bc_Astray, hc_Astray⟩, fno_Astray_at := fno_Astray_at, fno_Astray_many := fno_Astray_many, fno_Astray_seats := fno_Astray_seats,
      xc_NoPart := ⟨e1_NoPart, e2_NoPart, bc_NoPart, hc_NoPart, e3_NoPart, e4_NoPart, e5_NoPart, e6_NoPart⟩, sv_NoPart := e7_NoPart,
      xc_NoName := ⟨e1_NoName, e2_NoName, bc_NoName, hc_NoName, e3_NoName, e4_NoName, e5_NoName, e6_NoName⟩, sv_NoName := e7_NoName,
      xc_NoWeight := ⟨e1_NoWeight, e2_NoWeight, bc_NoWeight, hc_NoWeight, e3_NoWeight, e4_NoWeight, e5_NoWeight, e6_NoWeight⟩, sv_NoWeight := e7_NoWeight,
      xc_NoPerson := ⟨e1_NoPerson, e2_NoPerson, bc_NoPerson, hc_NoPerson, e3_NoPerson, e4_NoPerson, e5_NoPerson, e6_NoPerson⟩, sv_NoPerson := e7_NoPerson,
      xc_NoSeat := ⟨e1_NoSeat, e2_NoSeat, bc_NoSeat, hc_NoSeat, e3_NoSeat, e4_NoSeat, e5_NoSeat, e6_NoSeat⟩, sv_NoSeat := e7_NoSeat,
      xc_NoEvening := ⟨e1_NoEvening, e2_NoEvening, bc_NoEvening, hc_NoEvening, e3_NoEvening, e4_NoEvening, e5_NoEvening, e6_NoEvening⟩, sv_NoEvening := e7_NoEvening,
      xc_NoDuty := ⟨e1_NoDuty, e2_NoDuty, bc_NoDuty, hc_NoDuty, e3_NoDuty, e4_NoDuty, e5_NoDuty, e6_NoDuty⟩, sv_NoDuty := e7_NoDuty,
      xc_NoGift := ⟨e1_NoGift, e2_NoGift, bc_NoGift, hc_NoGift, e3_NoGift, e4_NoGift, e5_NoGift, e6_NoGift⟩, sv_NoGift := e7_NoGift,
      xc_Unlike := ⟨e1_Unlike, e2_Unlike, bc_Unlike, hc_Unlike, e3_Unlike, e4_Unlike, e5_Unlike, e6_Unlike⟩, sv_Unlike := e7_Unlike,
      xc_NoFact := ⟨e1_NoFact, e2_NoFact, bc_NoFact, hc_NoFact, e3_NoFact, e4_NoFact, e5_NoFact, e6_NoFact⟩, sv_NoFact := e7_NoFact,
      xc_NoBack := ⟨e1_NoBack, e2_NoBack, bc_NoBack, hc_NoBack, e3_NoBack, e4_NoBack, e5_NoBack, e6_NoBack⟩, sv_NoBack := e7_NoBack,
      xc_NoDeed := ⟨e1_NoDeed, e2_NoDeed, bc_NoDeed, hc_NoDeed, e3_NoDeed, e4_NoDeed, e5_NoDeed, e6_NoDeed⟩, sv_NoDeed := e7_NoDeed,
      xc_NoText := ⟨e1_NoText, e2_NoText, bc_NoText, hc_NoText, e3_NoText, e4_NoText, e5_NoText, e6_NoText⟩, sv_NoText := e7_NoText,
      xc_NoRow := ⟨e1_NoRow, e2_NoRow, bc_NoRow, hc_NoRow, e3_NoRow, e4_NoRow, e5_NoRow, e6_NoRow⟩, sv_NoRow := e7_NoRow,
      xc_Taken := ⟨e1_Taken, e2_Taken, bc_Taken, hc_Taken, e3_Taken, e4_Taken, e5_Taken, e6_Taken⟩, sv_Taken := e7_Taken,
      xc_Beyond := ⟨e1_Beyond, e2_Beyond, bc_Beyond, hc_Beyond, e3_Beyond, e4_Beyond, e5_Beyond, e6_Beyond⟩, sv_Beyond := e7_Beyond,
      xc_Unbalanced := ⟨e1_Unbalanced, e2_Unbalanced, bc_Unbalanced, hc_Unbalanced, e3_Unbalanced, e4_Unbalanced, e5_Unbalanced, e6_Unbalanced⟩, sv_Unbalanced := e7_Unbalanced,
      xc_Astray := ⟨e1_Astray, e2_Astray, bc_Astray, hc_Astray, e3_Astray, e4_Astray, e5_Astray, e6_Astray⟩, sv_Astray := e7_Astray,
      xc_ClubError := ⟨e1_ClubError, e2_ClubError, bc_ClubError, hc_ClubError, e3_ClubError, e4_ClubError, e5_ClubError, e6_ClubError⟩, sv_ClubError := e7_ClubError,
      kall := kall,
      em_Taken_ClubError := PySem.W.exm_ref bc_ClubError hc_ClubError tc_ClubError s_CE_Taken,
      em_Beyond_ClubError := PySem.W.exm_ref bc_ClubError hc_ClubError tc_ClubError s_CE_Beyond,
      em_Unbalanced_ClubError := PySem.W.exm_ref bc_ClubError hc_ClubError tc_ClubError s_CE_Unbalanced,
      em_Astray_ClubError := PySem.W.exm_ref bc_ClubError hc_ClubError tc_ClubError s_CE_Astray,
      em_ClubError_ClubError := PySem.W.exm_ref bc_ClubError hc_ClubError tc_ClubError s_CE_ClubError,
      n_ValueError := PySem.W.mg_none_of X G n_ValueError,
      n_abs := PySem.W.mg_none_of X G n_abs,
      n_all := PySem.W.mg_none_of X G n_all,
      n_divmod := PySem.W.mg_none_of X G n_divmod,
      n_enumerate := PySem.W.mg_none_of X G n_enumerate,
      n_isinstance := PySem.W.mg_none_of X G n_isinstance,
      n_len := PySem.W.mg_none_of X G n_len,
      n_max := PySem.W.mg_none_of X G n_max,
      n_range := PySem.W.mg_none_of X G n_range,
      n_repr := PySem.W.mg_none_of X G n_repr,
      n_tuple := PySem.W.mg_none_of X G n_tuple } : Tx K mg) rfl⟩
end WS
open PySem PySem.W PyProof.Rows
set_option maxHeartbeats 0 in
theorem PySem.Challenge.cw_whoserves_k10_refusals_by_themselves_holds : PySem.Challenge.rw_whoserves_k10_refusals_by_themselves.Holds := by
  w_on; o_law; k_head; (case hw => w_witness2)
  k_fill
  refine WS.walk_G (l := PySem.Challenge.rw_whoserves_k10_refusals_by_themselves) (n := 63) (k := 4) (x := "_law_script") (sp := fun w => WS.spLaw _) rfl (by decide) rfl ⟨rfl, by decide, by decide⟩ (fun w h Y => PySem.W.kIn_of Y) ?F (fun _ _ a ns hl hS => ⟨a, ns, rfl, hS, hl, fun _ => rfl⟩)
  case F =>
    intro w mg fa h KX G hmg
    refine' WS.all_mk KX G hmg ?a_lpot ?l_lpot ?c_lpot ?k_lpot ?a_ldigit ?l_ldigit ?c_ldigit ?k_ldigit ?a_lname ?l_lname ?c_lname ?k_lname ?a_llow ?l_llow ?c_llow ?k_llow ?a_lplain ?l_lplain ?c_lplain ?k_lplain ?a_lwhich ?l_lwhich ?c_lwhich ?k_lwhich ?a_lfields ?l_lfields ?c_lfields ?k_lfields ?a_lraised ?l_lraised ?c_lraised ?k_lraised ?a_lthings ?l_lthings ?c_lthings ?k_lthings ?a_law ?l_law ?c_law ?k_law ?gc_NoPart ?x_NoPart ?kc_NoPart ?bc_NoPart ?tc_NoPart ?hc_NoPart ?sc_NoPart ?gc_NoName ?x_NoName ?kc_NoName ?bc_NoName ?tc_NoName ?hc_NoName ?sc_NoName ?gc_NoWeight ?x_NoWeight ?kc_NoWeight ?bc_NoWeight ?tc_NoWeight ?hc_NoWeight ?sc_NoWeight ?gc_NoPerson ?x_NoPerson ?kc_NoPerson ?bc_NoPerson ?tc_NoPerson ?hc_NoPerson ?sc_NoPerson ?gc_NoSeat ?x_NoSeat ?kc_NoSeat ?bc_NoSeat ?tc_NoSeat ?hc_NoSeat ?sc_NoSeat ?gc_NoEvening ?x_NoEvening ?kc_NoEvening ?bc_NoEvening ?tc_NoEvening ?hc_NoEvening ?sc_NoEvening ?gc_NoDuty ?x_NoDuty ?kc_NoDuty ?bc_NoDuty ?tc_NoDuty ?hc_NoDuty ?sc_NoDuty ?gc_NoGift ?x_NoGift ?kc_NoGift ?bc_NoGift ?tc_NoGift ?hc_NoGift ?sc_NoGift ?gc_Unlike ?x_Unlike ?kc_Unlike ?bc_Unlike ?tc_Unlike ?hc_Unlike ?sc_Unlike ?gc_NoFact ?x_NoFact ?kc_NoFact ?bc_NoFact ?tc_NoFact ?hc_NoFact ?sc_NoFact ?gc_NoBack ?x_NoBack ?kc_NoBack ?bc_NoBack ?tc_NoBack ?hc_NoBack ?sc_NoBack ?gc_NoDeed ?x_NoDeed ?kc_NoDeed ?bc_NoDeed ?tc_NoDeed ?hc_NoDeed ?sc_NoDeed ?gc_NoText ?x_NoText ?kc_NoText ?bc_NoText ?tc_NoText ?hc_NoText ?sc_NoText ?gc_NoRow ?x_NoRow ?kc_NoRow ?bc_NoRow ?tc_NoRow ?hc_NoRow ?sc_NoRow ?gc_ClubError ?x_ClubError ?kc_ClubError ?bc_ClubError ?tc_ClubError ?hc_ClubError ?sc_ClubError ?gc_Taken ?xL_Taken ?rv_Taken ?kc_Taken ?bc_Taken ?tc_Taken ?hc_Taken ?sc_Taken ?sa_Taken ?ic_Taken ?ti_Taken ?il_Taken ?icc_Taken ?ik_Taken ?fno_Taken_person ?gc_Beyond ?xL_Beyond ?rv_Beyond ?kc_Beyond ?bc_Beyond ?tc_Beyond ?hc_Beyond ?sc_Beyond ?sa_Beyond ?ic_Beyond ?ti_Beyond ?il_Beyond ?icc_Beyond ?ik_Beyond ?fno_Beyond_many ?fno_Beyond_seats ?gc_Unbalanced ?xL_Unbalanced ?rv_Unbalanced ?kc_Unbalanced ?bc_Unbalanced ?tc_Unbalanced ?hc_Unbalanced ?sc_Unbalanced ?sa_Unbalanced ?ic_Unbalanced ?ti_Unbalanced ?il_Unbalanced ?icc_Unbalanced ?ik_Unbalanced ?fno_Unbalanced_owed ?gc_Astray ?xL_Astray ?rv_Astray ?kc_Astray ?bc_Astray ?tc_Astray ?hc_Astray ?sc_Astray ?sa_Astray ?ic_Astray ?ti_Astray ?il_Astray ?icc_Astray ?ik_Astray ?fno_Astray_at ?fno_Astray_many ?fno_Astray_seats ?e1_NoPart ?e2_NoPart ?e3_NoPart ?e4_NoPart ?e5_NoPart ?e6_NoPart ?e7_NoPart ?icl_NoPart ?e1_NoName ?e2_NoName ?e3_NoName ?e4_NoName ?e5_NoName ?e6_NoName ?e7_NoName ?icl_NoName ?e1_NoWeight ?e2_NoWeight ?e3_NoWeight ?e4_NoWeight ?e5_NoWeight ?e6_NoWeight ?e7_NoWeight ?icl_NoWeight ?e1_NoPerson ?e2_NoPerson ?e3_NoPerson ?e4_NoPerson ?e5_NoPerson ?e6_NoPerson ?e7_NoPerson ?icl_NoPerson ?e1_NoSeat ?e2_NoSeat ?e3_NoSeat ?e4_NoSeat ?e5_NoSeat ?e6_NoSeat ?e7_NoSeat ?icl_NoSeat ?e1_NoEvening ?e2_NoEvening ?e3_NoEvening ?e4_NoEvening ?e5_NoEvening ?e6_NoEvening ?e7_NoEvening ?icl_NoEvening ?e1_NoDuty ?e2_NoDuty ?e3_NoDuty ?e4_NoDuty ?e5_NoDuty ?e6_NoDuty ?e7_NoDuty ?icl_NoDuty ?e1_NoGift ?e2_NoGift ?e3_NoGift ?e4_NoGift ?e5_NoGift ?e6_NoGift ?e7_NoGift ?icl_NoGift ?e1_Unlike ?e2_Unlike ?e3_Unlike ?e4_Unlike ?e5_Unlike ?e6_Unlike ?e7_Unlike ?icl_Unlike ?e1_NoFact ?e2_NoFact ?e3_NoFact ?e4_NoFact ?e5_NoFact ?e6_NoFact ?e7_NoFact ?icl_NoFact ?e1_NoBack ?e2_NoBack ?e3_NoBack ?e4_NoBack ?e5_NoBack ?e6_NoBack ?e7_NoBack ?icl_NoBack ?e1_NoDeed ?e2_NoDeed ?e3_NoDeed ?e4_NoDeed ?e5_NoDeed ?e6_NoDeed ?e7_NoDeed ?icl_NoDeed ?e1_NoText ?e2_NoText ?e3_NoText ?e4_NoText ?e5_NoText ?e6_NoText ?e7_NoText ?icl_NoText ?e1_NoRow ?e2_NoRow ?e3_NoRow ?e4_NoRow ?e5_NoRow ?e6_NoRow ?e7_NoRow ?icl_NoRow ?e1_Taken ?e2_Taken ?e3_Taken ?e4_Taken ?e5_Taken ?e6_Taken ?e7_Taken ?icl_Taken ?e1_Beyond ?e2_Beyond ?e3_Beyond ?e4_Beyond ?e5_Beyond ?e6_Beyond ?e7_Beyond ?icl_Beyond ?e1_Unbalanced ?e2_Unbalanced ?e3_Unbalanced ?e4_Unbalanced ?e5_Unbalanced ?e6_Unbalanced ?e7_Unbalanced ?icl_Unbalanced ?e1_Astray ?e2_Astray ?e3_Astray ?e4_Astray ?e5_Astray ?e6_Astray ?e7_Astray ?icl_Astray ?e1_ClubError ?e2_ClubError ?e3_ClubError ?e4_ClubError ?e5_ClubError ?e6_ClubError ?e7_ClubError ?icl_ClubError ?kall ?s_CE_Taken ?s_CE_Beyond ?s_CE_Unbalanced ?s_CE_Astray ?s_CE_ClubError ?n_ValueError ?n_abs ?n_all ?n_divmod ?n_enumerate ?n_isinstance ?n_len ?n_max ?n_range ?n_repr ?n_tuple
    (case a_lpot => k_is)
    (case l_lpot => k_is)
    (case c_lpot => k_is)
    (case k_lpot => k_is)
    (case a_ldigit => k_is)
    (case l_ldigit => k_is)
    (case c_ldigit => k_is)
    (case k_ldigit => k_is)
    (case a_lname => k_is)
    (case l_lname => k_is)
    (case c_lname => k_is)
    (case k_lname => k_is)
    (case a_llow => k_is)
    (case l_llow => k_is)
    (case c_llow => k_is)
    (case k_llow => k_is)
    (case a_lplain => k_is)
    (case l_lplain => k_is)
    (case c_lplain => k_is)
    (case k_lplain => k_is)
    (case a_lwhich => k_is)
    (case l_lwhich => k_is)
    (case c_lwhich => k_is)
    (case k_lwhich => k_is)
    (case a_lfields => k_is)
    (case l_lfields => k_is)
    (case c_lfields => k_is)
    (case k_lfields => k_is)
    (case a_lraised => k_is)
    (case l_lraised => k_is)
    (case c_lraised => k_is)
    (case k_lraised => k_is)
    (case a_lthings => k_is)
    (case l_lthings => k_is)
    (case c_lthings => k_is)
    (case k_lthings => k_is)
    (case a_law => k_is)
    (case l_law => k_is)
    (case c_law => k_is)
    (case k_law => k_is)
    (case gc_NoPart => k_is)
    (case x_NoPart => k_exc)
    (case kc_NoPart => k_is)
    (case bc_NoPart => k_is)
    (case tc_NoPart => k_is)
    (case hc_NoPart => k_is)
    (case sc_NoPart => k_is)
    (case gc_NoName => k_is)
    (case x_NoName => k_exc)
    (case kc_NoName => k_is)
    (case bc_NoName => k_is)
    (case tc_NoName => k_is)
    (case hc_NoName => k_is)
    (case sc_NoName => k_is)
    (case gc_NoWeight => k_is)
    (case x_NoWeight => k_exc)
    (case kc_NoWeight => k_is)
    (case bc_NoWeight => k_is)
    (case tc_NoWeight => k_is)
    (case hc_NoWeight => k_is)
    (case sc_NoWeight => k_is)
    (case gc_NoPerson => k_is)
    (case x_NoPerson => k_exc)
    (case kc_NoPerson => k_is)
    (case bc_NoPerson => k_is)
    (case tc_NoPerson => k_is)
    (case hc_NoPerson => k_is)
    (case sc_NoPerson => k_is)
    (case gc_NoSeat => k_is)
    (case x_NoSeat => k_exc)
    (case kc_NoSeat => k_is)
    (case bc_NoSeat => k_is)
    (case tc_NoSeat => k_is)
    (case hc_NoSeat => k_is)
    (case sc_NoSeat => k_is)
    (case gc_NoEvening => k_is)
    (case x_NoEvening => k_exc)
    (case kc_NoEvening => k_is)
    (case bc_NoEvening => k_is)
    (case tc_NoEvening => k_is)
    (case hc_NoEvening => k_is)
    (case sc_NoEvening => k_is)
    (case gc_NoDuty => k_is)
    (case x_NoDuty => k_exc)
    (case kc_NoDuty => k_is)
    (case bc_NoDuty => k_is)
    (case tc_NoDuty => k_is)
    (case hc_NoDuty => k_is)
    (case sc_NoDuty => k_is)
    (case gc_NoGift => k_is)
    (case x_NoGift => k_exc)
    (case kc_NoGift => k_is)
    (case bc_NoGift => k_is)
    (case tc_NoGift => k_is)
    (case hc_NoGift => k_is)
    (case sc_NoGift => k_is)
    (case gc_Unlike => k_is)
    (case x_Unlike => k_exc)
    (case kc_Unlike => k_is)
    (case bc_Unlike => k_is)
    (case tc_Unlike => k_is)
    (case hc_Unlike => k_is)
    (case sc_Unlike => k_is)
    (case gc_NoFact => k_is)
    (case x_NoFact => k_exc)
    (case kc_NoFact => k_is)
    (case bc_NoFact => k_is)
    (case tc_NoFact => k_is)
    (case hc_NoFact => k_is)
    (case sc_NoFact => k_is)
    (case gc_NoBack => k_is)
    (case x_NoBack => k_exc)
    (case kc_NoBack => k_is)
    (case bc_NoBack => k_is)
    (case tc_NoBack => k_is)
    (case hc_NoBack => k_is)
    (case sc_NoBack => k_is)
    (case gc_NoDeed => k_is)
    (case x_NoDeed => k_exc)
    (case kc_NoDeed => k_is)
    (case bc_NoDeed => k_is)
    (case tc_NoDeed => k_is)
    (case hc_NoDeed => k_is)
    (case sc_NoDeed => k_is)
    (case gc_NoText => k_is)
    (case x_NoText => k_exc)
    (case kc_NoText => k_is)
    (case bc_NoText => k_is)
    (case tc_NoText => k_is)
    (case hc_NoText => k_is)
    (case sc_NoText => k_is)
    (case gc_NoRow => k_is)
    (case x_NoRow => k_exc)
    (case kc_NoRow => k_is)
    (case bc_NoRow => k_is)
    (case tc_NoRow => k_is)
    (case hc_NoRow => k_is)
    (case sc_NoRow => k_is)
    (case gc_ClubError => k_is)
    (case x_ClubError => k_exc)
    (case kc_ClubError => k_is)
    (case bc_ClubError => k_is)
    (case tc_ClubError => k_is)
    (case hc_ClubError => k_is)
    (case sc_ClubError => k_is)
    (case gc_Taken => k_is)
    (case xL_Taken => k_is)
    (case rv_Taken => first | rfl | (decide +kernel) | k_is)
    (case kc_Taken => k_is)
    (case bc_Taken => k_is)
    (case tc_Taken => k_is)
    (case hc_Taken => k_is)
    (case sc_Taken => k_is)
    (case sa_Taken => k_is)
    (case ic_Taken => k_is)
    (case ti_Taken => k_is)
    (case il_Taken => k_is)
    (case icc_Taken => k_is)
    (case ik_Taken => k_is)
    (case fno_Taken_person => k_is)
    (case gc_Beyond => k_is)
    (case xL_Beyond => k_is)
    (case rv_Beyond => first | rfl | (decide +kernel) | k_is)
    (case kc_Beyond => k_is)
    (case bc_Beyond => k_is)
    (case tc_Beyond => k_is)
    (case hc_Beyond => k_is)
    (case sc_Beyond => k_is)
    (case sa_Beyond => k_is)
    (case ic_Beyond => k_is)
    (case ti_Beyond => k_is)
    (case il_Beyond => k_is)
    (case icc_Beyond => k_is)
    (case ik_Beyond => k_is)
    (case fno_Beyond_many => k_is)
    (case fno_Beyond_seats => k_is)
    (case gc_Unbalanced => k_is)
    (case xL_Unbalanced => k_is)
    (case rv_Unbalanced => first | rfl | (decide +kernel) | k_is)
    (case kc_Unbalanced => k_is)
    (case bc_Unbalanced => k_is)
    (case tc_Unbalanced => k_is)
    (case hc_Unbalanced => k_is)
    (case sc_Unbalanced => k_is)
    (case sa_Unbalanced => k_is)
    (case ic_Unbalanced => k_is)
    (case ti_Unbalanced => k_is)
    (case il_Unbalanced => k_is)
    (case icc_Unbalanced => k_is)
    (case ik_Unbalanced => k_is)
    (case fno_Unbalanced_owed => k_is)
    (case gc_Astray => k_is)
    (case xL_Astray => k_is)
    (case rv_Astray => first | rfl | (decide +kernel) | k_is)
    (case kc_Astray => k_is)
    (case bc_Astray => k_is)
    (case tc_Astray => k_is)
    (case hc_Astray => k_is)
    (case sc_Astray => k_is)
    (case sa_Astray => k_is)
    (case ic_Astray => k_is)
    (case ti_Astray => k_is)
    (case il_Astray => k_is)
    (case icc_Astray => k_is)
    (case ik_Astray => k_is)
    (case fno_Astray_at => k_is)
    (case fno_Astray_many => k_is)
    (case fno_Astray_seats => k_is)
    (case e1_NoPart => k_is)
    (case e2_NoPart => k_is)
    (case e3_NoPart => k_is)
    (case e4_NoPart => k_is)
    (case e5_NoPart => k_is)
    (case e6_NoPart => k_is)
    (case e7_NoPart => k_is)
    (case icl_NoPart => k_is)
    (case e1_NoName => k_is)
    (case e2_NoName => k_is)
    (case e3_NoName => k_is)
    (case e4_NoName => k_is)
    (case e5_NoName => k_is)
    (case e6_NoName => k_is)
    (case e7_NoName => k_is)
    (case icl_NoName => k_is)
    (case e1_NoWeight => k_is)
    (case e2_NoWeight => k_is)
    (case e3_NoWeight => k_is)
    (case e4_NoWeight => k_is)
    (case e5_NoWeight => k_is)
    (case e6_NoWeight => k_is)
    (case e7_NoWeight => k_is)
    (case icl_NoWeight => k_is)
    (case e1_NoPerson => k_is)
    (case e2_NoPerson => k_is)
    (case e3_NoPerson => k_is)
    (case e4_NoPerson => k_is)
    (case e5_NoPerson => k_is)
    (case e6_NoPerson => k_is)
    (case e7_NoPerson => k_is)
    (case icl_NoPerson => k_is)
    (case e1_NoSeat => k_is)
    (case e2_NoSeat => k_is)
    (case e3_NoSeat => k_is)
    (case e4_NoSeat => k_is)
    (case e5_NoSeat => k_is)
    (case e6_NoSeat => k_is)
    (case e7_NoSeat => k_is)
    (case icl_NoSeat => k_is)
    (case e1_NoEvening => k_is)
    (case e2_NoEvening => k_is)
    (case e3_NoEvening => k_is)
    (case e4_NoEvening => k_is)
    (case e5_NoEvening => k_is)
    (case e6_NoEvening => k_is)
    (case e7_NoEvening => k_is)
    (case icl_NoEvening => k_is)
    (case e1_NoDuty => k_is)
    (case e2_NoDuty => k_is)
    (case e3_NoDuty => k_is)
    (case e4_NoDuty => k_is)
    (case e5_NoDuty => k_is)
    (case e6_NoDuty => k_is)
    (case e7_NoDuty => k_is)
    (case icl_NoDuty => k_is)
    (case e1_NoGift => k_is)
    (case e2_NoGift => k_is)
    (case e3_NoGift => k_is)
    (case e4_NoGift => k_is)
    (case e5_NoGift => k_is)
    (case e6_NoGift => k_is)
    (case e7_NoGift => k_is)
    (case icl_NoGift => k_is)
    (case e1_Unlike => k_is)
    (case e2_Unlike => k_is)
    (case e3_Unlike => k_is)
    (case e4_Unlike => k_is)
    (case e5_Unlike => k_is)
    (case e6_Unlike => k_is)
    (case e7_Unlike => k_is)
    (case icl_Unlike => k_is)
    (case e1_NoFact => k_is)
    (case e2_NoFact => k_is)
    (case e3_NoFact => k_is)
    (case e4_NoFact => k_is)
    (case e5_NoFact => k_is)
    (case e6_NoFact => k_is)
    (case e7_NoFact => k_is)
    (case icl_NoFact => k_is)
    (case e1_NoBack => k_is)
    (case e2_NoBack => k_is)
    (case e3_NoBack => k_is)
    (case e4_NoBack => k_is)
    (case e5_NoBack => k_is)
    (case e6_NoBack => k_is)
    (case e7_NoBack => k_is)
    (case icl_NoBack => k_is)
    (case e1_NoDeed => k_is)
    (case e2_NoDeed => k_is)
    (case e3_NoDeed => k_is)
    (case e4_NoDeed => k_is)
    (case e5_NoDeed => k_is)
    (case e6_NoDeed => k_is)
    (case e7_NoDeed => k_is)
    (case icl_NoDeed => k_is)
    (case e1_NoText => k_is)
    (case e2_NoText => k_is)
    (case e3_NoText => k_is)
    (case e4_NoText => k_is)
    (case e5_NoText => k_is)
    (case e6_NoText => k_is)
    (case e7_NoText => k_is)
    (case icl_NoText => k_is)
    (case e1_NoRow => k_is)
    (case e2_NoRow => k_is)
    (case e3_NoRow => k_is)
    (case e4_NoRow => k_is)
    (case e5_NoRow => k_is)
    (case e6_NoRow => k_is)
    (case e7_NoRow => k_is)
    (case icl_NoRow => k_is)
    (case e1_Taken => k_is)
    (case e2_Taken => k_is)
    (case e3_Taken => k_is)
    (case e4_Taken => k_is)
    (case e5_Taken => k_is)
    (case e6_Taken => k_is)
    (case e7_Taken => k_is)
    (case icl_Taken => k_is)
    (case e1_Beyond => k_is)
    (case e2_Beyond => k_is)
    (case e3_Beyond => k_is)
    (case e4_Beyond => k_is)
    (case e5_Beyond => k_is)
    (case e6_Beyond => k_is)
    (case e7_Beyond => k_is)
    (case icl_Beyond => k_is)
    (case e1_Unbalanced => k_is)
    (case e2_Unbalanced => k_is)
    (case e3_Unbalanced => k_is)
    (case e4_Unbalanced => k_is)
    (case e5_Unbalanced => k_is)
    (case e6_Unbalanced => k_is)
    (case e7_Unbalanced => k_is)
    (case icl_Unbalanced => k_is)
    (case e1_Astray => k_is)
    (case e2_Astray => k_is)
    (case e3_Astray => k_is)
    (case e4_Astray => k_is)
    (case e5_Astray => k_is)
    (case e6_Astray => k_is)
    (case e7_Astray => k_is)
    (case icl_Astray => k_is)
    (case e1_ClubError => k_is)
    (case e2_ClubError => k_is)
    (case e3_ClubError => k_is)
    (case e4_ClubError => k_is)
    (case e5_ClubError => k_is)
    (case e6_ClubError => k_is)
    (case e7_ClubError => k_is)
    (case icl_ClubError => k_is)
    (case kall => kernel_rfl)
    (case s_CE_Taken => k_is)
    (case s_CE_Beyond => k_is)
    (case s_CE_Unbalanced => k_is)
    (case s_CE_Astray => k_is)
    (case s_CE_ClubError => k_is)
    (case n_ValueError => k_is)
    (case n_abs => k_is)
    (case n_all => k_is)
    (case n_divmod => k_is)
    (case n_enumerate => k_is)
    (case n_isinstance => k_is)
    (case n_len => k_is)
    (case n_max => k_is)
    (case n_range => k_is)
    (case n_repr => k_is)
    (case n_tuple => k_is)
