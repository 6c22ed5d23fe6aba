import PyProof.Rows.All
import Wide.All
import OpenK.AllK
import Wide.FinOn
import HandS.ForMost
import HandS.ForExc
import HandS.Wide
import HandS.WideBits
import HandS.Defaults
import HandS.IsInst
import HandS.TryOnly
import HandS.ExcIs
import HandS.Codes
import PyProof.ReprRoads
import HandS.FStrTup
import HandS.HotCalls
import HandS.ExcCtx
import HandS.Style
import HandS.Sort
import HandS.Conv
import HandS.SortKw
import HandS.Lambda
import HandS.EndTab
import HandS.ExcValue
import KE.SortKeyHeap
import HandS.Walk
import HandS.SortInts
import HandS.TupAny
import PyProof.Rows.StrOr
import KE.KIntText
import HandS.FStr
import PySem.Challenge.RW_whoserves_k14_whole_part_texts
namespace WS
/-! lowest terms -/
def lo (a b : Int) : Int × Int := (a / (Int.gcd a b : Int), b / (Int.gcd a b : Int))
def Lowest (a b : Int) : Prop := 0 < b ∧ Int.gcd a b = 1
theorem gcd_pos {a b : Int} (h : b ≠ 0) : 0 < Int.gcd a b := by
  have := (Int.gcd_pos_iff (a := a) (b := b)).mpr (Or.inr h)
  exact this
theorem lo_fst (a b : Int) : (lo a b).1 * (Int.gcd a b : Int) = a := Int.ediv_mul_cancel (Int.gcd_dvd_left a b)
theorem lo_snd (a b : Int) : (lo a b).2 * (Int.gcd a b : Int) = b := Int.ediv_mul_cancel (Int.gcd_dvd_right a b)
theorem lo_lowest {a b : Int} (h : 0 < b) : Lowest (lo a b).1 (lo a b).2 := by
  have g : 0 < Int.gcd a b := gcd_pos (by omega)
  refine ⟨?_, Int.gcd_ediv_gcd_ediv_gcd g⟩
  have e := lo_snd a b
  apply Decidable.byContradiction
  intro n
  have : (lo a b).2 * (Int.gcd a b : Int) ≤ 0 := Int.mul_nonpos_of_nonpos_of_nonneg (by omega) (by omega)
  omega
theorem lo_cross (a b : Int) : (lo a b).1 * b = a * (lo a b).2 := by
  have e1 := lo_fst a b
  have e2 := lo_snd a b
  have h1 : (lo a b).1 * b = (lo a b).1 * ((lo a b).2 * (Int.gcd a b : Int)) := by rw [e2]
  have h2 : a * (lo a b).2 = ((lo a b).1 * (Int.gcd a b : Int)) * (lo a b).2 := by rw [e1]
  rw [h1, h2]
  simp only [Int.mul_assoc, Int.mul_comm, Int.mul_left_comm]
theorem dvd_cop {a b y : Int} (hg : Int.gcd a b = 1) (h : b ∣ a * y) : b ∣ y := by
  have h1 : b.natAbs ∣ a.natAbs * y.natAbs := by
    rw [← Int.natAbs_mul]
    exact Int.natAbs_dvd_natAbs.mpr h
  have c : Nat.Coprime b.natAbs a.natAbs := by
    have : Nat.gcd a.natAbs b.natAbs = 1 := hg
    exact (Nat.gcd_comm _ _).trans this
  exact Int.natAbs_dvd_natAbs.mp (c.dvd_of_dvd_mul_left h1)
theorem lowest_unique {a b x y : Int} (h : Lowest a b) (k : Lowest x y) (e : x * b = a * y) : x = a ∧ y = b := by
  have d1 : b ∣ y := dvd_cop h.2 (by rw [← e]; exact Int.dvd_mul_left _ _)
  have d2 : y ∣ b := dvd_cop k.2 (by rw [e]; exact Int.dvd_mul_left _ _)
  have hb := h.1
  have hy := k.1
  have l1 : b ≤ y := Int.le_of_dvd hy d1
  have l2 : y ≤ b := Int.le_of_dvd hb d2
  have ey : y = b := by omega
  refine ⟨?_, ey⟩
  rw [ey] at e
  exact Int.eq_of_mul_eq_mul_right (by omega) e
theorem lo_eq {a b x y : Int} (h : Lowest a b) (hy : 0 < y) (e : x * b = a * y) : lo x y = (a, b) := by
  have k := lo_lowest (a := x) hy
  have c := lo_cross x y
  have g : (lo x y).1 * b = a * (lo x y).2 := by
    have : ((lo x y).1 * b) * y = (a * (lo x y).2) * y := by
      calc ((lo x y).1 * b) * y = ((lo x y).1 * y) * b := by simp only [Int.mul_assoc, Int.mul_comm, Int.mul_left_comm]
        _ = (x * (lo x y).2) * b := by rw [c]
        _ = (x * b) * (lo x y).2 := by simp only [Int.mul_assoc, Int.mul_comm, Int.mul_left_comm]
        _ = (a * y) * (lo x y).2 := by rw [e]
        _ = (a * (lo x y).2) * y := by simp only [Int.mul_assoc, Int.mul_comm, Int.mul_left_comm]
    exact Int.eq_of_mul_eq_mul_right (by omega) this
  have u := lowest_unique h k g
  exact Prod.ext u.1 u.2
theorem lo_of {a b : Int} (h : Lowest a b) : lo a b = (a, b) := lo_eq h h.1 rfl
theorem ediv_natAbs_le (a : Int) (g : Nat) : (a / (g : Int)).natAbs ≤ a.natAbs := by
  cases g with
  | zero => simp
  | succ g => exact Int.natAbs_ediv_le_natAbs _ _
theorem lo_fst_le (a b : Int) : (lo a b).1.natAbs ≤ a.natAbs := ediv_natAbs_le a _
theorem lo_snd_le (a b : Int) : (lo a b).2.natAbs ≤ b.natAbs := ediv_natAbs_le b _
/-! bits -/
def Bt (n : Nat) (a : Int) : Prop := a.natAbs < 2 ^ n
theorem Bt.mono {n m : Nat} {a : Int} (h : Bt n a) (k : n ≤ m) : Bt m a := Nat.lt_of_lt_of_le h (Nat.pow_le_pow_right (by decide) k)
theorem Bt.of_le {n : Nat} {a b : Int} (h : Bt n b) (k : a.natAbs ≤ b.natAbs) : Bt n a := Nat.lt_of_le_of_lt k h
theorem Bt.mul {n m : Nat} {a b : Int} (h : Bt n a) (k : Bt m b) : Bt (n + m) (a * b) := by
  unfold Bt
  rw [Int.natAbs_mul, Nat.pow_add]
  exact Nat.mul_lt_mul'' h k
theorem Bt.add {n : Nat} {a b : Int} (h : Bt n a) (k : Bt n b) : Bt (n + 1) (a + b) := by
  unfold Bt at *
  have := Int.natAbs_add_le a b
  rw [Nat.pow_succ]
  omega
theorem Bt.sub {n : Nat} {a b : Int} (h : Bt n a) (k : Bt n b) : Bt (n + 1) (a - b) := by
  unfold Bt at *
  have : (a - b).natAbs ≤ a.natAbs + b.natAbs := Int.natAbs_sub_le a b
  rw [Nat.pow_succ]
  omega
theorem Bt.neg {n : Nat} {a : Int} (h : Bt n a) : Bt n (-a) := by
  unfold Bt at *
  rw [Int.natAbs_neg]
  exact h
theorem Bt.lo1 {n : Nat} {a b : Int} (h : Bt n a) : Bt n (lo a b).1 := h.of_le (lo_fst_le a b)
theorem Bt.lo2 {n : Nat} {a b : Int} (h : Bt n b) : Bt n (lo a b).2 := h.of_le (lo_snd_le a b)
theorem Bt.of_lt {n : Nat} {a : Int} (h0 : -(2 ^ n) < a) (h : a < 2 ^ n) : Bt n a := by
  unfold Bt
  have e : ((2 ^ n : Nat) : Int) = 2 ^ n := by simp
  omega
/-! the loop of the greatest number that goes into both -/
theorem gcd_step {x y : Int} (hx : 0 ≤ x) (hy : 0 < y) : Int.gcd y (x % y) = Int.gcd x y := by
  show Nat.gcd y.natAbs (x % y).natAbs = Nat.gcd x.natAbs y.natAbs
  have e : (x % y).natAbs = x.natAbs % y.natAbs := by
    have : x % y = ((x.natAbs % y.natAbs : Nat) : Int) := by
      rw [Int.natCast_emod]
      rw [Int.natAbs_of_nonneg hx, Int.natAbs_of_nonneg (by omega)]
    rw [this]
    rfl
  rw [e, Nat.gcd_comm y.natAbs, ← Nat.gcd_rec, Nat.gcd_comm]
theorem gcd_zero {x : Int} (hx : 0 ≤ x) : (Int.gcd x 0 : Int) = x := by
  have : Int.gcd x 0 = x.natAbs := Int.gcd_zero_right x
  rw [this]
  exact Int.natAbs_of_nonneg hx
theorem gcd_abs (a b : Int) : Int.gcd (if a < 0 then -a else a) b = Int.gcd a b := by
  split
  · exact Int.neg_gcd
  · rfl
/-! sums of parts -/
def pl (p q : Int × Int) : Int × Int := lo (p.1 * q.2 + q.1 * p.2) (p.2 * q.2)
theorem lo_neg_den {a b : Int} : lo a b = lo a b := rfl
end WS
set_option Elab.async false
set_option linter.all false
set_option maxRecDepth 100000
set_option maxHeartbeats 4000000
namespace WS
open PySem PySem.Spec PyProof.Rows L2
/-! heaps: what is new beside what stood; a pot that changes -/
theorem same_new {H : Hp} {p : Addr} {o : HO} (h : H p = none) : Same H (upd H p o) := fun b x e => by
  rw [upd_ne (ne_of_none e h)]
  exact e
theorem Same.tup {K : PySem.W.Frag} {H H' : Hp} {a : Addr} {xs : List V} (e : Same H H') (h : SqT K H a xs) : SqT K H' a xs := by
  rcases h with (h | ⟨o, h⟩) | h
  · exact .inl (.inl (e _ _ h))
  · exact .inl (.inr ⟨o, e _ _ h⟩)
  · exact .inr h
def SameX (p : Addr) (H H' : Hp) : Prop := ∀ b o, b ≠ p → H b = some o → H' b = some o
theorem SameX.refl (p : Addr) (H : Hp) : SameX p H H := fun _ _ _ h => h
theorem SameX.trans {p : Addr} {H H1 H2 : Hp} (a : SameX p H H1) (b : SameX p H1 H2) : SameX p H H2 := fun c o n h => b c o n (a c o n h)
theorem Same.x {p : Addr} {H H1 : Hp} (a : Same H H1) : SameX p H H1 := fun c o _ h => a c o h
theorem samex_set {p : Addr} {H : Hp} {o : HO} : SameX p H (upd H p o) := fun b x n e => by
  rw [upd_ne n]
  exact e
/-- a pot: two numbers, from which digits are drawn -/
def PotAt (H : Hp) (p : Addr) : Prop := ∃ x y : Int, H p = some (.lst [.int x, .int y]) ∧ 0 ≤ x ∧ 0 ≤ y ∧ y < 2147483648
theorem SameX.tup {K : PySem.W.Frag} {p : Addr} {H H' : Hp} {a : Addr} {xs : List V} (e : SameX p H H') (hp : PotAt H p) (h : SqT K H a xs) : SqT K H' a xs := by
  obtain ⟨x, y, hp, _⟩ := hp
  rcases h with (h | ⟨o, h⟩) | h
  · exact .inl (.inl (e _ _ (ne_of h hp (by intro z; cases z)) h))
  · exact .inl (.inr ⟨o, e _ _ (ne_of h hp (by intro z; cases z)) h⟩)
  · exact .inr h
theorem SameX.lst {K : PySem.W.Frag} {p : Addr} {H H' : Hp} {a : Addr} {xs : List V} (e : SameX p H H') (n : a ≠ p) (h : SqL K H a xs) : SqL K H' a xs := by
  rcases h with (h | ⟨o, h⟩) | h
  · exact .inl (.inl (e _ _ n h))
  · exact .inl (.inr ⟨o, e _ _ n h⟩)
  · exact .inr h
theorem PotAt.same {H H' : Hp} {p : Addr} (h : PotAt H p) (s : Same H H') : PotAt H' p := by
  obtain ⟨x, y, e, r⟩ := h
  exact ⟨x, y, s _ _ e, r⟩
/-! pairs of numbers -/
def TupI (K : PySem.W.Frag) (H : Hp) (v : V) (a b : Int) : Prop := ∃ t, v = .ref t ∧ SqT K H t [.int a, .int b]
theorem TupI.same {K : PySem.W.Frag} {H H' : Hp} {v : V} {a b : Int} (h : TupI K H v a b) (s : Same H H') : TupI K H' v a b := by
  obtain ⟨t, e, h⟩ := h
  exact ⟨t, e, Same.tup s h⟩
theorem TupI.x {K : PySem.W.Frag} {H H' : Hp} {p : Addr} {v : V} {a b : Int} (h : TupI K H v a b) (s : SameX p H H') (hp : PotAt H p) : TupI K H' v a b := by
  obtain ⟨t, e, h⟩ := h
  exact ⟨t, e, SameX.tup s hp h⟩
theorem TupI.new {K : PySem.W.Frag} {H : Hp} {p : Addr} {a b : Int} : TupI K (upd H p (.tup [.int a, .int b])) (.ref p) a b := ⟨p, rfl, .inl (.inl upd_same)⟩
def NewT (K : PySem.W.Frag) (H : Hp) (x y : Int) (Q : VK) : Prop := ∀ v H', Same H H' → TupI K H' v x y → Q v H'
/-! kinds -/
theorem sqt_ty {K : PySem.W.Frag} {H : Hp} {a : Addr} {xs : List V} (h : SqT K H a xs) : TyX K H (.ref a) (.type "tuple") := by
  rcases h with (h | ⟨o, h⟩) | ⟨o, its, n, h1, h2, _⟩
  · exact .base (.tup h)
  · exact .fTuple h
  · exact .kTuple h1 h2
/-- whether a thing is a whole number -/
def WholeIs (K : PySem.W.Frag) (H : Hp) (v : V) (b : Bool) : Prop := ∃ t b1 b2, TyX K H v t ∧ PySem.W.kitOne K t (.type "int") = some b1 ∧ PySem.W.kitOne K t (.type "bool") = some b2 ∧ b = (b1 && !b2)
theorem whole_int {K : PySem.W.Frag} {H : Hp} {i : Int} : WholeIs K H (.int i) true := ⟨_, true, false, .base (.int i), kit_ty (by decide +kernel), kit_ty (by decide +kernel), rfl⟩
theorem whole_non {K : PySem.W.Frag} {H : Hp} : WholeIs K H .non false := ⟨_, false, false, .base .non, kit_ty (by decide +kernel), kit_ty (by decide +kernel), rfl⟩
theorem whole_bl {K : PySem.W.Frag} {H : Hp} {b : Bool} : WholeIs K H (.bl b) false := ⟨_, true, true, .base (.bl b), kit_ty (by decide +kernel), kit_ty (by decide +kernel), rfl⟩
theorem whole_str {K : PySem.W.Frag} {H : Hp} {z : Str} : WholeIs K H (.str z) false := ⟨_, false, false, .base (.str z), kit_ty (by decide +kernel), kit_ty (by decide +kernel), rfl⟩
theorem whole_tup {K : PySem.W.Frag} {H : Hp} {a : Addr} {xs : List V} (h : SqT K H a xs) : WholeIs K H (.ref a) false := ⟨_, false, false, sqt_ty h, kit_ty (by decide +kernel), kit_ty (by decide +kernel), rfl⟩
theorem whole_lst {K : PySem.W.Frag} {H : Hp} {a : Addr} {xs : List V} (h : H a = some (.lst xs)) : WholeIs K H (.ref a) false := ⟨_, false, false, .base (.lst h), kit_ty (by decide +kernel), kit_ty (by decide +kernel), rfl⟩
/-! sizes -/
theorem Bt.cdiv {n : Nat} {i j : Int} (h : 0 < j) (hb : Bt n j) (h9 : n ≤ 8999) : CDivW i j := wide_div (b := n + 1) h (hb.mono (Nat.le_succ n)) (Nat.succ_pos n) (by omega)
theorem Bt.cmul {n m : Nat} {i j : Int} (ha : Bt n i) (hb : Bt m j) (h : n + m ≤ 900000) : CMulW i j := wide_mul (a := n + 1) (b := m + 1) (ha.mono (Nat.le_succ n)) (hb.mono (Nat.le_succ m)) (Nat.succ_pos n) (Nat.succ_pos m) (by omega)
theorem gcd_bt {n : Nat} {a b : Int} (h : 0 < b) (hb : Bt n b) : Bt n (Int.gcd a b : Int) := by
  refine hb.of_le ?_
  have : Int.gcd a b ≤ b.natAbs := Nat.le_of_dvd (by omega) (Nat.gcd_dvd_right a.natAbs b.natAbs)
  simpa using this
/-! promises -/
def spWhole (K : PySem.W.Frag) : Sp := fun vs H Q _ => ∃ v b, vs = [v] ∧ WholeIs K H v b ∧ Q (.bl b) H
def spGcd : Sp := fun vs H Q _ => ∃ x y : Int, vs = [.int x, .int y] ∧ 0 ≤ x ∧ 0 ≤ y ∧ Q (.int (Int.gcd x y)) H
def spLow (K : PySem.W.Frag) : Sp := fun vs H Q _ => ∃ a b : Int, vs = [.int a, .int b] ∧ 0 < b ∧ Bt 8999 b ∧ NewT K H (lo a b).1 (lo a b).2 Q
/-- two pairs and what is made of them -/
def spTwo (K : PySem.W.Frag) (f : Int → Int → Int → Int → Int × Int) : Sp := fun vs H Q _ => ∃ u v a b c d, vs = [u, v] ∧ TupI K H u a b ∧ TupI K H v c d ∧ 0 < b ∧ 0 < d ∧ Bt 4400 a ∧ Bt 4400 b ∧ Bt 4400 c ∧ Bt 4400 d ∧ NewT K H (f a b c d).1 (f a b c d).2 Q
def spTimes (K : PySem.W.Frag) : Sp := fun vs H Q _ => ∃ u a b m, vs = [u, .int m] ∧ TupI K H u a b ∧ 0 < b ∧ Bt 4400 a ∧ Bt 4400 b ∧ Bt 4400 m ∧ NewT K H (lo (a * m) b).1 (lo (a * m) b).2 Q
def Bad (K : PySem.W.Frag) (H : Hp) (m : V) : Prop := WholeIs K H m false ∨ ∃ i : Int, m = .int i ∧ i < 1
def spShared (K : PySem.W.Frag) (C : Addr) : Sp := fun vs H Q E => ∃ u a b m, vs = [u, m] ∧ TupI K H u a b ∧ ((Bad K H m ∧ E (.ref C) none H) ∨ ∃ i : Int, m = .int i ∧ 1 ≤ i ∧ 0 < b ∧ Bt 4400 a ∧ Bt 4400 b ∧ Bt 4400 i ∧ NewT K H (lo a (b * i)).1 (lo a (b * i)).2 Q)
def spDigit : Sp := fun vs H Q _ => ∃ p m, vs = [.ref p, .int m] ∧ PotAt H p ∧ 0 < m ∧ Bt 8999 m ∧ ∀ d H', 0 ≤ d → d < m → SameX p H H' → PotAt H' p → Q (.int d) H'
def spPot (K : PySem.W.Frag) : Sp := fun vs H Q _ => ∃ (a : Addr) (ns : List Int) (k : Int), vs = [.ref a, .int k] ∧ SqL K H a (ns.map V.int) ∧ 0 ≤ k ∧ k < 100 ∧ ∀ p H', Same H H' → H p = none → PotAt H' p → Q (.ref p) H'
/-! all tuples stay -/
def KT (H H' : Hp) : Prop := (∀ a xs, H a = some (.tup xs) → H' a = some (.tup xs)) ∧ (∀ a o xs, H a = some (.frz o (.tup xs)) → H' a = some (.frz o (.tup xs)))
theorem KT.refl (H : Hp) : KT H H := ⟨fun _ _ h => h, fun _ _ _ h => h⟩
theorem KT.trans {H H1 H2 : Hp} (a : KT H H1) (b : KT H1 H2) : KT H H2 := ⟨fun c o h => b.1 c o (a.1 c o h), fun c o x h => b.2 c o x (a.2 c o x h)⟩
theorem kt_same {H H' : Hp} (s : Same H H') : KT H H' := ⟨fun _ _ h => s _ _ h, fun _ _ _ h => s _ _ h⟩
theorem kt_x {p : Addr} {H H' : Hp} (s : SameX p H H') (hp : PotAt H p) : KT H H' := by
  obtain ⟨x, y, hp, _⟩ := hp
  exact ⟨fun a xs h => s _ _ (ne_of h hp (by intro z; cases z)) h, fun a o xs h => s _ _ (ne_of h hp (by intro z; cases z)) h⟩
theorem kt_set {H : Hp} {D : Addr} {xs ys : List V} (h : H D = some (.lst xs)) : KT H (upd H D (.lst ys)) :=
  ⟨fun a zs e => by rw [upd_ne (ne_of e h (by intro z; cases z))]; exact e, fun a o zs e => by rw [upd_ne (ne_of e h (by intro z; cases z))]; exact e⟩
theorem kt_new {H : Hp} {D : Addr} {o : HO} (h : H D = none) : KT H (upd H D o) := kt_same (same_new h)
theorem KT.sqt {K : PySem.W.Frag} {H H' : Hp} {a : Addr} {xs : List V} (e : KT H H') (h : SqT K H a xs) : SqT K H' a xs := by
  rcases h with (h | ⟨o, h⟩) | h
  · exact .inl (.inl (e.1 _ _ h))
  · exact .inl (.inr ⟨o, e.2 _ _ _ h⟩)
  · exact .inr h
theorem TupI.k {K : PySem.W.Frag} {H H' : Hp} {v : V} {a b : Int} (h : TupI K H v a b) (s : KT H H') : TupI K H' v a b := by
  obtain ⟨t, e, h⟩ := h
  exact ⟨t, e, s.sqt h⟩
/-- values that are pairs -/
def Parts (K : PySem.W.Frag) (H : Hp) (rs : List V) (ps : List (Int × Int)) : Prop := rs.length = ps.length ∧ ∀ (i : Nat) v, rs[i]? = some v → ∃ p, ps[i]? = some p ∧ TupI K H v p.1 p.2
theorem Parts.k {K : PySem.W.Frag} {H H' : Hp} {rs : List V} {ps : List (Int × Int)} (h : Parts K H rs ps) (s : KT H H') : Parts K H' rs ps :=
  ⟨h.1, fun i v e => by obtain ⟨p, e1, e2⟩ := h.2 i v e; exact ⟨p, e1, e2.k s⟩⟩
theorem Parts.nil {K : PySem.W.Frag} {H : Hp} : Parts K H [] [] := ⟨rfl, fun i v e => by simp at e⟩
theorem Parts.cons {K : PySem.W.Frag} {H : Hp} {v : V} {rs : List V} {p : Int × Int} {ps : List (Int × Int)} (h : TupI K H v p.1 p.2) (k : Parts K H rs ps) : Parts K H (v :: rs) (p :: ps) :=
  ⟨by simp [k.1], fun i x e => by
    cases i with
    | zero => exact ⟨p, rfl, by have e : v = x := Option.some.inj e; rw [← e]; exact h⟩
    | succ i => exact k.2 i x e⟩
theorem Parts.add {K : PySem.W.Frag} {H : Hp} {v : V} {rs : List V} {p : Int × Int} {ps : List (Int × Int)} (k : Parts K H rs ps) (h : TupI K H v p.1 p.2) : Parts K H (rs ++ [v]) (ps ++ [p]) :=
  ⟨by simp [k.1], fun i x e => by
    by_cases hi : i < rs.length
    · rw [List.getElem?_append_left hi] at e
      obtain ⟨q, e1, e2⟩ := k.2 i x e
      exact ⟨q, by rw [List.getElem?_append_left (by rw [← k.1]; exact hi)]; exact e1, e2⟩
    · rw [List.getElem?_append_right (by omega)] at e
      have hl := k.1
      have z : i - rs.length = 0 := by
        cases hz : i - rs.length with
        | zero => rfl
        | succ n => rw [hz] at e; simp at e
      rw [z] at e
      have e : v = x := Option.some.inj e
      refine ⟨p, ?_, by rw [← e]; exact h⟩
      rw [List.getElem?_append_right (by omega), show i - ps.length = 0 by omega]
      rfl⟩
/-- a number with a below, of at most n bits -/
def Okp (n : Nat) (p : Int × Int) : Prop := 0 < p.2 ∧ Bt n p.1 ∧ Bt n p.2
theorem Okp.mono {n m : Nat} {p : Int × Int} (h : Okp n p) (k : n ≤ m) : Okp m p := ⟨h.1, h.2.1.mono k, h.2.2.mono k⟩
theorem Okp.pl {n m : Nat} {p q : Int × Int} (h : Okp n p) (k : Okp m q) : Okp (n + m + 1) (pl p q) := by
  have hy : 0 < p.2 * q.2 := Int.mul_pos h.1 k.1
  refine ⟨(lo_lowest hy).1, Bt.lo1 ?_, Bt.lo2 ?_⟩
  · have a := h.2.1.mul k.2.2
    have b := (k.2.1.mul h.2.2).mono (show m + n ≤ n + m by omega)
    exact a.add b
  · exact (h.2.2.mul k.2.2).mono (by omega)
theorem fold_okp {n m : Nat} : ∀ (ps : List (Int × Int)) (p : Int × Int), Okp n p → (∀ q ∈ ps, Okp m q) → Okp (n + ps.length * (m + 1)) (ps.foldl pl p)
  | [], p, h, _ => by simpa using h
  | q :: r, p, h, k => by
    have h1 := h.pl (k q (by simp))
    have := fold_okp r (pl p q) h1 (fun x hx => k x (by simp [hx]))
    refine this.mono ?_
    simp only [List.length_cons, Nat.add_mul, Nat.one_mul]
    omega
theorem take_fold {i : Nat} {ps : List (Int × Int)} {p q : Int × Int} (h : ps[i]? = some q) : (ps.take (i + 1)).foldl pl p = pl ((ps.take i).foldl pl p) q := by
  rw [List.take_add_one, h, List.foldl_append]
  rfl
theorem pick {xs : List V} {d : Int} (h0 : 0 ≤ d) (h : d < xs.length) : ∃ v, atI xs d = some v ∧ v ∈ xs :=
  ⟨xs[d.toNat]'(by omega), at_of (j := d.toNat) (by omega) (List.getElem?_eq_getElem _), List.getElem_mem _⟩
def spSum (K : PySem.W.Frag) (n : Nat) : Sp := fun vs H Q _ => ∃ (l : Addr) (rs : List V) (ps : List (Int × Int)), vs = [.ref l] ∧ SqL K H l rs ∧ Parts K H rs ps ∧ (∀ q ∈ ps, Okp n q) ∧ (ps.length + 1) * (n + 1) ≤ 4400 ∧ ∀ v H', Same H H' → TupI K H' v (ps.foldl pl (0, 1)).1 (ps.foldl pl (0, 1)).2 → Q v H'
def spTotal (K : PySem.W.Frag) (n : Nat) : Sp := fun vs H Q _ => ∃ (l : Addr) (u : V) (a b : Int) (rs : List V) (ps : List (Int × Int)), vs = [.ref l, u] ∧ SqT K H l rs ∧ TupI K H u a b ∧ Okp n (a, b) ∧ Parts K H rs ps ∧ (∀ q ∈ ps, Okp n q) ∧ (ps.length + 1) * (n + 1) ≤ 4400 ∧ ∀ v H', Same H H' → TupI K H' v (ps.foldl pl (a, b)).1 (ps.foldl pl (a, b)).2 → Q v H'
def spNum (n : Nat) : Sp := fun vs H Q _ => ∃ p, vs = [.ref p] ∧ PotAt H p ∧ ∀ i H', Bt n i → SameX p H H' → PotAt H' p → Q (.int i) H'
def spDraw (K : PySem.W.Frag) (n : Nat) : Sp := fun vs H Q _ => ∃ p, vs = [.ref p] ∧ PotAt H p ∧ ∀ v a b H', Lowest a b → Bt n a → Bt n b → TupI K H' v a b → SameX p H H' → PotAt H' p → Q v H'
def spIs (K : PySem.W.Frag) : Sp := fun vs H Q _ => ∃ u v a b, vs = [u, v] ∧ TupI K H u a b ∧ TupI K H v a b ∧ Q (.bl true) H
theorem PotAt.ne {H : Hp} {p z : Addr} (h : PotAt H p) (n : H z = none) : z ≠ p := by
  obtain ⟨x, y, e, _⟩ := h
  intro q
  rw [q, e] at n
  cases n
theorem eqv_pair (a b : Int) : PyData.eqv (.tuple [.int a, .int b]) (.tuple [.int a, .int b]) = true := by simp [PyData.eqv, PyData.eqvAll]
theorem share_back {a b i : Int} (h : Lowest a b) (hi : 1 ≤ i) : lo ((lo a (b * i)).1 * i) (lo a (b * i)).2 = (a, b) := by
  have hy : 0 < b * i := Int.mul_pos h.1 (by omega)
  refine lo_eq h (lo_lowest hy).1 ?_
  have c := lo_cross a (b * i)
  calc (lo a (b * i)).1 * i * b = (lo a (b * i)).1 * (b * i) := by simp only [Int.mul_assoc, Int.mul_comm, Int.mul_left_comm]
    _ = a * (lo a (b * i)).2 := c
/-! promises that are kept where no repr is under way -/
def Calm (A : Around) : Prop := A.guards = some []
theorem Calm.down {A : Around} (h : Calm A) (env : Env) : Calm (A.deeper env) := h
structure FnAt (A : Around) (P : Program) (w : World) (K : PySem.W.Frag) (mg : Str → Option Value) (base : Heap) (CX : CXT) (k : Nat) (f : Addr) (fd : FuncData) (ps : List Str) (sp : Sp) : Prop where
  len : ∀ vs H Q E, sp vs H Q E → vs.length = ps.length
  go : ∀ (outer : List Env) (s : Shared) (H : Hp) (args : Args) (us : List Value) (vs : List V) (Q : VK) (E : XK),
    Room k A → Env0 P w K mg base A outer s H → BindsTo s fd args (ps.zip us) → Vals vs us → sp vs H Q E →
    codeAny (model P w) A (.call (.ref f) args) (CR CX outer P w H s Q E) s
theorem fnat_of {A : Around} {P : Program} {w : World} {K : PySem.W.Frag} {mg : Str → Option Value} {base : Heap} {CX : CXT} {k : Nat} {f : Addr} {fd : FuncData} {ps : List Str} {sp : Sp}
    (F : FnOk P w K mg base CX k f fd ps sp) : FnAt A P w K mg base CX k f fd ps sp := ⟨F.len, F.run A⟩
/-- a def by its body, at one place -/
theorem fun_at {A : Around} {P : Program} {w : World} {K : PySem.W.Frag} {mg : Str → Option Value} {base : Heap} {CX : CXT} {x qual : Str} {st : Stmt} {f : Addr} {fd : FuncData} {N ps : List Str} {k : Nat} {sp : Sp}
    (F : Fun K x qual st f fd) (S : FnScope N ps (defScope st)) (len : ∀ vs H Q E, sp vs H Q E → vs.length = ps.length)
    (B : ∀ (cdv : Value) (outer : List Env) (s : Shared) (H : Hp) (vs : List V) (Q : VK) (E : XK),
      Room k (A.deeper (envOfC qual (defScope st) s.heap.objs.size f cdv)) → sp vs H Q E →
      ∃ t, PSs (cxOf CX P w K mg base N qual (defScope st) f cdv A outer s H E) (defBody st) t ∧ t ⟨fun _ H' => Q .non H', Q, fun _ _ => False, fun _ _ => False⟩ (start N vs) H) :
    FnAt A P w K mg base CX (k + 1) f fd ps sp := by
  obtain ⟨oc, od, kV, doc, pm, an, cdv, ct, osl, rfl, at_f, code⟩ := F.ex
  refine ⟨len, ?_⟩
  intro outer s H args us vs Q E room env0 bt vals want
  have inK : K.In s.heap := env0.mod.kin.keeps (fun b o e => (env0.bs b o e).1)
  have kinds : ∀ y ∈ ps.zip us, (defScope st).names.lookup y.1 = some .local ∨ ((defScope st).names.lookup y.1 = some .cell ∧ ((cellsFrom (s.heap.objs.size + 1) (defScope st).names []).lookup y.1).isSome = true) := by
    rintro ⟨n, v⟩ hy
    rcases S.par n (List.of_mem_zip hy).1 with l | c
    · exact .inl l
    · exact .inr ⟨c, PySem.W.cellsFrom_some _ _ _ (.inl c)⟩
  refine codeAny_call_function room.depth (inK _ _ at_f) rfl S.co S.gen rfl (PySem.W.codeRec_of inK code) (bt _ _ _ _ ?_)
  refine wpAny_newFunctionEnv_cells S.kind kinds ?_
  rintro env rfl s1 ic
  refine ⟨(env0.mod.nolimit.keeps fun b o e => (env0.bs b o e).1).keeps ic.toInCall.keep, codeAny_func ?_⟩
  obtain ⟨t, pss, reading⟩ := B cdv outer s H vs Q E (room.deeper _) want
  have inv := inv_start (CX := CX) (E := E) S room.hd env0 (len _ _ _ _ want) vals ic
  refine wpAny_mono (pss.run [] s1 (start N vs) H _ inv reading) ?_ (fun _ _ z => z)
  intro fl s' z
  match fl, z with
  | .ret u, ⟨v, σ', H', J, rv, q⟩ => exact ⟨v, H', J.os, J.bare, J.base, J.hok, rv, q⟩
  | .next, ⟨σ', H', J, q⟩ => exact ⟨.non, H', J.os, J.bare, J.base, J.hok, rfl, q⟩
  | .brk, ⟨_, _, _, q⟩ => exact q.elim
  | .cont, ⟨_, _, _, q⟩ => exact q.elim
/-- f(e, ..) where f keeps its promise at this place -/
theorem pe_callA {X : Cx} {CX : CXT} {k : Nat} {f : Addr} {fd : FuncData} {ps : List Str} {sp : Sp} {dvs : List V} {ds : List Value} {E : XK} {x : Str} {p pos : Pos} {e : Expr} {es : List Expr} {t : TA}
    (F : FnAt X.A X.prog X.w X.K X.mg X.base CX k f fd ps sp) (room : Room k X.A) (gl : Gl X x) (at_x : X.mg x = some (.ref f)) (kp : PySem.W.keepIn X.K (.ref f) = true)
    (bi : Binds X.K fd ps ds) (vd : Vals dvs ds) (ex : Passes CX X E) (args : PA X (e :: es) t)
    (nodbg : (x == ("__debug__" : Str)) = false := by decide) (one : starEach (e :: es) X.env = (false, eval e X.env) :: starEach es X.env := by rfl) (nostar : (backTo pos (starEach es X.env)).any (·.1) = false := by rfl) :
    PE X (.Call (.Name x p) (e :: es) [] pos) (tCall sp dvs E t) := by
  constructor
  intro pins s σ H Q inv want
  refine wpAny_Call_Name_kw (ld_glob inv gl at_x ?_ nodbg)
  refine PySem.W.callWith_K (h₀ := X.base) inv.ok.mod.kin kp (thn (args.run pos pins s σ H _ inv want) ?_) one nostar
  rintro us s1 ⟨vs, H1, inv1, vals, want1⟩
  refine ⟨inv1.kIn, ?_⟩
  have both : Vals (vs ++ dvs) (us ++ ds) := vals.append vd
  have size : (us ++ ds).length = ps.length := both.length.symm.trans (F.len _ _ _ _ want1)
  refine wpAny_call (codeAny_mono (F.go X.stack s1 H1 ⟨us, []⟩ _ _ Q E room inv1.env0 (bi s1 us inv1.kIn size) both want1) ?_)
  intro r s' z
  match r, z with
  | .error er, z => exact ex pins σ H1 s1 er s' inv1 z
  | .ok (.ret u), z => exact inv1.after z
  | .ok .next, z => exact z.elim
  | .ok .brk, z => exact z.elim
  | .ok .cont, z => exact z.elim
/-- repr of data -/
def rRepr (X : Cx) : List V → Hp → VK → Prop := fun xs H Q => ∃ v d, xs = [v] ∧ Dp X.K H v d ∧ d.showable = true ∧ d.hasDict = false ∧ d.depth ≤ 60 ∧ d.shown.length ≤ sizeLine ∧ Q (.str d.shown) H
theorem call_reprD {X : Cx} (g : Calm X.A) (hu : X.A.units + 64 < cLine) : CallR X (.builtin "repr") (rRepr X) := by
  intro pins s σ H xs us Q inv vals want
  obtain ⟨v, d, rfl, dp, sh, nd, dep, len, q⟩ := want
  cases vals with
  | cons rv rest =>
    cases rest
    obtain ⟨as, rd⟩ := Dp.reads inv d v _ dp rv
    have nomod : d.hasDict = true → sysModules ∉ as := fun e => by rw [nd] at e; cases e
    cases dp with
    | non => cases rv; exact PySem.P.repr_of_none ⟨.str _, H, inv.tok _, ⟨_, rfl⟩, q⟩
    | bl b => cases rv; exact PySem.P.repr_of_bool ⟨.str _, H, inv.tok _, ⟨_, rfl⟩, q⟩
    | int i =>
      obtain ⟨t, rfl⟩ := rv
      exact PySem.P.repr_of_int (of_decide_eq_true sh) ⟨.str _, H, inv.tok _, ⟨_, rfl⟩, q⟩
    | str z =>
      obtain ⟨t, rfl⟩ := rv
      exact PySem.P.repr_of_str ⟨.str _, H, inv.tok _, ⟨_, rfl⟩, q⟩ len
    | lst h1 h2 =>
      cases rv
      exact repr_of_reads' rd sh nomod g (by omega) (fun _ _ z => z) (fun h' u tk keep => ⟨.str _, H, inv.kept keep, ⟨_, rfl⟩, q⟩) len
    | tup h1 h2 =>
      cases rv
      exact repr_of_reads' rd sh nomod g (by omega) (fun _ _ z => z) (fun h' u tk keep => ⟨.str _, H, inv.kept keep, ⟨_, rfl⟩, q⟩) len
/-! the end of a law whose def keeps its promise where the law is called -/
theorem begin_at {P : Program} {w : World} {K : PySem.W.Frag} {mg mb : Str → Option Value} {k : Nat} {fa a : Addr} {fd : FuncData} {x : Str} {sp : Sp} {s : Shared} {vs : List Value} {H : Hp}
    (inK : K.In s.heap) (gns : s.heap.Ns mainGlobals mg) (bns : s.heap.Ns builtinsNs mb) (bb : ∀ x : Str, x ≠ "__name__" → mb x = bootBuiltins x) (lim : s.heap.NoLimit) (nogen : s.gens = #[])
    (script : s.heap.get? a = some { cls := .type "list", data := .seq vs.toArray }) (room : Room k callerA)
    (F : ∀ base : Heap, K.In base → base.Ns mainGlobals mg → FnAt callerA P w K mg base CX0 k fa fd [x] sp) (bind1 : ∀ (s : Shared) (u : Value), BindsTo s fd ⟨[u], []⟩ [(x, u)])
    (only : ∀ b u, H b = some u → b = a ∧ K.lookup a = none ∧ ∃ o xs, u = .frz o (.lst xs)) (fits : HOk P w H s.heap)
    (want : sp [.ref a] H (fun v _ => v = .bl true) fun _ _ _ => False) :
    codeAny (model P w) callerA (.call (.ref fa) ⟨[.ref a], []⟩) (fun r s' => r = .ok (.ret (.bool true)) ∧ OldK s.heap s'.heap ∧ s'.os = s.os ∧ AllBare s'.gens) s := by
  have plain : ∀ {b : Addr}, b ≠ a → H b = none := fun {b} nb => by
    cases z : H b with
    | none => rfl
    | some u => exact absurd (only b u z).1 nb
  have noDict : ∀ {b : Addr} {o : Obj} {es : Array DictEntry} {ep : Nat}, s.heap.get? b = some o → o.data = .dict es ep → H b = none := by
    intro b o es ep e de
    refine plain ?_
    rintro rfl
    rw [script] at e
    cases e
    cases de
  have nsb : ∀ {b : Addr} {m : Str → Option Value}, s.heap.Ns b m → (hidT s.heap H).Ns b m := by
    rintro b m ⟨o, es, ep, e, de, rest⟩
    exact ⟨o, es, ep, hidT_get e (noDict e de), de, rest⟩
  have kb : K.In (hidT s.heap H) := by
    intro b o e
    refine hidT_get (inK b o e) ?_
    cases z : H b with
    | none => rfl
    | some u =>
      obtain ⟨rfl, nk, _⟩ := only b u z
      rw [nk] at e
      cases e
  obtain ⟨mc, l1, l2⟩ := lim
  have modu : Mod K mg (hidT s.heap H) := ⟨kb, nsb gns, ⟨mb, nsb bns, bb⟩, ⟨mc, nsb l1, l2⟩⟩
  have noEnv : ∀ b ∈ frs [], H b = none := fun b z => absurd (show b ∈ ([] : List Addr) from z) List.not_mem_nil
  have env0 : Env0 P w K mg (hidT s.heap H) callerA [] s H := ⟨rfl, modu, fun b o e => of_hidT e, Nat.le_of_eq (hidT_size _ _), trivial, noEnv, fits, .of_eq nogen⟩
  refine codeAny_mono ((F _ kb (nsb gns)).go [] s H ⟨[.ref a], []⟩ [.ref a] [.ref a] _ _ room env0 (bind1 s (.ref a)) (.cons rfl .nil) want) ?_
  intro r s' z
  match r, z with
  | .error er, z => exact z.elim
  | .ok .next, z => exact z.elim
  | .ok .brk, z => exact z.elim
  | .ok .cont, z => exact z.elim
  | .ok (.ret u), ⟨v, H', os, bare, un, fits', rel, q⟩ =>
    have q : v = .bl true := q
    subst q
    obtain rfl : u = Value.bool true := rel
    refine ⟨rfl, OldK.of_keep ?_, os, bare⟩
    intro b o e
    cases zb : H b with
    | none => exact un.keep b o e zb (fun z => absurd (show b ∈ ([] : List Addr) from z) List.not_mem_nil) List.not_mem_nil
    | some u =>
      obtain ⟨_, _, ob, xs, rfl⟩ := only b u zb
      have now := (fits' b _ (un.frzs b ob _ zb)).1
      have then_ := (fits b _ zb).1
      rw [e] at then_
      cases then_
      exact now
theorem walk_G {l : PySem.W.OpenLaw} {n k : Nat} {q : Program} {loose : List Str} {XP : (Str → Option Value) → Heap → Prop} {YP : World → Heap → Prop} {d : DefRec} {K : Params → PySem.W.Frag} {sp : World → Sp} {x : Str}
    (most : l.most = some n) (small : n ≤ sizeLine) (nodefault : d.params.defaults = []) (room : Room k callerA)
    (Y : ∀ (w : World) (h : Heap), YP w h → (K w.params).In h)
    (F : ∀ (w : World) (mg : Str → Option Value) (fa : Addr) (h : Heap), (K w.params).In h → h.Ns mainGlobals mg → mg d.name = some (.ref fa) →
      ∃ fd : FuncData, (∀ (s : Shared) (u : Value), BindsTo s fd ⟨[u], []⟩ [(x, u)]) ∧ ∀ base : Heap, (K w.params).In base → base.Ns mainGlobals mg → FnAt callerA l.prog w (K w.params) mg base CX0 k fa fd [x] (sp w))
    (want : ∀ (w : World) (H : Hp) (a : Addr) (ns : List Int), ns.length ≤ n → SqL (K w.params) H a (ns.map V.int) → sp w [.ref a] H (fun v _ => v = .bl true) fun _ _ _ => False) :
    PySem.W.WalkO q loose XP YP l.row.toRowW d [] (fun f vs => PySem.call f vs) := by
  refine Att.attach_call most nodefault ?_
  intro w s0 s mg mb fa o pm cd doc a vs ns G y _ _ _ at_law script hi len nogen
  have inK := Y w _ y
  obtain ⟨fd, b1, f⟩ := F w mg fa _ inK G.T.g at_law
  have rel : Vals (ns.map V.int) vs := vals_ints hi
  have sz : ns.length ≤ sizeLine := Nat.le_trans len small
  cases look : (K w.params).lookup a with
  | some ob =>
    have same := inK a ob look
    rw [script] at same
    cases same
    refine begin_at (H := fun _ => none) inK G.T.g G.T.b G.T.builtins G.T.nolimit nogen script room f b1 (fun b u z => ?_) (fun b u z => ?_) (want w _ a ns len (.inr ⟨_, vs.toArray, _, look, rfl, rfl, rfl, ?_, ?_⟩))
    · have z : (none : Option HO) = some u := z
      cases z
    · have z : (none : Option HO) = some u := z
      cases z
    · rw [List.size_toArray, hi.length]
      exact sz
    · simpa using rel
  | none =>
    have here : ∀ b u, (if b = a then some (HO.frz { cls := .type "list", data := .seq vs.toArray } (.lst (ns.map V.int))) else none) = some u → b = a ∧ u = HO.frz { cls := .type "list", data := .seq vs.toArray } (.lst (ns.map V.int)) := by
      intro b u z
      by_cases hb : b = a
      · rw [if_pos hb] at z
        exact ⟨hb, (Option.some.inj z).symm⟩
      · rw [if_neg hb] at z
        cases z
    refine begin_at (H := fun b => if b = a then some (.frz { cls := .type "list", data := .seq vs.toArray } (.lst (ns.map V.int))) else none) inK G.T.g G.T.b G.T.builtins G.T.nolimit nogen script room f b1 (fun b u z => ?_) (fun b u z => ?_) (want w _ a ns len (.inl (.inr ⟨_, if_pos rfl⟩)))
    · obtain ⟨e1, e2⟩ := here b u z
      exact ⟨e1, look, _, _, e2⟩
    · obtain ⟨rfl, rfl⟩ := here b u z
      exact ⟨script, by rw [List.length_map]; exact sz, vs, _, rel, script⟩
theorem tyes {σ : L2.St} {H : Hp} {F : Bool → Hp → Prop} (h : F true H) : tYes σ H F := h
/-- the script can be read where what it was stays -/
theorem seq_keep {K : PySem.W.Frag} {H H' : Hp} {a : Addr} {xs : List V} (h : SqL K H a xs) (s : ∀ o, H a = some o → H' a = some o) : SqL K H' a xs := by
  rcases h with (h | ⟨o, h⟩) | h
  · exact .inl (.inl (s _ h))
  · exact .inl (.inr ⟨o, s _ h⟩)
  · exact .inr h
theorem all_true : ∀ n : Nat, (List.replicate n true).all id = true
  | 0 => rfl
  | n + 1 => by simp [List.replicate_succ]
theorem pl_zero {a b : Int} (h : Lowest a b) : pl (0, 1) (a, b) = (a, b) := by
  show lo (0 * b + a * 1) (1 * b) = (a, b)
  rw [Int.zero_mul, Int.zero_add, Int.mul_one, Int.one_mul]
  exact lo_of h
def spOne : Sp := fun vs H Q _ => ∃ p, vs = [.ref p] ∧ PotAt H p ∧ ∀ H', SameX p H H' → Q (.bl true) H'
def spLaw (K : PySem.W.Frag) : Sp := fun vs H Q _ => ∃ (a : Addr) (ns : List Int), vs = [.ref a] ∧ SqL K H a (ns.map V.int) ∧ ns.length ≤ 63 ∧ ∀ H', Q (.bl true) H'
/-! parts by what they stand for -/
theorem lo_congr {x y x' y' : Int} (hy : 0 < y) (hy' : 0 < y') (e : x * y' = x' * y) : lo x y = lo x' y' := by
  have c := lo_cross x' y'
  refine (lo_eq (lo_lowest (a := x') hy') hy ?_).trans (Prod.eta _)
  have h : (x * (lo x' y').2) * y' = ((lo x' y').1 * y) * y' := by
    calc (x * (lo x' y').2) * y' = (x * y') * (lo x' y').2 := by simp only [Int.mul_assoc, Int.mul_comm, Int.mul_left_comm]
      _ = (x' * y) * (lo x' y').2 := by rw [e]
      _ = (x' * (lo x' y').2) * y := by simp only [Int.mul_assoc, Int.mul_comm, Int.mul_left_comm]
      _ = ((lo x' y').1 * y') * y := by rw [c]
      _ = ((lo x' y').1 * y) * y' := by simp only [Int.mul_assoc, Int.mul_comm, Int.mul_left_comm]
  exact Int.eq_of_mul_eq_mul_right (by omega) h
theorem lo_pl {a b c d : Int} (hb : 0 < b) (hd : 0 < d) : pl (lo a b) (lo c d) = lo (a * d + c * b) (b * d) := by
  have b' := (lo_lowest (a := a) hb).1
  have d' := (lo_lowest (a := c) hd).1
  have e1 := lo_cross a b
  have e2 := lo_cross c d
  show lo ((lo a b).1 * (lo c d).2 + (lo c d).1 * (lo a b).2) ((lo a b).2 * (lo c d).2) = _
  refine lo_congr (Int.mul_pos b' d') (Int.mul_pos hb hd) ?_
  generalize (lo a b).1 = p at *
  generalize (lo a b).2 = q at *
  generalize (lo c d).1 = r at *
  generalize (lo c d).2 = t at *
  have h1 : p * t * (b * d) = a * q * t * d := by rw [← e1]; simp only [Int.mul_assoc, Int.mul_comm, Int.mul_left_comm]
  have h2 : r * q * (b * d) = c * t * q * b := by rw [← e2]; simp only [Int.mul_assoc, Int.mul_comm, Int.mul_left_comm]
  rw [Int.add_mul, Int.add_mul, h1, h2]
  simp only [Int.mul_assoc, Int.mul_comm, Int.mul_left_comm]
theorem lo_times {a b m : Int} (hb : 0 < b) : lo ((lo a b).1 * m) (lo a b).2 = lo (a * m) b := by
  refine lo_congr (lo_lowest hb).1 hb ?_
  have e := lo_cross a b
  calc (lo a b).1 * m * b = ((lo a b).1 * b) * m := by simp only [Int.mul_assoc, Int.mul_comm, Int.mul_left_comm]
    _ = (a * (lo a b).2) * m := by rw [e]
    _ = a * m * (lo a b).2 := by simp only [Int.mul_assoc, Int.mul_comm, Int.mul_left_comm]
theorem lo_less {a b c d : Int} (hb : 0 < b) (hd : 0 < d) : (lo a b).1 * (lo c d).2 < (lo c d).1 * (lo a b).2 ↔ a * d < c * b := by
  have b' := (lo_lowest (a := a) hb).1
  have d' := (lo_lowest (a := c) hd).1
  have e1 := lo_cross a b
  have e2 := lo_cross c d
  generalize (lo a b).1 = p at *
  generalize (lo a b).2 = q at *
  generalize (lo c d).1 = r at *
  generalize (lo c d).2 = t at *
  have h1 : (p * t) * (b * d) = (a * d) * (q * t) := by
    calc (p * t) * (b * d) = (p * b) * (t * d) := by simp only [Int.mul_assoc, Int.mul_comm, Int.mul_left_comm]
      _ = (a * q) * (t * d) := by rw [e1]
      _ = (a * d) * (q * t) := by simp only [Int.mul_assoc, Int.mul_comm, Int.mul_left_comm]
  have h2 : (r * q) * (b * d) = (c * b) * (q * t) := by
    calc (r * q) * (b * d) = (r * d) * (q * b) := by simp only [Int.mul_assoc, Int.mul_comm, Int.mul_left_comm]
      _ = (c * t) * (q * b) := by rw [e2]
      _ = (c * b) * (q * t) := by simp only [Int.mul_assoc, Int.mul_comm, Int.mul_left_comm]
  have pb : 0 < b * d := Int.mul_pos hb hd
  have pq : 0 < q * t := Int.mul_pos b' d'
  constructor
  · intro h
    have := Int.mul_lt_mul_of_pos_right h pb
    rw [h1, h2] at this
    exact Int.lt_of_mul_lt_mul_right this (Int.le_of_lt pq)
  · intro h
    have := Int.mul_lt_mul_of_pos_right h pq
    rw [← h1, ← h2] at this
    exact Int.lt_of_mul_lt_mul_right this (Int.le_of_lt pb)
def spMost (K : PySem.W.Frag) : Sp := fun vs H Q _ => ∃ a n k : Int, vs = [.int a, .int n, .int k] ∧ Bt 200 a ∧ Bt 200 n ∧ Bt 200 k ∧ NewT K H (lo (a * k * (n - k)) 2).1 (lo (a * k * (n - k)) 2).2 Q
def spLess (K : PySem.W.Frag) : Sp := fun vs H Q _ => ∃ u v a b c d, vs = [u, v] ∧ TupI K H u a b ∧ TupI K H v c d ∧ Bt 4400 a ∧ Bt 4400 b ∧ Bt 4400 c ∧ Bt 4400 d ∧ Q (.bl (decide (a * d < c * b))) H
/-! how long a repr is -/
theorem text_len : ∀ (ts : List Str) (k : Nat) (acc : Str), (textFrom k acc ts).length ≤ acc.length + piled ts
  | [], k, acc => by show acc.length ≤ _; omega
  | t :: r, k, acc => by
    have ih := text_len r (k + 1) (acc ++ (if k > 0 then ", " else "" : String) ++ t)
    have e : ((if k > 0 then ", " else "" : String) : Str).length ≤ 2 := by split <;> decide +kernel
    show (textFrom (k + 1) (acc ++ (if k > 0 then ", " else "" : String) ++ t) r).length ≤ _
    rw [strLen_append, strLen_append] at ih
    rw [piled_cons]
    omega
theorem shown_int_len {n : Nat} {i : Int} (hn : 0 < n) (h : Bt n i) : (PyData.shown (.int i)).length ≤ n + 1 := by
  have e := int_text_length_le (a := i) hn (PySem.Flt.log2_lt_of hn h)
  show (Str.ofString (toString i)).length ≤ n + 1
  rw [PySem.ofString_length]
  exact e
theorem shown_tup_len (ds : List PyData) : (PyData.shown (.tuple ds)).length ≤ piled (PyData.shownAll ds) + 2 := PySem.fmt_text _
theorem shown_lst_len (ds : List PyData) : (PyData.shown (.list ds)).length ≤ piled (PyData.shownAll ds) + 2 := by
  show (textFrom 0 "[" (PyData.shownAll ds) ++ ("]" : Str)).length ≤ _
  have h := text_len (PyData.shownAll ds) 0 "["
  have e1 : (("[" : String) : Str).length = 1 := rfl
  have e2 : (("]" : String) : Str).length = 1 := rfl
  rw [strLen_append]
  omega
/-- the pair as data -/
def pd (a b : Int) : PyData := .tuple [.int a, .int b]
theorem pd_len {n : Nat} {a b : Int} (hn : 0 < n) (h : Bt n a) (k : Bt n b) : (pd a b).shown.length ≤ 2 * n + 8 := by
  have e := shown_tup_len [.int a, .int b]
  have h1 := shown_int_len hn h
  have h2 := shown_int_len hn k
  have e2 : piled (PyData.shownAll [.int a, .int b]) = (PyData.shown (.int a)).length + 2 + ((PyData.shown (.int b)).length + 2 + 0) := by
    show piled [PyData.shown (.int a), PyData.shown (.int b)] = _
    rw [piled_cons, piled_cons, piled_nil]
  show (PyData.shown (.tuple [.int a, .int b])).length ≤ _
  omega
theorem bt_show {i : Int} (h : Bt 1900 i) : (PyData.int i).showable = true := decide_eq_true (Nat.lt_of_lt_of_le (PySem.Flt.log2_lt_of (by decide) h) (by decide))
theorem pd_show {a b : Int} (h : Bt 1900 a) (k : Bt 1900 b) : (pd a b).showable = true := by
  show ((PyData.int a).showable && ((PyData.int b).showable && true)) = true
  rw [bt_show h, bt_show k]
  rfl
theorem pd_dp {K : PySem.W.Frag} {H : Hp} {v : V} {a b : Int} (h : TupI K H v a b) : Dp K H v (pd a b) := by
  obtain ⟨t, rfl, h⟩ := h
  exact .tup h (.cons (.int a) (.cons (.int b) .nil))
def spIsR (K : PySem.W.Frag) : Sp := fun vs H Q _ => ∃ u v a b, vs = [u, v] ∧ TupI K H u a b ∧ TupI K H v a b ∧ Bt 1900 a ∧ Bt 1900 b ∧ Q (.bl true) H
def spNumW (lo_ hi_ : Int) : Sp := fun vs H Q _ => ∃ p, vs = [.ref p] ∧ PotAt H p ∧ ∀ i H', lo_ ≤ i → i < hi_ → SameX p H H' → PotAt H' p → Q (.int i) H'
def spMany : Sp := fun vs H Q _ => ∃ p m, vs = [.ref p, .int m] ∧ PotAt H p ∧ 0 ≤ m ∧ m < 1000 ∧ ∀ i H', 0 ≤ i → i ≤ m → SameX p H H' → PotAt H' p → Q (.int i) H'
/-! behind the last argument -/
theorem nil2 {σ : L2.St} {H : Hp} {F : List V → Hp → Prop} (h : F [] H) : tNil σ H F := h
/-! a value that stands for x / y -/
def Rp (K : PySem.W.Frag) (H : Hp) (v : V) (x y : Int) (n : Nat) : Prop := TupI K H v (lo x y).1 (lo x y).2 ∧ 0 < y ∧ Bt n x ∧ Bt n y
theorem Rp.same {K : PySem.W.Frag} {H H' : Hp} {v : V} {x y : Int} {n : Nat} (h : Rp K H v x y n) (s : Same H H') : Rp K H' v x y n := ⟨h.1.same s, h.2⟩
theorem Rp.k {K : PySem.W.Frag} {H H' : Hp} {v : V} {x y : Int} {n : Nat} (h : Rp K H v x y n) (s : KT H H') : Rp K H' v x y n := ⟨h.1.k s, h.2⟩
theorem Rp.x {K : PySem.W.Frag} {H H' : Hp} {p : Addr} {v : V} {x y : Int} {n : Nat} (h : Rp K H v x y n) (s : SameX p H H') (hp : PotAt H p) : Rp K H' v x y n := ⟨h.1.x s hp, h.2⟩
theorem Rp.mono {K : PySem.W.Frag} {H : Hp} {v : V} {x y : Int} {n m : Nat} (h : Rp K H v x y n) (k : n ≤ m) : Rp K H v x y m := ⟨h.1, h.2.1, h.2.2.1.mono k, h.2.2.2.mono k⟩
theorem Rp.of {K : PySem.W.Frag} {H : Hp} {v : V} {a b : Int} {n : Nat} (h : TupI K H v a b) (l : Lowest a b) (ba : Bt n a) (bb : Bt n b) : Rp K H v a b n := ⟨by rw [lo_of l]; exact h, l.1, ba, bb⟩
theorem Rp.same_as {K : PySem.W.Frag} {H : Hp} {v : V} {x y x' y' : Int} {n m : Nat} (h : Rp K H v x y n) (hy : 0 < y') (bx : Bt m x') (b_y : Bt m y') (e : x * y' = x' * y) : Rp K H v x' y' m :=
  ⟨by rw [← lo_congr h.2.1 hy e]; exact h.1, hy, bx, b_y⟩
section
variable {K : PySem.W.Frag} {H : Hp} {u v : V} {x y x' y' : Int} {n m : Nat} {Q : VK}
theorem plus_rp (h : Rp K H u x y n) (k : Rp K H v x' y' m) (hn : n ≤ 4400) (hm : m ≤ 4400) (q : ∀ w H', Same H H' → Rp K H' w (x * y' + x' * y) (y * y') (n + m + 1) → Q w H') :
    spTwo K (fun a b c d => lo (a * d + c * b) (b * d)) [u, v] H Q E0 := by
  refine ⟨u, v, _, _, _, _, rfl, h.1, k.1, (lo_lowest h.2.1).1, (lo_lowest k.2.1).1, (Bt.lo1 h.2.2.1).mono hn, (Bt.lo2 h.2.2.2).mono hn, (Bt.lo1 k.2.2.1).mono hm, (Bt.lo2 k.2.2.2).mono hm, fun w H' s hw => q w H' s ⟨?_, Int.mul_pos h.2.1 k.2.1, ?_, ?_⟩⟩
  · have e : pl (lo x y) (lo x' y') = lo (x * y' + x' * y) (y * y') := lo_pl h.2.1 k.2.1
    have hw : TupI K H' w (pl (lo x y) (lo x' y')).1 (pl (lo x y) (lo x' y')).2 := hw
    rw [e] at hw
    exact hw
  · exact (h.2.2.1.mul k.2.2.2).add ((k.2.2.1.mul h.2.2.2).mono (by omega))
  · exact (h.2.2.2.mul k.2.2.2).mono (by omega)
theorem times_rp {i : Int} (h : Rp K H u x y n) (bi : Bt m i) (hn : n ≤ 4400) (hm : m ≤ 4400) (q : ∀ w H', Same H H' → Rp K H' w (x * i) y (n + m) → Q w H') : spTimes K [u, .int i] H Q E0 := by
  refine ⟨u, _, _, i, rfl, h.1, (lo_lowest h.2.1).1, (Bt.lo1 h.2.2.1).mono hn, (Bt.lo2 h.2.2.2).mono hn, bi.mono hm, fun w H' s hw => q w H' s ⟨?_, h.2.1, h.2.2.1.mul bi, h.2.2.2.mono (by omega)⟩⟩
  rw [lo_times h.2.1] at hw
  exact hw
theorem less_rp (h : Rp K H u x y n) (k : Rp K H v x' y' m) (hn : n ≤ 4400) (hm : m ≤ 4400) (q : Q (.bl (decide (x * y' < x' * y))) H) : spLess K [u, v] H Q E0 := by
  refine ⟨u, v, _, _, _, _, rfl, h.1, k.1, (Bt.lo1 h.2.2.1).mono hn, (Bt.lo2 h.2.2.2).mono hn, (Bt.lo1 k.2.2.1).mono hm, (Bt.lo2 k.2.2.2).mono hm, ?_⟩
  rw [decide_eq_decide.mpr (lo_less h.2.1 k.2.1)]
  exact q
theorem most_rp {a b c : Int} (ba : Bt 200 a) (bb : Bt 200 b) (bc : Bt 200 c) (q : ∀ w H', Same H H' → Rp K H' w (a * c * (b - c)) 2 700 → Q w H') : spMost K [.int a, .int b, .int c] H Q E0 :=
  ⟨a, b, c, rfl, ba, bb, bc, fun w H' s hw => q w H' s ⟨hw, by decide, ((ba.mul bc).mul (bb.sub bc)).mono (by decide), by unfold Bt; decide +kernel⟩⟩
theorem low_rp {a b : Int} (hb : 0 < b) (ba : Bt n a) (bb : Bt n b) (hn : n ≤ 8999) (q : ∀ w H', Same H H' → Rp K H' w a b n → Q w H') : spLow K [.int a, .int b] H Q E0 :=
  ⟨a, b, rfl, hb, bb.mono hn, fun w H' s hw => q w H' s ⟨hw, hb, ba, bb⟩⟩
theorem is_rp (h : Rp K H u x y n) (k : Rp K H v x' y' m) (hn : n ≤ 1900) (e : x * y' = x' * y) (q : Q (.bl true) H) : spIsR K [u, v] H Q E0 := by
  refine ⟨u, v, _, _, rfl, h.1, ?_, (Bt.lo1 h.2.2.1).mono hn, (Bt.lo2 h.2.2.2).mono hn, q⟩
  rw [lo_congr h.2.1 k.2.1 e]
  exact k.1
theorem eqd_rp (h : Rp K H u x y n) (k : Rp K H v x' y' m) (e : x * y' = x' * y) : ∃ d d', Dp K H u d ∧ Dp K H v d' ∧ SeqAt.shaped d = true ∧ SeqAt.shaped d' = true ∧ PyData.eqv d d' = true := by
  have k1 := k.1
  rw [← lo_congr h.2.1 k.2.1 e] at k1
  exact ⟨_, _, pd_dp h.1, pd_dp k1, rfl, rfl, eqv_pair _ _⟩
end
end WS
set_option Elab.async false
set_option linter.all false
set_option maxRecDepth 100000
set_option maxHeartbeats 4000000
namespace WS
open PySem PySem.Spec PyProof.Rows L2
/-! within an except suite -/
section
variable {prog : Program} {w : World} {A : Around} {E : Value → Shared → Prop} {s : Shared}
theorem list_end_hot {it l x1 : Addr} {i : Nat} {its : Array Value} {Q : Option Value → Shared → Prop} (hot : HotX.HotAt A x1 s.heap) (ni : x1 ≠ it)
    (hit : s.heap.IsListIter it l i) (hl : s.heap.IsList l its) (out : its[i]? = none)
    (fin : ∀ h', (∀ b o, b ≠ it → s.heap.get? b = some o → h'.get? b = some o) → Q none { s with heap := h' }) : wpAny (model prog w) A (pyNext (.ref it)) Q E s := by
  have ty := hit.typeIs
  obtain ⟨oi, gi, ci, di⟩ := hit
  obtain ⟨ol, gl, _, nl, dl⟩ := hl
  obtain ⟨hh, oh, vh, gh, dh, ch⟩ := hot
  unfold pyNext
  refine wpAny_bind (wpAny_attempt (wpAny_callSpecial?_slot (name := Str.ofString "__next__") ty slot_listiter_next (wpAny_call_entry slot_listiter_next ty entry_listiter_next ?_ (args_listiter_next _))))
  show wpAny _ _ (field (.ref it) 0 >>= _) _ _ s
  refine wpAny_bind (wpAny_field gi di (x := .ref l) rfl ?_)
  show wpAny _ _ (ite ((Value.ref l == Value.none) = true) _ _) _ _ s
  rw [if_neg (show ¬ (Value.ref l == Value.none) = true from Bool.false_ne_true)]
  show wpAny _ _ (field (.ref it) 1 >>= _) _ _ s
  refine wpAny_bind (wpAny_field gi di (x := .int i 0) rfl (?_ : wpAny _ _ (seqItems? (.ref l) >>= _) _ _ s))
  refine wpAny_bind (wpAny_seqItems gl dl ?_)
  simp only [Int.toNat_natCast, out]
  refine wpAny_bind (wpAny_rule (wpAny_bind (wpAny_setField gi di (by simp) (?_ : wpAny _ _ (newExc (.type "StopIteration") [] >>= _) _ _ _))))
  refine wpAny_bind ?_
  simp only [newExc, newTuple]
  refine wpAny_bind (wpAny_newObj_type ?_ (by size_fits))
  refine wpAny_bind (m := firstArgMember _ _) (wpAny_of_eq (a := Value.none) (by first | rfl | (simp only [firstArgMember]; rfl)) (wpAny_newObj_type ?_ (by size_fits)))
  have gh1 : (s.heap.update it (Obj.mapFields (·.setIfInBounds 0 .none))).get? x1 = some oh := by
    rw [Heap.get?_update_other _ _ ni.symm]
    exact gh
  refine HotX.raiseNew_hot ⟨hh, oh, vh, Heap.get?_push_of_some _ (Heap.get?_push_of_some _ gh1), dh, ch⟩ (Nat.ne_of_lt (Heap.lt_size (Heap.get?_push_of_some _ gh1))) (Heap.get?_push_size _ rfl) rfl (by first | (simp; done) | (simp; omega)) ?_
  refine wpAny_bind (wpAny_isInstance (T := "StopIteration") (b := true) ⟨_, Heap.get?_update_self _ (Heap.get?_push_size _ rfl) rfl, rfl⟩ isSubtype_stop (wpAny_pure (fin _ fun b o nb e => ?_)))
  have e1 : (s.heap.update it (Obj.mapFields (·.setIfInBounds 0 .none))).get? b = some o := by
    rw [Heap.get?_update_other _ _ nb.symm]
    exact e
  rw [Heap.get?_update_other _ _ (Nat.ne_of_gt (Heap.lt_size (Heap.get?_push_of_some _ e1)))]
  exact Heap.get?_push_of_some _ (Heap.get?_push_of_some _ e1)
end
/-- what the heap says of the exception that is handled -/
def Held (x1 : Addr) (h : Heap) : Prop := ∃ (o : Obj) (vs : Array Value), h.get? x1 = some o ∧ o.data = .fields vs ∧ vs[2]? = some .none
theorem walks_hot {prog : Program} {w : World} {A : Around} {I ax x1 : Addr} (hh : A.handled = some (.ref x1)) (hne : ax ≠ I) (hn1 : x1 ≠ I) (its : Array Value) :
    Walks prog w A I [I, ax, x1] [I] its.size (fun i v => its[i]? = some v) (fun i h => (h.IsListIter I ax i ∧ h.IsList ax its) ∧ Held x1 h) where
  sub := fun b hb => by simp at hb; simp [hb]
  frame := fun i h h' st keep => ⟨⟨st.1.1.at (keep I (by simp)), st.1.2.at (keep ax (by simp))⟩, by
    obtain ⟨o, vs, e, r⟩ := st.2
    exact ⟨o, vs, keep x1 (by simp) _ e, r⟩⟩
  item := fun i s Q E hi st fin => by
    refine wpAny_pyNext_list_item st.1.1 st.1.2 (x := its[i]) (by simp [hi]) fun h' again same => fin _ h' s.toks (by simp [hi]) ⟨⟨again, st.1.2.extBut same.extBut hne⟩, ?_⟩ fun b o hb e => same.extBut b o (fun h => hb (by simp [h])) e
    obtain ⟨o, vs, e, r⟩ := st.2
    exact ⟨o, vs, same.extBut x1 o hn1 e, r⟩
  done := fun s Q E st fin => list_end_hot ⟨hh, st.2⟩ hn1 st.1.1 st.1.2 (by simp) fun h' keep => fin h' s.toks fun b o hb e => keep b o (fun h => hb (by simp [h])) e
  self := fun _ _ _ _ st q => wpAny_pyIter_listiter st.1.1 q
theorem held_of {X : Cx} {pins : List (Addr × Obj)} {σ : L2.St} {H : Hp} {s : Shared} {p : Addr × Obj} (hot : L2H.Hot1 X.A p) (hp : p ∈ X.pn) (inv : Inv X pins σ H s) : Held p.1 s.heap := by
  obtain ⟨_, vs, d, c⟩ := hot
  exact ⟨p.2, vs, (inv.pin p (List.mem_append_left _ hp)).1, d, c⟩
/-- any(list of truths) there -/
theorem cr_anyH {X : Cx} {p : Addr × Obj} (hot : L2H.Hot1 X.A p) (hp : p ∈ X.pn) : CallR X (.builtin "any") (rAny X.K) := by
  intro pins s σ H vs us Q inv vals want
  obtain ⟨a, bs, rfl, at_a, q⟩ := want
  obtain ⟨its, rel, pl, _⟩ := inv.list at_a
  rw [Vals.ref1 vals]
  have tb := rel.bls
  have held := held_of hot hp inv
  refine call_any_walk (iter_any pl.isList fun s2 e2 st ne => ?_)
  subst e2
  have lt : p.1 < s.heap.objs.size := by
    obtain ⟨o, _, e, _⟩ := held
    exact Heap.lt_size e
  have held2 : Held p.1 (s.heap.push { cls := .type "list_iterator", data := .fields #[.ref a, .int 0 0] }) := by
    obtain ⟨o, vs, e, r⟩ := held
    exact ⟨o, vs, Heap.get?_push_of_some _ e, r⟩
  refine ⟨_, _, _, _, _, _, _, rfl, walks_hot (A := X.A.in1) (x1 := p.1) hot.1 ne (Nat.ne_of_lt lt) its.toArray, ⟨st, held2⟩, truth_bools tb, fun h' tk keep => ⟨.bl _, H, inv.kept fun b o eo => keep b o (fun z => ?_) (Heap.get?_push_of_some _ eo), ?_, q⟩⟩
  · have z : b = s.heap.objs.size := by simpa using z
    exact absurd (z ▸ Heap.lt_size eo) (Nat.lt_irrefl _)
  · show Value.bool _ = Value.bool _
    rw [← L2.any_range, tb, List.size_toArray, List.length_map]
/-! isinstance of the exception that is handled -/
theorem inst_of {X : Cx} {pins : List (Addr × Obj)} {σ : L2.St} {H : Hp} {s : Shared} {p : Addr × Obj} {D : Addr} (hp : p ∈ X.pn) (inv : Inv X pins σ H s) (hc : p.2.cls = .ref D) (hd : p.2.dict = none) (hf : ∃ vs, p.2.data = .fields vs) : PySem.W.InstAt s.heap p.1 p.2 D none := by
  obtain ⟨get, _⟩ := inv.pin p (List.mem_append_left _ hp)
  obtain ⟨a, oc, od, oda, osl⟩ := p
  obtain ⟨vs, e⟩ := hf
  dsimp only at hc hd e get ⊢
  subst hc hd e
  exact ⟨get, rfl, rfl, trivial⟩
theorem call_isP {X : Cx} {p : Addr × Obj} {D : Addr} (hp : p ∈ X.pn) (C : ExcC X.K D) (hc : p.2.cls = .ref D) (hd : p.2.dict = none) (hf : ∃ vs, p.2.data = .fields vs) :
    CallR X (.builtin "isinstance") (fun xs H Q => ∃ (c : V) (cv : Value) (b : Bool), xs = [.ref p.1, c] ∧ ClsV c cv ∧ PySem.W.kitOne X.K (.ref D) cv = some b ∧ Q (.bl b) H) := by
  intro pins s σ H xs us Q inv vals want
  obtain ⟨c, cv, b, rfl, cls, kit, q⟩ := want
  obtain ⟨u1, u2, rfl, r1, r2⟩ := vals2 vals
  cases (show u1 = Value.ref p.1 from r1)
  cases cls.eq r2
  exact PySem.W.kia_one (PySem.W.handS_kitx_exc C.hg C.hk C.hs C.hd C.ha C.hn C.ht C.hm) inv.kIn (inst_of hp inv hc hd hf) kit (fun z => nomatch z) fun tk => ⟨.bl b, H, inv.tok tk, rfl, q⟩
theorem call_isPT {X : Cx} {p : Addr × Obj} {D : Addr} (hp : p ∈ X.pn) (C : ExcC X.K D) (hc : p.2.cls = .ref D) (hd : p.2.dict = none) (hf : ∃ vs, p.2.data = .fields vs) :
    CallR X (.builtin "isinstance") (fun xs H Q => ∃ (tp : Addr) (cs : List V) (ws : List Value) (b : Bool), xs = [.ref p.1, .ref tp] ∧ H tp = some (.tup cs) ∧ Paired ClsV cs ws ∧ PySem.W.kitAny X.K (.ref D) ws = some b ∧ Q (.bl b) H) := by
  intro pins s σ H xs us Q inv vals want
  obtain ⟨tp, cs, ws, b, rfl, at_t, cls, kit, q⟩ := want
  obtain ⟨u1, u2, rfl, r1, r2⟩ := vals2 vals
  cases (show u1 = Value.ref p.1 from r1)
  cases (show u2 = Value.ref tp from r2)
  obtain ⟨_, its, rel, o, g, ec, n, ed⟩ := (show ObjOk X.prog X.w H s.heap tp (.tup cs) from inv.hok tp _ at_t)
  cases ClsV.all cls rel
  obtain ⟨oc, od, dt, sl⟩ := o
  dsimp only at ec ed
  subst ec ed
  exact PySem.W.kia_tup (PySem.W.handS_kitx_exc C.hg C.hk C.hs C.hd C.ha C.hn C.ht C.hm) inv.kIn (inst_of hp inv hc hd hf) g kit (fun z => nomatch z) fun tk => ⟨.bl b, H, inv.tok tk, rfl, q⟩
/-! a def called there, of the exception p that is handled -/
structure FnHot (A : Around) (p : Addr × Obj) (P : Program) (w : World) (K : PySem.W.Frag) (mg : Str → Option Value) (base : Heap) (k : Nat) (f : Addr) (fd : FuncData) (ps : List Str) (sp : Sp) : Prop where
  len : ∀ vs H Q E, sp vs H Q E → vs.length = ps.length
  go : ∀ (outer : List Env) (s : Shared) (H : Hp) (args : Args) (us : List Value) (vs : List V) (Q : VK),
    L2H.RoomH k A → L2H.PinOk outer H s p → Env0 P w K mg base A outer s H → BindsTo s fd args (ps.zip us) → Vals vs us → sp vs H Q E0 →
    codeAny (model P w) A (.call (.ref f) args) (CR CX0 outer P w H s Q E0) s
theorem fun_hot {A : Around} {p : Addr × Obj} {P : Program} {w : World} {K : PySem.W.Frag} {mg : Str → Option Value} {base : Heap} {x qual : Str} {st : Stmt} {f : Addr} {fd : FuncData} {N ps : List Str} {k : Nat} {sp : Sp}
    (F : Fun K x qual st f fd) (S : FnScope N ps (defScope st)) (len : ∀ vs H Q E, sp vs H Q E → vs.length = ps.length)
    (B : ∀ (cdv : Value) (outer : List Env) (s : Shared) (H : Hp) (vs : List V) (Q : VK),
      L2H.RoomH k (A.deeper (envOfC qual (defScope st) s.heap.objs.size f cdv)) → sp vs H Q E0 →
      ∃ t, PSs (L2H.cxH CX0 P w K mg base N qual (defScope st) f cdv A outer s H E0 p) (defBody st) t ∧ t ⟨fun _ H' => Q .non H', Q, fun _ _ => False, fun _ _ => False⟩ (start N vs) H) :
    FnHot A p P w K mg base (k + 1) f fd ps sp := by
  obtain ⟨oc, od, kV, doc, pm, an, cdv, ct, osl, rfl, at_f, code⟩ := F.ex
  refine ⟨len, ?_⟩
  intro outer s H args us vs Q room pin env0 bt vals want
  have inK : K.In s.heap := env0.mod.kin.keeps (fun b o e => (env0.bs b o e).1)
  have kinds : ∀ y ∈ ps.zip us, (defScope st).names.lookup y.1 = some .local ∨ ((defScope st).names.lookup y.1 = some .cell ∧ ((cellsFrom (s.heap.objs.size + 1) (defScope st).names []).lookup y.1).isSome = true) := by
    rintro ⟨n, v⟩ hy
    rcases S.par n (List.of_mem_zip hy).1 with l | c
    · exact .inl l
    · exact .inr ⟨c, PySem.W.cellsFrom_some _ _ _ (.inl c)⟩
  refine codeAny_call_function room.depth (inK _ _ at_f) rfl S.co S.gen rfl (PySem.W.codeRec_of inK code) (bt _ _ _ _ ?_)
  refine wpAny_newFunctionEnv_cells S.kind kinds ?_
  rintro env rfl s1 ic
  refine ⟨(env0.mod.nolimit.keeps fun b o e => (env0.bs b o e).1).keeps ic.toInCall.keep, codeAny_func ?_⟩
  obtain ⟨t, pss, reading⟩ := B cdv outer s H vs Q (room.deeper _) want
  have inv := L2H.inv_startH (CX := CX0) (E := E0) S pin env0 (len _ _ _ _ want) vals ic
  refine wpAny_mono (pss.run [] s1 (start N vs) H _ inv reading) ?_ (fun _ _ z => z)
  intro fl s' z
  match fl, z with
  | .ret u, ⟨v, σ', H', J, rv, q⟩ => exact ⟨v, H', J.os, J.bare, J.base, J.hok, rv, q⟩
  | .next, ⟨σ', H', J, q⟩ => exact ⟨.non, H', J.os, J.bare, J.base, J.hok, rfl, q⟩
  | .brk, ⟨_, _, _, q⟩ => exact q.elim
  | .cont, ⟨_, _, _, q⟩ => exact q.elim
theorem pe_callHot {X : Cx} {k : Nat} {p : Addr × Obj} {f : Addr} {fd : FuncData} {ps : List Str} {sp : Sp} {x : Str} {p1 pos : Pos} {e : Expr} {es : List Expr} {t : TA}
    (F : FnHot X.A p X.prog X.w X.K X.mg X.base k f fd ps sp) (room : L2H.RoomH k X.A) (hp : p ∈ X.pn) (gl : Gl X x) (at_x : X.mg x = some (.ref f)) (kp : PySem.W.keepIn X.K (.ref f) = true)
    (bi : Binds X.K fd ps []) (args : PA X (e :: es) t)
    (nodbg : (x == ("__debug__" : Str)) = false := by decide) (one : starEach (e :: es) X.env = (false, eval e X.env) :: starEach es X.env := by rfl) (nostar : (backTo pos (starEach es X.env)).any (·.1) = false := by rfl) :
    PE X (.Call (.Name x p1) (e :: es) [] pos) (tCall sp [] E0 t) := by
  constructor
  intro pins s σ H Q inv want
  refine wpAny_Call_Name_kw (ld_glob inv gl at_x ?_ nodbg)
  refine PySem.W.callWith_K (h₀ := X.base) inv.ok.mod.kin kp (thn (args.run pos pins s σ H _ inv want) ?_) one nostar
  rintro us s1 ⟨vs, H1, inv1, vals, want1⟩
  refine ⟨inv1.kIn, ?_⟩
  rw [List.append_nil] at want1
  have size : us.length = ps.length := vals.length.symm.trans (F.len _ _ _ _ want1)
  have bt := bi s1 us inv1.kIn (by rw [List.append_nil]; exact size)
  rw [List.append_nil] at bt
  obtain ⟨g1, g2, g3, g4, g5⟩ := inv1.pin p (List.mem_append_left _ hp)
  have pin : L2H.PinOk X.stack H1 s1 p := ⟨g1, g2, fun z => (List.mem_cons.mp (inv1.stkSub p.1 z)).elim g3 g4, g5⟩
  refine wpAny_call (codeAny_mono (F.go X.stack s1 H1 ⟨us, []⟩ us vs Q room pin inv1.env0 bt vals want1) ?_)
  intro r s' z
  match r, z with
  | .error er, z => exact z.elim
  | .ok (.ret u), z => exact inv1.after z
  | .ok .next, z => exact z.elim
  | .ok .brk, z => exact z.elim
  | .ok .cont, z => exact z.elim
end WS
set_option Elab.async false
set_option linter.all false
set_option maxRecDepth 100000
set_option maxHeartbeats 4000000
namespace WS
open PySem PySem.Spec PyProof.Rows L2
/-! calls with defaults where what is raised is wished for at the caller's slots -/
def tCallSD (sp : Sp) (dvs : List V) (E : L2.St → XK) (t : TA) : TE := fun σ H Q => t σ H fun vs H1 => sp (vs ++ dvs) H1 Q (E σ)
theorem pe_callSD {X : Cx} {CX : CXT} {k : Nat} {f : Addr} {fd : FuncData} {ps : List Str} {sp : Sp} {dvs : List V} {ds : List Value} {E : L2.St → XK} {x : Str} {p1 pos : Pos} {e : Expr} {es : List Expr} {t : TA}
    (F : FnOk X.prog X.w X.K X.mg X.base CX k f fd ps sp) (room : Room k X.A) (gl : Gl X x) (at_x : X.mg x = some (.ref f)) (kp : PySem.W.keepIn X.K (.ref f) = true)
    (bi : Binds X.K fd ps ds) (vd : Vals dvs ds) (ex : ∀ σ, PassesAt CX X σ (E σ)) (args : PA X (e :: es) t)
    (nodbg : (x == ("__debug__" : Str)) = false := by decide) (one : starEach (e :: es) X.env = (false, eval e X.env) :: starEach es X.env := by rfl) (nostar : (backTo pos (starEach es X.env)).any (·.1) = false := by rfl) :
    PE X (.Call (.Name x p1) (e :: es) [] pos) (tCallSD sp dvs E t) := by
  constructor
  intro pins s σ H Q inv want
  refine wpAny_Call_Name_kw (ld_glob inv gl at_x ?_ nodbg)
  refine PySem.W.callWith_K (h₀ := X.base) inv.ok.mod.kin kp (thn (args.run pos pins s σ H _ inv want) ?_) one nostar
  rintro us s1 ⟨vs, H1, inv1, vals, want1⟩
  refine ⟨inv1.kIn, ?_⟩
  have both : Vals (vs ++ dvs) (us ++ ds) := vals.append vd
  have size : (us ++ ds).length = ps.length := both.length.symm.trans (F.len _ _ _ _ want1)
  refine wpAny_call (codeAny_mono (F.run X.A X.stack s1 H1 ⟨us, []⟩ _ _ Q (E σ) room inv1.env0 (bi s1 us inv1.kIn size) both want1) ?_)
  intro r s' z
  match r, z with
  | .error er, z => exact ex σ pins H1 s1 er s' inv1 z
  | .ok (.ret u), z => exact inv1.after z
  | .ok .next, z => exact z.elim
  | .ok .brk, z => exact z.elim
  | .ok .cont, z => exact z.elim
theorem takes0N {X : Cx} : L2N.Takes X (fun _ _ _ _ => False) := fun _ _ x => by
  obtain ⟨_, _, _, _, _, _, _, _, _, _, _, _, _, _, _, _, z⟩ := x
  exact z.elim
theorem hot_of {A : Around} {a : Addr} {oe : Obj} {cls : Value} {d : Option Addr} (hz : L2N.Zn cls d oe) (hf : ∃ vs, oe.data = .fields vs) : L2H.Hot1 (A.mark (some (.ref a))) (a, oe) := by
  obtain ⟨vs, e⟩ := hf
  exact ⟨rfl, vs, e, hz.2.2 vs e⟩
theorem room_hot {k : Nat} {A : Around} {v : Option Value} (hr : Room k A) : L2H.RoomH k (A.mark v) := ⟨hr.dp, hr.un⟩
/-! classes that are no base of D -/
def Oth (K : PySem.W.Frag) (D C : Addr) : Prop := PySem.W.isClsIn K C = true ∧ PySem.W.typeIn K (.ref C) = some (.type "type") ∧ PySem.W.subIn K (.ref D) (.ref C) = some false
theorem oth_kit {K : PySem.W.Frag} {D C : Addr} (hs : PySem.W.subIn K (.ref D) (.ref D) = some true) (h : Oth K D C) : PySem.W.kitOne K (.ref D) (.ref C) = some false := by
  have ne : ¬ ((Value.ref D == Value.ref C) = true) := fun e => by
    have e : D = C := Value.ref.inj (beq_iff_eq.mp e)
    have h3 := h.2.2
    rw [← e, hs] at h3
    cases h3
  have h1 : (PySem.W.clsIn K C).isSome = true := h.1
  unfold PySem.W.kitOne
  rw [if_neg ne]
  show (if ((PySem.W.clsIn K C).isSome && PySem.W.typeIn K (.ref C) == some (.type "type")) = true then PySem.W.subIn K (.ref D) (.ref C) else none) = some false
  rw [if_pos (by rw [h1, h.2.1]; rfl)]
  exact h.2.2
def Oths (K : PySem.W.Frag) (D : Addr) : List Addr → Prop
  | [] => True
  | c :: r => Oth K D c ∧ Oths K D r
theorem oths_kit {K : PySem.W.Frag} {D : Addr} (hs : PySem.W.subIn K (.ref D) (.ref D) = some true) : ∀ cs : List Addr, Oths K D cs → PySem.W.kitAny K (.ref D) (cs.map Value.ref) = some false
  | [], _ => rfl
  | c :: r, h => kitAny_cons (oth_kit hs h.1) (fun _ => oths_kit hs r h.2) (fun z => nomatch z)
theorem self_kit {K : PySem.W.Frag} {D : Addr} : PySem.W.kitOne K (.ref D) (.ref D) = some true := if_pos (beq_self_eq_true _)
theorem ve_kit {K : PySem.W.Frag} {D : Addr} (h : PySem.W.subIn K (.ref D) (.type "ValueError") = some true) : PySem.W.kitOne K (.ref D) (.type "ValueError") = some true := by
  show (if (Value.ref D == Value.type "ValueError") = true then some true else (if PySem.W.kitMeta "ValueError" = true then PySem.W.subIn K (.ref D) (.type "ValueError") else none)) = some true
  rw [if_neg (show ¬ (Value.ref D == Value.type "ValueError") = true from Bool.false_ne_true), if_pos (by decide +kernel)]
  exact h
def spAlone (a : Addr) (cls : Value) (d : Option Addr) (D : Addr) : Sp := fun vs H Q _ => vs = [.ref a] ∧ cls = .ref D ∧ d = none ∧ ∀ H', Same H H' → Q (.bl true) H'
/-! things that are no whole numbers -/
def Odd (p : Addr) (K : PySem.W.Frag) (H : Hp) (v : V) : Prop := v = .non ∨ (∃ b, v = .bl b) ∨ (∃ z, v = .str z) ∨ ∃ a, v = .ref a ∧ ((∃ xs, SqT K H a xs) ∨ (a ≠ p ∧ ∃ xs, H a = some (.lst xs)) ∨ (a ≠ p ∧ ∃ kvs, H a = some (.dK kvs)))
theorem whole_dct {K : PySem.W.Frag} {H : Hp} {a : Addr} {kvs : List (Key × V)} (h : H a = some (.dK kvs)) : WholeIs K H (.ref a) false := ⟨_, false, false, .base (.dK h), kit_ty (by decide +kernel), kit_ty (by decide +kernel), rfl⟩
theorem Odd.whole {p : Addr} {K : PySem.W.Frag} {H : Hp} {v : V} (h : Odd p K H v) : WholeIs K H v false := by
  rcases h with rfl | ⟨b, rfl⟩ | ⟨z, rfl⟩ | ⟨a, rfl, ⟨xs, h⟩ | ⟨_, xs, h⟩ | ⟨_, kvs, h⟩⟩
  · exact whole_non
  · exact whole_bl
  · exact whole_str
  · exact whole_tup h
  · exact whole_lst h
  · exact whole_dct h
theorem Odd.x {p : Addr} {K : PySem.W.Frag} {H H' : Hp} {v : V} (h : Odd p K H v) (s : SameX p H H') (hp : PotAt H p) : Odd p K H' v := by
  rcases h with rfl | ⟨b, rfl⟩ | ⟨z, rfl⟩ | ⟨a, rfl, ⟨xs, h⟩ | ⟨n, xs, h⟩ | ⟨n, kvs, h⟩⟩
  · exact .inl rfl
  · exact .inr (.inl ⟨b, rfl⟩)
  · exact .inr (.inr (.inl ⟨z, rfl⟩))
  · exact .inr (.inr (.inr ⟨a, rfl, .inl ⟨xs, s.tup hp h⟩⟩))
  · exact .inr (.inr (.inr ⟨a, rfl, .inr (.inl ⟨n, xs, s a _ n h⟩)⟩))
  · exact .inr (.inr (.inr ⟨a, rfl, .inr (.inr ⟨n, kvs, s a _ n h⟩)⟩))
/-- a whole number, or none -/
def Thing (p : Addr) (K : PySem.W.Frag) (H : Hp) (v : V) : Prop := (∃ i : Int, v = .int i ∧ Bt 400 i) ∨ Odd p K H v
theorem Thing.x {p : Addr} {K : PySem.W.Frag} {H H' : Hp} {v : V} (h : Thing p K H v) (s : SameX p H H') (hp : PotAt H p) : Thing p K H' v := h.elim .inl fun h => .inr (h.x s hp)
/-! the part that two numbers make -/
def sg (a b : Int) : Int × Int := if b < 0 then lo (-a) (-b) else lo a b
theorem sg_low {a b : Int} (h : b ≠ 0) : Lowest (sg a b).1 (sg a b).2 := by
  unfold sg
  split
  · exact lo_lowest (by omega)
  · exact lo_lowest (by omega)
theorem sg_cross (a b : Int) : (sg a b).1 * b = a * (sg a b).2 := by
  unfold sg
  split
  · have e := lo_cross (-a) (-b)
    rw [Int.mul_neg, Int.neg_mul] at e
    exact Int.neg_inj.mp e
  · exact lo_cross a b
theorem sg_bt {n : Nat} {a b : Int} (ha : Bt n a) (hb : Bt n b) : Bt n (sg a b).1 ∧ Bt n (sg a b).2 := by
  unfold sg
  split
  · exact ⟨Bt.lo1 ha.neg, Bt.lo2 hb.neg⟩
  · exact ⟨Bt.lo1 ha, Bt.lo2 hb⟩
def NoPartOf (K : PySem.W.Frag) (H : Hp) (u v : V) : Prop := WholeIs K H u false ∨ ∃ a, u = .int a ∧ (WholeIs K H v false ∨ v = .int 0)
def spPartG (K : PySem.W.Frag) (C : Addr) : Sp := fun vs H Q E => ∃ u v, vs = [u, v] ∧ ((∃ a b : Int, u = .int a ∧ v = .int b ∧ b ≠ 0 ∧ Bt 8999 b ∧ NewT K H (sg a b).1 (sg a b).2 Q) ∨ (NoPartOf K H u v ∧ E (.ref C) none H))
/-! what is a part -/
def PairIs (K : PySem.W.Frag) (H : Hp) (v : V) (b : Bool) : Prop :=
  (b = false ∧ ∃ t, TyX K H v t ∧ PySem.W.kitOne K t (.type "tuple") = some false) ∨
  ∃ a xs, v = .ref a ∧ SqT K H a xs ∧ ((b = false ∧ xs.length ≠ 2) ∨ ∃ x y, xs = [x, y] ∧ ((b = false ∧ WholeIs K H x false) ∨ (∃ i, x = .int i ∧ b = false ∧ WholeIs K H y false) ∨ ∃ i j : Int, x = .int i ∧ y = .int j ∧ b = (decide (0 < j) && decide ((Int.gcd i j : Int) = 1))))
def spPair (K : PySem.W.Frag) : Sp := fun vs H Q _ => ∃ v b, vs = [v] ∧ PairIs K H v b ∧ Q (.bl b) H
theorem pair_of {K : PySem.W.Frag} {H : Hp} {v : V} {a b : Int} (h : TupI K H v a b) : PairIs K H v (decide (0 < b) && decide ((Int.gcd a b : Int) = 1)) := by
  obtain ⟨t, rfl, h⟩ := h
  exact .inr ⟨t, _, rfl, h, .inr ⟨_, _, rfl, .inr (.inr ⟨a, b, rfl, rfl, rfl⟩)⟩⟩
theorem ty_same {K : PySem.W.Frag} {H H' : Hp} {v : V} {t : Value} (h : TyX K H v t) (s : Same H H') : TyX K H' v t := by
  cases h with
  | base h =>
    cases h with
    | non => exact .base .non
    | bl x => exact .base (.bl x)
    | int i => exact .base (.int i)
    | str z => exact .base (.str z)
    | flt z => exact .base (.flt z)
    | lst e => exact .base (.lst (s _ _ e))
    | frz e => exact .base (.frz (s _ _ e))
    | tup e => exact .base (.tup (s _ _ e))
    | dK e => exact .base (.dK (s _ _ e))
    | dT e => exact .base (.dT (s _ _ e))
    | ins e a b c d f => exact .base (.ins (s _ _ e) a b c d f)
  | byt b => exact .byt b
  | set e => exact .set (s _ _ e)
  | kList e c => exact .kList e c
  | kTuple e c => exact .kTuple e c
  | kDict e c => exact .kDict e c
  | fTuple e => exact .fTuple (s _ _ e)
  | fDict e => exact .fDict (s _ _ e)
theorem WholeIs.same {K : PySem.W.Frag} {H H' : Hp} {v : V} {b : Bool} (h : WholeIs K H v b) (s : Same H H') : WholeIs K H' v b := by
  obtain ⟨t, b1, b2, ty, r⟩ := h
  exact ⟨t, b1, b2, ty_same ty s, r⟩
theorem PairIs.same {K : PySem.W.Frag} {H H' : Hp} {v : V} {b : Bool} (h : PairIs K H v b) (s : Same H H') : PairIs K H' v b := by
  rcases h with ⟨e, t, ty, k⟩ | ⟨a, xs, e, ht, h⟩
  · exact .inl ⟨e, t, ty_same ty s, k⟩
  · refine .inr ⟨a, xs, e, Same.tup s ht, ?_⟩
    rcases h with h | ⟨x, y, e, h⟩
    · exact .inl h
    · refine .inr ⟨x, y, e, ?_⟩
      rcases h with ⟨e1, w⟩ | ⟨i, e1, e2, w⟩ | h
      · exact .inl ⟨e1, w.same s⟩
      · exact .inr (.inl ⟨i, e1, e2, w.same s⟩)
      · exact .inr (.inr h)
end WS
set_option Elab.async false
set_option linter.all false
set_option maxRecDepth 100000
set_option maxHeartbeats 4000000
namespace WS
open PySem PySem.Spec PyProof.Rows L2
/-! defs that let exceptions out, of any kind -/
theorem fun_ok {CX : CXT} {P : Program} {w : World} {K : PySem.W.Frag} {mg : Str → Option Value} {base : Heap} {x qual : Str} {st : Stmt} {f : Addr} {fd : FuncData} {N ps : List Str} {k : Nat} {sp : Sp}
    (F : Fun K x qual st f fd) (S : FnScope N ps (defScope st)) (len : ∀ vs H Q E, sp vs H Q E → vs.length = ps.length)
    (B : ∀ (cdv : Value) (A : Around) (outer : List Env) (s : Shared) (H : Hp) (vs : List V) (Q : VK) (E : XK), Room k (A.deeper (envOfC qual (defScope st) s.heap.objs.size f cdv)) → sp vs H Q E →
      ∃ t, PSs (cxOf CX P w K mg base N qual (defScope st) f cdv A outer s H E) (defBody st) t ∧ t ⟨fun _ H' => Q .non H', Q, fun _ _ => False, fun _ _ => False⟩ (start N vs) H) : FnOk P w K mg base CX (k + 1) f fd ps sp := by
  obtain ⟨oc, od, kV, doc, pm, an, cdv, ct, osl, rfl, lk, code⟩ := F.ex
  exact fn_of lk code S len (B cdv)
theorem passN {X : Cx} : Passes (L2N.CX X.prog X.w) X E0 := L2N.passes_call takes0N (fun _ _ _ _ h => h)
def tCallND (n m : Nat) (sp : Sp) (gV : List V → List V → List V) (E : L2.St → XK) (t tk : TA) : TE := fun σ H Q => t σ H fun vs H1 => tk σ H1 fun zs H2 => vs.length = n ∧ zs.length = m ∧ sp (gV vs zs) H2 Q (E σ)
theorem pe_callND {X : Cx} {CX : CXT} {k n : Nat} {f : Addr} {fd : FuncData} {ps ks : List Str} {sp : Sp} {E : L2.St → XK} {x : Str} {p1 pos : Pos} {e : Expr} {es : List Expr} {kws : List Keyword} {t tk : TA} {g : List Value → List Value → List Value} {gV : List V → List V → List V}
    (F : FnOk X.prog X.w X.K X.mg X.base CX k f fd ps sp) (room : Room k X.A) (gl : Gl X x) (at_x : X.mg x = some (.ref f)) (kp : PySem.W.keepIn X.K (.ref f) = true) (kb : KBn X.K fd ps n ks g gV) (ex : ∀ σ, PassesAt CX X σ (E σ))
    (args : PA X (e :: es) t) (kwa : PK X kws tk) (all : (backToKw pos (keywordEach kws X.env)).all (·.1.isSome) = true := by rfl) (names : (backToKw pos (keywordEach kws X.env)).filterMap (·.1) = ks := by rfl)
    (nodbg : (x == ("__debug__" : Str)) = false := by decide) (one : starEach (e :: es) X.env = (false, eval e X.env) :: starEach es X.env := by rfl)
    (nostar : ((backTo pos (starEach (e :: es) X.env)).any (·.1) || (backToKw pos (keywordEach kws X.env)).any (·.1.isNone)) = false := by rfl) :
    PE X (.Call (.Name x p1) (e :: es) kws pos) (tCallND n ks.length sp gV E t tk) := by
  constructor
  intro pins s σ H Q inv want
  refine wpAny_Call_Name_kw (ld_glob inv gl at_x ?_ nodbg)
  refine PySem.W.callWith_KW (h₀ := X.base) inv.ok.mod.kin kp all (thn (args.run pos pins s σ H _ inv want) ?_) nostar one
  rintro us s1 ⟨vs, H1, inv1, vals, want1⟩
  refine thn (kwa.run pos pins s1 σ H1 _ inv1 want1) ?_
  rintro ws s2 ⟨zs, H2, inv2, zals, l1, l2, want2⟩
  refine ⟨inv2.kIn, ?_⟩
  rw [names]
  have rel := kb.rel vals zals
  refine wpAny_call (codeAny_mono (F.run X.A X.stack s2 H2 ⟨us, ks.zip ws⟩ (g us ws) (gV vs zs) Q (E σ) room inv2.env0 (kb.to s2 us ws inv2.kIn (vals.length.symm.trans l1) (zals.length.symm.trans l2)) rel want2) ?_)
  intro r s' z
  match r, z with
  | .error er, z => exact ex σ pins H2 s2 er s' inv2 z
  | .ok (.ret u), z => exact inv2.after z
  | .ok .next, z => exact z.elim
  | .ok .brk, z => exact z.elim
  | .ok .cont, z => exact z.elim
theorem kbn_one {K : PySem.W.Frag} {x qual : Str} {params : Arguments} {body : List Stmt} {scope : Scope} {dvs : List V} {f : Addr} {fd : FuncData} {ps : List Str} (F : FunD K x qual params body scope dvs [] f fd) (n : Nat) (ks : List Str) (hd : dvs ≠ [])
    (h : ∀ (T : Addr) (kV doc pm : Value) (an : Option Addr) (cdv ct : Value) (us its ws : List Value), us.length = n → its.length = dvs.length → ws.length = ks.length →
      ∃ k, bindArgs (PySem.W.fnOf x qual params body scope (.ref T) kV doc pm an cdv ct) ⟨us, ks.zip ws⟩ = seqItems? (.ref T) >>= k ∧ k (some its.toArray) = pure (ps.zip (us ++ ws))) :
    KBn K fd ps n ks (fun us ws => us ++ ws) (fun vs zs => vs ++ zs) := by
  obtain ⟨oc, od, dV, kV, doc, pm, an, cdv, ct, osl, rfl, lk, code, D, _⟩ := F.ex
  rcases D with ⟨e, _⟩ | ⟨_, T, o, its, m, rfl, lT, oT, rT⟩
  · exact absurd e hd
  · refine ⟨fun s us ws inK l1 l2 => BindsTo.of_looks fun M => ?_, fun r1 r2 => r1.append r2⟩
    obtain ⟨k, e1, e2⟩ := h T kV doc pm an cdv ct us its ws l1 rT.length.symm l2
    rw [e1]
    exact looks_items inK lT oT (.of_pure e2)
/-! things of two dozen sorts that are no whole numbers, and no parts -/
def Odd2 (p : Addr) (K : PySem.W.Frag) (H : Hp) (v : V) : Prop := v = .non ∨ (∃ b, v = .bl b) ∨ (∃ z, v = .str z) ∨ ∃ a, v = .ref a ∧ ((∃ xs, SqT K H a xs ∧ (xs.length ≠ 2 ∨ (∃ y, xs = [.non, y]) ∨ (∃ z y, xs = [.str z, y]) ∨ xs = [.int 2, .int 2])) ∨ (a ≠ p ∧ ∃ xs, H a = some (.lst xs)) ∨ (a ≠ p ∧ ∃ kvs, H a = some (.dK kvs)))
theorem Odd2.odd {p : Addr} {K : PySem.W.Frag} {H : Hp} {v : V} (h : Odd2 p K H v) : Odd p K H v := by
  rcases h with h | h | h | ⟨a, e, ⟨xs, h, _⟩ | h | h⟩
  · exact .inl h
  · exact .inr (.inl h)
  · exact .inr (.inr (.inl h))
  · exact .inr (.inr (.inr ⟨a, e, .inl ⟨xs, h⟩⟩))
  · exact .inr (.inr (.inr ⟨a, e, .inr (.inl h)⟩))
  · exact .inr (.inr (.inr ⟨a, e, .inr (.inr h)⟩))
theorem Odd2.x {p : Addr} {K : PySem.W.Frag} {H H' : Hp} {v : V} (h : Odd2 p K H v) (s : SameX p H H') (hp : PotAt H p) : Odd2 p K H' v := by
  rcases h with h | h | h | ⟨a, e, ⟨xs, h, r⟩ | ⟨n, xs, h⟩ | ⟨n, kvs, h⟩⟩
  · exact .inl h
  · exact .inr (.inl h)
  · exact .inr (.inr (.inl h))
  · exact .inr (.inr (.inr ⟨a, e, .inl ⟨xs, s.tup hp h, r⟩⟩))
  · exact .inr (.inr (.inr ⟨a, e, .inr (.inl ⟨n, xs, s a _ n h⟩)⟩))
  · exact .inr (.inr (.inr ⟨a, e, .inr (.inr ⟨n, kvs, s a _ n h⟩)⟩))
theorem pair_len {K : PySem.W.Frag} {H : Hp} {a : Addr} {xs : List V} (h : SqT K H a xs) (n : xs.length ≠ 2) : PairIs K H (.ref a) false := .inr ⟨a, xs, rfl, h, .inl ⟨rfl, n⟩⟩
theorem pair_fst {K : PySem.W.Frag} {H : Hp} {a : Addr} {x y : V} (h : SqT K H a [x, y]) (n : WholeIs K H x false) : PairIs K H (.ref a) false := .inr ⟨a, _, rfl, h, .inr ⟨x, y, rfl, .inl ⟨rfl, n⟩⟩⟩
theorem pair_snd {K : PySem.W.Frag} {H : Hp} {a : Addr} {i : Int} {y : V} (h : SqT K H a [.int i, y]) (n : WholeIs K H y false) : PairIs K H (.ref a) false := .inr ⟨a, _, rfl, h, .inr ⟨_, y, rfl, .inr (.inl ⟨i, rfl, rfl, n⟩)⟩⟩
theorem Odd2.pair {p : Addr} {K : PySem.W.Frag} {H : Hp} {v : V} (h : Odd2 p K H v) : PairIs K H v false := by
  rcases h with rfl | ⟨b, rfl⟩ | ⟨z, rfl⟩ | ⟨a, rfl, ⟨xs, h, r⟩ | ⟨n, xs, h⟩ | ⟨n, kvs, h⟩⟩
  · exact .inl ⟨rfl, _, .base .non, kit_ty (by decide +kernel)⟩
  · exact .inl ⟨rfl, _, .base (.bl b), kit_ty (by decide +kernel)⟩
  · exact .inl ⟨rfl, _, .base (.str z), kit_ty (by decide +kernel)⟩
  · rcases r with r | ⟨y, rfl⟩ | ⟨z, y, rfl⟩ | rfl
    · exact pair_len h r
    · exact pair_fst h whole_non
    · exact pair_fst h whole_str
    · exact pair_of ⟨a, rfl, h⟩
  · exact .inl ⟨rfl, _, .base (.lst h), kit_ty (by decide +kernel)⟩
  · exact .inl ⟨rfl, _, .base (.dK h), kit_ty (by decide +kernel)⟩
/-- the part that two things make, or the word for a refusal -/
def DueOf (K : PySem.W.Frag) (H : Hp) (u v : V) (Q : VK) : Prop := (∃ a b : Int, u = .int a ∧ v = .int b ∧ b ≠ 0 ∧ Bt 400 a ∧ Bt 400 b ∧ NewT K H (sg a b).1 (sg a b).2 Q) ∨ (NoPartOf K H u v ∧ ∀ H', Same H H' → Q (.str "alone") H')
def DueSh (K : PySem.W.Frag) (H : Hp) (a b : Int) (m : V) (Q : VK) : Prop := (∃ i : Int, m = .int i ∧ 1 ≤ i ∧ Bt 400 i ∧ NewT K H (lo a (b * i)).1 (lo a (b * i)).2 Q) ∨ (Bad K H m ∧ ∀ H', Same H H' → Q (.str "alone") H')
end WS
set_option Elab.async false
set_option linter.all false
set_option maxRecDepth 100000
set_option maxHeartbeats 4000000
namespace WS
open PySem PySem.Spec PyProof.Rows L2
/-! ### sorted(range(len(xs)), key=lambda place: (-xs[place], place)) -/
open PySem.W in
/-- the lambda called on the place i -/
theorem lam_key {prog : Program} {w : World} {A : Around} {s : Shared} {f c' c l : Addr} {q : Str} {params : Arguments} {scope : Scope} {clo : List (Str × Addr)} {pm ctv : Value} {i : Nat} {ti tz : Tok} {z : Int} {its : List Value} {xs pl : Str} {p1 p2 p3 p4 p5 p6 : Pos} {k : Nat}
    (hf : s.heap.get? f = some (kla_obj "<lambda>" q params (.Tuple [.UnaryOp .USub (.Subscript (.Name xs p1) (.Name pl p2) p3) p4, .Name pl p5] k p6) scope clo pm c' ctv))
    (hcode : s.heap.CodeRec (.ref c') q) (hdepth : A.depth < recursionLimit) (lim : s.heap.NoLimit)
    (hbind : ∀ v : Value, bindArgs (kla_fn "<lambda>" q params (.Tuple [.UnaryOp .USub (.Subscript (.Name xs p1) (.Name pl p2) p3) p4, .Name pl p5] k p6) scope clo pm (.ref c') ctv) ⟨[v], []⟩ = pure [(pl, v)])
    (hk : scope.kind = .function) (hco : scope.isCoroutine = false) (hgen : scope.isGenerator = false) (hnc : ∀ y ∈ scope.names, y.2 ≠ .cell)
    (hpl : scope.names.lookup pl = some .local) (hxs : scope.names.lookup xs = some .free) (hclo : clo.lookup xs = some c) (hcell : s.heap.IsCell c (some (.ref l)))
    (hl : s.heap.IsList l its.toArray) (hi : its[i]? = some (.int z tz)) (hi63 : (i : Int) < 2 ^ 63)
    (hd1 : (xs == ("__debug__" : Str)) = false) (hd2 : (pl == ("__debug__" : Str)) = false) (hd3 : (xs == ("__classdict__" : Str)) = false) :
    wpAny (model prog w) A (call (.ref f) [.int i ti]) (KeyPure (.tuple [.int (-z), .int i]) s) (fun _ _ => False) s := by
  refine wpAny_call (kla_callFunE hdepth hf rfl hco hgen rfl hcode ?_)
  rw [hbind]
  refine wpAny_pure (wpAny_newFunctionEnv hnc (fun y hy => ?_) (fun h₁ hns hsb => ⟨lim.fresh _ hsb, ?_⟩) hk)
  · obtain rfl := List.mem_singleton.mp hy
    exact hpl
  have kp : ∀ b o, s.heap.get? b = some o → h₁.get? b = some o := fun b o e => hsb.extBut b o (Nat.ne_of_lt (Heap.lt_size e)) (Heap.get?_push_of_some _ e)
  refine kla_codeExpr ?_
  refine wpAny_Tuple (Calls.spliced_cons ?_)
  have look : ∀ {h : Heap} {t : Nat} {Q : Value → Shared → Prop} {E : Value → Shared → Prop} {p : Pos}, h.Ns s.heap.objs.size (fun x => [(pl, Value.int (i : Int) ti)].reverse.lookup x) → Q (.int i ti) { s with heap := h, toks := t } →
      wpAny (model prog w) (A.deeper (newEnv scope s.heap.objs.size mainGlobals clo (q ++ ".<locals>.") (some f) (.ref c') none builtinsNs)) (eval (.Name pl p) (newEnv scope s.heap.objs.size mainGlobals clo (q ++ ".<locals>.") (some f) (.ref c') none builtinsNs)) Q E { s with heap := h, toks := t } := by
    intro h t Q E p hn hq
    exact wpAny_Name (wpAny_loadName_local hk hpl hn (by simp) hq) hd2
  refine wpAny_UnaryOp (wpAny_Subscript_Name (T := "list") F.slot_list_getitem.lookup ?_)
  refine wpAny_Name (wpAny_loadName_free hk hxs hclo (v := .ref l) ?_ ?_ hd3) hd1
  · obtain ⟨o, e, d⟩ := hcell
    exact ⟨o, kp _ _ e, d⟩
  refine look hns ?_
  obtain ⟨o, e1, e2, no, e3⟩ := hl
  have hl' : h₁.IsList l its.toArray := ⟨o, kp _ _ e1, e2, no, e3⟩
  refine ⟨⟨o, kp _ _ e1, e2⟩, getItem_listL hl' (by omega) hi63 (by simpa using hi) (neg_int ?_)⟩
  refine Calls.spliced_cons (look hns ?_)
  refine Calls.spliced_nil ⟨by show 2 ≤ sizeLine; decide, _, _, rfl, fun b o e => Heap.get?_push_of_some _ (kp b o e), ?_⟩
  exact Reads.tuple (as := []) (Heap.get?_push_size _ rfl) rfl rfl (.cons (.int _ _) (.cons (.int _ _) .nil))
/-- the places by their numbers, the greatest first, of equal ones the lesser -/
def Ranked (es : List Int) (ord : List Nat) : Prop := ord.Perm (List.range es.length) ∧ ord.Pairwise fun i j => es.getD j 0 < es.getD i 0 ∨ (es.getD i 0 = es.getD j 0 ∧ i < j)
def keyD (es : List Int) (j : Nat) : PyData := .tuple [.int (-(es.getD j 0)), .int j]
theorem ranked_sort (es : List Int) : Ranked es ((List.range es.length).mergeSort (PySem.W.dataLe false (keyD es))) := by
  have e : PySem.W.dataLe false (keyD es) = fun p q : Nat => decide (-(es.getD p 0) < -(es.getD q 0) ∨ (-(es.getD p 0) = -(es.getD q 0) ∧ (p : Int) ≤ q)) := PySem.W.dataLe_ii (fun j : Nat => -(es.getD j 0)) (fun j : Nat => (j : Int))
  rw [e]
  refine ⟨List.mergeSort_perm _ _, ?_⟩
  have sd : List.Pairwise (fun p q : Nat => decide (-(es.getD p 0) < -(es.getD q 0) ∨ (-(es.getD p 0) = -(es.getD q 0) ∧ (p : Int) ≤ q)) = true) ((List.range es.length).mergeSort fun p q : Nat => decide (-(es.getD p 0) < -(es.getD q 0) ∨ (-(es.getD p 0) = -(es.getD q 0) ∧ (p : Int) ≤ q))) := by
    refine List.pairwise_mergeSort (fun a b c h1 h2 => ?_) (fun a b => ?_) _
    · have h1 := of_decide_eq_true h1
      have h2 := of_decide_eq_true h2
      exact decide_eq_true (by omega)
    · rw [Bool.or_eq_true, decide_eq_true_eq, decide_eq_true_eq]
      omega
  have nd : ((List.range es.length).mergeSort fun p q : Nat => decide (-(es.getD p 0) < -(es.getD q 0) ∨ (-(es.getD p 0) = -(es.getD q 0) ∧ (p : Int) ≤ q))).Nodup := (List.mergeSort_perm _ _).nodup_iff.mpr List.nodup_range
  refine (sd.and nd).imp fun {a b} ⟨h, n⟩ => ?_
  have h := of_decide_eq_true h
  have n : a ≠ b := n
  omega
theorem each_range {vs : Array Value} {n : Nat} (h : ItemsOf (fun i v => ∃ t, v = .int (0 + i * 1) t) vs n) : PySem.W.EachIs (fun (v : Value) (j : Nat) => ∃ t, v = .int j t) vs.toList (List.range n) := by
  have go : ∀ (l : List Value) (k : Nat), (∀ j v, l[j]? = some v → ∃ t, v = Value.int ((k + j : Nat) : Int) t) → PySem.W.EachIs (fun (v : Value) (j : Nat) => ∃ t, v = .int j t) l (List.range' k l.length) := by
    intro l
    induction l with
    | nil => intro k _; exact .nil
    | cons v r ih =>
      intro k hk
      refine .cons (by simpa using hk 0 v rfl) (ih (k + 1) fun j u e => ?_)
      obtain ⟨t, e2⟩ := hk (j + 1) u (by simpa using e)
      exact ⟨t, by rw [e2]; congr 1; omega⟩
  have e : n = vs.toList.length := by rw [Array.length_toList]; exact h.1.symm
  rw [List.range_eq_range', e]
  refine go _ 0 fun j v hj => ?_
  obtain ⟨t, e⟩ := h.2 j v (by simpa using hj)
  exact ⟨t, by rw [e]; congr 1; omega⟩
open PySem.W in
/-- sorted(range(n), key=f) -/
theorem sorted_range {prog : Program} {w : World} {A : Around} {E : Value → Shared → Prop} {s : Shared} {r f : Addr} {n : Nat} {t u v : Tok} {Q : Value → Shared → Prop} (k : Nat → PyData) (hh : A.handled = none) (hr : IsRange s.heap r 0 n 1 t u v) (hn : n ≤ 1000000)
    (hal : AllAlike ((List.range n).map k)) (hk : Sortable ((List.range n).map k)) (hu : ∀ x, x ∈ List.range n → A.units + 2 + (k x).depth < cLine)
    (turn : ∀ (ti : Tok) (x : Nat), x < n → ∀ (h : Heap) (tk : Nat), (∀ b o, s.heap.get? b = some o → h.get? b = some o) →
      wpAny (model prog w) A.in1.in1 (call (.ref f) [.int x ti]) (KeyPure (k x) { s with heap := h, toks := tk }) (fun _ _ => False) { s with heap := h, toks := tk })
    (h : ∀ out c h' tk p, (∀ b o, s.heap.get? b = some o → h'.get? b = some o) → s.heap.get? p = none → h'.get? p = some (seqObj "list" (List.toArray out) c) → out.length = n →
      EachIs (fun (v : Value) (j : Nat) => ∃ t, v = .int j t) out ((List.range n).mergeSort (dataLe false k)) → Q (.ref p) { s with heap := h', toks := tk }) :
    wpAny (model prog w) A (call (.builtin "sorted") [.ref r] [(Str.ofString "key", .ref f)]) Q E s := by
  refine call_function_entry_kw kind_sorted plain_sorted entry_sorted (ksk_s1 _ _) ?_
  unfold Builtin.«sorted»
  refine wpAny_bind (m := checkCount "sorted" 1 1 _) (wpAny_pure ?_)
  have hs24 : n ≤ 2 ^ 24 := by omega
  have hsz : n ≤ sizeLine := by rw [sizeLine_eq]; omega
  refine wpAny_bind (L2.collect_range (n := n) hh hr (small_one (by omega) (by omega) (by omega) (by omega)) (by have := rangeSize_nat 0 (n : Int); simpa using this) hs24 fun h1 tk1 acc kp1 hacc => ?_)
  have ea := each_range hacc
  have hla : acc.toList.length = n := by rw [Array.length_toList]; exact hacc.1
  refine wpAny_bind (wpAny_newList ?_ (by rw [hla]; exact hsz))
  have hL : (h1.push (seqObj "list" acc.toList.toArray 0)).get? h1.objs.size = some (seqObj "list" acc.toList.toArray 0) := Heap.get?_push_size _ rfl
  have kp2 : ∀ b o, s.heap.get? b = some o → (h1.push (seqObj "list" acc.toList.toArray 0)).get? b = some o := fun b o e => Heap.get?_push_of_some _ (kp1 b o e)
  have ge : s.heap.get? h1.objs.size = none := by
    cases z : s.heap.get? h1.objs.size with
    | none => rfl
    | some o => exact absurd (Heap.lt_size (kp1 _ _ z)) (Nat.lt_irrefl _)
  refine wpAny_bind (wpAny_holding (wpAny_call_entry_kw slot_list_sort ⟨_, hL, rfl⟩ entry_list_sort ?body (ksk_l1 _ _)))
  case body =>
    rw [ksk_t1]
    have up : ∀ {g : Heap}, KeepsBut h1.objs.size (h1.push (seqObj "list" acc.toList.toArray 0)) g → ∀ b o, s.heap.get? b = some o → g.get? b = some o := fun {g} kp b o q => kp b o (Nat.ne_of_lt (Heap.lt_size (kp1 b o q))) (kp2 b o q)
    refine keyH_tree (kz := (List.range n).map k) (s := { s with heap := h1.push (seqObj "list" acc.toList.toArray 0), toks := tk1 }) hL (by rw [List.length_map, List.length_range, hla]) (by rw [hla]; exact hsz) hal hk (bound_map (A := A.in1.in1) hu)
      (keyH_turns (s := { s with heap := h1.push (seqObj "list" acc.toList.toArray 0), toks := tk1 }) ea fun v x hR hx h tk kp => ?_) fun h' tk out c kp hD ko => ?_
    · obtain ⟨ti, rfl⟩ := hR
      exact turn ti x (List.mem_range.mp hx) h tk (up kp)
    · refine ⟨_, rfl, wpAny_pure ⟨_, rfl, ?_⟩⟩
      exact h out c h' tk _ (up kp) ge hD ((ko.length (by rw [List.length_map, List.length_range, hla])).trans hla) (keyedOut_each k ko ea)

theorem obj_there {P : Program} {w : World} {H : Hp} {h : Heap} {a : Addr} {o : HO} (x : ObjOk P w H h a o) : ∃ u, h.get? a = some u := by
  cases o with
  | lst xs => obtain ⟨_, _, _, _, e⟩ := x; exact ⟨_, e⟩
  | tup xs => obtain ⟨_, _, _, _, e, _⟩ := x; exact ⟨_, e⟩
  | dK kvs => obtain ⟨_, _, _, _, o, _, _, e, _⟩ := x; exact ⟨_, e⟩
  | dT kvs => obtain ⟨_, _, _, _, o, _, _, e, _⟩ := x; exact ⟨_, e⟩
  | set S n => obtain ⟨o, _, _, _, e, _⟩ := x; exact ⟨_, e⟩
  | ins C dx fs => obtain ⟨_, _, _, e, _⟩ := x; exact ⟨_, e⟩
  | own y => obtain ⟨_, e⟩ := x; exact ⟨_, e⟩
  | xd fs => obtain ⟨_, ⟨_, _, _, e, _⟩, _⟩ := x; exact ⟨_, e⟩
  | rng lo hi => obtain ⟨_, _, _, e⟩ := x; exact ⟨_, e⟩
  | frz ob u => obtain ⟨e, _⟩ := x; exact ⟨_, e⟩
  | tbl ps => exact ⟨_, x⟩
  | met f y => exact ⟨_, x⟩
  | ext φ => obtain ⟨_, ⟨_, e⟩, _⟩ := x; exact ⟨_, e⟩
theorem cr_range1 {X : Cx} : CallR X (.type "range") (fun vs H Q => ∃ j, vs = [V.int j] ∧ ∀ p, H p = none → Q (.ref p) (upd H p (.rng 0 j))) := by
  intro pins s σ H vs us Q I r h
  obtain ⟨j, rfl, q⟩ := h
  obtain ⟨u1, rfl, ri⟩ := vals1 r
  obtain ⟨t, rfl⟩ := ri
  refine call_range_1 ⟨.ref s.heap.objs.size, upd H s.heap.objs.size (.rng 0 j), I.laid (t' := s.toks + 2) (fun b o e => Heap.get?_push_of_some _ e) (Nat.le_refl _) ?_, rfl, q _ (I.hok.fresh (Nat.le_refl _))⟩
  exact ⟨_, _, _, Heap.get?_push_size _ rfl⟩
theorem vals_at : ∀ {xs : List V} {us : List Value} {i : Nat} {v : V}, Vals xs us → xs[i]? = some v → ∃ u, us[i]? = some u ∧ RelV v u
  | _, _, 0, v, .cons r _, e => ⟨_, rfl, by simp at e; subst e; exact r⟩
  | _, _, i + 1, v, .cons _ t, e => by
    obtain ⟨u, e1, e2⟩ := vals_at t (by simpa using e)
    exact ⟨u, by simpa using e1, e2⟩
theorem vals_each : ∀ {out : List Value} {ord : List Nat}, PySem.W.EachIs (fun (v : Value) (j : Nat) => ∃ t, v = .int j t) out ord → Vals (ord.map fun j : Nat => V.int j) out
  | _, _, .nil => .nil
  | _, _, .cons ⟨t, e⟩ r => .cons ⟨t, e⟩ (vals_each r)
abbrev keyBody (xs pl : Str) (p1 p2 p3 p4 p5 p6 : Pos) (k : Nat) : Expr := .Tuple [.UnaryOp .USub (.Subscript (.Name xs p1) (.Name pl p2) p3) p4, .Name pl p5] k p6
def tSrt (T : List (Addr × Str)) (i : Nat) (tr : TE) : TE := fun σ H Q => tr σ H fun v H1 => ∃ (r l : Addr) (es : List Int), v = .ref r ∧ H1 r = some (.rng 0 es.length) ∧ σ[i]? = some (some (.ref l)) ∧ H1 l = some (.lst (es.map V.int)) ∧ es.length ≤ 1000000 ∧ LamX.Tabs T H1 ∧
  ∀ H2 p ord, LamX.ExtN H1 H2 → LamX.Tabs T H2 → H2 p = none → Ranked es ord → Q (.ref p) (upd H2 p (.lst (ord.map fun j : Nat => V.int j)))
theorem pe_sortedLam {X : Cx} {T : List (Addr × Str)} {tr : TE} {er : Expr} {xs pl : Str} {params : Arguments} {scope : Scope} {c P : Addr} {i k m : Nat} {p pos lpos kpos p1 p2 p3 p4 p5 p6 : Pos}
    (hcalm : X.calm = true) (hg : Gl X "sorted") (hm : X.mg "sorted" = none) (hr : PE X er tr) (room : Room m X.A)
    (TB : LamX.TabB X.base X.mg c P) (hcode : X.env.code = .ref c) (hmT : (P, X.env.qual ++ "<lambda>") ∈ T) (hu : ∀ p ∈ T, p.1 = P → p.2 = X.env.qual ++ "<lambda>")
    (hN : X.N[i]? = some xs) (hv : X.env.scope.names.lookup xs = some .cell) (hdef : defaultsOf params X.env = ([], []))
    (hbind : ∀ (q : Str) (cl : List (Str × Addr)) (pm cv ctv v : Value), bindArgs (PySem.W.kla_fn "<lambda>" q params (keyBody xs pl p1 p2 p3 p4 p5 p6 k) scope cl pm cv ctv) ⟨[v], []⟩ = pure [(pl, v)])
    (hk : scope.kind = .function) (hco : scope.isCoroutine = false) (hgen : scope.isGenerator = false) (hnames : scope.names = [(pl, .local), (xs, .free)]) (hne : (pl == xs) = false)
    (hd1 : (xs == ("__debug__" : Str)) = false) (hd2 : (pl == ("__debug__" : Str)) = false) (hd3 : (xs == ("__classdict__" : Str)) = false)
    (na : backTo pos (starEach [er] X.env) = (false, eval er X.env) :: backTo pos (starEach [] X.env) := by rfl) :
    PE X (.Call (.Name "sorted" p) [er] [⟨some "key", .Lambda params (keyBody xs pl p1 p2 p3 p4 p5 p6 k) scope lpos, kpos⟩] pos) (tSrt T i tr) := by
  refine ⟨fun pins s σ H Q I h => ?_⟩
  have hne2 : (xs == pl) = false := by
    rw [beq_eq_false_iff_ne] at hne ⊢
    exact fun z => hne z.symm
  refine wpAny_Call_Name_kw (ld_blt I hg hm (by rfl) ?_)
  refine PyProof.Rows.callWith_kw ?_ na (by rw [na]; rfl)
  rw [na]
  refine Calls.spliced_cons (thn (hr.run pins s σ H _ I h) fun u s1 ⟨v, H1, I1, r1, q1⟩ => ?_)
  obtain ⟨r, l, es, rfl, hrng, hσ, hlst, hlen, hT, q⟩ := q1
  obtain rfl : u = Value.ref r := r1
  refine Calls.spliced_nil ?_
  show wpAny _ _ (evalAll [do let v ← eval (.Lambda params (keyBody xs pl p1 p2 p3 p4 p5 p6 k) scope lpos) X.env; standAt pos; pure v]) _ _ _
  refine evalAll_cons (wpAny_bind (LamX.lam_make2 I1 TB hcode hmT hu hT hdef (fun y hy e => ?_) fun f c' pm ctv H2 s2 I2 eN T2 hf hfn hfr hco' => wpAny_bind (wpAny_standAt (wpAny_pure (evalAll_nil ?_)))))
  · rw [hnames] at hy
    simp only [List.mem_cons, List.not_mem_nil, or_false] at hy
    rcases hy with rfl | rfl
    · cases e
    · exact I1.ok.has _ (.inl hv)
  show wpAny _ _ (call (.builtin "sorted") [.ref r] [(Str.ofString "key", .ref f)]) _ _ _
  have hrng2 := eN _ _ hrng (fun ps z => by cases z)
  have hlst2 := eN _ _ hlst (fun ps z => by cases z)
  obtain ⟨t, u, v, hro⟩ := I2.hok r _ hrng2
  obtain ⟨hz, its, n, hvals, hlo⟩ := I2.hok l _ hlst2
  obtain ⟨⟨oc, vs, tq, c1, c2, c3⟩, _, _⟩ := I2.hok c' _ hco'
  obtain ⟨mm, _, hloc⟩ := I2.loc
  obtain ⟨ul, ru, hlook⟩ := hloc i xs _ hN hσ (.inr (.inl hv))
  obtain rfl : ul = Value.ref l := ru
  obtain ⟨cc, hcc, hcell⟩ : ∃ c, X.env.cells.lookup xs = some c ∧ s2.heap.IsCell c (some (.ref l)) := by
    rcases hlook with ⟨z, _⟩ | ⟨_, z⟩
    · have z : X.env.scope.names.lookup xs = some .local := z
      rw [hv] at z
      cases z
    · exact z
  have hclo : (cloFrom X.env.cells scope.names []).lookup xs = some cc := by
    rw [hnames]
    show (cloFrom X.env.cells [(pl, NameKind.local), (xs, NameKind.free)] []).lookup xs = some cc
    simp [cloFrom, hcc]
  refine sorted_range (n := es.length) (keyD es) (I.ok.hd hcalm) (r := r) hro hlen ?_ ?_ ?_ ?_ ?_
  · intro d hd d' hd'
    obtain ⟨a, _, rfl⟩ := List.mem_map.mp hd
    obtain ⟨b, _, rfl⟩ := List.mem_map.mp hd'
    simp [keyD, PySem.W.alike, PySem.W.alikeAll]
  · refine .inl fun d hd => ?_
    obtain ⟨a, _, rfl⟩ := List.mem_map.mp hd
    exact ⟨_, _, rfl⟩
  · intro x _
    have := room.un
    have e : (keyD es x).depth ≤ 10 := by simp [keyD, PyData.depth, PyData.depthAll]
    omega
  · intro ti x hx h tk kp
    have hz' : (es.map V.int)[x]? = some (.int (es.getD x 0)) := by
      rw [List.getElem?_map, List.getElem?_eq_getElem hx, List.getD_eq_getElem?_getD, List.getElem?_eq_getElem hx]
      rfl
    obtain ⟨u, hu1, tz, rfl⟩ := vals_at hvals hz'
    refine lam_key (s := { s2 with heap := h, toks := tk }) (c := cc) (l := l) (its := its) (kp _ _ hf) ⟨c', oc, vs, tq, rfl, kp _ _ c1, c2, c3⟩ (by have := room.dp; show X.A.depth < _; omega) (I2.nolimit.keeps kp) (fun v => hbind _ _ _ _ _ v) hk hco hgen (fun y hy => ?_) ?_ ?_ hclo ?_ ⟨_, kp _ _ hlo, rfl, n, rfl⟩ hu1 (by omega) hd1 hd2 hd3
    · rw [hnames] at hy
      simp only [List.mem_cons, List.not_mem_nil, or_false] at hy
      rcases hy with rfl | rfl <;> exact fun z => by cases z
    · rw [hnames]
      simp
    · rw [hnames]
      simp [List.lookup, hne2]
    · obtain ⟨o, e, d⟩ := hcell
      exact ⟨o, kp _ _ e, d⟩
  · intro out c h' tk p kp fresh hp hout each
    have nH : H2 p = none := by
      cases z : H2 p with
      | none => rfl
      | some o =>
        obtain ⟨u, e⟩ := obj_there (I2.hok p o z)
        rw [fresh] at e
        cases e
    have rk := ranked_sort es
    refine ⟨.ref p, _, Inv.laidN I2 kp fresh nH ?_, rfl, q H2 p _ eN T2 nH rk⟩
    refine ⟨?_, out, c, vals_each each, hp⟩
    rw [List.length_map, List.length_mergeSort, List.length_range, sizeLine_eq]
    omega
end WS
set_option Elab.async false
set_option linter.all false
set_option maxRecDepth 100000
set_option maxHeartbeats 4000000
namespace WS
open PySem PySem.Spec PyProof.Rows L2
/-! ### a def whose code object is known; the end of a law with one table -/
theorem fun_cd {CX : CXT} {P : Program} {w : World} {K : PySem.W.Frag} {mg : Str → Option Value} {base : Heap} {x qual : Str} {st : Stmt} {f : Addr} {fd : FuncData} {N ps : List Str} {k : Nat} {sp : Sp}
    (F : Fun K x qual st f fd) (S : FnScope N ps (defScope st)) (len : ∀ vs H Q E, sp vs H Q E → vs.length = ps.length)
    (B : ∀ (cdv : Value) (A : Around) (outer : List Env) (s : Shared) (H : Hp) (vs : List V) (Q : VK) (E : XK), fd.code = cdv → Room k (A.deeper (envOfC qual (defScope st) s.heap.objs.size f cdv)) → sp vs H Q E →
      ∃ t, PSs (cxOf CX P w K mg base N qual (defScope st) f cdv A outer s H E) (defBody st) t ∧ t ⟨fun _ H' => Q .non H', Q, fun _ _ => False, fun _ _ => False⟩ (start N vs) H) : FnOk P w K mg base CX (k + 1) f fd ps sp := by
  obtain ⟨oc, od, kV, doc, pm, an, cdv, ct, osl, rfl, lk, code⟩ := F.ex
  exact fn_of lk code S len (fun A outer s H vs Q E hr h => B cdv A outer s H vs Q E rfl hr h)
theorem begin_tab {P : Program} {w : World} {K : PySem.W.Frag} {mg mb : Str → Option Value} {k : Nat} {fa a c0 P0 : Addr} {fd : FuncData} {x : Str} {sp : Sp} {s : Shared} {vs : List Value} {H : Hp}
    (inK : K.In s.heap) (gns : s.heap.Ns mainGlobals mg) (bns : s.heap.Ns builtinsNs mb) (bb : ∀ x : Str, x ≠ "__name__" → mb x = bootBuiltins x) (lim : s.heap.NoLimit) (nogen : s.gens = #[])
    (hT : s.heap.get? P0 = some { cls := .none, data := .fields #[] }) (nT : K.lookup P0 = none) (C : PySem.W.CodeHd s.heap c0 P0)
    (hbm : ∃ (bm : Addr) (ob : Obj), mg "__builtins__" = some (.ref bm) ∧ bm ≠ builtinsNs ∧ s.heap.get? bm = some ob ∧ ob.cls = .type "module" ∧ ob.dict = some builtinsNs ∧ ob.data = .plain)
    (script : s.heap.get? a = some { cls := .type "list", data := .seq vs.toArray }) (room : Room k callerA)
    (F : ∀ base : Heap, K.In base → base.Ns mainGlobals mg → LamX.TabB base mg c0 P0 → FnAt callerA P w K mg base CX0 k fa fd [x] sp) (bind1 : ∀ (s : Shared) (u : Value), BindsTo s fd ⟨[u], []⟩ [(x, u)])
    (only : ∀ b u, H b = some u → (b = a ∧ K.lookup a = none ∧ ∃ o xs, u = .frz o (.lst xs)) ∨ b = P0) (tab : H P0 = some (.tbl #[])) (fits : HOk P w H s.heap)
    (want : sp [.ref a] H (fun v _ => v = .bl true) fun _ _ _ => False) :
    codeAny (model P w) callerA (.call (.ref fa) ⟨[.ref a], []⟩) (fun r s' => r = .ok (.ret (.bool true)) ∧ OldK s.heap s'.heap ∧ s'.os = s.os ∧ AllBare s'.gens) s := by
  have noD : ∀ {b : Addr} {o : Obj}, s.heap.get? b = some o → (∀ vs n, o.data ≠ .seq vs n) → o.data ≠ .fields #[] → H b = none := by
    intro b o e h1 h2
    cases z : H b with
    | none => rfl
    | some u =>
      rcases only b u z with ⟨rfl, _⟩ | rfl
      · rw [script] at e
        cases e
        exact (h1 _ _ rfl).elim
      · rw [hT] at e
        cases e
        exact (h2 rfl).elim
  have nsb : ∀ {b : Addr} {m : Str → Option Value}, s.heap.Ns b m → (hidT s.heap H).Ns b m := by
    rintro b m ⟨o, es, ep, e, de, rest⟩
    exact ⟨o, es, ep, hidT_get e (noD e (fun vs n z => by rw [de] at z; cases z) (fun z => by rw [de] at z; cases z)), de, rest⟩
  have kb : K.In (hidT s.heap H) := by
    intro b o e
    refine hidT_get (inK b o e) ?_
    cases z : H b with
    | none => rfl
    | some u =>
      rcases only b u z with ⟨rfl, nk, _⟩ | rfl
      · rw [nk] at e
        cases e
      · rw [nT] at e
        cases e
  obtain ⟨mc, l1, l2⟩ := lim
  have modu : Mod K mg (hidT s.heap H) := ⟨kb, nsb gns, ⟨mb, nsb bns, bb⟩, ⟨mc, nsb l1, l2⟩⟩
  have noEnv : ∀ b ∈ frs [], H b = none := fun b z => absurd (show b ∈ ([] : List Addr) from z) List.not_mem_nil
  have env0 : Env0 P w K mg (hidT s.heap H) callerA [] s H := ⟨rfl, modu, fun b o e => of_hidT e, Nat.le_of_eq (hidT_size _ _), trivial, noEnv, fits, .of_eq nogen⟩
  have TB : LamX.TabB (hidT s.heap H) mg c0 P0 := by
    refine ⟨?_, ?_, fun z => ?_⟩
    · obtain ⟨o, us, file, tf, flags, tg, inF, text, tt, e1, r1, r2, r3, r4, r5, r6, r7, r8, hne⟩ := C
      refine ⟨o, us, file, tf, flags, tg, inF, text, tt, hidT_get e1 (noD e1 (fun vs n z => ?_) fun z => ?_), r1, r2, r3, r4, r5, r6, r7, r8, hne⟩
      · rw [r2] at z
        cases z
      · rw [r2] at z
        cases z
        simp at r3
    · obtain ⟨bm, ob, b1, b2, b3, b4, b5, b6⟩ := hbm
      have nG : bm ≠ mainGlobals := fun q => by
        obtain ⟨o, es, ep, e, hd, _⟩ := gns
        rw [q, e] at b3
        cases b3
        rw [hd] at b6
        cases b6
      have nP : bm ≠ P0 := fun q => by
        rw [q, hT] at b3
        cases b3
        cases b6
      exact ⟨bm, ob, b1, b2, nG, nP, hidT_get b3 (noD b3 (fun vs n z => by rw [b6] at z; cases z) fun z => by rw [b6] at z; cases z), b4, b5, b6⟩
    · obtain ⟨o, es, ep, e, hd, _⟩ := gns
      rw [z, hT] at e
      cases e
      cases hd
  refine codeAny_mono ((F _ kb (nsb gns) TB).go [] s H ⟨[.ref a], []⟩ [.ref a] [.ref a] _ _ room env0 (bind1 s (.ref a)) (.cons rfl .nil) want) ?_
  intro r s' z
  match r, z with
  | .error er, z => exact z.elim
  | .ok .next, z => exact z.elim
  | .ok .brk, z => exact z.elim
  | .ok .cont, z => exact z.elim
  | .ok (.ret u), ⟨v, H', os, bare, un, fits', rel, q⟩ =>
    have q : v = .bl true := q
    subst q
    obtain rfl : u = Value.bool true := rel
    have key : ∀ b o, b ≠ P0 → s.heap.get? b = some o → s'.heap.get? b = some o := by
      intro b o nb e
      cases zb : H b with
      | none => exact un.keep b o e zb (fun z => absurd (show b ∈ ([] : List Addr) from z) List.not_mem_nil) List.not_mem_nil
      | some u =>
        rcases only b u zb with ⟨_, _, ob, xs, rfl⟩ | z
        · have now := (fits' b _ (un.frzs b ob _ zb)).1
          have then_ := (fits b _ zb).1
          rw [e] at then_
          cases then_
          exact now
        · exact absurd z nb
    obtain ⟨more, zt⟩ := un.tbls P0 #[] tab
    have grown := fits' P0 _ zt
    refine ⟨rfl, ⟨fun b o e => ?_, fun b o e => ?_⟩, os, bare⟩
    · by_cases hb : b = P0
      · subst hb
        rw [hT] at e
        cases e
        exact .inr (.inl ⟨(C.tab hT).isCodeTable, rfl, #[], more, rfl, by rw [Array.empty_append] at grown ⊢; exact grown⟩)
      · exact .inl (key b o hb e)
    · by_cases hb : b = P0
      · subst hb
        exact ⟨_, grown⟩
      · exact ⟨o, key b o hb e⟩
theorem walk_T {l : PySem.W.OpenLaw} {n k : Nat} {q : Program} {loose : List Str} {XP : (Str → Option Value) → Heap → Prop} {YP : World → Heap → Prop} {d dg : DefRec} {K : Params → PySem.W.Frag} {x : Str} (g : Str)
    (most : l.most = some n) (small : n ≤ sizeLine) (nodefault : d.params.defaults = []) (room : Room k callerA) (rec : (recsOf q).find? (fun e => e.name == g) = some dg)
    (Y : ∀ (w : World) (h : Heap), YP w h → (K w.params).In h)
    (F : ∀ (w : World) (mg : Str → Option Value) (fa : Addr) (h : Heap), (K w.params).In h → h.Ns mainGlobals mg → mg d.name = some (.ref fa) →
      ∃ (fd : FuncData) (c0 P0 : Addr) (sp : Sp), PySem.W.tabIn (K w.params) g = some (c0, P0) ∧ (K w.params).lookup P0 = none ∧ (∀ (s : Shared) (u : Value), BindsTo s fd ⟨[u], []⟩ [(x, u)]) ∧
        (∀ (H : Hp) (a : Addr) (ns : List Int), ns.length ≤ n → H P0 = some (.tbl #[]) → SqL (K w.params) H a (ns.map V.int) → sp [.ref a] H (fun v _ => v = .bl true) fun _ _ _ => False) ∧
        ∀ base : Heap, (K w.params).In base → base.Ns mainGlobals mg → LamX.TabB base mg c0 P0 → FnAt callerA l.prog w (K w.params) mg base CX0 k fa fd [x] sp) :
    PySem.W.WalkO q loose XP YP l.row.toRowW d [] (fun f vs => PySem.call f vs) := by
  refine Att.attach_call most nodefault ?_
  intro w s0 s mg mb fa o pm cd doc a vs ns G y _ _ _ at_law script hi len nogen
  have inK := Y w _ y
  obtain ⟨fd, c0, P0, sp, ht, nT, b1, want, f⟩ := F w mg fa _ inK G.T.g at_law
  obtain ⟨C, hT⟩ := PySem.W.tab_of G.T inK rec ht
  have rel : Vals (ns.map V.int) vs := vals_ints hi
  have sz : ns.length ≤ sizeLine := Nat.le_trans len small
  have aP : a ≠ P0 := by
    rintro rfl
    rw [script] at hT
    cases hT
  cases look : (K w.params).lookup a with
  | some ob =>
    have same := inK a ob look
    rw [script] at same
    cases same
    refine begin_tab (H := fun b => if b = P0 then some (.tbl #[]) else none) inK G.T.g G.T.b G.T.builtins G.T.nolimit nogen hT nT C G.T.bmain script room f b1 (fun b u z => .inr ?_) (if_pos rfl) (fun b u z => ?_) (want _ a ns len (if_pos rfl) (.inr ⟨_, vs.toArray, _, look, rfl, rfl, rfl, ?_, ?_⟩))
    · replace z : (if b = P0 then some (HO.tbl #[]) else none) = some u := z
      by_cases hb : b = P0
      · exact hb
      · rw [if_neg hb] at z
        cases z
    · replace z : (if b = P0 then some (HO.tbl #[]) else none) = some u := z
      by_cases hb : b = P0
      · rw [if_pos hb] at z
        cases z
        rw [hb]
        exact hT
      · rw [if_neg hb] at z
        cases z
    · rw [List.size_toArray, hi.length]
      exact sz
    · simpa using rel
  | none =>
    refine begin_tab (H := fun b => if b = a then some (.frz { cls := .type "list", data := .seq vs.toArray } (.lst (ns.map V.int))) else if b = P0 then some (.tbl #[]) else none) inK G.T.g G.T.b G.T.builtins G.T.nolimit nogen hT nT C G.T.bmain script room f b1 (fun b u z => ?_) ?_ (fun b u z => ?_) (want _ a ns len ?_ (.inl (.inr ⟨_, if_pos rfl⟩)))
    · replace z : (if b = a then some (HO.frz { cls := .type "list", data := .seq vs.toArray } (.lst (ns.map V.int))) else if b = P0 then some (.tbl #[]) else none) = some u := z
      by_cases hb : b = a
      · rw [if_pos hb] at z
        exact .inl ⟨hb, look, _, _, (Option.some.inj z).symm⟩
      · rw [if_neg hb] at z
        by_cases hp : b = P0
        · exact .inr hp
        · rw [if_neg hp] at z
          cases z
    · show (if P0 = a then _ else _) = _
      rw [if_neg (fun z => aP z.symm), if_pos rfl]
    · replace z : (if b = a then some (HO.frz { cls := .type "list", data := .seq vs.toArray } (.lst (ns.map V.int))) else if b = P0 then some (.tbl #[]) else none) = some u := z
      by_cases hb : b = a
      · rw [if_pos hb] at z
        cases z
        subst hb
        exact ⟨script, by rw [List.length_map]; exact sz, vs, _, rel, script⟩
      · rw [if_neg hb] at z
        by_cases hp : b = P0
        · rw [if_pos hp] at z
          cases z
          subst hp
          exact hT
        · rw [if_neg hp] at z
          cases z
    · show (if P0 = a then _ else _) = _
      rw [if_neg (fun z => aP z.symm), if_pos rfl]
/-! ### tables through steps -/
open LamX in
theorem TabS.x {p P : Addr} {q : Str} {H H' : Hp} (t : TabS H P q) (s : SameX p H H') (hp : PotAt H p) : TabS H' P q := by
  obtain ⟨x, y, e, _⟩ := hp
  obtain ⟨ps, h1, h2, h3⟩ := t
  refine ⟨ps, s _ _ (fun z => ?_) h1, h2, fun pos cv hc => ?_⟩
  · rw [z, e] at h1
    cases h1
  · obtain ⟨c, e1, e2⟩ := h3 pos cv hc
    refine ⟨c, e1, s _ _ (fun z => ?_) e2⟩
    rw [z, e] at e2
    unfold CodeO at e2
    cases e2
open LamX in
theorem TabS.set {P D : Addr} {q : Str} {H : Hp} {xs ys : List V} (t : TabS H P q) (h : H D = some (.lst xs)) : TabS (upd H D (.lst ys)) P q := by
  obtain ⟨ps, h1, h2, h3⟩ := t
  refine ⟨ps, ?_, h2, fun pos cv hc => ?_⟩
  · rw [upd_ne (fun z => by rw [z, h] at h1; cases h1)]
    exact h1
  · obtain ⟨c, e1, e2⟩ := h3 pos cv hc
    refine ⟨c, e1, ?_⟩
    rw [upd_ne (fun z => by rw [z, h] at e2; unfold CodeO at e2; cases e2)]
    exact e2
open LamX in
theorem TabS.tabs {P : Addr} {q : Str} {H : Hp} (t : TabS H P q) : Tabs [(P, q)] H := fun p hp => by
  obtain rfl := List.mem_singleton.mp hp
  exact t
open LamX in
theorem ExtN.same {H H' : Hp} (e : Same H H') : ExtN H H' := fun b o h _ => e b o h
open LamX in
theorem ExtN.kt {H H' : Hp} (e : ExtN H H') : KT H H' := ⟨fun _ _ h => e _ _ h (fun _ z => by cases z), fun _ _ _ h => e _ _ h (fun _ z => by cases z)⟩
open LamX in
theorem ExtN.sql {K : PySem.W.Frag} {H H' : Hp} {a : Addr} {xs : List V} (e : ExtN H H') (h : SqL K H a xs) : SqL K H' a xs := by
  rcases h with (h | ⟨o, h⟩) | h
  · exact .inl (.inl (e _ _ h (fun _ z => by cases z)))
  · exact .inl (.inr ⟨o, e _ _ h (fun _ z => by cases z)⟩)
  · exact .inr h
open LamX in
theorem ExtN.pot {H H' : Hp} {p : Addr} (e : ExtN H H') (h : PotAt H p) : PotAt H' p := by
  obtain ⟨x, y, z, r⟩ := h
  exact ⟨x, y, e _ _ z (fun _ z => by cases z), r⟩
end WS
set_option Elab.async false
set_option linter.all false
set_option maxRecDepth 100000
set_option maxHeartbeats 4000000
namespace WS
open PySem PySem.Spec PyProof.Rows L2
/-! ### rows by their greatest -/
abbrev qLam : Str := ("greatest_first" : Str) ++ ".<locals>." ++ "<lambda>"
def RankedP (ps : List (Int × Int)) (ord : List Nat) : Prop := ord.Perm (List.range ps.length) ∧ ord.Pairwise fun i j =>
  (ps.getD j (0, 1)).1 * (ps.getD i (0, 1)).2 < (ps.getD i (0, 1)).1 * (ps.getD j (0, 1)).2 ∨ ((ps.getD i (0, 1)).1 * (ps.getD j (0, 1)).2 = (ps.getD j (0, 1)).1 * (ps.getD i (0, 1)).2 ∧ i < j)
theorem cross_lt {a b a' b' c : Int} (hb : 0 < b) (hb' : 0 < b') (h : b ∣ c) (h' : b' ∣ c) (hc : 0 < c) : a * (c / b) < a' * (c / b') ↔ a * b' < a' * b := by
  obtain ⟨m, rfl⟩ := h
  obtain ⟨n, e⟩ := h'
  rw [Int.mul_ediv_cancel_left _ (by omega)]
  rw [show b * m / b' = n by rw [e, Int.mul_ediv_cancel_left _ (by omega)]]
  have k : 0 < b * b' := Int.mul_pos hb hb'
  have e1 : a * m * (b * b') = a * b' * (b * m) := by grind
  have e2 : a' * n * (b * b') = a' * b * (b * m) := by rw [e]; grind
  constructor
  · intro h
    have := Int.mul_lt_mul_of_pos_right h k
    rw [e1, e2] at this
    exact Int.lt_of_mul_lt_mul_right this (Int.le_of_lt hc)
  · intro h
    have := Int.mul_lt_mul_of_pos_right h hc
    rw [← e1, ← e2] at this
    exact Int.lt_of_mul_lt_mul_right this (Int.le_of_lt k)
theorem cross_eq {a b a' b' c : Int} (hb : 0 < b) (hb' : 0 < b') (h : b ∣ c) (h' : b' ∣ c) (hc : 0 < c) : a * (c / b) = a' * (c / b') ↔ a * b' = a' * b := by
  have h1 := cross_lt (a := a) (a' := a') hb hb' h h' hc
  have h2 := cross_lt (a := a') (a' := a) hb' hb h' h hc
  omega
def overC (c : Int) (p : Int × Int) : Int := p.1 * (c / p.2)
theorem ranked_c {ps : List (Int × Int)} {c : Int} {ord : List Nat} (hc : 0 < c) (hp : ∀ p ∈ ps, 0 < p.2 ∧ p.2 ∣ c) : Ranked (ps.map (overC c)) ord ↔ RankedP ps ord := by
  unfold Ranked RankedP
  rw [List.length_map]
  refine and_congr_right fun hperm => ?_
  have at_ : ∀ i ∈ ord, (ps.map (overC c)).getD i 0 = overC c (ps.getD i (0, 1)) ∧ 0 < (ps.getD i (0, 1)).2 ∧ (ps.getD i (0, 1)).2 ∣ c := by
    intro i hi
    have hi : i < ps.length := List.mem_range.mp (hperm.mem_iff.mp hi)
    rw [List.getD_eq_getElem?_getD, List.getD_eq_getElem?_getD, List.getElem?_map, List.getElem?_eq_getElem hi]
    exact ⟨rfl, hp _ (List.getElem_mem hi)⟩
  constructor
  · intro h
    refine List.Pairwise.imp_of_mem (fun {i j} hi hj h => ?_) h
    obtain ⟨e1, p1, d1⟩ := at_ i hi
    obtain ⟨e2, p2, d2⟩ := at_ j hj
    rw [e1, e2] at h
    unfold overC at h
    rw [cross_lt p2 p1 d2 d1 hc, cross_eq p1 p2 d1 d2 hc] at h
    exact h
  · intro h
    refine List.Pairwise.imp_of_mem (fun {i j} hi hj h => ?_) h
    obtain ⟨e1, p1, d1⟩ := at_ i hi
    obtain ⟨e2, p2, d2⟩ := at_ j hj
    rw [e1, e2]
    unfold overC
    rw [cross_lt p2 p1 d2 d1 hc, cross_eq p1 p2 d1 d2 hc]
    exact h
theorem lcm_step {f b : Int} (hf : 0 < f) (hb : 0 < b) : 0 < f / (Int.gcd f b : Int) * b ∧ f ∣ f / (Int.gcd f b : Int) * b ∧ b ∣ f / (Int.gcd f b : Int) * b := by
  have g : (0 : Int) < (Int.gcd f b : Int) := by have := gcd_pos (a := f) (b := b) (by omega); omega
  have d1 : (Int.gcd f b : Int) ∣ f := Int.gcd_dvd_left f b
  have d2 : (Int.gcd f b : Int) ∣ b := Int.gcd_dvd_right f b
  generalize (Int.gcd f b : Int) = G at *
  obtain ⟨m, rfl⟩ := d1
  obtain ⟨k, rfl⟩ := d2
  rw [Int.mul_ediv_cancel_left m (by omega)]
  have hm0 : 0 < m := Int.pos_of_mul_pos_right hf (by omega)
  exact ⟨Int.mul_pos hm0 hb, ⟨k, by grind⟩, Int.dvd_mul_left m _⟩
/-- what stands at p, if anything, is a table -/
def New (H : Hp) (p : Addr) : Prop := ∀ o, H p = some o → ∃ ps, o = .tbl ps
theorem New.ne {H : Hp} {p b : Addr} {o : HO} (n : New H p) (h : H b = some o) (t : ∀ ps, o ≠ .tbl ps) : b ≠ p := by
  rintro rfl
  obtain ⟨ps, e⟩ := n o h
  exact t ps e
theorem New.of {H : Hp} {p : Addr} (h : H p = none) : New H p := fun o e => by rw [h] at e; cases e
def spCommon (K : PySem.W.Frag) : Sp := fun vs H Q _ => ∃ (n : Nat) (l : Addr) (rs : List V) (ps : List (Int × Int)), vs = [.ref l] ∧ n ≤ 8999 ∧ SqT K H l rs ∧ Parts K H rs ps ∧ (∀ q ∈ ps, Okp n q) ∧ (ps.length + 2) * (n + 1) ≤ 800000 ∧ ∀ c, 0 < c → (∀ q ∈ ps, q.2 ∣ c) → Bt (1 + ps.length * n) c → Q (.int c) H
def spFirst (K : PySem.W.Frag) (P : Addr) : Sp := fun vs H Q _ => ∃ (n : Nat) (l : Addr) (rs : List V) (ps : List (Int × Int)), vs = [.ref l] ∧ n ≤ 8999 ∧ SqT K H l rs ∧ Parts K H rs ps ∧ (∀ q ∈ ps, Okp n q) ∧ (ps.length + 2) * (n + 1) ≤ 800000 ∧ LamX.TabS H P qLam ∧
  ∀ H' p ord, LamX.ExtN H H' → LamX.TabS H' P qLam → New H p → H' p = some (.lst (ord.map fun j : Nat => V.int j)) → RankedP ps ord → Q (.ref p) H'
def spLawT (K : PySem.W.Frag) (P : Addr) : Sp := fun vs H Q _ => ∃ (a : Addr) (ns : List Int), vs = [.ref a] ∧ SqL K H a (ns.map V.int) ∧ ns.length ≤ 63 ∧ LamX.TabS H P qLam ∧ ∀ H', Q (.bl true) H'
end WS
set_option Elab.async false
set_option linter.all false
set_option maxRecDepth 100000
set_option maxHeartbeats 4000000
namespace WS
open PySem PySem.Spec PyProof.Rows L2
/-! ### sets of places, and the greatest -/
def gd (xs : List Int) (i : Nat) : Int := xs.getD i 0
theorem perm_sum {xs ys : List Int} (h : xs.Perm ys) : xs.sum = ys.sum := by
  induction h with
  | nil => rfl
  | cons a _ ih => rw [List.sum_cons, List.sum_cons, ih]
  | swap a b l => simp only [List.sum_cons]; omega
  | trans _ _ h1 h2 => rw [h1, h2]
def setsL : Nat → List (List Nat)
  | 0 => [[]]
  | k + 1 => setsL k ++ (setsL k).map (· ++ [k])
theorem setsL_len : ∀ n, (setsL n).length = 2 ^ n
  | 0 => rfl
  | n + 1 => by rw [setsL, List.length_append, List.length_map, setsL_len n, Nat.pow_succ]; omega
theorem setsL_lt : ∀ {n : Nat} {s : List Nat}, s ∈ setsL n → (∀ i ∈ s, i < n) ∧ s.length ≤ n
  | 0, s, h => by
    obtain rfl : s = [] := by simpa [setsL] using h
    exact ⟨fun i hi => by simp at hi, Nat.le_refl _⟩
  | n + 1, s, h => by
    rw [setsL] at h
    rcases List.mem_append.mp h with h | h
    · obtain ⟨h1, h2⟩ := setsL_lt h
      exact ⟨fun i hi => Nat.lt_succ_of_lt (h1 i hi), Nat.le_succ_of_le h2⟩
    · obtain ⟨t, ht, rfl⟩ := List.mem_map.mp h
      obtain ⟨h1, h2⟩ := setsL_lt ht
      refine ⟨fun i hi => ?_, by rw [List.length_append]; exact Nat.succ_le_succ h2⟩
      rcases List.mem_append.mp hi with hi | hi
      · exact Nat.lt_succ_of_lt (h1 i hi)
      · rw [List.mem_singleton.mp hi]
        exact Nat.lt_succ_self n
theorem take_gd {xs : List Int} {m : Nat} (h : m < xs.length) : xs.take (m + 1) = xs.take m ++ [gd xs m] := by
  rw [List.take_add_one, List.getElem?_eq_getElem h]
  unfold gd
  rw [List.getD_eq_getElem?_getD, List.getElem?_eq_getElem h]
  rfl
theorem sets_sub (xs : List Int) : ∀ m, m ≤ xs.length → (∀ s ∈ setsL m, (s.map (gd xs)).Sublist (xs.take m)) ∧ ∀ ys : List Int, ys.Sublist (xs.take m) → ∃ s ∈ setsL m, s.map (gd xs) = ys
  | 0, _ => by
    refine ⟨fun s hs => ?_, fun ys hy => ⟨[], by simp [setsL], ?_⟩⟩
    · obtain rfl : s = [] := by simpa [setsL] using hs
      simp
    · have : ys = [] := by simpa using hy
      rw [this]
      rfl
  | m + 1, h => by
    obtain ⟨a, b⟩ := sets_sub xs m (by omega)
    rw [take_gd (by omega)]
    refine ⟨fun s hs => ?_, fun ys hy => ?_⟩
    · rw [setsL] at hs
      rcases List.mem_append.mp hs with hs | hs
      · exact (a s hs).trans (List.sublist_append_left _ _)
      · obtain ⟨t, ht, rfl⟩ := List.mem_map.mp hs
        rw [List.map_append]
        exact (a t ht).append (List.Sublist.refl _)
    · obtain ⟨y1, y2, rfl, h1, h2⟩ := List.sublist_append_iff.mp hy
      obtain ⟨s, hs, rfl⟩ := b y1 h1
      cases h2 with
      | cons _ h2 =>
        have : y2 = [] := by simpa using h2
        subst this
        exact ⟨s, by rw [setsL]; exact List.mem_append_left _ hs, by simp⟩
      | cons_cons _ h2 =>
        rename_i l
        have : l = [] := by simpa using h2
        subst this
        exact ⟨s ++ [m], by rw [setsL]; exact List.mem_append_right _ (List.mem_map.mpr ⟨s, hs, rfl⟩), by rw [List.map_append]; rfl⟩
theorem sum_take_mono {z : Int} : ∀ {zs : List Int} {k : Nat}, (∀ y ∈ zs, y ≤ z) → zs.Pairwise (fun a b => b ≤ a) → k ≤ zs.length → (zs.take k).sum ≤ ((z :: zs).take k).sum
  | zs, 0, _, _, _ => by simp
  | [], k + 1, _, _, h => by simp at h
  | y :: zs, k + 1, h, p, hk => by
    have p' := List.pairwise_cons.mp p
    rw [List.take_succ_cons, List.take_succ_cons, List.sum_cons, List.sum_cons]
    have h1 := sum_take_mono (z := y) (zs := zs) (k := k) p'.1 p'.2 (by simpa using hk)
    have h2 := h y List.mem_cons_self
    omega
theorem sub_le_take : ∀ {zs ys : List Int}, zs.Pairwise (fun a b => b ≤ a) → ys.Sublist zs → ys.sum ≤ (zs.take ys.length).sum := by
  intro zs ys p h
  induction h with
  | slnil => simp
  | cons z h ih =>
    have p' := List.pairwise_cons.mp p
    exact Int.le_trans (ih p'.2) (sum_take_mono p'.1 p'.2 h.length_le)
  | cons_cons z h ih =>
    have p' := List.pairwise_cons.mp p
    rw [List.length_cons, List.take_succ_cons, List.sum_cons, List.sum_cons]
    have := ih p'.2
    omega
theorem others : ∀ {ys xs : List Int}, ys.Sublist xs → ∃ zs : List Int, zs.Sublist xs ∧ zs.sum = xs.sum - ys.sum ∧ zs.length = xs.length - ys.length := by
  intro ys xs h
  induction h with
  | slnil => exact ⟨[], .slnil, rfl, rfl⟩
  | cons x h ih =>
    obtain ⟨zs, h1, h2, h3⟩ := ih
    have := h.length_le
    exact ⟨x :: zs, .cons_cons x h1, by rw [List.sum_cons, List.sum_cons, h2]; omega, by rw [List.length_cons, List.length_cons, h3]; omega⟩
  | cons_cons x h ih =>
    obtain ⟨zs, h1, h2, h3⟩ := ih
    exact ⟨zs, .cons x h1, by rw [List.sum_cons, List.sum_cons, h2]; omega, by rw [List.length_cons, List.length_cons, h3]; omega⟩
/-- no set of places comes to more than the most -/
def Fair (M : Nat → Int) (xs : List Int) : Prop := ∀ ys : List Int, ys.Sublist xs → ys.sum ≤ M ys.length
theorem Fair.perm {M : Nat → Int} {xs xs' : List Int} (h : Fair M xs) (p : xs.Perm xs') : Fair M xs' := fun ys hy => by
  obtain ⟨zs, h1, h2⟩ := List.exists_perm_sublist hy p.symm
  rw [← perm_sum h1, ← h1.length_eq]
  exact h zs h2
def tops (xs : List Int) (ord : List Nat) (k : Nat) : Int := ((ord.take k).map (gd xs)).sum
theorem map_range_gd (xs : List Int) : (List.range xs.length).map (gd xs) = xs := by
  apply List.ext_getElem
  · simp
  · intro i h1 h2
    simp [gd, List.getD_eq_getElem?_getD, List.getElem?_eq_getElem h2]
theorem ranked_zs {xs : List Int} {ord : List Nat} (h : Ranked xs ord) : (ord.map (gd xs)).Perm xs ∧ (ord.map (gd xs)).Pairwise fun a b => b ≤ a := by
  refine ⟨?_, ?_⟩
  · have := h.1.map (gd xs)
    rwa [map_range_gd] at this
  · refine List.pairwise_map.mpr (h.2.imp fun {a b} h => ?_)
    unfold gd
    omega
theorem fair_tops {M : Nat → Int} {xs : List Int} {ord : List Nat} (h : Ranked xs ord) : (∀ k, k ≤ xs.length → tops xs ord k ≤ M k) ↔ Fair M xs := by
  obtain ⟨p, d⟩ := ranked_zs h
  have len : ord.length = xs.length := by rw [h.1.length_eq, List.length_range]
  constructor
  · intro t ys hy
    obtain ⟨zs, h1, h2⟩ := List.exists_perm_sublist hy p.symm
    rw [← perm_sum h1, ← h1.length_eq]
    have h3 := sub_le_take d h2
    have h4 := h2.length_le
    rw [List.length_map, len] at h4
    have h5 := t zs.length h4
    unfold tops at h5
    rw [List.map_take] at h5
    exact Int.le_trans h3 h5
  · intro f k hk
    have f' := f.perm p.symm
    have := f' _ (List.take_sublist k _)
    rw [List.length_take, List.length_map, len, Nat.min_eq_left hk, ← List.map_take] at this
    exact this
theorem fair_sets {M : Nat → Int} {xs : List Int} : (∀ s ∈ setsL xs.length, (s.map (gd xs)).sum ≤ M s.length) ↔ Fair M xs := by
  obtain ⟨a, b⟩ := sets_sub xs xs.length (Nat.le_refl _)
  rw [List.take_length] at a b
  constructor
  · intro h ys hy
    obtain ⟨s, hs, rfl⟩ := b ys hy
    rw [List.length_map]
    exact h s hs
  · intro f s hs
    have := f _ (a s hs)
    rwa [List.length_map] at this
theorem fair_low {M : Nat → Int} {xs : List Int} (f : Fair M xs) (z : xs.sum = 0) (sy : ∀ k, k ≤ xs.length → M (xs.length - k) = M k) {s : List Nat} (hs : s ∈ setsL xs.length) : -(M s.length) ≤ (s.map (gd xs)).sum := by
  obtain ⟨a, _⟩ := sets_sub xs xs.length (Nat.le_refl _)
  rw [List.take_length] at a
  obtain ⟨zs, h1, h2, h3⟩ := others (a s hs)
  have h4 := f zs h1
  rw [h3, List.length_map, sy _ (setsL_lt hs).2, h2, z] at h4
  omega
/-! ### sums of parts over one below -/
theorem pl_over {x c : Int} {q : Int × Int} (hc : 0 < c) (hq : 0 < q.2) (d : q.2 ∣ c) : pl (lo x c) q = lo (x + overC c q) c := by
  unfold pl overC
  have l2 := (lo_lowest (a := x) hc).1
  have e := lo_cross x c
  obtain ⟨m, hm⟩ := d
  have em : c / q.2 = m := by rw [hm, Int.mul_ediv_cancel_left _ (by omega)]
  rw [em]
  refine lo_congr (Int.mul_pos l2 hq) hc ?_
  generalize (lo x c).1 = L1 at *
  generalize (lo x c).2 = L2 at *
  have : (L1 * q.2 + q.1 * L2) * c = L1 * c * q.2 + q.1 * L2 * c := by grind
  rw [this, e, hm]
  grind
theorem fold_over {c : Int} (hc : 0 < c) : ∀ (qs : List (Int × Int)) (x : Int), (∀ q ∈ qs, 0 < q.2 ∧ q.2 ∣ c) → qs.foldl pl (lo x c) = lo (x + (qs.map (overC c)).sum) c
  | [], x, _ => by simp
  | q :: qs, x, h => by
    obtain ⟨h1, h2⟩ := h q List.mem_cons_self
    rw [List.foldl_cons, pl_over hc h1 h2, fold_over hc qs _ fun r hr => h r (List.mem_cons_of_mem _ hr), List.map_cons, List.sum_cons, Int.add_assoc]
theorem lo_zero {c : Int} (hc : 0 < c) : lo 0 c = (0, 1) := lo_eq ⟨by decide, by decide⟩ hc (by omega)
theorem sum_over {c : Int} (hc : 0 < c) (qs : List (Int × Int)) (h : ∀ q ∈ qs, 0 < q.2 ∧ q.2 ∣ c) : qs.foldl pl (0, 1) = lo ((qs.map (overC c)).sum) c := by
  rw [← lo_zero hc, fold_over hc qs 0 h, Int.zero_add]
/-- a number into which all belows go -/
def cmul : List (Int × Int) → Int
  | [] => 1
  | q :: qs => q.2 * cmul qs
theorem cmul_ok : ∀ (qs : List (Int × Int)), (∀ q ∈ qs, 0 < q.2) → 0 < cmul qs ∧ ∀ q ∈ qs, 0 < q.2 ∧ q.2 ∣ cmul qs
  | [], _ => ⟨by decide, fun q hq => by simp at hq⟩
  | q :: qs, h => by
    obtain ⟨a, b⟩ := cmul_ok qs fun r hr => h r (List.mem_cons_of_mem _ hr)
    have hq := h q List.mem_cons_self
    refine ⟨Int.mul_pos hq a, fun r hr => ?_⟩
    rcases List.mem_cons.mp hr with rfl | hr
    · exact ⟨hq, Int.dvd_mul_right _ _⟩
    · exact ⟨(b r hr).1, Int.dvd_trans (b r hr).2 (Int.dvd_mul_left _ _)⟩
def gp (ps : List (Int × Int)) (i : Nat) : Int × Int := ps.getD i (0, 1)
theorem map_gp {ps : List (Int × Int)} {c : Int} {s : List Nat} (h : ∀ i ∈ s, i < ps.length) : (s.map (gp ps)).map (overC c) = s.map (gd (ps.map (overC c))) := by
  rw [List.map_map]
  refine List.map_congr_left fun i hi => ?_
  have := h i hi
  simp [gp, gd, List.getD_eq_getElem?_getD, List.getElem?_map, List.getElem?_eq_getElem this]
theorem gp_mem {ps : List (Int × Int)} {i : Nat} (h : i < ps.length) : gp ps i ∈ ps := by
  unfold gp
  rw [List.getD_eq_getElem?_getD, List.getElem?_eq_getElem h]
  exact List.getElem_mem h
theorem sum_places {ps : List (Int × Int)} {c : Int} {s : List Nat} (hc : 0 < c) (hp : ∀ q ∈ ps, 0 < q.2 ∧ q.2 ∣ c) (h : ∀ i ∈ s, i < ps.length) : (s.map (gp ps)).foldl pl (0, 1) = lo ((s.map (gd (ps.map (overC c)))).sum) c := by
  rw [sum_over hc, map_gp h]
  intro q hq
  obtain ⟨i, hi, rfl⟩ := List.mem_map.mp hq
  exact hp _ (gp_mem (h i hi))
end WS
set_option Elab.async false
set_option linter.all false
set_option maxRecDepth 100000
set_option maxHeartbeats 4000000
namespace WS
open PySem PySem.Spec PyProof.Rows L2
/-! ### promises of sums_ahead, fall, is_within -/
def sumK (ps : List (Int × Int)) (ord : List Nat) (k : Nat) : Int × Int := ((ord.take k).map (gp ps)).foldl pl (0, 1)
def sumsP (ps : List (Int × Int)) (ord : List Nat) : List (Int × Int) := (List.range (ps.length + 1)).map (sumK ps ord)
def spMostW (K : PySem.W.Frag) : Sp := fun vs H Q _ => ∃ a n k : Int, vs = [.int a, .int n, .int k] ∧ Bt 2000 a ∧ Bt 200 n ∧ Bt 200 k ∧ NewT K H (lo (a * k * (n - k)) 2).1 (lo (a * k * (n - k)) 2).2 Q
/-- a row at l whose parts are ps, small enough -/
def RowAt (K : PySem.W.Frag) (H : Hp) (l : Addr) (ps : List (Int × Int)) : Prop := ∃ (n : Nat) (rs : List V), SqT K H l rs ∧ Parts K H rs ps ∧ (∀ q ∈ ps, Okp n q) ∧ (ps.length + 2) * (n + 1) ≤ 4400
theorem RowAt.k {K : PySem.W.Frag} {H H' : Hp} {l : Addr} {ps : List (Int × Int)} (h : RowAt K H l ps) (s : KT H H') : RowAt K H' l ps := by
  obtain ⟨n, rs, a, b, c⟩ := h
  exact ⟨n, rs, s.sqt a, b.k s, c⟩
def spAhead (K : PySem.W.Frag) (P : Addr) : Sp := fun vs H Q _ => ∃ (l : Addr) (ps : List (Int × Int)), vs = [.ref l] ∧ RowAt K H l ps ∧ LamX.TabS H P qLam ∧
  ∀ H' p ts ord, LamX.ExtN H H' → LamX.TabS H' P qLam → New H p → H' p = some (.lst ts) → Parts K H' ts (sumsP ps ord) → RankedP ps ord → Q (.ref p) H'
def fallsAt (w : Int) (ps : List (Int × Int)) (ord : List Nat) (k : Nat) : Bool := decide ((lo (w * k * ((ps.length : Int) - k)) 2).1 * (sumK ps ord k).2 < (sumK ps ord k).1 * (lo (w * k * ((ps.length : Int) - k)) 2).2)
def fallV (w : Int) (ps : List (Int × Int)) (ord : List Nat) : V := match (List.range (ps.length + 1)).find? (fallsAt w ps ord) with
  | some k => .int (k : Nat)
  | none => .non
def spFall (K : PySem.W.Frag) (P : Addr) : Sp := fun vs H Q _ => ∃ (w : Int) (l : Addr) (ps : List (Int × Int)), vs = [.int w, .ref l] ∧ Bt 2000 w ∧ RowAt K H l ps ∧ LamX.TabS H P qLam ∧
  ∀ H' ord, LamX.ExtN H H' → LamX.TabS H' P qLam → RankedP ps ord → Q (fallV w ps ord) H'
def Mo (c w : Int) (n : Nat) (k : Nat) : Int := w * k * ((n : Int) - k) * c / 2
def WithinC (c w : Int) (ps : List (Int × Int)) : Prop := (ps.map (overC c)).sum = 0 ∧ Fair (Mo c w ps.length) (ps.map (overC c))
def spWithin (K : PySem.W.Frag) (P : Addr) : Sp := fun vs H Q _ => ∃ (w : Int) (l : Addr) (ps : List (Int × Int)), vs = [.int w, .ref l] ∧ Bt 2000 w ∧ RowAt K H l ps ∧ (∀ q ∈ ps, Okp 250 q) ∧ ps.length ≤ 16 ∧ LamX.TabS H P qLam ∧
  ∀ H' b, LamX.ExtN H H' → LamX.TabS H' P qLam → (∀ c, 0 < c → (∀ q ∈ ps, 0 < q.2 ∧ q.2 ∣ c) → (b = true ↔ WithinC c w ps)) → Q (.bl b) H'
theorem RankedP.lt {ps : List (Int × Int)} {ord : List Nat} (h : RankedP ps ord) : ord.length = ps.length ∧ ∀ i ∈ ord, i < ps.length :=
  ⟨by rw [h.1.length_eq, List.length_range], fun _ hi => List.mem_range.mp (h.1.mem_iff.mp hi)⟩
theorem sumK_over {ps : List (Int × Int)} {ord : List Nat} {c : Int} (h : RankedP ps ord) (hc : 0 < c) (hp : ∀ q ∈ ps, 0 < q.2 ∧ q.2 ∣ c) (k : Nat) : sumK ps ord k = lo (tops (ps.map (overC c)) ord k) c :=
  sum_places hc hp fun i hi => h.lt.2 i (List.mem_of_mem_take hi)
theorem fallsAt_iff {w : Int} {ps : List (Int × Int)} {ord : List Nat} {c : Int} (h : RankedP ps ord) (hc : 0 < c) (hp : ∀ q ∈ ps, 0 < q.2 ∧ q.2 ∣ c) (k : Nat) : fallsAt w ps ord k = true ↔ ¬ tops (ps.map (overC c)) ord k ≤ Mo c w ps.length k := by
  unfold fallsAt
  rw [decide_eq_true_eq, sumK_over h hc hp k, lo_less (by decide) hc]
  unfold Mo
  omega
theorem fallV_none {w : Int} {ps : List (Int × Int)} {ord : List Nat} {c : Int} (h : RankedP ps ord) (hc : 0 < c) (hp : ∀ q ∈ ps, 0 < q.2 ∧ q.2 ∣ c) : fallV w ps ord = .non ↔ Fair (Mo c w ps.length) (ps.map (overC c)) := by
  have rk := (ranked_c hc hp).mpr h
  rw [← fair_tops rk, List.length_map]
  unfold fallV
  cases z : (List.range (ps.length + 1)).find? (fallsAt w ps ord) with
  | none =>
    refine ⟨fun _ k hk => ?_, fun _ => rfl⟩
    have := List.find?_eq_none.mp z k (List.mem_range.mpr (by omega))
    rw [fallsAt_iff h hc hp] at this
    exact Decidable.not_not.mp this
  | some k =>
    refine ⟨fun e => (by cases e), fun f => ?_⟩
    have h1 := List.find?_some z
    have h2 := List.mem_range.mp (List.mem_of_find?_eq_some z)
    rw [fallsAt_iff h hc hp] at h1
    exact absurd (f k (by omega)) h1
theorem sumK_succ {ps : List (Int × Int)} {ord : List Nat} {k j : Nat} (h : ord[k]? = some j) : sumK ps ord (k + 1) = pl (sumK ps ord k) (gp ps j) := by
  unfold sumK
  rw [List.take_add_one, h]
  simp
theorem sumK_okp {n : Nat} {ps : List (Int × Int)} {ord : List Nat} (h : RankedP ps ord) (hk : ∀ q ∈ ps, Okp n q) (hn : (ps.length + 2) * (n + 1) ≤ 4400) (k : Nat) : Okp 4400 (sumK ps ord k) := by
  have o := fold_okp (n := n + 1) (m := n) ((ord.take k).map (gp ps)) (0, 1) ⟨by decide, by unfold Bt; exact Nat.two_pow_pos (n + 1), by unfold Bt; exact Nat.one_lt_two_pow (by omega)⟩ (fun z hz => by
    obtain ⟨i, hi, rfl⟩ := List.mem_map.mp hz
    exact hk _ (gp_mem (h.lt.2 i (List.mem_of_mem_take hi))))
  refine o.mono ?_
  rw [List.length_map, List.length_take]
  have h1 : min k ord.length ≤ ps.length := by rw [h.lt.1]; exact Nat.min_le_right _ _
  have h2 := Nat.mul_le_mul_right (n + 1) h1
  rw [Nat.add_mul] at hn
  omega
theorem eqv_pairs (a b c d : Int) : PyData.eqv (pd a b) (pd c d) = decide (a = c ∧ b = d) := by
  simp [pd, PyData.eqv, PyData.eqvAll, Bool.beq_eq_decide_eq]
theorem lo_is_zero {x c : Int} (hc : 0 < c) : lo x c = (0, 1) ↔ x = 0 := by
  constructor
  · intro h
    have := lo_cross x c
    rw [h] at this
    simp at this
    omega
  · rintro rfl
    exact lo_zero hc
theorem find_at {p : Nat → Bool} {n k : Nat} (h : k < n) (hk : p k = true) (hb : ∀ j, j < k → p j = false) : (List.range n).find? p = some k := by
  rw [List.find?_range_eq_some]
  exact ⟨hk, List.mem_range.mpr h, fun j hj => by rw [hb j hj]; rfl⟩
theorem find_no {p : Nat → Bool} {n : Nat} (hb : ∀ j, j < n → p j = false) : (List.range n).find? p = none := by
  rw [List.find?_range_eq_none]
  exact fun j hj => by rw [hb j hj]; rfl
end WS
set_option Elab.async false
set_option linter.all false
set_option maxRecDepth 100000
set_option maxHeartbeats 4000000
namespace WS
open PySem PySem.Spec PyProof.Rows L2
/-! ### lists of numbers, of parts, of lists -/
theorem same_upd {H H' : Hp} {F : Addr} {o : HO} (s : Same H H') (n : H F = none) : Same H (upd H' F o) := fun b x e => by
  rw [upd_ne (ne_of_none e n)]
  exact s b x e
theorem dpall_ints {K : PySem.W.Frag} {H : Hp} : ∀ ns : List Int, DpAll K H (ns.map V.int) (ns.map PyData.int)
  | [] => .nil
  | n :: ns => .cons (.int n) (dpall_ints ns)
theorem lay_ints : ∀ ns : List Int, PyData.canLayAll0 (ns.map PyData.int) = true ∧ PyData.depthAll (ns.map PyData.int) ≤ 1
  | [] => ⟨by simp [PyData.canLayAll0], by simp [PyData.depthAll]⟩
  | n :: ns => by
    obtain ⟨a, b⟩ := lay_ints ns
    refine ⟨by simp [PyData.canLayAll0, PyData.canLay0, a], ?_⟩
    simp only [List.map_cons, PyData.depthAll, PyData.depth]
    omega
theorem shaped_ints (ns : List Int) : SeqAt.shaped (.list (ns.map PyData.int)) = true := by
  obtain ⟨a, b⟩ := lay_ints ns
  unfold SeqAt.shaped
  rw [show (PyData.list (ns.map PyData.int)).canLay0 = true from by simp only [PyData.canLay0]; exact a, show (PyData.list (ns.map PyData.int)).depth = PyData.depthAll (ns.map PyData.int) + 1 from by simp only [PyData.depth], Bool.true_and, decide_eq_true_eq]
  omega
theorem ints_dp {K : PySem.W.Frag} {H : Hp} {l : Addr} {ns : List Int} (h : SqL K H l (ns.map V.int)) : Dp K H (.ref l) (.list (ns.map PyData.int)) := .lst h (dpall_ints ns)
theorem nats_int (ns : List Nat) : ns.map (fun j : Nat => V.int j) = (ns.map fun j : Nat => (j : Int)).map V.int := by rw [List.map_map]; rfl
def pdP (p : Int × Int) : PyData := pd p.1 p.2
theorem dpall_parts {K : PySem.W.Frag} {H : Hp} : ∀ {rs : List V} {ps : List (Int × Int)}, Parts K H rs ps → DpAll K H rs (ps.map pdP)
  | [], [], _ => .nil
  | r :: rs, p :: ps, h => by
    obtain ⟨p', e, t⟩ := h.2 0 r rfl
    obtain rfl : p = p' := by simpa using e
    exact .cons (pd_dp t) (dpall_parts ⟨by have := h.1; simpa using this, fun i v hv => by simpa using h.2 (i + 1) v (by simpa using hv)⟩)
  | [], p :: ps, h => by have := h.1; simp at this
  | r :: rs, [], h => by have := h.1; simp at this
theorem lay_parts : ∀ ps : List (Int × Int), PyData.canLayAll0 (ps.map pdP) = true ∧ PyData.depthAll (ps.map pdP) ≤ 4
  | [] => ⟨by simp [PyData.canLayAll0], by simp [PyData.depthAll]⟩
  | n :: ns => by
    obtain ⟨a, b⟩ := lay_parts ns
    refine ⟨by simp [PyData.canLayAll0, PyData.canLay0, pdP, pd, a], ?_⟩
    simp only [List.map_cons, PyData.depthAll, PyData.depth, pdP, pd]
    omega
theorem shaped_parts (ps : List (Int × Int)) : SeqAt.shaped (.list (ps.map pdP)) = true ∧ SeqAt.shaped (.tuple (ps.map pdP)) = true := by
  obtain ⟨a, b⟩ := lay_parts ps
  unfold SeqAt.shaped
  constructor
  · rw [show (PyData.list (ps.map pdP)).canLay0 = true from by simp only [PyData.canLay0]; exact a, show (PyData.list (ps.map pdP)).depth = PyData.depthAll (ps.map pdP) + 1 from by simp only [PyData.depth], Bool.true_and, decide_eq_true_eq]
    omega
  · rw [show (PyData.tuple (ps.map pdP)).canLay0 = true from by simp only [PyData.canLay0]; exact a, show (PyData.tuple (ps.map pdP)).depth = PyData.depthAll (ps.map pdP) + 1 from by simp only [PyData.depth], Bool.true_and, decide_eq_true_eq]
    omega
theorem eqv_nil {α : Type} (f : α → PyData) (ns : List α) : PyData.eqv (.list (ns.map f)) (.list []) = ns.isEmpty := by
  cases ns <;> simp [PyData.eqv, PyData.eqvAll]
theorem dp_nil {K : PySem.W.Frag} {H : Hp} {l : Addr} (h : SqL K H l []) : Dp K H (.ref l) (.list []) := .lst h .nil
theorem shaped_nil : SeqAt.shaped (.list []) = true := rfl
theorem rgV_nat (n : Nat) : rgV 0 (n : Int) = (List.range n).map fun j : Nat => V.int j := by
  unfold rgV
  simp
/-- lists of places -/
def Lists (H : Hp) (vs : List V) (ss : List (List Nat)) : Prop := vs.length = ss.length ∧ ∀ (i : Nat) v, vs[i]? = some v → ∃ a s, v = .ref a ∧ ss[i]? = some s ∧ H a = some (.lst (s.map fun j : Nat => V.int j))
theorem Lists.same {H H' : Hp} {vs : List V} {ss : List (List Nat)} (h : Lists H vs ss) (s : Same H H') : Lists H' vs ss := ⟨h.1, fun i v e => by
  obtain ⟨a, t, h1, h2, h3⟩ := h.2 i v e
  exact ⟨a, t, h1, h2, s _ _ h3⟩⟩
theorem Lists.upd {H : Hp} {D : Addr} {o : HO} {vs : List V} {ss : List (List Nat)} (h : Lists H vs ss) (n : ∀ v ∈ vs, v ≠ .ref D) : Lists (upd H D o) vs ss := ⟨h.1, fun i v e => by
  obtain ⟨a, t, h1, h2, h3⟩ := h.2 i v e
  refine ⟨a, t, h1, h2, ?_⟩
  rw [upd_ne fun z => n v (List.mem_of_getElem? e) (by rw [h1, z])]
  exact h3⟩
theorem Lists.add {H : Hp} {vs : List V} {ss : List (List Nat)} {a : Addr} {s : List Nat} (h : Lists H vs ss) (ha : H a = some (.lst (s.map fun j : Nat => V.int j))) : Lists H (vs ++ [.ref a]) (ss ++ [s]) := by
  refine ⟨by simp [h.1], fun i v e => ?_⟩
  rcases Nat.lt_or_ge i vs.length with hi | hi
  · rw [List.getElem?_append_left hi] at e
    obtain ⟨b, t, h1, h2, h3⟩ := h.2 i v e
    exact ⟨b, t, h1, by rw [List.getElem?_append_left (by rw [← h.1]; exact hi)]; exact h2, h3⟩
  · rw [List.getElem?_append_right hi] at e
    have hi2 : i - vs.length = 0 := by
      rcases Nat.eq_zero_or_pos (i - vs.length) with z | z
      · exact z
      · rw [List.getElem?_eq_none (show [V.ref a].length ≤ _ from z)] at e; cases e
    rw [hi2] at e
    refine ⟨a, s, by simpa using e.symm, ?_, ha⟩
    rw [List.getElem?_append_right (by rw [← h.1]; exact hi), ← h.1, hi2]
    rfl
theorem Lists.append {H : Hp} {vs vs' : List V} {ss ss' : List (List Nat)} (h : Lists H vs ss) (k : Lists H vs' ss') : Lists H (vs ++ vs') (ss ++ ss') := by
  refine ⟨by simp [h.1, k.1], fun i v e => ?_⟩
  rcases Nat.lt_or_ge i vs.length with hi | hi
  · rw [List.getElem?_append_left hi] at e
    obtain ⟨b, t, h1, h2, h3⟩ := h.2 i v e
    exact ⟨b, t, h1, by rw [List.getElem?_append_left (by rw [← h.1]; exact hi)]; exact h2, h3⟩
  · rw [List.getElem?_append_right hi] at e
    obtain ⟨b, t, h1, h2, h3⟩ := k.2 _ v e
    exact ⟨b, t, h1, by rw [List.getElem?_append_right (by rw [← h.1]; exact hi), ← h.1]; exact h2, h3⟩
def spSets : Sp := fun vs H Q _ => ∃ n : Nat, vs = [.int n] ∧ n ≤ 12 ∧ ∀ H' p as, Same H H' → H p = none → H' p = some (.lst as) → Lists H' as (setsL n) → Q (.ref p) H'
def spFirstL (K : PySem.W.Frag) : Sp := fun vs H Q _ => ∃ (l : Addr) (rs : List V) (ps : List (Int × Int)), vs = [.ref l] ∧ SqL K H l rs ∧ Parts K H rs ps ∧ (∀ q ∈ ps, Okp 4400 q) ∧ ps.length ≤ 1000 ∧
  ∀ (H' : Hp) (p : Addr) (os : List Nat), Same H H' → H p = none → H' p = some (.lst (os.map fun j : Nat => V.int j)) → (∀ o ∈ os, o < ps.length) → Q (.ref p) H'
theorem Parts.at {K : PySem.W.Frag} {H : Hp} {rs : List V} {ps : List (Int × Int)} (h : Parts K H rs ps) {i : Nat} (hi : i < ps.length) : ∃ v, rs[i]? = some v ∧ gp ps i ∈ ps ∧ TupI K H v (gp ps i).1 (gp ps i).2 := by
  obtain ⟨v, hv⟩ : ∃ v, rs[i]? = some v := ⟨_, List.getElem?_eq_getElem (by rw [h.1]; exact hi)⟩
  obtain ⟨p, hp, t⟩ := h.2 i v hv
  have e : gp ps i = p := by unfold gp; rw [List.getD_eq_getElem?_getD, hp]; rfl
  exact ⟨v, hv, gp_mem hi, by rw [e]; exact t⟩
end WS
set_option Elab.async false
set_option linter.all false
set_option maxRecDepth 100000
set_option maxHeartbeats 4000000
namespace WS
open PySem PySem.Spec PyProof.Rows L2
/-! ### bounds of sums over small belows; due -/
def Okq (n d : Nat) (p : Int × Int) : Prop := 0 < p.2 ∧ Bt n p.1 ∧ Bt d p.2
theorem Okq.pl {n d m e : Nat} {p q : Int × Int} (h : Okq n d p) (k : Okq m e q) : Okq (max (n + e) (m + d) + 1) (d + e) (pl p q) := by
  have hp : 0 < p.2 * q.2 := Int.mul_pos h.1 k.1
  refine ⟨(lo_lowest hp).1, ?_, (h.2.2.mul k.2.2).lo2⟩
  exact (((h.2.1.mul k.2.2).mono (Nat.le_max_left _ _)).add ((k.2.1.mul h.2.2).mono (Nat.le_max_right _ _))).lo1
theorem Okq.mono {n d m e : Nat} {p : Int × Int} (h : Okq n d p) (a : n ≤ m) (b : d ≤ e) : Okq m e p := ⟨h.1, h.2.1.mono a, h.2.2.mono b⟩
theorem Okq.okp {n d m : Nat} {p : Int × Int} (h : Okq n d p) (a : n ≤ m) (b : d ≤ m) : Okp m p := ⟨h.1, h.2.1.mono a, h.2.2.mono b⟩
theorem fold_okq : ∀ (ps : List (Int × Int)) (i : Nat) (p : Int × Int), Okq (98 + 7 * i) (1 + 6 * i) p → (∀ q ∈ ps, Okq 97 6 q) → Okq (98 + 7 * (i + ps.length)) (1 + 6 * (i + ps.length)) (ps.foldl pl p)
  | [], i, p, h, _ => by simpa using h
  | q :: ps, i, p, h, k => by
    have h1 := (h.pl (k q List.mem_cons_self)).mono (m := 98 + 7 * (i + 1)) (e := 1 + 6 * (i + 1)) (by omega) (by omega)
    have h2 := fold_okq ps (i + 1) _ h1 fun r hr => k r (List.mem_cons_of_mem _ hr)
    rw [List.foldl_cons, List.length_cons]
    exact h2.mono (by omega) (by omega)
theorem lo_neg (a b : Int) : lo (0 - a) b = (0 - (lo a b).1, (lo a b).2) := by
  unfold lo
  rw [Int.zero_sub, Int.neg_gcd, Int.zero_sub, Int.neg_ediv_of_dvd (Int.gcd_dvd_left a b)]
def spRowL (K : PySem.W.Frag) : Sp := fun vs H Q _ => ∃ (p : Addr) (m : Nat), vs = [.ref p, .int m] ∧ PotAt H p ∧ m ≤ 7 ∧ ∀ H' D rs ps, SameX p H H' → PotAt H' p → H D = none → H' D = some (.lst rs) → Parts K H' rs ps → ps.length = m → (∀ q ∈ ps, Lowest q.1 q.2 ∧ Okq 160 60 q) → Q (.ref D) H'
def spWeightL (K : PySem.W.Frag) : Sp := fun vs H Q _ => ∃ (l : Addr) (rs : List V) (ps : List (Int × Int)), vs = [.ref l] ∧ SqL K H l rs ∧ Parts K H rs ps ∧ (∀ q ∈ ps, Okp 200 q) ∧ ps.length ≤ 7 ∧ ∀ H' i, Same H H' → 1 ≤ i → Bt 1990 i → Q (.int i) H'
def spDueL (K : PySem.W.Frag) : Sp := fun vs H Q _ => ∃ (wt : Int) (l : Addr) (rs : List V) (ps : List (Int × Int)), vs = [.int wt, .ref l] ∧ Bt 2000 wt ∧ SqL K H l rs ∧ Parts K H rs ps ∧ (∀ q ∈ ps, Okp 250 q) ∧ ps.length ≤ 7 ∧
  ∀ H' b, Same H H' → (∀ c, 0 < c → (∀ q ∈ ps, 0 < q.2 ∧ q.2 ∣ c) → (b = true ↔ WithinC c wt ps)) → Q (.bl b) H'
def spTurnedL (K : PySem.W.Frag) : Sp := fun vs H Q _ => ∃ (p l : Addr) (rs : List V) (ps : List (Int × Int)), vs = [.ref p, .ref l] ∧ PotAt H p ∧ p ≠ l ∧ SqL K H l rs ∧ Parts K H rs ps ∧ ps.length ≤ 7 ∧
  ∀ H' t rs' ps', SameX p H H' → PotAt H' p → SqT K H' t rs' → Parts K H' rs' ps' → ps'.Perm ps → Q (.ref t) H'
/-- what a set of places comes to is within the most, both sides -/
def okSet (wt : Int) (ps : List (Int × Int)) (s : List Nat) : Bool :=
  !decide ((lo (wt * (s.length : Nat) * ((ps.length : Int) - (s.length : Nat))) 2).1 * ((s.map (gp ps)).foldl pl (0, 1)).2 < ((s.map (gp ps)).foldl pl (0, 1)).1 * (lo (wt * (s.length : Nat) * ((ps.length : Int) - (s.length : Nat))) 2).2) &&
  !decide (((s.map (gp ps)).foldl pl (0, 1)).1 * (lo (wt * (s.length : Nat) * ((ps.length : Int) - (s.length : Nat))) 2).2 < (0 - (lo (wt * (s.length : Nat) * ((ps.length : Int) - (s.length : Nat))) 2).1) * ((s.map (gp ps)).foldl pl (0, 1)).2)
theorem okSet_iff {wt c : Int} {ps : List (Int × Int)} {s : List Nat} (hs : s ∈ setsL ps.length) (hc : 0 < c) (hp : ∀ q ∈ ps, 0 < q.2 ∧ q.2 ∣ c) :
    okSet wt ps s = true ↔ (s.map (gd (ps.map (overC c)))).sum ≤ Mo c wt ps.length s.length ∧ 2 * -((s.map (gd (ps.map (overC c)))).sum) ≤ wt * (s.length : Nat) * ((ps.length : Int) - (s.length : Nat)) * c := by
  unfold okSet
  rw [sum_places hc hp fun i hi => (setsL_lt hs).1 i hi]
  generalize hS : (s.map (gd (ps.map (overC c)))).sum = S
  generalize hA : wt * (s.length : Nat) * ((ps.length : Int) - (s.length : Nat)) = A
  have h1 := lo_less (a := A) (b := 2) (c := S) (d := c) (by decide) hc
  have h2 := lo_less (a := S) (b := c) (c := 0 - A) (d := 2) hc (by decide)
  rw [lo_neg] at h2
  rw [Bool.and_eq_true, Bool.not_eq_true', Bool.not_eq_true', decide_eq_false_iff_not, decide_eq_false_iff_not, h1]
  have h2' : ((lo S c).1 * (lo A 2).2 < (0 - (lo A 2).1) * (lo S c).2) ↔ S * 2 < (0 - A) * c := h2
  rw [h2']
  unfold Mo
  rw [hA]
  have e : (0 - A) * c = -(A * c) := by grind
  rw [e]
  generalize A * c = B
  omega
theorem due_iff {wt c : Int} {ps : List (Int × Int)} (hc : 0 < c) (hp : ∀ q ∈ ps, 0 < q.2 ∧ q.2 ∣ c) (hz : (ps.map (overC c)).sum = 0) : (∀ s ∈ setsL ps.length, okSet wt ps s = true) ↔ WithinC c wt ps := by
  have len : (ps.map (overC c)).length = ps.length := List.length_map _
  constructor
  · intro h
    refine ⟨hz, fair_sets.mp fun s hs => ?_⟩
    rw [len] at hs
    exact ((okSet_iff hs hc hp).mp (h s hs)).1
  · intro h s hs
    rw [okSet_iff hs hc hp]
    refine ⟨?_, ?_⟩
    · exact fair_sets.mpr h.2 s (by rw [len]; exact hs)
    · have l := fair_low h.2 h.1 (fun k hk => ?_) (s := s) (by rw [len]; exact hs)
      · unfold Mo at l
        generalize wt * (s.length : Nat) * ((ps.length : Int) - (s.length : Nat)) * c = B at *
        omega
      · rw [len] at hk ⊢
        unfold Mo
        have e : ((ps.length - k : Nat) : Int) = (ps.length : Int) - k := by omega
        rw [e]
        congr 1
        grind
theorem WithinC.perm {c wt : Int} {ps ps' : List (Int × Int)} (p : ps'.Perm ps) : WithinC c wt ps' ↔ WithinC c wt ps := by
  have q := p.map (overC c)
  unfold WithinC
  rw [perm_sum q, p.length_eq]
  exact and_congr_right fun _ => ⟨fun f => f.perm q, fun f => f.perm q.symm⟩
theorem mem_cutV {xs : List V} {a b : Option Int} {x : V} (h : x ∈ cutV xs a b) : x ∈ xs := List.mem_of_mem_drop (List.mem_of_mem_take h)
theorem cutV_to (xs : List V) (k : Nat) : (cutV xs none (some (k : Int))).length ≤ k := by
  unfold cutV
  rw [HT.sIx_none, HT.sIx_nat, List.length_take]
  omega
theorem Parts.erase {K : PySem.W.Frag} {H : Hp} {rs : List V} {ps : List (Int × Int)} (h : Parts K H rs ps) (k : Nat) : Parts K H (rs.eraseIdx k) (ps.eraseIdx k) := by
  refine ⟨by rw [List.length_eraseIdx, List.length_eraseIdx, h.1], fun i v e => ?_⟩
  rw [List.getElem?_eraseIdx] at e ⊢
  split at e
  · rename_i c
    rw [if_pos c]
    exact h.2 i v e
  · rename_i c
    rw [if_neg c]
    exact h.2 _ v e
theorem erase_perm {α : Type} : ∀ (l : List α) (k : Nat) (x : α), l[k]? = some x → (x :: l.eraseIdx k).Perm l
  | [], k, x, h => by simp at h
  | a :: l, 0, x, h => by
    obtain rfl : a = x := by simpa using h
    exact .refl _
  | a :: l, k + 1, x, h => by
    have h := erase_perm l k x (by simpa using h)
    exact (List.Perm.swap a x _).trans (h.cons a)
theorem Parts.rev {K : PySem.W.Frag} {H : Hp} {rs : List V} {ps : List (Int × Int)} (h : Parts K H rs ps) : Parts K H rs.reverse ps.reverse := by
  refine ⟨by simp [h.1], fun i v e => ?_⟩
  have hi : i < rs.length := by
    have := (List.getElem?_eq_some_iff.mp e).1
    simpa using this
  rw [List.getElem?_reverse hi] at e
  rw [List.getElem?_reverse (by rw [← h.1]; exact hi), ← h.1]
  exact h.2 _ v e
def spOneT (P : Addr) : Sp := fun vs H Q _ => ∃ p, vs = [.ref p] ∧ PotAt H p ∧ LamX.TabS H P qLam ∧ ∀ H', (∀ b o, b ≠ p → H b = some o → (∀ ps, o ≠ .tbl ps) → H' b = some o) → LamX.TabS H' P qLam → Q (.bl true) H'
theorem seq_keepN {K : PySem.W.Frag} {H H' : Hp} {a : Addr} {xs : List V} (h : SqL K H a xs) (s : ∀ o, H a = some o → (∀ ps, o ≠ .tbl ps) → H' a = some o) : SqL K H' a xs := by
  rcases h with (h | ⟨o, h⟩) | h
  · exact .inl (.inl (s _ h (fun _ z => by cases z)))
  · exact .inl (.inr ⟨o, s _ h (fun _ z => by cases z)⟩)
  · exact .inr h
end WS
set_option Elab.async false
set_option linter.all false
set_option maxRecDepth 100000
set_option maxHeartbeats 4000000
namespace WS
open PySem PySem.Spec PyProof.Rows L2
/-! ### reprs of rows; the best of the sets; sorted places -/
theorem parts_show {n : Nat} (hn : 0 < n) (h19 : n ≤ 1900) : ∀ (qs : List (Int × Int)), (∀ q ∈ qs, Bt n q.1 ∧ Bt n q.2) → PyData.showableAll (qs.map pdP) = true ∧ PyData.hasDictAll (qs.map pdP) = false ∧ piled (PyData.shownAll (qs.map pdP)) ≤ qs.length * (2 * n + 10)
  | [], _ => ⟨by simp [PyData.showableAll], by simp [PyData.hasDictAll], by simp [PyData.shownAll, piled]⟩
  | q :: qs, h => by
    obtain ⟨a, b, c⟩ := parts_show hn h19 qs fun r hr => h r (List.mem_cons_of_mem _ hr)
    obtain ⟨h1, h2⟩ := h q List.mem_cons_self
    refine ⟨?_, ?_, ?_⟩
    · show ((pdP q).showable && PyData.showableAll (qs.map pdP)) = true
      rw [a, show (pdP q).showable = true from pd_show (h1.mono h19) (h2.mono h19)]
      rfl
    · show ((pdP q).hasDict || PyData.hasDictAll (qs.map pdP)) = false
      rw [b]
      rfl
    · show piled ((pdP q).shown :: PyData.shownAll (qs.map pdP)) ≤ _
      rw [piled_cons, List.length_cons, Nat.succ_mul]
      have := pd_len hn h1 h2
      show (pd q.1 q.2).shown.length + 2 + _ ≤ _
      omega
theorem lst_show {n : Nat} (hn : 0 < n) (h19 : n ≤ 1900) {qs : List (Int × Int)} (h : ∀ q ∈ qs, Bt n q.1 ∧ Bt n q.2) (hl : qs.length ≤ 100) :
    (PyData.list (qs.map pdP)).showable = true ∧ (PyData.list (qs.map pdP)).hasDict = false ∧ (PyData.list (qs.map pdP)).depth ≤ 60 ∧ (PyData.list (qs.map pdP)).shown.length ≤ sizeLine := by
  obtain ⟨a, b, c⟩ := parts_show hn h19 qs h
  refine ⟨a, b, ?_, ?_⟩
  · have := (lay_parts qs).2
    rw [show (PyData.list (qs.map pdP)).depth = PyData.depthAll (qs.map pdP) + 1 from by simp only [PyData.depth]]
    omega
  · have e := shown_lst_len (qs.map pdP)
    rw [sizeLine_eq]
    have : qs.length * (2 * n + 10) ≤ 100 * 3810 := Nat.mul_le_mul hl (by omega)
    omega
theorem tup_show {n : Nat} (hn : 0 < n) (h19 : n ≤ 1900) {qs : List (Int × Int)} (h : ∀ q ∈ qs, Bt n q.1 ∧ Bt n q.2) (hl : qs.length ≤ 100) :
    (PyData.tuple (qs.map pdP)).showable = true ∧ (PyData.tuple (qs.map pdP)).hasDict = false ∧ (PyData.tuple (qs.map pdP)).depth ≤ 60 ∧ (PyData.tuple (qs.map pdP)).shown.length ≤ sizeLine := by
  obtain ⟨a, b, c⟩ := parts_show hn h19 qs h
  refine ⟨a, b, ?_, ?_⟩
  · have := (lay_parts qs).2
    rw [show (PyData.tuple (qs.map pdP)).depth = PyData.depthAll (qs.map pdP) + 1 from by simp only [PyData.depth]]
    omega
  · have e := shown_tup_len (qs.map pdP)
    rw [sizeLine_eq]
    have : qs.length * (2 * n + 10) ≤ 100 * 3810 := Nat.mul_le_mul hl (by omega)
    omega
theorem sumK_okq {ps : List (Int × Int)} {ord : List Nat} (h : RankedP ps ord) (hk : ∀ q ∈ ps, Okq 97 6 q) (hn : ps.length ≤ 7) (k : Nat) : Okq 147 43 (sumK ps ord k) := by
  have o := fold_okq ((ord.take k).map (gp ps)) 0 (0, 1) ⟨by decide, by unfold Bt; decide +kernel, by unfold Bt; decide +kernel⟩ (fun z hz => by
    obtain ⟨i, hi, rfl⟩ := List.mem_map.mp hz
    exact hk _ (gp_mem (h.lt.2 i (List.mem_of_mem_take hi))))
  have h1 : min k ord.length ≤ 7 := by rw [h.lt.1]; omega
  rw [List.length_map, List.length_take] at o
  exact o.mono (by omega) (by omega)
theorem sumsP_at {ps : List (Int × Int)} {ord : List Nat} {k : Nat} (h : k ≤ ps.length) : (sumsP ps ord)[k]? = some (sumK ps ord k) := by
  unfold sumsP
  rw [List.getElem?_map, List.getElem?_range (by omega)]
  rfl
theorem sumsP_len (ps : List (Int × Int)) (ord : List Nat) : (sumsP ps ord).length = ps.length + 1 := by
  unfold sumsP
  rw [List.length_map, List.length_range]
theorem sumsP_mem {ps : List (Int × Int)} {ord : List Nat} {q : Int × Int} (h : q ∈ sumsP ps ord) : ∃ k, q = sumK ps ord k := by
  obtain ⟨k, _, rfl⟩ := List.mem_map.mp h
  exact ⟨k, rfl⟩
/-- a set that comes to the k greatest; no set of as many comes to more -/
theorem tops_set {xs : List Int} {ord : List Nat} (h : Ranked xs ord) {k : Nat} (hk : k ≤ xs.length) : ∃ s ∈ setsL xs.length, s.length = k ∧ (s.map (gd xs)).sum = tops xs ord k := by
  obtain ⟨p, d⟩ := ranked_zs h
  have len : ord.length = xs.length := by rw [h.1.length_eq, List.length_range]
  obtain ⟨ys, h1, h2⟩ := List.exists_perm_sublist (List.take_sublist k (ord.map (gd xs))) p
  obtain ⟨_, b⟩ := sets_sub xs xs.length (Nat.le_refl _)
  rw [List.take_length] at b
  obtain ⟨s, hs, e⟩ := b ys h2
  refine ⟨s, hs, ?_, ?_⟩
  · have : (s.map (gd xs)).length = k := by rw [e, h1.length_eq, List.length_take, List.length_map, len, Nat.min_eq_left hk]
    rwa [List.length_map] at this
  · rw [e, perm_sum h1]
    unfold tops
    rw [List.map_take]
theorem set_le_tops {xs : List Int} {ord : List Nat} (h : Ranked xs ord) {s : List Nat} (hs : s ∈ setsL xs.length) : (s.map (gd xs)).sum ≤ tops xs ord s.length := by
  obtain ⟨p, d⟩ := ranked_zs h
  obtain ⟨a, _⟩ := sets_sub xs xs.length (Nat.le_refl _)
  rw [List.take_length] at a
  obtain ⟨ys, h1, h2⟩ := List.exists_perm_sublist (a s hs) p.symm
  have h3 := sub_le_take d h2
  rw [h1.length_eq, List.length_map, perm_sum h1] at h3
  unfold tops
  rw [List.map_take]
  exact h3
def setSum (ps : List (Int × Int)) (s : List Nat) : Int × Int := (s.map (gp ps)).foldl pl (0, 1)
def valC (ps : List (Int × Int)) (s : List Nat) : Int := (s.map (gd (ps.map (overC (cmul ps))))).sum
theorem setSum_val {ps : List (Int × Int)} {s : List Nat} (hp : ∀ q ∈ ps, 0 < q.2) (hs : s ∈ setsL ps.length) : setSum ps s = lo (valC ps s) (cmul ps) := by
  obtain ⟨c0, cd⟩ := cmul_ok ps hp
  exact sum_places c0 cd fun i hi => (setsL_lt hs).1 i hi
theorem less_val {ps : List (Int × Int)} {s t : List Nat} (hp : ∀ q ∈ ps, 0 < q.2) (hs : s ∈ setsL ps.length) (ht : t ∈ setsL ps.length) : (setSum ps s).1 * (setSum ps t).2 < (setSum ps t).1 * (setSum ps s).2 ↔ valC ps s < valC ps t := by
  obtain ⟨c0, cd⟩ := cmul_ok ps hp
  rw [setSum_val hp hs, setSum_val hp ht, lo_less c0 c0]
  exact ⟨fun h => Int.lt_of_mul_lt_mul_right h (Int.le_of_lt c0), fun h => Int.mul_lt_mul_of_pos_right h c0⟩
/-- v is the best of the sets of k places among ss -/
def BestOf (K : PySem.W.Frag) (H : Hp) (ps : List (Int × Int)) (ss : List (List Nat)) (k : Nat) (v : V) : Prop :=
  (v = .non ∧ ∀ s ∈ ss, s.length ≠ k) ∨ ∃ s ∈ ss, s.length = k ∧ TupI K H v (setSum ps s).1 (setSum ps s).2 ∧ ∀ s' ∈ ss, s'.length = k → valC ps s' ≤ valC ps s
theorem BestOf.k {K : PySem.W.Frag} {H H' : Hp} {ps : List (Int × Int)} {ss : List (List Nat)} {k : Nat} {v : V} (h : BestOf K H ps ss k v) (s : KT H H') : BestOf K H' ps ss k v := by
  rcases h with h | ⟨t, a, b, c, d⟩
  · exact .inl h
  · exact .inr ⟨t, a, b, c.k s, d⟩
theorem BestOf.other {K : PySem.W.Frag} {H : Hp} {ps : List (Int × Int)} {ss : List (List Nat)} {st : List Nat} {k : Nat} {v : V} (h : BestOf K H ps ss k v) (n : st.length ≠ k) : BestOf K H ps (ss ++ [st]) k v := by
  rcases h with ⟨h1, h2⟩ | ⟨t, a, b, c, d⟩
  · refine .inl ⟨h1, fun s hs => ?_⟩
    rcases List.mem_append.mp hs with hs | hs
    · exact h2 s hs
    · rw [List.mem_singleton.mp hs]; exact n
  · refine .inr ⟨t, List.mem_append_left _ a, b, c, fun s hs l => ?_⟩
    rcases List.mem_append.mp hs with hs | hs
    · exact d s hs l
    · rw [List.mem_singleton.mp hs] at l; exact absurd l n
theorem BestOf.stay {K : PySem.W.Frag} {H : Hp} {ps : List (Int × Int)} {ss : List (List Nat)} {st s0 : List Nat} {k : Nat} {v : V} (m : s0 ∈ ss) (l0 : s0.length = k) (t : TupI K H v (setSum ps s0).1 (setSum ps s0).2) (mx : ∀ s' ∈ ss, s'.length = k → valC ps s' ≤ valC ps s0) (n : ¬ valC ps s0 < valC ps st) : BestOf K H ps (ss ++ [st]) k v := by
  refine .inr ⟨s0, List.mem_append_left _ m, l0, t, fun s hs l => ?_⟩
  rcases List.mem_append.mp hs with hs | hs
  · exact mx s hs l
  · rw [List.mem_singleton.mp hs]; omega
theorem BestOf.put {K : PySem.W.Frag} {H : Hp} {ps : List (Int × Int)} {ss : List (List Nat)} {st : List Nat} {k : Nat} {t : V} (l : st.length = k) (tt : TupI K H t (setSum ps st).1 (setSum ps st).2) (mx : ∀ s' ∈ ss, s'.length = k → valC ps s' ≤ valC ps st) : BestOf K H ps (ss ++ [st]) k t := by
  refine .inr ⟨st, List.mem_append_right _ (List.mem_singleton.mpr rfl), l, tt, fun s hs l => ?_⟩
  rcases List.mem_append.mp hs with hs | hs
  · exact mx s hs l
  · rw [List.mem_singleton.mp hs]; exact Int.le_refl _
theorem best_is {K : PySem.W.Frag} {H : Hp} {ps : List (Int × Int)} {k : Nat} {v : V} {ord : List Nat} (hp : ∀ q ∈ ps, 0 < q.2) (rk : RankedP ps ord) (hk : k ≤ ps.length) (h : BestOf K H ps (setsL ps.length) k v) : TupI K H v (sumK ps ord k).1 (sumK ps ord k).2 := by
  obtain ⟨c0, cd⟩ := cmul_ok ps hp
  have rk' := (ranked_c c0 cd).mpr rk
  have len : (ps.map (overC (cmul ps))).length = ps.length := List.length_map _
  obtain ⟨s0, m0, l0, e0⟩ := tops_set rk' (k := k) (by rw [len]; exact hk)
  rw [len] at m0
  rcases h with ⟨_, h⟩ | ⟨s, ms, ls, t, mx⟩
  · exact absurd l0 (h s0 m0)
  · have h1 := mx s0 m0 l0
    have h2 := set_le_tops rk' (s := s) (by rw [len]; exact ms)
    rw [ls] at h2
    have e0 : valC ps s0 = tops (ps.map (overC (cmul ps))) ord k := e0
    have h2 : valC ps s ≤ tops (ps.map (overC (cmul ps))) ord k := h2
    rw [sumK_over rk c0 cd k]
    rw [setSum_val hp ms] at t
    have : valC ps s = tops (ps.map (overC (cmul ps))) ord k := by omega
    rw [← this]
    exact t
theorem sorted_range_eq {ns : List Int} {n : Nat} (p : ns.Perm ((List.range n).map fun j : Nat => (j : Int))) (s : ns.Pairwise (· ≤ ·)) : ns = (List.range n).map fun j : Nat => (j : Int) := by
  refine List.Perm.eq_of_pairwise (le := fun a b => decide (a ≤ b)) (fun a b _ _ h1 h2 => ?_) (s.imp fun h => by simpa using h) ?_ p
  · simp at h1 h2
    omega
  · refine List.pairwise_map.mpr (List.pairwise_lt_range.imp fun h => ?_)
    simp
    omega
def spRow17 (K : PySem.W.Frag) : Sp := fun vs H Q _ => ∃ p : Addr, vs = [.ref p] ∧ PotAt H p ∧ ∀ H' t rs ps, SameX p H H' → PotAt H' p → SqT K H' t rs → Parts K H' rs ps → ps.length ≤ 7 → (∀ q ∈ ps, Lowest q.1 q.2 ∧ Okq 97 6 q) → Q (.ref t) H'
def spDue17 (K : PySem.W.Frag) : Sp := fun vs H Q _ => ∃ (l : Addr) (rs : List V) (ps : List (Int × Int)), vs = [.ref l] ∧ SqT K H l rs ∧ Parts K H rs ps ∧ (∀ q ∈ ps, Okq 97 6 q) ∧ ps.length ≤ 7 ∧
  ∀ H' D bs, Same H H' → H D = none → H' D = some (.lst bs) → (∀ ord, RankedP ps ord → Parts K H' bs (sumsP ps ord)) → Q (.ref D) H'
def spOrd (K : PySem.W.Frag) : Sp := fun vs H Q _ => ∃ (l o : Addr) (rs : List V) (ps : List (Int × Int)) (ord : List Nat), vs = [.ref l, .ref o] ∧ SqT K H l rs ∧ Parts K H rs ps ∧ (∀ q ∈ ps, Okp 4400 q) ∧ ps.length ≤ 1000 ∧ H o = some (.lst (ord.map fun j : Nat => V.int j)) ∧ RankedP ps ord ∧ ∀ H', Same H H' → Q (.bl true) H'
def spWeight17 (K : PySem.W.Frag) : Sp := fun vs H Q _ => ∃ (p D : Addr) (bs : List V) (qs : List (Int × Int)), vs = [.ref p, .ref D] ∧ PotAt H p ∧ D ≠ p ∧ H D = some (.lst bs) ∧ Parts K H bs qs ∧ (∀ q ∈ qs, Okq 147 43 q) ∧ 1 ≤ qs.length ∧ qs.length ≤ 8 ∧ ∀ H' i, SameX p H H' → PotAt H' p → Bt 2000 i → Q (.int i) H'
theorem eqvall_refl_ints : ∀ ns : List Int, PyData.eqvAll (ns.map PyData.int) (ns.map PyData.int) = true
  | [] => by simp [PyData.eqvAll]
  | n :: ns => by
    have := eqvall_refl_ints ns
    simp [PyData.eqvAll, PyData.eqv, this]
theorem eqv_refl_ints (ns : List Int) : PyData.eqv (.list (ns.map PyData.int)) (.list (ns.map PyData.int)) = true := by
  rw [show PyData.eqv (.list (ns.map PyData.int)) (.list (ns.map PyData.int)) = PyData.eqvAll (ns.map PyData.int) (ns.map PyData.int) from by simp only [PyData.eqv]]
  exact eqvall_refl_ints ns
theorem cutV_one (xs : List V) : cutV xs (some 1) none = xs.drop 1 := by
  unfold cutV
  have e : HT.sIx xs.length 0 (some ((1 : Nat) : Int)) = min 1 xs.length := HT.sIx_nat _ _ _
  have e : HT.sIx xs.length 0 (some 1) = min 1 xs.length := e
  rw [e, HT.sIx_none]
  cases xs with
  | nil => simp
  | cons x xs => simp
theorem pair_at {α : Type} {R : α → α → Prop} : ∀ {l : List α} {i j : Nat} {a b : α}, l.Pairwise R → l[i]? = some a → l[j]? = some b → i < j → R a b := by
  intro l i j a b p ha hb hij
  obtain ⟨h1, rfl⟩ := List.getElem?_eq_some_iff.mp ha
  obtain ⟨h2, rfl⟩ := List.getElem?_eq_some_iff.mp hb
  exact (List.pairwise_iff_getElem.mp p) i j h1 h2 hij
theorem rankedP_one {ps : List (Int × Int)} {a b : List Nat} (ha : RankedP ps a) (hb : RankedP ps b) : a = b := by
  refine List.Perm.eq_of_pairwise (fun i j _ _ h1 h2 => ?_) ha.2 hb.2 (ha.1.trans hb.1.symm)
  omega
theorem cutV_take (xs : List V) (k : Nat) : cutV xs none (some (k : Int)) = xs.take k := by
  unfold cutV
  rw [HT.sIx_none, HT.sIx_nat, List.drop_zero, Nat.sub_zero]
  rcases Nat.le_total k xs.length with h | h
  · rw [Nat.min_eq_left h]
  · rw [Nat.min_eq_right h, List.take_length, List.take_of_length_le h]
theorem int_show {i : Int} (h : Bt 100 i) : (PyData.int i).showable = true ∧ (PyData.int i).hasDict = false ∧ (PyData.int i).depth ≤ 60 ∧ (PyData.int i).shown.length ≤ sizeLine :=
  ⟨bt_show (h.mono (by decide)), rfl, by simp [PyData.depth], by have := shown_int_len (n := 100) (by decide) h; rw [sizeLine_eq]; omega⟩
theorem none_show : (PyData.none).showable = true ∧ (PyData.none).hasDict = false ∧ (PyData.none).depth ≤ 60 ∧ (PyData.none).shown.length ≤ sizeLine := ⟨rfl, rfl, by simp [PyData.depth], by rw [sizeLine_eq]; decide⟩
/-- what stands in H but p and the tables stands in H' -/
def ExtX (p : Addr) (H H' : Hp) : Prop := ∀ b o, b ≠ p → H b = some o → (∀ ps, o ≠ .tbl ps) → H' b = some o
theorem ExtX.trans {p : Addr} {H H1 H2 : Hp} (a : ExtX p H H1) (b : ExtX p H1 H2) : ExtX p H H2 := fun c o n h t => b c o n (a c o n h t) t
theorem ExtX.x {p : Addr} {H H1 : Hp} (s : SameX p H H1) : ExtX p H H1 := fun c o n h _ => s c o n h
theorem ExtX.n {p : Addr} {H H1 : Hp} (s : LamX.ExtN H H1) : ExtX p H H1 := fun c o _ h t => s c o h t
theorem ExtX.s {p : Addr} {H H1 : Hp} (s : Same H H1) : ExtX p H H1 := fun c o _ h _ => s c o h
theorem ExtX.w {p Z : Addr} {H H1 H2 : Hp} {o' : HO} (a : ExtX p H H1) (b : ExtX p H1 H2) (n : New H1 Z) : ExtX p H (upd H2 Z o') := fun c o nc h t => by
  have h1 := a c o nc h t
  rw [upd_ne (n.ne h1 t)]
  exact b c o nc h1 t
def rLenK (K : PySem.W.Frag) : List V → Hp → VK → Prop := fun xs H Q => ∃ p ys, xs = [.ref p] ∧ (SqL K H p ys ∨ SqT K H p ys) ∧ Q (.int ys.length) H
end WS
set_option Elab.async false
set_option linter.all false
set_option maxRecDepth 100000
set_option maxHeartbeats 4000000
namespace WS
open PySem PySem.Spec PyProof.Rows L2
/-! ### t[::-1] of a tuple -/
section
variable {prog : Program} {w : World} {A : Around} {E : Value → Shared → Prop} {s : Shared}
open HT in
theorem sliceApplied_rev {sl : Addr} {vl vu vs : Value} {n : Nat} {Q : Int × Int × Nat → Shared → Prop} (hs : s.heap.IsSliceOf sl vl vu vs) (pl : IsPart vl none) (pu : IsPart vu none) (ps : IsPart vs (some (-1)))
    (h : Q ((n : Int) - 1, -1, n) s) : wpAny (model prog w) A (Builtin.Slice.sliceApplied (.ref sl) (pure (n : Int))) Q E s := by
  obtain ⟨os, hos, hcs, hds⟩ := id hs
  unfold Builtin.Slice.sliceApplied Builtin.Slice.sliceFields
  refine wpAny_bind (wpAny_bind (wpAny_field hos hds (x := vl) rfl (wpAny_bind (wpAny_field hos hds (x := vu) rfl (wpAny_bind (wpAny_field hos hds (x := vs) rfl (wpAny_pure ?_)))))))
  refine wpAny_bind (slicePart_ ps ?_)
  show wpAny _ _ (if ((-1 : Int) == 0) = true then _ else _) _ _ s
  rw [if_neg (by decide)]
  refine wpAny_bind (slicePart_ pl (wpAny_bind (slicePart_ pu (wpAny_bind (wpAny_pure ?_)))))
  show wpAny _ _ (match Builtin.Slice.sliceAdjust none none (-1) (n : Int) with | (lo, hi) => pure (lo, (-1 : Int), Builtin.Slice.slicePlaces lo hi (-1))) _ _ s
  have e1 : Builtin.Slice.sliceAdjust none none (-1) (n : Int) = ((n : Int) - 1, -1) := rfl
  rw [e1]
  show wpAny _ _ (pure ((n : Int) - 1, (-1 : Int), Builtin.Slice.slicePlaces ((n : Int) - 1) (-1) (-1))) _ _ s
  have e2 : Builtin.Slice.slicePlaces ((n : Int) - 1) (-1) (-1) = n := by
    unfold Builtin.Slice.slicePlaces
    rw [if_neg (by decide)]
    simp only [Int.neg_neg, Int.ediv_one]
    split <;> omega
  rw [e2]
  exact wpAny_pure h
theorem fm_congr {α β : Type} {f g : α → Option β} : ∀ {l : List α}, (∀ x ∈ l, f x = g x) → l.filterMap f = l.filterMap g
  | [], _ => rfl
  | x :: l, h => by rw [List.filterMap_cons, List.filterMap_cons, h x List.mem_cons_self, fm_congr fun y hy => h y (List.mem_cons_of_mem _ hy)]
theorem pick_rev (xs : Array Value) : ((List.range xs.size).filterMap fun (k : Nat) => xs[((xs.size : Int) - 1 + (k : Int) * -1).toNat]?).toArray = xs.toList.reverse.toArray := by
  congr 1
  have h : ∀ (n : Nat) (l : List Value), l.length = n → (List.range n).filterMap (fun (k : Nat) => l[((n : Int) - 1 + (k : Int) * -1).toNat]?) = l.reverse := by
    intro n l hl
    have e : (List.range n).filterMap (fun (k : Nat) => l[((n : Int) - 1 + (k : Int) * -1).toNat]?) = (List.range n).filterMap (fun k => l.reverse[k]?) := by
      refine fm_congr fun k hk => ?_
      have hk := List.mem_range.mp hk
      rw [List.getElem?_reverse (by omega)]
      congr 1
      omega
    rw [e]
    have : ∀ (m : List Value), (List.range m.length).filterMap (fun k => m[k]?) = m := by
      intro m
      induction m with
      | nil => rfl
      | cons x m ih =>
        rw [List.length_cons, List.range_succ_eq_map, List.filterMap_cons]
        simp only [List.getElem?_cons_zero, List.filterMap_map]
        congr 1
    have := this l.reverse
    rwa [List.length_reverse, hl] at this
  have := h xs.size xs.toList (by simp)
  simpa using this
open HT in
theorem getItem_tuple_rev {t sl : Addr} {items : Array Value} {vl vu vs : Value} {Q : Value → Shared → Prop} (ht : IsTup s.heap t items) (hs : s.heap.IsSliceOf sl vl vu vs) (pl : IsPart vl none) (pu : IsPart vu none) (ps : IsPart vs (some (-1)))
    (h : Q (.ref s.heap.objs.size) { s with heap := s.heap.push { cls := .type "tuple", data := .seq items.toList.reverse.toArray } })
    (hsz : items.size ≤ sizeLine) : wpAny (model prog w) A (getItem (.ref t) (.ref sl)) Q E s := by
  have htake : sizeOk (.seq items.toList.reverse.toArray) := by
    show items.toList.reverse.toArray.size ≤ sizeLine
    rw [List.size_toArray, List.length_reverse, Array.length_toList]
    exact hsz
  obtain ⟨os, hos, hcs, hds⟩ := id hs
  have hTs : s.TypeIs (.ref sl) "slice" := ⟨os, hos, hcs⟩
  unfold getItem
  try with_reducible refine wpAny_holding ?_
  first | refine wpAny_bind (wpAny_pure ?_) | skip
  refine wpAny_bind (wpAny_sequenceKey ht.typeIs (by decide) ?_)
  refine wpAny_bind (wpAny_callSpecial?_slot (name := Str.ofString "__getitem__") ht.typeIs PyProof.Rows.slot_tuple_getitem
    (wpAny_call_entry PyProof.Rows.slot_tuple_getitem ht.typeIs entry_tuple_getitem ?_ (args_tuple_getitem _ _)))
  show wpAny _ _ (Builtin.Tuple.tupleItemsOf (.ref t) >>= _) _ _ s
  refine wpAny_bind (tupleItemsOf_ ht ?_)
  refine wpAny_bind (wpAny_typeOf hTs ?_)
  rw [if_pos (by decide)]
  refine wpAny_bind (sliceApplied_rev hs pl pu ps ?_)
  have hno : ¬ (((items.size : Int) - 1 == 0 && (-1 : Int) == 1 && items.size == items.size) = true) := by
    rw [show ((-1 : Int) == 1) = false from rfl, Bool.and_false, Bool.false_and]
    exact Bool.false_ne_true
  show wpAny _ _ (if ((items.size : Int) - 1 == 0 && (-1 : Int) == 1 && items.size == items.size) = true then _ else _) _ _ s
  rw [if_neg hno, pick_rev]
  first
    | exact wpAny_bind (m := Builtin.Tuple.tupleExact _) (wpAny_newObj_type (wpAny_pure ⟨_, rfl, wpAny_pure h⟩) htake)
    | exact wpAny_bind (m := Builtin.Tuple.tupleExact _) (wpAny_newObj_type (wpAny_bind (wpAny_pure (wpAny_pure ⟨_, rfl, wpAny_pure h⟩))) htake)
end
def tRevT (K : PySem.W.Frag) (te : TE) : TE := fun σ H Q => te σ H fun x H1 => ∃ a xs, x = .ref a ∧ SqT K H1 a xs ∧ ∀ p, H1 p = none → Q (.ref p) (upd H1 p (.tup xs.reverse))
theorem pe_revT {X : Cx} {e : Expr} {te : TE} {k : Nat} {p1 p2 p3 pos : Pos} (he : PE X e te) : PE X (.Subscript e (.Slice none none (some (.UnaryOp .USub (.Constant (.int 1) k p1) p2)) p3) pos) (tRevT X.K te) := by
  refine ⟨fun pins s σ H Q I h => ?_⟩
  refine Subscript_ (thn (he.run pins s σ H _ I h) fun v s1 ⟨x, H1, I1, r1, q1⟩ => ?_)
  obtain ⟨a, xs, ex, hx, q⟩ := q1
  subst ex
  cases r1
  have hst : PO X (some (.UnaryOp .USub (.Constant (.int 1) k p1) p2)) (tPart (tUn (rU fun i => .int (-i)) (tC (.int 1)))) := po_some (pe_un un_neg pe_int)
  refine wpAny_Slice (thn (po_none.run pins s1 σ H1 (fun o H2 => o = none ∧ H2 = H1) I1 ⟨rfl, rfl⟩) fun vl s2 ⟨l, H2, I2, pl, el, e2⟩ => ?_)
  subst el e2
  refine thn (po_none.run pins s2 σ H2 (fun o H3 => o = none ∧ H3 = H2) I2 ⟨rfl, rfl⟩) fun vu s3 ⟨u, H3, I3, pu, eu, e3⟩ => ?_
  subst eu e3
  refine thn (hst.run pins s3 σ H3 (fun o H4 => o = some (-1) ∧ H4 = H3) I3 ⟨1, rfl, -1, rfl, rfl, rfl⟩) fun vs s4 ⟨o, H4, I4, ps, eo, e4⟩ => ?_
  subst eo e4
  have I5 : Inv X pins σ H4 { s4 with heap := s4.heap.push { cls := .type "slice", data := .fields #[vl, vu, vs] } } := I4.kept (t' := s4.toks) fun b ob q => Heap.get?_push_of_some _ q
  obtain ⟨its, r, ht, hz⟩ := I5.tuple hx
  have hlen := r.length
  show wpAny (model X.prog X.w) X.A (subscriptTail e (.Slice none none (some (.UnaryOp .USub (.Constant (.int 1) k p1) p2)) p3) (.ref a) (.ref s4.heap.objs.size)) (EP X pins σ Q) X.xe { s4 with heap := s4.heap.push { cls := .type "slice", data := .fields #[vl, vu, vs] } }
  refine tail_any (ops := [.ref a, .ref s4.heap.objs.size]) ht.typeIs (PyProof.Rows.slot_tuple_getitem.lookup) ?_ (by with_unfolding_all rfl)
  refine getItem_tuple_rev ht (Heap.IsSliceOf.new _ vl vu vs) pl pu ps ?_ (by rw [List.size_toArray]; omega)
  refine ⟨.ref _, _, I5.laid (t' := s4.toks) (o := .tup xs.reverse) (fun b ob q => Heap.get?_push_of_some _ q) (Nat.le_refl _) ?_, rfl, q _ (I5.hok.fresh (Nat.le_refl _))⟩
  refine ⟨by rw [List.length_reverse]; exact hz, its.reverse, r.reverse, ?_⟩
  exact ⟨_, Heap.get?_push_size _ rfl, rfl, _, rfl⟩

/-! ### t[lo:hi] of a tuple, the whole of it or not -/
def rSlB (K : PySem.W.Frag) : V → Option Int → Option Int → Hp → VK → Prop := fun x lo hi H Q => ∃ a xs, x = .ref a ∧ SqT K H a xs ∧ ∀ p H', Same H H' → SqT K H' p (cutV xs lo hi) → Q (.ref p) H'
theorem sl_tupB {X : Cx} : SlR X (rSlB X.K) := by
  intro pins s σ H x v vl vu lo hi sl Q I rx hs pl pu h
  obtain ⟨a, xs, rfl, hx, q⟩ := h
  refine sl_tupA pins s σ H _ v vl vu lo hi sl Q I rx hs pl pu ⟨a, xs, rfl, hx, fun hw => q a H (Same.refl H) ?_, fun _ p np => q p _ (same_new np) (.inl (.inl upd_same))⟩
  unfold cutV
  rw [hw.1, hw.2, List.drop_zero, Nat.sub_zero, List.take_length]
  exact hx
def AllParts (K : PySem.W.Frag) (H : Hp) (rs : List V) : Prop := ∀ v ∈ rs, ∃ a b, TupI K H v a b ∧ Bt 4400 a ∧ Bt 4400 b
def Okl (p : Int × Int) : Prop := Lowest p.1 p.2 ∧ Okp 202 p
def spTold (K : PySem.W.Frag) : Sp := fun vs H Q _ => ∃ (l : Addr) (rs : List V), vs = [.ref l] ∧ SqT K H l rs ∧ AllParts K H rs ∧ Q (.bl true) H
def spNear (K : PySem.W.Frag) : Sp := fun vs H Q _ => ∃ (p : Addr) (v : V) (a b : Int), vs = [.ref p, v] ∧ PotAt H p ∧ TupI K H v a b ∧ Okl (a, b) ∧ ∀ v' a' b' H', TupI K H' v' a' b' → Okl (a', b') → SameX p H H' → PotAt H' p → Q v' H'
def spDrawL (K : PySem.W.Frag) : Sp := fun vs H Q _ => ∃ p : Addr, vs = [.ref p] ∧ PotAt H p ∧ ∀ v' a' b' H', TupI K H' v' a' b' → Okl (a', b') → SameX p H H' → PotAt H' p → Q v' H'
def spParts13 (K : PySem.W.Frag) : Sp := fun vs H Q _ => ∃ p : Addr, vs = [.ref p] ∧ PotAt H p ∧ ∀ H' t rs ps, SameX p H H' → PotAt H' p → SqT K H' t rs → Parts K H' rs ps → ps.length ≤ 60 → (∀ q ∈ ps, Okl q) → Q (.ref t) H'
def spRight (K : PySem.W.Frag) (P : Addr) : Sp := fun vs H Q _ => ∃ (l : Addr) (rs : List V) (ps : List (Int × Int)), vs = [.ref l] ∧ SqT K H l rs ∧ Parts K H rs ps ∧ (∀ q ∈ ps, Okl q) ∧ ps.length ≤ 60 ∧ LamX.TabS H P qLam ∧ ∀ H', LamX.ExtN H H' → LamX.TabS H' P qLam → Q (.bl true) H'
theorem Parts.all {K : PySem.W.Frag} {H : Hp} {rs : List V} {ps : List (Int × Int)} (h : Parts K H rs ps) (hk : ∀ q ∈ ps, Okl q) : AllParts K H rs := fun v hv => by
  obtain ⟨i, hi⟩ := List.getElem?_of_mem hv
  obtain ⟨p, hp, t⟩ := h.2 i v hi
  have := (hk p (List.mem_of_getElem? hp)).2
  exact ⟨_, _, t, this.2.1.mono (by decide), this.2.2.mono (by decide)⟩
def rIsiK (K : PySem.W.Frag) : List V → Hp → VK → Prop := rIsi K
end WS
set_option Elab.async false
set_option linter.all false
set_option maxRecDepth 100000
set_option maxHeartbeats 4000000
namespace WS
open PySem PySem.Spec PyProof.Rows L2
/-! ### great numbers as texts, and back -/
section
theorem nodig {X : Cx} {pins : List (Addr × Obj)} {σ : L2.St} {H : Hp} {s : Shared} (I : Inv X pins σ H s) (h : X.base.NoDigits) : s.heap.NoDigits := h.keeps (fun b o e => (I.env0.bs b o e).1)
theorem bt_digits {i : Int} (h : Bt 12900 i) : i.natAbs < 10 ^ 4300 := Nat.lt_of_lt_of_le h pow_lo
def rStrW : List V → Hp → VK → Prop := fun xs H Q => ∃ i : Int, xs = [.int i] ∧ Bt 12900 i ∧ Q (.str (toString i)) H
theorem call_strW {X : Cx} (hc : X.calm = true) (hd : X.base.NoDigits) : CallR X (.type "str") rStrW := by
  intro pins s σ H xs us Q I r h
  obtain ⟨i, rfl, hz, q⟩ := h
  obtain ⟨u, rfl, t, rfl⟩ := vals1 r
  exact str_of_int_or (I.ok.hd hc) (nodig I hd) (fun _ => ⟨.str _, H, I.tok _, ⟨_, rfl⟩, q⟩) (fun z => absurd (bt_digits hz) (Nat.not_lt.mpr z))
def tFmtW (te : TE) : TE := fun σ H Q => te σ H fun x H1 => ∃ i : Int, x = .int i ∧ Bt 12900 i ∧ Q (.str (toString i)) H1
theorem pe_fmtW {X : Cx} {e : Expr} {te : TE} {pos : Pos} (hc : X.calm = true) (hd : X.base.NoDigits) (he : PE X e te) : PE X (.FormattedValue e (-1) none pos) (tFmtW te) := by
  refine ⟨fun pins s σ H Q I h => ?_⟩
  refine wpAny_FormattedValue_plain (thn (he.run pins s σ H _ I h) fun v s1 hv => ?_)
  obtain ⟨x, H1, I1, r1, i, rfl, hz, q⟩ := hv
  obtain ⟨t, rfl⟩ := r1
  exact formatField_int (I1.ok.hd hc) (nodig I1 hd) (fun _ => ⟨.str (toString i), H1, I1.tok _, ⟨_, rfl⟩, q⟩) (fun z => absurd (bt_digits hz) (Nat.not_lt.mpr z))
open PySem.NumText in
theorem wp_textL {M : Model} {A : Around} {E : Value → Shared → Prop} {s : Shared} {Q : Value → Shared → Prop} {v : Value} {text : List Nat} {n : Int}
    (hs : ¬ (text.takeWhile (· != 0)).length ≤ 640) (hn : s.heap.NoDigits) (hr : (int_private% "readNumeral") 4300 10 (text.takeWhile (· != 0)) = (int_private% "Numeral.value") n)
    (ha : ((text.takeWhile (· != 0)).length == text.length) = true) (h : Q (.int n s.toks) { s with toks := s.toks + 1 }) :
    wpAny M A ((int_private% "intFromText") v text 10) Q E s := by
  obtain ⟨mc, hns, hnone⟩ := hn
  show wpAny M A (do
    let limit ← if (text.takeWhile (· != 0)).length ≤ 640 then pure 0 else Builtin.intMaxStrDigits
    _) Q E s
  rw [if_neg hs]
  unfold Builtin.intMaxStrDigits
  refine wpAny_bind (wpAny_bind (wpAny_nsGet hns ?_))
  rw [hnone]
  refine wpAny_pure ?_
  dsimp only
  rw [hr]
  dsimp only
  rw [if_pos ha]
  exact wpAny_mkInt h
theorem wp_textW {M : Model} {A : Around} {E : Value → Shared → Prop} {s : Shared} {Q : Value → Shared → Prop} {v : Value} {text : List Nat} {n : Int}
    (hn : s.heap.NoDigits) (hr : (int_private% "readNumeral") (if (text.takeWhile (· != 0)).length ≤ 640 then 0 else 4300) 10 (text.takeWhile (· != 0)) = (int_private% "Numeral.value") n)
    (ha : ((text.takeWhile (· != 0)).length == text.length) = true) (h : Q (.int n s.toks) { s with toks := s.toks + 1 }) :
    wpAny M A ((int_private% "intFromText") v text 10) Q E s := by
  by_cases hs : (text.takeWhile (· != 0)).length ≤ 640
  · rw [if_pos hs] at hr
    exact PySem.W.KIN.wp_text hs hr ha h
  · rw [if_neg hs] at hr
    exact wp_textL hs hn hr ha h
open PySem.NumText PySem.W.KIN in
set_option maxHeartbeats 4000000 in
theorem meets_textW {x : PySem.Str} {u : Tok} {n : Int} (hl : x.length ≤ sizeLine) (hn : PySem.intText? x = some n) :
    Meets (Builtin.«int.__new__» ⟨[.type "int", .str x u], []⟩) (fun A R s => s.heap.NoDigits ∧ R (.ok (.ret (.int n s.toks))) { s with toks := s.toks + 1 }) := by
  refine Meets.of_wp fun prog w A R s ⟨hd, h⟩ => ?_
  obtain ⟨hp, g, d, tk, os⟩ := s
  have f1 := F.conv_sub_int
  have f2 := F.madeHere_int
  have f3 := str_int
  have f4 := str_idx
  have f5 := str_trunc
  have f6 : typeOf (.str x u) = pure (.type "str") := rfl
  have hr : (int_private% "readNumeral") (if (numSeenOf x).length ≤ 640 then 0 else 4300) 10 (numSeenOf x) = (int_private% "Numeral.value") n ∧ ((numSeenOf x).length == (numTextOf x).length) = true := by
    rcases readAny x hl with ⟨m, h1, h2, h3⟩ | ⟨h1, _⟩
    · rw [hn] at h1
      injection h1 with h1
      subst h1
      exact ⟨h3, h2⟩
    · rw [hn] at h1
      cases h1
  have hk := Hid.mk hr
  have hD := Hid.mk hd
  clear hr hl hn hd
  repeat (any_goals (first
    | assumption
    | ((with_reducible show wpAny _ _ ((int_private% "intFromText") _ _ _) _ _ _); refine wp_textW hD.out hk.out.1 hk.out.2 ?_)
    | wp_step))
  all_goals first | exact ⟨_, rfl, h⟩ | skip
def rIntS : List V → Hp → VK → Prop := fun xs H Q => ∃ (a : Str) (n : Int), xs = [.str a] ∧ PySem.intText? a = some n ∧ a.length ≤ sizeLine ∧ Q (.int n) H
/-- int(text), of any length, where it is a number -/
theorem call_int_strW {X : Cx} (hd : X.base.NoDigits) : CallR X (.type "int") rIntS := by
  intro pins s σ H xs us Q I rs h
  obtain ⟨a, n, rfl, hn, hl, h⟩ := h
  cases rs with
  | cons r1 rs =>
    cases rs
    obtain ⟨t, rfl⟩ := r1
    exact call_int_1 (meets_textW hl hn) ⟨nodig I hd, typeIs_int _ _ _, .int n, H, I.tok _, ⟨_, rfl⟩, h⟩
end
end WS
set_option Elab.async false
set_option linter.all false
set_option maxRecDepth 100000
set_option maxHeartbeats 4000000
namespace WS
open PySem PySem.Spec PyProof.Rows L2
/-! ### the texts of numbers and of parts -/
section
open TL
def nT (n : Int) : Str := Str.ofString (toString n)
def pT (a b : Int) : Str := if b = 1 then nT a else nT a ++ Str.ofString "/" ++ nT b
theorem tl_nat (n : Nat) : tl (nT n) = numL n := tl_num n
theorem tl_neg (n : Nat) (h : 0 < n) : tl (nT (-(n : Int))) = 45 :: numL n := by
  obtain ⟨m, rfl⟩ : ∃ m, n = m + 1 := ⟨n - 1, by omega⟩
  unfold nT
  rw [tl_ofString]
  show (("-" ++ Nat.repr (m + 1)).toList).map Char.toNat = _
  rw [String.toList_append, List.map_append, Nat.toList_repr]
  rfl
theorem nT_cases (i : Int) : (∃ n : Nat, i = n ∧ tl (nT i) = numL n) ∨ ∃ n : Nat, 0 < n ∧ i = -(n : Int) ∧ tl (nT i) = 45 :: numL n := by
  rcases Int.lt_or_le i 0 with h | h
  · refine .inr ⟨i.natAbs, by omega, by omega, ?_⟩
    have e : i = -(i.natAbs : Int) := by omega
    have := tl_neg i.natAbs (by omega)
    rwa [← e] at this
  · refine .inl ⟨i.toNat, by omega, ?_⟩
    have e : i = (i.toNat : Int) := by omega
    have := tl_nat i.toNat
    rwa [← e] at this
theorem nT_len {i : Int} (h : Bt 12900 i) : (nT i).length ≤ 4301 := by
  have h := bt_digits h
  rw [len_tl]
  rcases nT_cases i with ⟨n, rfl, e⟩ | ⟨n, h0, rfl, e⟩
  · rw [e]
    have := numL_len (n := n) (k := 4300) (by decide) (by simpa using h)
    omega
  · rw [e, List.length_cons]
    have := numL_len (n := n) (k := 4300) (by decide) (by simpa using h)
    omega
theorem nT_len2 {i : Int} {k : Nat} (hk : 0 < k) (h : i.natAbs < 10 ^ k) : (nT i).length ≤ k + 1 := by
  rw [len_tl]
  rcases nT_cases i with ⟨n, rfl, e⟩ | ⟨n, h0, rfl, e⟩
  · rw [e]
    have := numL_len (n := n) (k := k) hk (by simpa using h)
    omega
  · rw [e, List.length_cons]
    have := numL_len (n := n) (k := k) hk (by simpa using h)
    omega
theorem p1330 : 2 ^ 4400 ≤ 10 ^ 1330 := by decide +kernel
theorem nT_len3 {i : Int} (h : Bt 4400 i) : (nT i).length ≤ 1331 := nT_len2 (by decide) (Nat.lt_of_lt_of_le h p1330)
theorem nT_read {i : Int} (h : Bt 4400 i) : PySem.intText? (nT i) = some i := by
  have hl := nT_len3 h
  rcases nT_cases i with ⟨n, rfl, e⟩ | ⟨n, h0, rfl, e⟩
  · have := intText_digits (x := nT n) (by rw [show (nT (n : Int)).cps.toList = numL n from e]; exact numL_digits n) (by rw [show (nT (n : Int)).cps.toList = numL n from e]; exact numL_ne n) (by omega)
    rw [show (nT (n : Int)).cps.toList = numL n from e, numL_val] at this
    exact this
  · have := intText_neg (x := nT (-(n : Int))) e (numL_digits n) (numL_ne n) (by omega)
    rw [numL_val] at this
    exact this
theorem nT_free (i : Int) : 47 ∉ tl (nT i) := by
  rcases nT_cases i with ⟨n, rfl, e⟩ | ⟨n, h0, rfl, e⟩
  · rw [e]
    exact numL_free (by omega)
  · rw [e]
    intro h
    rcases List.mem_cons.mp h with h | h
    · omega
    · exact numL_free (by omega) h
theorem nT_inj {i j : Int} (h : nT i = nT j) : i = j := by
  have h := congrArg tl h
  rcases nT_cases i with ⟨n, rfl, e⟩ | ⟨n, h0, rfl, e⟩ <;> rcases nT_cases j with ⟨m, rfl, e2⟩ | ⟨m, h02, rfl, e2⟩
  · rw [e, e2] at h
    rw [numL_inj h]
  · rw [e, e2] at h
    have : (45 : Nat) ∈ numL n := by rw [h]; exact List.mem_cons_self
    exact absurd this (numL_free (by omega))
  · rw [e, e2] at h
    have : (45 : Nat) ∈ numL m := by rw [← h]; exact List.mem_cons_self
    exact absurd this (numL_free (by omega))
  · rw [e, e2] at h
    rw [numL_inj (List.cons.inj h).2]
theorem pT_part {a b : Int} : Txt.partition (pT a b) (Str.ofString "/") = if b = 1 then (nT a, Str.empty, Str.empty) else (nT a, Str.ofString "/", nT b) := by
  unfold pT
  split
  · exact partition_none (s := 47) (S := []) rfl (nT_free a)
  · exact partition_app (s := 47) (S := []) rfl (nT_free a)
theorem pT_inj {a b c d : Int} (h : pT a b = pT c d) : a = c ∧ b = d := by
  have h := congrArg (fun t => Txt.partition t (Str.ofString "/")) h
  simp only [pT_part] at h
  have ne : Str.ofString "/" ≠ Str.empty := by decide
  split at h <;> split at h
  · exact ⟨nT_inj (Prod.mk.inj h).1, by omega⟩
  · exact absurd (Prod.mk.inj (Prod.mk.inj h).2).1.symm ne
  · exact absurd (Prod.mk.inj (Prod.mk.inj h).2).1 ne
  · exact ⟨nT_inj (Prod.mk.inj h).1, nT_inj (Prod.mk.inj (Prod.mk.inj h).2).2⟩
theorem pT_len {a b : Int} (ha : Bt 4400 a) (hb : Bt 4400 b) : (pT a b).length ≤ 3000 := by
  unfold pT
  have h1 := nT_len3 ha
  have h2 := nT_len3 hb
  split
  · omega
  · rw [len_tl, tl_append, tl_append, List.length_append, List.length_append, ← len_tl, ← len_tl]
    show (nT a).length + 1 + (nT b).length ≤ 3000
    omega
end
section
open TL
theorem str_nil (x : Str) : Str.empty ++ x = x := ext_tl (by rw [tl_append]; rfl)
theorem len_app (x y : Str) : (x ++ y).length = x.length + y.length := by rw [len_tl, tl_append, List.length_append, ← len_tl, ← len_tl]
end
end WS
set_option Elab.async false
set_option linter.all false
set_option maxRecDepth 100000
set_option maxHeartbeats 4000000
namespace WS
open PySem PySem.Spec PyProof.Rows L2
/-! ### the end of a law with texts of great numbers -/
theorem begin_dig {P : Program} {w : World} {K : PySem.W.Frag} {mg mb : Str → Option Value} {k : Nat} {fa a : Addr} {fd : FuncData} {x : Str} {sp : Sp} {s : Shared} {vs : List Value} {H : Hp}
    (inK : K.In s.heap) (gns : s.heap.Ns mainGlobals mg) (bns : s.heap.Ns builtinsNs mb) (bb : ∀ x : Str, x ≠ "__name__" → mb x = bootBuiltins x) (lim : s.heap.NoLimit) (dig : s.heap.NoDigits) (nogen : s.gens = #[])
    (script : s.heap.get? a = some { cls := .type "list", data := .seq vs.toArray }) (room : Room k callerA)
    (F : ∀ base : Heap, K.In base → base.Ns mainGlobals mg → base.NoDigits → FnAt callerA P w K mg base CX0 k fa fd [x] sp) (bind1 : ∀ (s : Shared) (u : Value), BindsTo s fd ⟨[u], []⟩ [(x, u)])
    (only : ∀ b u, H b = some u → b = a ∧ K.lookup a = none ∧ ∃ o xs, u = .frz o (.lst xs)) (fits : HOk P w H s.heap)
    (want : sp [.ref a] H (fun v _ => v = .bl true) fun _ _ _ => False) :
    codeAny (model P w) callerA (.call (.ref fa) ⟨[.ref a], []⟩) (fun r s' => r = .ok (.ret (.bool true)) ∧ OldK s.heap s'.heap ∧ s'.os = s.os ∧ AllBare s'.gens) s := by
  have plain : ∀ {b : Addr}, b ≠ a → H b = none := fun {b} nb => by
    cases z : H b with
    | none => rfl
    | some u => exact absurd (only b u z).1 nb
  have noDict : ∀ {b : Addr} {o : Obj} {es : Array DictEntry} {ep : Nat}, s.heap.get? b = some o → o.data = .dict es ep → H b = none := by
    intro b o es ep e de
    refine plain ?_
    rintro rfl
    rw [script] at e
    cases e
    cases de
  have nsb : ∀ {b : Addr} {m : Str → Option Value}, s.heap.Ns b m → (hidT s.heap H).Ns b m := by
    rintro b m ⟨o, es, ep, e, de, rest⟩
    exact ⟨o, es, ep, hidT_get e (noDict e de), de, rest⟩
  have kb : K.In (hidT s.heap H) := by
    intro b o e
    refine hidT_get (inK b o e) ?_
    cases z : H b with
    | none => rfl
    | some u =>
      obtain ⟨rfl, nk, _⟩ := only b u z
      rw [nk] at e
      cases e
  obtain ⟨mc, l1, l2⟩ := lim
  have modu : Mod K mg (hidT s.heap H) := ⟨kb, nsb gns, ⟨mb, nsb bns, bb⟩, ⟨mc, nsb l1, l2⟩⟩
  have dg : (hidT s.heap H).NoDigits := by
    obtain ⟨mc, d1, d2⟩ := dig
    exact ⟨mc, nsb d1, d2⟩
  have noEnv : ∀ b ∈ frs [], H b = none := fun b z => absurd (show b ∈ ([] : List Addr) from z) List.not_mem_nil
  have env0 : Env0 P w K mg (hidT s.heap H) callerA [] s H := ⟨rfl, modu, fun b o e => of_hidT e, Nat.le_of_eq (hidT_size _ _), trivial, noEnv, fits, .of_eq nogen⟩
  refine codeAny_mono ((F _ kb (nsb gns) dg).go [] s H ⟨[.ref a], []⟩ [.ref a] [.ref a] _ _ room env0 (bind1 s (.ref a)) (.cons rfl .nil) want) ?_
  intro r s' z
  match r, z with
  | .error er, z => exact z.elim
  | .ok .next, z => exact z.elim
  | .ok .brk, z => exact z.elim
  | .ok .cont, z => exact z.elim
  | .ok (.ret u), ⟨v, H', os, bare, un, fits', rel, q⟩ =>
    have q : v = .bl true := q
    subst q
    obtain rfl : u = Value.bool true := rel
    refine ⟨rfl, OldK.of_keep ?_, os, bare⟩
    intro b o e
    cases zb : H b with
    | none => exact un.keep b o e zb (fun z => absurd (show b ∈ ([] : List Addr) from z) List.not_mem_nil) List.not_mem_nil
    | some u =>
      obtain ⟨_, _, ob, xs, rfl⟩ := only b u zb
      have now := (fits' b _ (un.frzs b ob _ zb)).1
      have then_ := (fits b _ zb).1
      rw [e] at then_
      cases then_
      exact now
theorem walk_D {l : PySem.W.OpenLaw} {n k : Nat} {q : Program} {loose : List Str} {XP : (Str → Option Value) → Heap → Prop} {YP : World → Heap → Prop} {d : DefRec} {K : Params → PySem.W.Frag} {sp : World → Sp} {x : Str}
    (most : l.most = some n) (small : n ≤ sizeLine) (nodefault : d.params.defaults = []) (room : Room k callerA)
    (Y : ∀ (w : World) (h : Heap), YP w h → (K w.params).In h)
    (F : ∀ (w : World) (mg : Str → Option Value) (fa : Addr) (h : Heap), (K w.params).In h → h.Ns mainGlobals mg → mg d.name = some (.ref fa) →
      ∃ fd : FuncData, (∀ (s : Shared) (u : Value), BindsTo s fd ⟨[u], []⟩ [(x, u)]) ∧ ∀ base : Heap, (K w.params).In base → base.Ns mainGlobals mg → base.NoDigits → FnAt callerA l.prog w (K w.params) mg base CX0 k fa fd [x] (sp w))
    (want : ∀ (w : World) (H : Hp) (a : Addr) (ns : List Int), ns.length ≤ n → SqL (K w.params) H a (ns.map V.int) → sp w [.ref a] H (fun v _ => v = .bl true) fun _ _ _ => False) :
    PySem.W.WalkO q loose XP YP l.row.toRowW d [] (fun f vs => PySem.call f vs) := by
  refine Att.attach_call most nodefault ?_
  intro w s0 s mg mb fa o pm cd doc a vs ns G y _ _ _ at_law script hi len nogen
  have inK := Y w _ y
  obtain ⟨fd, b1, f⟩ := F w mg fa _ inK G.T.g at_law
  have rel : Vals (ns.map V.int) vs := vals_ints hi
  have sz : ns.length ≤ sizeLine := Nat.le_trans len small
  cases look : (K w.params).lookup a with
  | some ob =>
    have same := inK a ob look
    rw [script] at same
    cases same
    refine begin_dig (H := fun _ => none) inK G.T.g G.T.b G.T.builtins G.T.nolimit G.T.nodigits nogen script room f b1 (fun b u z => ?_) (fun b u z => ?_) (want w _ a ns len (.inr ⟨_, vs.toArray, _, look, rfl, rfl, rfl, ?_, ?_⟩))
    · have z : (none : Option HO) = some u := z
      cases z
    · have z : (none : Option HO) = some u := z
      cases z
    · rw [List.size_toArray, hi.length]
      exact sz
    · simpa using rel
  | none =>
    have here : ∀ b u, (if b = a then some (HO.frz { cls := .type "list", data := .seq vs.toArray } (.lst (ns.map V.int))) else none) = some u → b = a ∧ u = HO.frz { cls := .type "list", data := .seq vs.toArray } (.lst (ns.map V.int)) := by
      intro b u z
      by_cases hb : b = a
      · rw [if_pos hb] at z
        exact ⟨hb, (Option.some.inj z).symm⟩
      · rw [if_neg hb] at z
        cases z
    refine begin_dig (H := fun b => if b = a then some (.frz { cls := .type "list", data := .seq vs.toArray } (.lst (ns.map V.int))) else none) inK G.T.g G.T.b G.T.builtins G.T.nolimit G.T.nodigits nogen script room f b1 (fun b u z => ?_) (fun b u z => ?_) (want w _ a ns len (.inl (.inr ⟨_, if_pos rfl⟩)))
    · obtain ⟨e1, e2⟩ := here b u z
      exact ⟨e1, look, _, _, e2⟩
    · obtain ⟨rfl, rfl⟩ := here b u z
      exact ⟨script, by rw [List.length_map]; exact sz, vs, _, rel, script⟩

def spText (K : PySem.W.Frag) : Sp := fun vs H Q _ => ∃ v a b, vs = [v] ∧ TupI K H v a b ∧ 0 < b ∧ Bt 4400 a ∧ Bt 4400 b ∧ ∀ H', Same H H' → Q (.str (pT a b)) H'
def spNumIn : Sp := fun vs H Q _ => ∃ (t : Str) (n : Int), vs = [.str t] ∧ PySem.intText? t = some n ∧ t.length ≤ sizeLine ∧ Q (.int n) H
def spRead (K : PySem.W.Frag) : Sp := fun vs H Q _ => ∃ a b : Int, vs = [.str (pT a b)] ∧ Lowest a b ∧ Bt 4400 a ∧ Bt 4400 b ∧ NewT K H a b Q
def spTens : Sp := fun vs H Q _ => ∃ n : Nat, vs = [.int n] ∧ n ≤ 200 ∧ Q (.int (10 ^ n)) H
def spFigures : Sp := fun vs H Q _ => ∃ n : Nat, vs = [.int n] ∧ n < 10 ^ 1330 ∧ Q (.str (nT n)) H
def spNumP : Sp := fun vs H Q _ => ∃ p, vs = [.ref p] ∧ PotAt H p ∧ ∀ (i : Int) H', 0 ≤ i → i < 2 ^ 200 → SameX p H H' → PotAt H' p → Q (.int i) H'
def spRightP (K : PySem.W.Frag) : Sp := fun vs H Q _ => ∃ v a b, vs = [v] ∧ TupI K H v a b ∧ Lowest a b ∧ Bt 4400 a ∧ Bt 4400 b ∧ ∀ H', Same H H' → Q (.bl true) H'
theorem pow10_le {n m : Nat} (h : n ≤ m) : (10 : Int) ^ n ≤ 10 ^ m := by
  have := Nat.pow_le_pow_right (n := 10) (by decide) h
  have e1 : ((10 : Int) ^ n) = ((10 ^ n : Nat) : Int) := by simp
  have e2 : ((10 : Int) ^ m) = ((10 ^ m : Nat) : Int) := by simp
  omega
theorem pow10_pos (n : Nat) : 0 < (10 : Int) ^ n := by
  have := Nat.pow_pos (n := n) (show 0 < 10 by decide)
  have e1 : ((10 : Int) ^ n) = ((10 ^ n : Nat) : Int) := by simp
  omega
theorem bt_pow10 {n : Nat} (h : n ≤ 200) : Bt 800 ((10 : Int) ^ n) := by
  have h1 := pow10_le h
  have h2 := pow10_pos n
  have h3 : (10 : Int) ^ 200 < 2 ^ 800 := by decide +kernel
  exact Bt.of_lt (by generalize (10 : Int) ^ n = x at *; generalize (10 : Int) ^ 200 = y at *; generalize (2 : Int) ^ 800 = z at *; omega) (by generalize (10 : Int) ^ n = x at *; generalize (10 : Int) ^ 200 = y at *; omega)
section
open TL
theorem fig_step {n : Nat} {f : Str} (h : 9 < n) {N : Nat} (e : numL N = numL n ++ tl f) : numL N = numL (n / 10) ++ tl ((⟨#[48 + n % 10]⟩ : Str) ++ f) := by
  rw [e, numL_step (by omega), tl_append, List.append_assoc]
theorem fig_end {n : Nat} {f : Str} (h : n ≤ 9) {N : Nat} (e : numL N = numL n ++ tl f) : (⟨#[48 + n]⟩ : Str) ++ f = nT N := by
  refine ext_tl ?_
  rw [tl_nat, e, numL_lt (by omega), tl_append]
theorem digs_at (d : Nat) (h : d < 10) : atI (Str.ofString "0123456789").cps.toList ((d : Nat) : Int) = some (48 + d) := by
  have : ∀ d : Nat, d < 10 → atI (Str.ofString "0123456789").cps.toList ((d : Nat) : Int) = some (48 + d) := by decide +kernel
  exact this d h
end
section
open TL
theorem minus_text {a : Int} (h : a < 0) : Str.ofString "-" ++ nT (-a) = nT a := by
  refine ext_tl ?_
  rcases nT_cases a with ⟨n, e, _⟩ | ⟨n, h0, e, e2⟩
  · omega
  · rw [e2, tl_append]
    have : -a = (n : Int) := by omega
    rw [this, tl_nat]
    rfl
end
end WS
set_option Elab.async false
set_option linter.all false
set_option maxRecDepth 100000
set_option maxHeartbeats 4000000
namespace WS
open PySem PySem.Spec PyProof.Rows L2
def topS (i : Nat) : Stmt := PySem.Challenge.pw_whoserves_k14_whole_part_texts.main.body.getD i (.Pass ⟨0, 0, 0, 0⟩)
abbrev s_is_whole : Stmt := topS 5
theorem sc_is_whole : FnScope ["thing"] ["thing"] (defScope s_is_whole) := ⟨rfl, rfl, rfl, by decide +kernel, rfl, by decide +kernel, by decide +kernel⟩
abbrev s_greatest_common : Stmt := topS 6
theorem sc_greatest_common : FnScope ["one", "other"] ["one", "other"] (defScope s_greatest_common) := ⟨rfl, rfl, rfl, by decide +kernel, rfl, by decide +kernel, by decide +kernel⟩
abbrev s_is_part : Stmt := topS 7
theorem sc_is_part : FnScope ["thing", "above", "below"] ["thing"] (defScope s_is_part) := ⟨rfl, rfl, rfl, by decide +kernel, rfl, by decide +kernel, by decide +kernel⟩
abbrev s_part : Stmt := topS 8
theorem sc_part : FnScope ["above", "below", "common"] ["above", "below"] (defScope s_part) := ⟨rfl, rfl, rfl, by decide +kernel, rfl, by decide +kernel, by decide +kernel⟩
abbrev s_plus : Stmt := topS 9
theorem sc_plus : FnScope ["one", "other"] ["one", "other"] (defScope s_plus) := ⟨rfl, rfl, rfl, by decide +kernel, rfl, by decide +kernel, by decide +kernel⟩
abbrev s_part_text : Stmt := topS 10
theorem sc_part_text : FnScope ["one", "above", "below"] ["one"] (defScope s_part_text) := ⟨rfl, rfl, rfl, by decide +kernel, rfl, by decide +kernel, by decide +kernel⟩
abbrev s_number_in : Stmt := topS 11
theorem sc_number_in : FnScope ["text", "number"] ["text"] (defScope s_number_in) := ⟨rfl, rfl, rfl, by decide +kernel, rfl, by decide +kernel, by decide +kernel⟩
abbrev s_read_part : Stmt := topS 12
theorem sc_read_part : FnScope ["text", "above", "slash", "below", "pair"] ["text"] (defScope s_read_part) := ⟨rfl, rfl, rfl, by decide +kernel, rfl, by decide +kernel, by decide +kernel⟩
abbrev s_lpot : Stmt := topS 14
theorem sc_lpot : FnScope ["_law_script", "_law_k", "_law_cell"] ["_law_script", "_law_k"] (defScope s_lpot) := ⟨rfl, rfl, rfl, by decide +kernel, rfl, by decide +kernel, by decide +kernel⟩
abbrev s_ldigit : Stmt := topS 15
theorem sc_ldigit : FnScope ["_law_pot_here", "_law_many", "_law_digit_here"] ["_law_pot_here", "_law_many"] (defScope s_ldigit) := ⟨rfl, rfl, rfl, by decide +kernel, rfl, by decide +kernel, by decide +kernel⟩
abbrev s_llow : Stmt := topS 16
theorem sc_llow : FnScope ["_law_above", "_law_below", "_law_one_here", "_law_other"] ["_law_above", "_law_below"] (defScope s_llow) := ⟨rfl, rfl, rfl, by decide +kernel, rfl, by decide +kernel, by decide +kernel⟩
abbrev s_ltens : Stmt := topS 17
theorem sc_ltens : FnScope ["_law_many", "_law_found", "_law_k"] ["_law_many"] (defScope s_ltens) := ⟨rfl, rfl, rfl, by decide +kernel, rfl, by decide +kernel, by decide +kernel⟩
abbrev s_lnumber : Stmt := topS 18
theorem sc_lnumber : FnScope ["_law_pot_here", "_law_way"] ["_law_pot_here"] (defScope s_lnumber) := ⟨rfl, rfl, rfl, by decide +kernel, rfl, by decide +kernel, by decide +kernel⟩
abbrev s_lone : Stmt := topS 19
theorem sc_lone : FnScope ["_law_pot_here", "_law_above", "_law_below"] ["_law_pot_here"] (defScope s_lone) := ⟨rfl, rfl, rfl, by decide +kernel, rfl, by decide +kernel, by decide +kernel⟩
abbrev s_lfigures : Stmt := topS 20
theorem sc_lfigures : FnScope ["_law_number_here", "_law_found", "_law_left"] ["_law_number_here"] (defScope s_lfigures) := ⟨rfl, rfl, rfl, by decide +kernel, rfl, by decide +kernel, by decide +kernel⟩
abbrev s_ltext : Stmt := topS 21
theorem sc_ltext : FnScope ["_law_one_here", "_law_above", "_law_below", "_law_found"] ["_law_one_here"] (defScope s_ltext) := ⟨rfl, rfl, rfl, by decide +kernel, rfl, by decide +kernel, by decide +kernel⟩
abbrev s_lis_whole : Stmt := topS 22
theorem sc_lis_whole : FnScope ["_law_thing"] ["_law_thing"] (defScope s_lis_whole) := ⟨rfl, rfl, rfl, by decide +kernel, rfl, by decide +kernel, by decide +kernel⟩
abbrev s_lright : Stmt := topS 23
theorem sc_lright : FnScope ["_law_one_here", "_law_text_here", "_law_found", "_law_number_here"] ["_law_one_here"] (defScope s_lright) := ⟨rfl, rfl, rfl, by decide +kernel, rfl, by decide +kernel, by decide +kernel⟩
abbrev s_law : Stmt := topS 24
theorem sc_law : FnScope ["_law_script", "_law_k", "_law_pot_here", "_law_one_here", "_law_other", "_law_whole", "_law_turn"] ["_law_script"] (defScope s_law) := ⟨rfl, rfl, rfl, by decide +kernel, rfl, by decide +kernel, by decide +kernel⟩
structure Tx (K : PySem.W.Frag) (mg : Str → Option Value) (base : Heap) where
  f_is_whole : Addr
  d_is_whole : FuncData
  g_is_whole : mg "is_whole" = some (.ref f_is_whole)
  F_is_whole : Fun K "is_whole" "is_whole" s_is_whole f_is_whole d_is_whole
  b_is_whole : Binds K d_is_whole ["thing"] []
  f_greatest_common : Addr
  d_greatest_common : FuncData
  g_greatest_common : mg "greatest_common" = some (.ref f_greatest_common)
  F_greatest_common : Fun K "greatest_common" "greatest_common" s_greatest_common f_greatest_common d_greatest_common
  b_greatest_common : Binds K d_greatest_common ["one", "other"] []
  f_is_part : Addr
  d_is_part : FuncData
  g_is_part : mg "is_part" = some (.ref f_is_part)
  F_is_part : Fun K "is_part" "is_part" s_is_part f_is_part d_is_part
  b_is_part : Binds K d_is_part ["thing"] []
  f_part : Addr
  d_part : FuncData
  g_part : mg "part" = some (.ref f_part)
  F_part : FunD K "part" "part" (defArgs s_part) (defBody s_part) (defScope s_part) [.int 1] [] f_part d_part
  b_part : Binds K d_part ["above", "below"] []
  f_plus : Addr
  d_plus : FuncData
  g_plus : mg "plus" = some (.ref f_plus)
  F_plus : Fun K "plus" "plus" s_plus f_plus d_plus
  b_plus : Binds K d_plus ["one", "other"] []
  f_part_text : Addr
  d_part_text : FuncData
  g_part_text : mg "part_text" = some (.ref f_part_text)
  F_part_text : Fun K "part_text" "part_text" s_part_text f_part_text d_part_text
  b_part_text : Binds K d_part_text ["one"] []
  f_number_in : Addr
  d_number_in : FuncData
  g_number_in : mg "number_in" = some (.ref f_number_in)
  F_number_in : Fun K "number_in" "number_in" s_number_in f_number_in d_number_in
  b_number_in : Binds K d_number_in ["text"] []
  f_read_part : Addr
  d_read_part : FuncData
  g_read_part : mg "read_part" = some (.ref f_read_part)
  F_read_part : Fun K "read_part" "read_part" s_read_part f_read_part d_read_part
  b_read_part : Binds K d_read_part ["text"] []
  f_lpot : Addr
  d_lpot : FuncData
  g_lpot : mg "_law_pot" = some (.ref f_lpot)
  F_lpot : Fun K "_law_pot" "_law_pot" s_lpot f_lpot d_lpot
  b_lpot : Binds K d_lpot ["_law_script", "_law_k"] []
  f_ldigit : Addr
  d_ldigit : FuncData
  g_ldigit : mg "_law_digit" = some (.ref f_ldigit)
  F_ldigit : Fun K "_law_digit" "_law_digit" s_ldigit f_ldigit d_ldigit
  b_ldigit : Binds K d_ldigit ["_law_pot_here", "_law_many"] []
  f_llow : Addr
  d_llow : FuncData
  g_llow : mg "_law_low" = some (.ref f_llow)
  F_llow : Fun K "_law_low" "_law_low" s_llow f_llow d_llow
  b_llow : Binds K d_llow ["_law_above", "_law_below"] []
  f_ltens : Addr
  d_ltens : FuncData
  g_ltens : mg "_law_tens" = some (.ref f_ltens)
  F_ltens : Fun K "_law_tens" "_law_tens" s_ltens f_ltens d_ltens
  b_ltens : Binds K d_ltens ["_law_many"] []
  f_lnumber : Addr
  d_lnumber : FuncData
  g_lnumber : mg "_law_number" = some (.ref f_lnumber)
  F_lnumber : Fun K "_law_number" "_law_number" s_lnumber f_lnumber d_lnumber
  b_lnumber : Binds K d_lnumber ["_law_pot_here"] []
  f_lone : Addr
  d_lone : FuncData
  g_lone : mg "_law_one" = some (.ref f_lone)
  F_lone : Fun K "_law_one" "_law_one" s_lone f_lone d_lone
  b_lone : Binds K d_lone ["_law_pot_here"] []
  f_lfigures : Addr
  d_lfigures : FuncData
  g_lfigures : mg "_law_figures" = some (.ref f_lfigures)
  F_lfigures : Fun K "_law_figures" "_law_figures" s_lfigures f_lfigures d_lfigures
  b_lfigures : Binds K d_lfigures ["_law_number_here"] []
  f_ltext : Addr
  d_ltext : FuncData
  g_ltext : mg "_law_text" = some (.ref f_ltext)
  F_ltext : Fun K "_law_text" "_law_text" s_ltext f_ltext d_ltext
  b_ltext : Binds K d_ltext ["_law_one_here"] []
  f_lis_whole : Addr
  d_lis_whole : FuncData
  g_lis_whole : mg "_law_is_whole" = some (.ref f_lis_whole)
  F_lis_whole : Fun K "_law_is_whole" "_law_is_whole" s_lis_whole f_lis_whole d_lis_whole
  b_lis_whole : Binds K d_lis_whole ["_law_thing"] []
  f_lright : Addr
  d_lright : FuncData
  g_lright : mg "_law_right" = some (.ref f_lright)
  F_lright : Fun K "_law_right" "_law_right" s_lright f_lright d_lright
  b_lright : Binds K d_lright ["_law_one_here"] []
  f_law : Addr
  d_law : FuncData
  g_law : mg "law" = some (.ref f_law)
  F_law : Fun K "law" "law" s_law f_law d_law
  b_law : Binds K d_law ["_law_script"] []
  c_NoPart : Addr
  gc_NoPart : mg "NoPart" = some (.ref c_NoPart)
  x_NoPart : PySem.W.excIn K c_NoPart [.type "ValueError", .type "Exception", .type "BaseException", .type "object"] "ValueError.__new__" = true
  kc_NoPart : PySem.W.keepIn K (.ref c_NoPart) = true
  bc_NoPart : PySem.W.subIn K (.ref c_NoPart) (.type "BaseException") = some true
  tc_NoPart : PySem.W.typeIn K (.ref c_NoPart) = some (.type "type")
  hc_NoPart : PySem.W.hasDictIn K c_NoPart = true
  sc_NoPart : PySem.W.subIn K (.ref c_NoPart) (.ref c_NoPart) = some true
  dg : base.NoDigits
  n_ValueError : mg "ValueError" = none
  n_abs : mg "abs" = none
  n_all : mg "all" = none
  n_bool : mg "bool" = none
  n_divmod : mg "divmod" = none
  n_int : mg "int" = none
  n_isinstance : mg "isinstance" = none
  n_len : mg "len" = none
  n_max : mg "max" = none
  n_min : mg "min" = none
  n_range : mg "range" = none
  n_str : mg "str" = none
  n_tuple : mg "tuple" = none
section
variable {P : Program} {w : World} {K : PySem.W.Frag} {mg : Str → Option Value} {base : Heap}
theorem ok_is_whole (T : Tx K mg base) : FnOk P w K mg base CX0 1 T.f_is_whole T.d_is_whole ["thing"] (spWhole K) := by
  refine T.F_is_whole.ok sc_is_whole (fun vs H Q E h => ?_) (fun cdv A outer s H vs Q E hr h => ?_)
  · obtain ⟨v, b, rfl, _⟩ := h
    rfl
  · obtain ⟨v, b, rfl, ⟨t, b1, b2, ht, k1, k2, rfl⟩, q⟩ := h
    refine ⟨_, (pss_one (ps_ret (pe_and (pe_callB call_isi (by rfl) T.n_isinstance (by decide +kernel) (pa_cons (pv 0) (pa_cons (pe_bltn (v := .ty "int") (by rfl) T.n_int (by decide +kernel) rfl) pa_nil))) (pe_one (pe_not (pe_callB call_isi (by rfl) T.n_isinstance (by decide +kernel) (pa_cons (pv 0) (pa_cons (pe_bltn (v := .ty "bool") (by rfl) T.n_bool (by decide +kernel) rfl) pa_nil)))))))), ?_⟩
    refine ⟨v, rfl, v, _, t, _, b1, rfl, .ty "int", ht, k1, b1, rfl, ?_⟩
    cases b1 with
    | false => exact iteF q
    | true => exact iteT ⟨v, rfl, v, _, t, _, b2, rfl, .ty "bool", ht, k2, b2, rfl, q⟩
theorem ok_greatest_common (T : Tx K mg base) : FnOk P w K mg base CX0 1 T.f_greatest_common T.d_greatest_common ["one", "other"] spGcd := by
  refine T.F_greatest_common.ok sc_greatest_common (fun vs H Q E h => ?_) (fun cdv A outer s H vs Q E hr h => ?_)
  · obtain ⟨x, y, rfl, _⟩ := h
    rfl
  · obtain ⟨x, y, rfl, hx, hy, q⟩ := h
    refine ⟨_, (pss_cons (ps_while PassesOwn.never (pt_cmpR op_ne (pv 1) pe_int (nomark _)) (pss_one (ps_par (i := 0) (j := 1) (by rfl) sc_greatest_common.nd rfl rfl (by decide) rfl rfl (pa_cons (pv 1) (pa_cons (pe_op op_mod (pv 0) (pv 1)) pa_nil)) (by rfl))))
        (pss_one (ps_ret (pv 0)))), ?_⟩
    refine while_by (fun σ H' => ∃ a b : Int, σ = [some (.int a), some (.int b)] ∧ 0 ≤ a ∧ 0 ≤ b ∧ Int.gcd a b = Int.gcd x y ∧ H' = H)
      (fun σ _ => match σ with | [_, some (.int b)] => b.toNat | _ => 0) ⟨x, y, rfl, hx, hy, rfl, rfl⟩ ?_ ?_
    · rintro σ H' ⟨a, b, rfl, ha, hb, eg, rfl⟩
      refine ⟨_, rfl, rfl, _, rfl, ?_⟩
      by_cases c : b = 0
      · subst c
        refine iteNS rfl ?_
        refine ⟨_, rfl, ?_⟩
        have e := gcd_zero ha
        rw [eg] at e
        rw [← e]
        exact q
      · have hb' : 0 < b := by omega
        have d : decide (V.int b = V.int 0) = false := decide_eq_false (fun z => c (V.int.inj z))
        rw [d]
        refine iteT ?_
        refine ⟨_, rfl, _, rfl, _, rfl, _, _, rfl, rfl, hb', _, _, rfl, ?_, ?_⟩
        · exact ⟨b, a % b, rfl, hb, Int.emod_nonneg a c, (gcd_step ha hb').trans eg, rfl⟩
        · show (a % b).toNat < b.toNat
          have := Int.emod_lt_of_pos a hb'
          omega
    · rintro σ H Q Q' k ⟨v, h1, h2, c, h3, q⟩
      exact ⟨v, h1, h2, c, h3, k _ _ q⟩
theorem ok_is_part (T : Tx K mg base) : FnOk P w K mg base CX0 2 T.f_is_part T.d_is_part ["thing"] (spPair K) := by
  refine T.F_is_part.ok sc_is_part (fun vs H Q E h => ?_) (fun cdv A outer s H vs Q E hr h => ?_)
  · obtain ⟨v, b, rfl, _⟩ := h
    rfl
  · obtain ⟨v, b, rfl, hv, q⟩ := h
    refine ⟨_, (pss_cons (ps_if (PW.pt (pw_or (pt_not (pt_val (pe_callB call_isi (by rfl) T.n_isinstance (by decide +kernel) (pa_cons (pv 0) (pa_cons (pe_bltn (v := .ty "tuple") (by rfl) T.n_tuple (by decide +kernel) rfl) pa_nil))))) (pw_or1 (pt_cmpR op_ne (pe_callB call_len_seq (by rfl) T.n_len (by decide +kernel) (pa_cons (pv 0) pa_nil)) pe_int (nomark _))))) (pss_one (ps_ret pe_bl)) pss_nil)
        (pss_cons (ps_asg (pv 0) (pg_tup (by rfl) (pgs_cons (pg_name (i := 1) sc_is_part.nd rfl (.inl rfl)) (pgs_cons (pg_name (i := 2) sc_is_part.nd rfl (.inl rfl)) pgs_nil))))
        (pss_cons (ps_if (PW.pt (pw_or (pt_not (pt_val (pe_call (ok_is_whole T) (hr.mono (by decide)) (by rfl) T.g_is_whole T.F_is_whole.kp T.b_is_whole .nil pass0 (pa_cons (pv 1) pa_nil)))) (pw_or (pt_not (pt_val (pe_call (ok_is_whole T) (hr.mono (by decide)) (by rfl) T.g_is_whole T.F_is_whole.kp T.b_is_whole .nil pass0 (pa_cons (pv 2) pa_nil)))) (pw_or1 (pt_cmpR op_le (pv 2) pe_int (nomark _)))))) (pss_one (ps_ret pe_bl)) pss_nil)
        (pss_one (ps_ret (pe_cmpR op_eq (pe_call (ok_greatest_common T) (hr.mono (by decide)) (by rfl) T.g_greatest_common T.F_greatest_common.kp T.b_greatest_common .nil pass0 (pa_cons (pe_callB call_abs (by rfl) T.n_abs (by decide +kernel) (pa_cons (pv 1) pa_nil)) (pa_cons (pv 2) pa_nil))) pe_int (nomark _))))))), ?_⟩
    rcases hv with ⟨rfl, t, ht, kt⟩ | ⟨a, xs, rfl, ht, hv⟩
    · exact ⟨_, rfl, _, _, t, _, false, rfl, .ty "tuple", ht, kt, false, rfl, iteT (iteT q)⟩
    · refine ⟨_, rfl, _, _, _, _, true, rfl, .ty "tuple", sqt_ty ht, kit_ty (by decide +kernel), true, rfl, iteF ?_⟩
      refine ⟨_, rfl, a, xs, rfl, .inr ht, rfl, _, rfl, ?_⟩
      rcases hv with ⟨rfl, hl⟩ | ⟨x, y, rfl, hv⟩
      · rw [decide_eq_false (show ¬ V.int (xs.length : Int) = V.int 2 from fun z => hl (by have := V.int.inj z; omega))]
        exact iteT q
      · refine iteF ?_
        refine ⟨_, rfl, a, _, rfl, ht, rfl, x, [y], rfl, y, [], rfl, rfl, ?_⟩
        rcases hv with ⟨rfl, hx⟩ | ⟨i, rfl, rfl, hy⟩ | ⟨i, j, rfl, rfl, rfl⟩
        · exact ⟨_, rfl, _, _, rfl, hx, false, rfl, iteT (iteT q)⟩
        · refine ⟨_, rfl, _, _, rfl, whole_int, true, rfl, iteF ?_⟩
          exact ⟨_, rfl, _, _, rfl, hy, false, rfl, iteT (iteT q)⟩
        · refine ⟨_, rfl, _, _, rfl, whole_int, true, rfl, iteF ⟨_, rfl, _, _, rfl, whole_int, true, rfl, iteF ?_⟩⟩
          refine ⟨_, rfl, _, _, rfl, rfl, _, rfl, ?_⟩
          by_cases c : 0 < j
          · rw [decide_eq_false (show ¬ j ≤ 0 by omega)]
            refine iteF ?_
            refine ⟨_, rfl, _, rfl, _, rfl, _, _, rfl, by split <;> omega, by omega, rfl, ?_⟩
            rw [gcd_abs]
            rw [decide_eq_true c, Bool.true_and] at q
            rw [decide_eq_decide.mpr (show V.int (Int.gcd i j : Int) = V.int 1 ↔ (Int.gcd i j : Int) = 1 from ⟨V.int.inj, congrArg V.int⟩)]
            exact q
          · rw [decide_eq_true (show j ≤ 0 by omega)]
            rw [decide_eq_false c, Bool.false_and] at q
            exact iteT q
theorem ok_part (T : Tx K mg base) : FnOk P w K mg base CX0 3 T.f_part T.d_part ["above", "below"] (spLow K) := by
  refine T.F_part.ok sc_part (fun vs H Q E h => ?_) (fun cdv A outer s H vs Q E hr h => ?_)
  · obtain ⟨a, b, rfl, _⟩ := h
    rfl
  · obtain ⟨a, b, rfl, hb, h9, q⟩ := h
    refine ⟨_, PSs.nox (pss_cons (ps_if (PW.pt (pw_or (pt_not (pt_val (pe_call (ok_is_whole T) (hr.mono (by decide)) (by rfl) T.g_is_whole T.F_is_whole.kp T.b_is_whole .nil pass0 (pa_cons (pv 0) pa_nil)))) (pw_or1 (pt_not (pt_val (pe_call (ok_is_whole T) (hr.mono (by decide)) (by rfl) T.g_is_whole T.F_is_whole.kp T.b_is_whole .nil pass0 (pa_cons (pv 1) pa_nil))))))) (pss_one ps_never) pss_nil)
        (pss_cons (ps_if (pt_cmpR op_eq (pv 1) pe_int (nomark _)) (pss_one ps_never) pss_nil)
        (pss_cons (ps_if (pt_cmpR op_lt (pv 1) pe_int (nomark _)) (pss_one (ps_par (i := 0) (j := 1) (by rfl) sc_part.nd rfl rfl (by decide) rfl rfl (pa_cons (pe_un un_neg (pv 0)) (pa_cons (pe_un un_neg (pv 1)) pa_nil)) (by rfl))) pss_nil)
        (pss_cons (ps_set (i := 2) sc_part.nd rfl (.inl rfl) (pe_call (ok_greatest_common T) (hr.mono (by decide)) (by rfl) T.g_greatest_common T.F_greatest_common.kp T.b_greatest_common .nil pass0 (pa_cons (pe_callB call_abs (by rfl) T.n_abs (by decide +kernel) (pa_cons (pv 0) pa_nil)) (pa_cons (pv 1) pa_nil))))
        (pss_one (ps_ret (pe_tup (pa_cons (pe_op op_fdivW (pv 0) (pv 2)) (pa_cons (pe_op op_fdivW (pv 1) (pv 2)) pa_nil))))))))), ?_⟩
    refine ⟨_, rfl, _, _, rfl, whole_int, true, rfl, iteF ⟨_, rfl, _, _, rfl, whole_int, true, rfl, iteF ?_⟩⟩
    refine ⟨_, rfl, rfl, _, rfl, ?_⟩
    rw [show decide (V.int b = V.int 0) = false from decide_eq_false (fun z => by have := V.int.inj z; omega)]
    refine iteF ?_
    refine ⟨_, rfl, _, _, rfl, rfl, _, rfl, ?_⟩
    rw [show decide (b < 0) = false from decide_eq_false (by omega)]
    refine iteF ?_
    refine ⟨_, rfl, _, rfl, _, rfl, _, _, rfl, by split <;> omega, by omega, ?_⟩
    rw [gcd_abs]
    have g0 : 0 < (Int.gcd a b : Int) := by have := gcd_pos (a := a) (b := b) (by omega); omega
    have g9 : Bt 8999 (Int.gcd a b : Int) := gcd_bt hb h9
    refine ⟨_, rfl, _, rfl, _, _, rfl, rfl, g9.cdiv g0 (by decide), _, rfl, _, rfl, _, _, rfl, rfl, g9.cdiv g0 (by decide), by show 2 ≤ sizeLine; decide, fun p np => q _ _ (same_new np) TupI.new⟩
theorem ok_plus (T : Tx K mg base) : FnOk P w K mg base CX0 4 T.f_plus T.d_plus ["one", "other"] (spTwo K fun a b c d => lo (a * d + c * b) (b * d)) := by
  refine T.F_plus.ok sc_plus (fun vs H Q E h => ?_) (fun cdv A outer s H vs Q E hr h => ?_)
  · obtain ⟨u, v, a, b, c, d, rfl, _⟩ := h
    rfl
  · obtain ⟨u, v, a, b, c, d, rfl, ⟨t, rfl, ht⟩, ⟨r, rfl, hv⟩, hb, hd, ba, bb, bc, bd, q⟩ := h
    refine ⟨_, (pss_one (ps_ret (pe_call (ok_part T) (hr.mono (by decide)) (by rfl) T.g_part T.F_part.kp T.b_part .nil pass0 (pa_cons (pe_op op_add (pe_op op_mulW (pe_ix ix_tup (pv 0) pe_int (fun _ _ => rfl)) (pe_ix ix_tup (pv 1) pe_int (fun _ _ => rfl))) (pe_op op_mulW (pe_ix ix_tup (pv 1) pe_int (fun _ _ => rfl)) (pe_ix ix_tup (pv 0) pe_int (fun _ _ => rfl)))) (pa_cons (pe_op op_mulW (pe_ix ix_tup (pv 0) pe_int (fun _ _ => rfl)) (pe_ix ix_tup (pv 1) pe_int (fun _ _ => rfl))) pa_nil))))), ?_⟩
    refine ⟨_, rfl, t, _, 0, _, rfl, rfl, ht, atI_nat (j := 0) rfl, _, rfl, r, _, 1, _, rfl, rfl, hv, atI_nat (j := 1) rfl, _, _, rfl, rfl, ba.cmul bd (by decide), ?_⟩
    refine ⟨_, rfl, r, _, 0, _, rfl, rfl, hv, atI_nat (j := 0) rfl, _, rfl, t, _, 1, _, rfl, rfl, ht, atI_nat (j := 1) rfl, _, _, rfl, rfl, bc.cmul bb (by decide), ?_⟩
    refine ⟨_, _, rfl, rfl, ?_⟩
    refine ⟨_, rfl, t, _, 1, _, rfl, rfl, ht, atI_nat (j := 1) rfl, _, rfl, r, _, 1, _, rfl, rfl, hv, atI_nat (j := 1) rfl, _, _, rfl, rfl, bb.cmul bd (by decide), ?_⟩
    exact ⟨_, _, rfl, Int.mul_pos hb hd, (bb.mul bd).mono (by decide), q⟩
theorem ok_lpot (T : Tx K mg base) : FnOk P w K mg base CX0 1 T.f_lpot T.d_lpot ["_law_script", "_law_k"] (spPot K) := by
  refine T.F_lpot.ok sc_lpot (fun vs H Q E h => ?_) (fun cdv A outer s H vs Q E hr h => ?_)
  · obtain ⟨a, ns, k, rfl, _⟩ := h
    rfl
  · obtain ⟨a, ns, k, rfl, hS, k0, k1, q⟩ := h
    refine ⟨_, (pss_cons (ps_set (i := 2) sc_lpot.nd rfl (.inl rfl) pe_int)
        (pss_cons (ps_if (pt_cmpR op_lt (pv 1) (pe_callB call_len_seq (by rfl) T.n_len (by decide +kernel) (pa_cons (pv 0) pa_nil)) (nomark _)) (pss_one (ps_set (i := 2) sc_lpot.nd rfl (.inl rfl) (pe_callB call_abs (by rfl) T.n_abs (by decide +kernel) (pa_cons (pe_ix ix_list (pv 0) (pv 1) (fun _ _ => rfl)) pa_nil)))) pss_nil)
        (pss_one (ps_ret (pe_lst (pa_cons (pe_callB (call_max2 (by rfl)) (by rfl) T.n_max (by decide +kernel) (pa_cons pe_int (pa_cons (pe_op op_sub (pv 2) (pe_op op_pow pe_int pe_int)) pa_nil))) (pa_cons (pe_op op_add (pe_op op_mod (pe_op op_pow (pe_op op_add (pe_op op_add (pe_op op_mod (pv 2) pe_int) (pe_op op_mulW pe_int (pv 1))) pe_int) pe_int) pe_int) pe_int) pa_nil))))))), ?_⟩
    have fin : ∀ c : Int, 0 ≤ c → (tRet (tLst (tCons (tCB (fun xs H Q => ∃ i j, xs = [.int i, .int j] ∧ Q (.int (if j > i then j else i)) H) (tCons (tC (.int 0)) (tCons (tOp (rI0 fun i j => .int (i - j)) (tVar 2) (tOp (rI CPow fun i j => .int (i ^ j.toNat)) (tC (.int 10)) (tC (.int 18)))) tNil))) (tCons (tOp (rI0 fun i j => .int (i + j)) (tOp (rI (fun _ j => 0 < j) fun i j => .int (i % j)) (tOp (rI CPow fun i j => .int (i ^ j.toNat)) (tOp (rI0 fun i j => .int (i + j)) (tOp (rI0 fun i j => .int (i + j)) (tOp (rI (fun _ j => 0 < j) fun i j => .int (i % j)) (tVar 2) (tC (.int 2147483423))) (tOp (rI CMulW fun i j => .int (i * j)) (tC (.int 89)) (tVar 1))) (tC (.int 7))) (tC (.int 2))) (tC (.int 2147483399))) (tC (.int 1))) tNil)))) { nx := fun _ H' => Q .non H', rt := Q } [some (.ref a), some (.int k), some (.int c)] H := by
      intro c hc
      refine ⟨_, rfl, _, _, rfl, rfl, ⟨by decide, by decide, by decide⟩, _, _, rfl, rfl, _, _, rfl, ?_⟩
      have m0 : 0 ≤ c % 2147483423 := Int.emod_nonneg _ (by decide)
      have m1 : c % 2147483423 < 2147483423 := Int.emod_lt_of_pos _ (by decide)
      refine ⟨_, rfl, _, _, rfl, rfl, by show (0 : Int) < 2147483423; decide, _, rfl, _, _, rfl, rfl, ?_, _, _, rfl, rfl, _, _, rfl, rfl, _, _, rfl, rfl, ⟨by decide, by decide, ?_⟩, _, _, rfl, rfl, by show (0 : Int) < 2147483399; decide, _, _, rfl, rfl, by show 2 ≤ sizeLine; decide, fun p np => ?_⟩
      · exact Bt.cmul (n := 10) (m := 10) (Bt.of_lt (by decide) (by decide)) (Bt.of_lt (by omega) (by omega)) (by decide)
      · show (c % 2147483423 + 89 * k + 7).natAbs < 2 ^ 64
        omega
      · refine q p _ (same_new np) np ⟨_, _, upd_same, by split <;> omega, ?_, ?_⟩
        · have := Int.emod_nonneg ((c % 2147483423 + 89 * k + 7) ^ (2 : Int).toNat) (b := 2147483399) (by decide)
          omega
        · have := Int.emod_lt_of_pos ((c % 2147483423 + 89 * k + 7) ^ (2 : Int).toNat) (b := 2147483399) (by decide)
          omega
    refine ⟨_, rfl, _, rfl, a, _, rfl, .inl hS, _, _, rfl, rfl, _, rfl, ?_⟩
    refine ite2 (fun c => ?_) (fun c => ?_)
    · have c := of_decide_eq_true c
      rw [List.length_map] at c
      have hk : k.toNat < ns.length := by omega
      have g : (ns.map V.int)[k.toNat]? = some (.int ns[k.toNat]) := by
        rw [List.getElem?_map, List.getElem?_eq_getElem hk]
        rfl
      refine ⟨_, rfl, _, rfl, a, _, k, _, rfl, rfl, hS, at_of (j := k.toNat) (by omega) g, _, rfl, ?_⟩
      exact fin _ (by split <;> omega)
    · exact fin 0 (by decide)
theorem ok_ldigit (T : Tx K mg base) : FnOk P w K mg base CX0 1 T.f_ldigit T.d_ldigit ["_law_pot_here", "_law_many"] spDigit := by
  refine T.F_ldigit.ok sc_ldigit (fun vs H Q E h => ?_) (fun cdv A outer s H vs Q E hr h => ?_)
  · obtain ⟨p, m, rfl, _⟩ := h
    rfl
  · obtain ⟨p, m, rfl, ⟨x, y, hp, hx, hy, hy2⟩, hm, bm, q⟩ := h
    refine ⟨_, (pss_cons (ps_if (pt_cmpR op_gt (pe_ix ix_list (pv 0) pe_int (fun _ _ => rfl)) pe_int (nomark _)) (pss_cons (ps_asg (pe_callB call_divmodW (by rfl) T.n_divmod (by decide +kernel) (pa_cons (pe_ix ix_list (pv 0) pe_int (fun _ _ => rfl)) (pa_cons (pv 1) pa_nil))) (pg_tup (by rfl) (pgs_cons (pg_sub (pv 0) pe_int set_list) (pgs_cons (pg_name (i := 2) sc_ldigit.nd rfl (.inl rfl)) pgs_nil))))
        (pss_one (ps_ret (pv 2)))) pss_nil)
        (pss_cons (ps_asg (pe_op op_mod (pe_op op_add (pe_op op_mulW (pe_ix ix_list (pv 0) pe_int (fun _ _ => rfl)) pe_int) pe_int) pe_int) (pg_sub (pv 0) pe_int set_list))
        (pss_one (ps_ret (pe_op op_mod (pe_op op_fdivW (pe_op op_mod (pe_op op_mulW (pe_ix ix_list (pv 0) pe_int (fun _ _ => rfl)) (pe_ix ix_list (pv 0) pe_int (fun _ _ => rfl))) pe_int) pe_int) (pv 1)))))), ?_⟩
    have hL : SqL K H p [.int x, .int y] := .inl (.inl hp)
    refine ⟨_, rfl, p, _, 0, _, rfl, rfl, hL, atI_nat (j := 0) rfl, _, _, rfl, rfl, _, rfl, ?_⟩
    refine ite2 (fun c => ?_) (fun c => ?_)
    · have c := of_decide_eq_true c
      refine ⟨_, rfl, p, _, 0, _, rfl, rfl, hL, atI_nat (j := 0) rfl, _, rfl, _, _, rfl, ⟨hm, PyProof.noPylong_of_log2 (Nat.lt_of_lt_of_le (PySem.Flt.log2_lt_of (by decide) bm) (by decide))⟩, fun t nt => ?_⟩
      have npt : p ≠ t := ne_of_none hp nt
      have hp' : (upd H t (.tup [.int (x / m), .int (x % m)])) p = some (.lst [.int x, .int y]) := by rw [upd_ne npt]; exact hp
      refine ⟨t, _, rfl, .inl (.inl upd_same), rfl, _, _, rfl, _, rfl, p, _, _, 0, rfl, rfl, hp', rfl, _, _, rfl, rfl, ?_⟩
      refine ⟨_, rfl, ?_⟩
      refine q _ _ (Int.emod_nonneg x (by omega)) (Int.emod_lt_of_pos x hm) ((Same.x (same_new nt)).trans samex_set) ⟨x / m, y, upd_same, Int.ediv_nonneg (by omega) (by omega), hy, hy2⟩
    · refine ⟨_, rfl, p, _, 1, _, rfl, rfl, hL, atI_nat (j := 1) rfl, _, _, rfl, rfl, ?_, _, _, rfl, rfl, _, _, rfl, rfl, by show (0 : Int) < 2147483563; decide, ?_⟩
      · exact Bt.cmul (n := 32) (m := 32) (Bt.of_lt (by omega) (by omega)) (Bt.of_lt (by decide) (by decide)) (by decide)
      · refine ⟨_, rfl, p, _, _, 1, rfl, rfl, hp, rfl, ?_⟩
        have z0 : 0 ≤ (y * 45763 + 10061) % 2147483563 := Int.emod_nonneg _ (by decide)
        have z1 : (y * 45763 + 10061) % 2147483563 < 2147483563 := Int.emod_lt_of_pos _ (by decide)
        have hL2 : SqL K (upd H p (.lst [.int x, .int ((y * 45763 + 10061) % 2147483563)])) p [.int x, .int ((y * 45763 + 10061) % 2147483563)] := .inl (.inl upd_same)
        refine ⟨_, rfl, p, _, 1, _, rfl, rfl, hL2, atI_nat (j := 1) rfl, _, rfl, p, _, 1, _, rfl, rfl, hL2, atI_nat (j := 1) rfl, _, _, rfl, rfl, ?_, _, _, rfl, rfl, by show (0 : Int) < 2147483477; decide, _, _, rfl, rfl, ?_, _, rfl, _, _, rfl, rfl, hm, ?_⟩
        · exact Bt.cmul (n := 32) (m := 32) (Bt.of_lt (by omega) (by omega)) (Bt.of_lt (by omega) (by omega)) (by decide)
        · exact Bt.cdiv (n := 10) (by decide) (Bt.of_lt (by decide) (by decide)) (by decide)
        · exact q _ _ (Int.emod_nonneg _ (by omega)) (Int.emod_lt_of_pos _ hm) samex_set ⟨x, _, upd_same, hx, z0, by omega⟩
theorem ok_llow (T : Tx K mg base) : FnOk P w K mg base CX0 1 T.f_llow T.d_llow ["_law_above", "_law_below"] (spLow K) := by
  refine T.F_llow.ok sc_llow (fun vs H Q E h => ?_) (fun cdv A outer s H vs Q E hr h => ?_)
  · obtain ⟨a, b, rfl, _⟩ := h
    rfl
  · obtain ⟨x, y, rfl, hy, h9, q⟩ := h
    refine ⟨_, (pss_cons (ps_par (i := 2) (j := 3) (by rfl) sc_llow.nd rfl rfl (by decide) rfl rfl (pa_cons (pe_callB call_abs (by rfl) T.n_abs (by decide +kernel) (pa_cons (pv 0) pa_nil)) (pa_cons (pv 1) pa_nil)) (by rfl))
        (pss_cons (ps_while PassesOwn.never (pt_cmpR op_gt (pv 3) pe_int (nomark _)) (pss_one (ps_par (i := 2) (j := 3) (by rfl) sc_llow.nd rfl rfl (by decide) rfl rfl (pa_cons (pv 3) (pa_cons (pe_op op_mod (pv 2) (pv 3)) pa_nil)) (by rfl))))
        (pss_one (ps_ret (pe_tup (pa_cons (pe_op op_fdivW (pv 0) (pv 2)) (pa_cons (pe_op op_fdivW (pv 1) (pv 2)) pa_nil))))))), ?_⟩
    refine ⟨_, rfl, _, rfl, _, rfl, _, _, rfl, ?_⟩
    refine while_by (fun σ H' => ∃ a b : Int, σ = [some (.int x), some (.int y), some (.int a), some (.int b)] ∧ 0 ≤ a ∧ 0 ≤ b ∧ Int.gcd a b = Int.gcd x y ∧ H' = H)
      (fun σ _ => match σ with | [_, _, _, some (.int b)] => b.toNat | _ => 0) ⟨_, _, rfl, by split <;> omega, by omega, gcd_abs x y, rfl⟩ ?_ ?_
    · rintro σ H' ⟨a, b, rfl, ha, hb, eg, rfl⟩
      refine ⟨_, rfl, _, _, rfl, rfl, _, rfl, ?_⟩
      by_cases c : b = 0
      · subst c
        rw [show decide ((0 : Int) < 0) = false from rfl]
        refine iteF ?_
        have e := gcd_zero ha
        rw [eg] at e
        have g0 : 0 < (Int.gcd x y : Int) := by have := gcd_pos (a := x) (b := y) (by omega); omega
        have g9 : Bt 8999 (Int.gcd x y : Int) := gcd_bt hy h9
        rw [← e]
        refine ⟨_, rfl, _, rfl, _, _, rfl, rfl, g9.cdiv g0 (by decide), _, rfl, _, rfl, _, _, rfl, rfl, g9.cdiv g0 (by decide), by show 2 ≤ sizeLine; decide, fun p np => q _ _ (same_new np) TupI.new⟩
      · have hb' : 0 < b := by omega
        rw [show decide (0 < b) = true from decide_eq_true hb']
        refine iteT ?_
        refine ⟨_, rfl, _, rfl, _, rfl, _, _, rfl, rfl, hb', _, _, rfl, ?_, ?_⟩
        · exact ⟨b, a % b, rfl, hb, Int.emod_nonneg a c, (gcd_step ha hb').trans eg, rfl⟩
        · show (a % b).toNat < b.toNat
          have := Int.emod_lt_of_pos a hb'
          omega
    · rintro σ H Q Q' k ⟨v, h1, i, j, h2, h3, c, h4, q⟩
      exact ⟨v, h1, i, j, h2, h3, c, h4, k _ _ q⟩
theorem ok_lis_whole (T : Tx K mg base) : FnOk P w K mg base CX0 1 T.f_lis_whole T.d_lis_whole ["_law_thing"] (spWhole K) := by
  refine T.F_lis_whole.ok sc_lis_whole (fun vs H Q E h => ?_) (fun cdv A outer s H vs Q E hr h => ?_)
  · obtain ⟨v, b, rfl, _⟩ := h
    rfl
  · obtain ⟨v, b, rfl, ⟨t, b1, b2, ht, k1, k2, rfl⟩, q⟩ := h
    refine ⟨_, (pss_one (ps_ret (pe_and (pe_callB call_isi (by rfl) T.n_isinstance (by decide +kernel) (pa_cons (pv 0) (pa_cons (pe_bltn (v := .ty "int") (by rfl) T.n_int (by decide +kernel) rfl) pa_nil))) (pe_one (pe_not (pe_callB call_isi (by rfl) T.n_isinstance (by decide +kernel) (pa_cons (pv 0) (pa_cons (pe_bltn (v := .ty "bool") (by rfl) T.n_bool (by decide +kernel) rfl) pa_nil)))))))), ?_⟩
    refine ⟨v, rfl, v, _, t, _, b1, rfl, .ty "int", ht, k1, b1, rfl, ?_⟩
    cases b1 with
    | false => exact iteF q
    | true => exact iteT ⟨v, rfl, v, _, t, _, b2, rfl, .ty "bool", ht, k2, b2, rfl, q⟩

end
end WS

set_option Elab.async false
set_option linter.all false
set_option maxRecDepth 100000
set_option maxHeartbeats 4000000
namespace WS
open PySem PySem.Spec PyProof.Rows L2
section
variable {P : Program} {w : World} {K : PySem.W.Frag} {mg : Str → Option Value} {base : Heap}
theorem ok_part_text (T : Tx K mg base) : FnOk P w K mg base CX0 1 T.f_part_text T.d_part_text ["one"] (spText K) := by
  refine T.F_part_text.ok sc_part_text (fun vs H Q E h => ?_) (fun cdv A outer s H vs Q E hr h => ?_)
  · obtain ⟨v, a, b, rfl, _⟩ := h
    rfl
  · obtain ⟨v, a, b, rfl, ⟨t, rfl, ht⟩, b0, ba, bb, q⟩ := h
    refine ⟨_, (pss_cons (ps_asg (pv 0) (pg_tup (by rfl) (pgs_cons (pg_name (i := 1) sc_part_text.nd rfl (.inl rfl)) (pgs_cons (pg_name (i := 2) sc_part_text.nd rfl (.inl rfl)) pgs_nil))))
        (pss_cons (ps_if (pt_cmpR op_eq (pv 2) pe_int (nomark _)) (pss_one (ps_ret (pe_callTy (call_strW (by rfl) T.dg) (by rfl) T.n_str (by decide +kernel) (pa_cons (pv 1) pa_nil)))) pss_nil)
        (pss_one (ps_ret (pe_joined (PJ.cons (pe_fmtW (by rfl) T.dg (pv 1)) (PJ.cons pe_str (PJ.cons (pe_fmtW (by rfl) T.dg (pv 2)) PJ.nil)))))))), ?_⟩
    refine ⟨_, rfl, t, _, rfl, ht, rfl, _, _, rfl, _, _, rfl, rfl, ?_⟩
    have q := q H (Same.refl H)
    unfold pT at q
    refine ⟨_, rfl, rfl, _, rfl, ite2 (fun hb => ?_) (fun hb => ?_)⟩
    · have hb : b = 1 := V.int.inj (of_decide_eq_true hb)
      rw [if_pos hb] at q
      exact ⟨_, rfl, a, rfl, ba.mono (by decide), q⟩
    · have hb : b ≠ 1 := fun z => hb (decide_eq_true (congrArg V.int z))
      rw [if_neg hb] at q
      have l1 := nT_len3 ba
      have l2 := nT_len3 bb
      refine ⟨_, rfl, a, rfl, ba.mono (by decide), _, rfl, ?_, _, rfl, ?_, _, rfl, b, rfl, bb.mono (by decide), _, rfl, ?_, ?_⟩
      · rw [str_nil]; show (nT a).length ≤ _; rw [sizeLine_eq]; omega
      · rw [str_nil, len_app, sizeLine_eq]; show (nT a).length + 1 ≤ _; omega
      · rw [str_nil, len_app, len_app, sizeLine_eq]; show (nT a).length + 1 + (nT b).length ≤ _; omega
      · show Q (.str (Str.empty ++ nT a ++ Str.ofString "/" ++ nT b)) H
        rw [str_nil]
        exact q
theorem ok_number_in (T : Tx K mg base) : FnOk P w K mg base CX0 3 T.f_number_in T.d_number_in ["text"] spNumIn := by
  refine T.F_number_in.ok sc_number_in (fun vs H Q E h => ?_) (fun cdv A outer s H vs Q E hr h => ?_)
  · obtain ⟨t, n, rfl, _⟩ := h
    rfl
  · obtain ⟨t, n, rfl, ht, hl, q⟩ := h
    refine ⟨_, (pss_cons (ps_try_thru0 (pss_one (ps_set (i := 1) sc_number_in.nd rfl (.inl rfl) (pe_callTy (call_int_strW T.dg) (by rfl) T.n_int (by decide +kernel) (pa_cons (pv 0) pa_nil)))))
        (pss_one (ps_ret (pv 1)))), ?_⟩
    exact ⟨_, rfl, t, n, rfl, ht, hl, _, rfl, q⟩
theorem ok_read_part (T : Tx K mg base) : FnOk P w K mg base CX0 4 T.f_read_part T.d_read_part ["text"] (spRead K) := by
  refine T.F_read_part.ok sc_read_part (fun vs H Q E h => ?_) (fun cdv A outer s H vs Q E hr h => ?_)
  · obtain ⟨a, b, rfl, _⟩ := h
    rfl
  · obtain ⟨a, b, rfl, lw, ba, bb, q⟩ := h
    refine ⟨_, (pss_cons (ps_if (pt_not (pt_val (pe_callB call_isi (by rfl) T.n_isinstance (by decide +kernel) (pa_cons (pv 0) (pa_cons (pe_bltn (v := .ty "str") (by rfl) T.n_str (by decide +kernel) rfl) pa_nil))))) (pss_one ps_never) pss_nil)
        (pss_cons (ps_asg (pe_partition (pv 0) pe_str) (pg_tup (by rfl) (pgs_cons (pg_name (i := 1) sc_read_part.nd rfl (.inl rfl)) (pgs_cons (pg_name (i := 2) sc_read_part.nd rfl (.inl rfl)) (pgs_cons (pg_name (i := 3) sc_read_part.nd rfl (.inl rfl)) pgs_nil)))))
        (pss_cons (ps_set (i := 4) sc_read_part.nd rfl (.inl rfl) (pe_tup (pa_cons (pe_call (ok_number_in T) (hr.mono (by decide)) (by rfl) T.g_number_in T.F_number_in.kp T.b_number_in .nil pass0 (pa_cons (pv 1) pa_nil)) (pa_cons (pe_ifExp (pt_cmpR op_eq (pv 2) pe_str (nomark _)) (pe_call (ok_number_in T) (hr.mono (by decide)) (by rfl) T.g_number_in T.F_number_in.kp T.b_number_in .nil pass0 (pa_cons (pv 3) pa_nil)) pe_int) pa_nil))))
        (pss_cons (ps_if (PW.pt (pw_or (pt_not (pt_val (pe_call (ok_is_part T) (hr.mono (by decide)) (by rfl) T.g_is_part T.F_is_part.kp T.b_is_part .nil pass0 (pa_cons (pv 4) pa_nil)))) (pw_or1 (pt_cmpR op_ne (pe_call (ok_part_text T) (hr.mono (by decide)) (by rfl) T.g_part_text T.F_part_text.kp T.b_part_text .nil pass0 (pa_cons (pv 4) pa_nil)) (pv 0) (nomark _))))) (pss_one ps_never) pss_nil)
        (pss_one (ps_ret (pv 4))))))), ?_⟩
    have sl := pT_len ba bb
    have l1 := nT_len3 ba
    have l2 := nT_len3 bb
    refine ⟨_, rfl, _, _, _, _, true, rfl, .ty "str", .base (.str _), kit_ty (by decide +kernel), true, rfl, iteF ?_⟩
    refine ⟨_, rfl, ⟨_, rfl⟩, _, _, rfl, rfl, rfl, by rw [sizeLine_eq]; omega, fun p np => ?_⟩
    have rest : ∀ (B : Hp) (p2 : Addr) (x y z : V), Same H B → B p2 = none → tSeq (tIfS (tOr (tNot (tB (tCall (spPair K) [] E0 (tCons (tVar 4) tNil)))) (tTest (tOp rNe (tCall (spText K) [] E0 (tCons (tVar 4) tNil)) (tVar 0)))) tNever tNext) (tRet (tVar 4)) { nx := fun x H' => Q V.non H', rt := Q, bk := fun _ _ => False, ct := fun _ _ => False }
        [some (.str (pT a b)), some x, some y, some z, some (.ref p2)] (upd B p2 (HO.tup [V.int a, V.int b])) := fun B p2 x y z sB n2 => by
      have tt : TupI K (upd B p2 (HO.tup [V.int a, V.int b])) (.ref p2) a b := TupI.new
      have pi := pair_of tt
      rw [decide_eq_true lw.1, decide_eq_true (by rw [lw.2]; rfl), Bool.and_true] at pi
      refine ⟨_, rfl, _, _, rfl, pi, true, rfl, iteF ?_⟩
      refine ⟨_, rfl, _, a, b, rfl, tt, lw.1, ba, bb, fun H' s' => ⟨_, rfl, rfl, _, rfl, ?_⟩⟩
      rw [decide_eq_true rfl]
      refine iteF ⟨_, rfl, ?_⟩
      exact q _ _ (sB.trans ((same_new n2).trans s')) (tt.same s')
    by_cases hb : b = 1
    · rw [pT_part, if_pos hb]
      obtain ⟨B, eB, sB, hp⟩ : ∃ B, B = upd H p (.tup [.str (nT a), .str Str.empty, .str Str.empty]) ∧ Same H B ∧ SqT K B p [.str (nT a), .str Str.empty, .str Str.empty] := ⟨_, rfl, same_new np, .inl (.inl upd_same)⟩
      rw [← eB]
      refine ⟨p, _, rfl, hp, rfl, _, _, rfl, _, _, rfl, _, _, rfl, rfl, ?_⟩
      refine ⟨_, rfl, _, a, rfl, nT_read ba, by rw [sizeLine_eq]; omega, ?_⟩
      refine ⟨_, rfl, rfl, _, rfl, ?_⟩
      refine iteF ⟨by show 2 ≤ sizeLine; decide, fun p2 n2 => ?_⟩
      rw [← hb]
      exact rest B p2 _ _ _ sB n2
    · rw [pT_part, if_neg hb]
      obtain ⟨B, eB, sB, hp⟩ : ∃ B, B = upd H p (.tup [.str (nT a), .str (Str.ofString "/"), .str (nT b)]) ∧ Same H B ∧ SqT K B p [.str (nT a), .str (Str.ofString "/"), .str (nT b)] := ⟨_, rfl, same_new np, .inl (.inl upd_same)⟩
      rw [← eB]
      refine ⟨p, _, rfl, hp, rfl, _, _, rfl, _, _, rfl, _, _, rfl, rfl, ?_⟩
      refine ⟨_, rfl, _, a, rfl, nT_read ba, by rw [sizeLine_eq]; omega, ?_⟩
      refine ⟨_, rfl, rfl, _, rfl, ?_⟩
      refine iteT ⟨_, rfl, _, b, rfl, nT_read bb, by rw [sizeLine_eq]; omega, ?_⟩
      refine ⟨by show 2 ≤ sizeLine; decide, fun p2 n2 => ?_⟩
      exact rest B p2 _ _ _ sB n2

end
end WS

set_option Elab.async false
set_option linter.all false
set_option maxRecDepth 100000
set_option maxHeartbeats 4000000
namespace WS
open PySem PySem.Spec PyProof.Rows L2
section
variable {P : Program} {w : World} {K : PySem.W.Frag} {mg : Str → Option Value} {base : Heap}
theorem ok_ltens (T : Tx K mg base) : FnOk P w K mg base CX0 1 T.f_ltens T.d_ltens ["_law_many"] spTens := by
  refine T.F_ltens.ok sc_ltens (fun vs H Q E h => ?_) (fun cdv A outer s H vs Q E hr h => ?_)
  · obtain ⟨n, rfl, _⟩ := h
    rfl
  · obtain ⟨n, rfl, hn, q⟩ := h
    refine ⟨_, (pss_cons (ps_set (i := 1) sc_ltens.nd rfl (.inl rfl) pe_int)
        (pss_cons (ps_for PassesOwn.never rfl (pi_range1 (by rfl) T.n_range (pa_cons (pv 0) pa_nil)) (pg_name (i := 2) sc_ltens.nd rfl (.inl rfl)) (pss_one (ps_set (i := 1) sc_ltens.nd rfl (.inl rfl) (pe_op op_mulW (pv 1) pe_int))))
        (pss_one (ps_ret (pv 1))))), ?_⟩
    refine ⟨_, rfl, (n : Int), rfl, by omega, by omega, for_range (lo := 0) (n := ((n : Nat) : Int).toNat) (fun i σ H' => ∃ y, σ = [some (.int n), some (.int (10 ^ i)), y] ∧ H' = H)
      ⟨none, rfl, rfl⟩ ?_ ?_⟩
    · rintro i σ H' hi ⟨y, rfl, rfl⟩
      refine ⟨_, rfl, _, _, rfl, rfl, (bt_pow10 (by omega)).cmul (m := 5) (by unfold Bt; decide +kernel) (by decide), ?_⟩
      exact ⟨_, by rw [Int.pow_succ]; rfl, rfl⟩
    · rintro σ H' ⟨y, rfl, rfl⟩
      refine ⟨_, rfl, ?_⟩
      rw [Int.toNat_natCast]
      exact q
theorem ok_lnumber (T : Tx K mg base) : FnOk P w K mg base CX0 2 T.f_lnumber T.d_lnumber ["_law_pot_here"] spNumP := by
  refine T.F_lnumber.ok sc_lnumber (fun vs H Q E h => ?_) (fun cdv A outer s H vs Q E hr h => ?_)
  · obtain ⟨p, rfl, _⟩ := h
    rfl
  · obtain ⟨p, rfl, hp, q⟩ := h
    refine ⟨_, (pss_cons (ps_set (i := 1) sc_lnumber.nd rfl (.inl rfl) (pe_call (ok_ldigit T) (hr.mono (by decide)) (by rfl) T.g_ldigit T.F_ldigit.kp T.b_ldigit .nil pass0 (pa_cons (pv 0) (pa_cons pe_int pa_nil))))
        (pss_cons (ps_if (pt_cmpR op_eq (pv 1) pe_int (nomark _)) (pss_one (ps_ret (pe_call (ok_ldigit T) (hr.mono (by decide)) (by rfl) T.g_ldigit T.F_ldigit.kp T.b_ldigit .nil pass0 (pa_cons (pv 0) (pa_cons pe_int pa_nil))))) pss_nil)
        (pss_cons (ps_if (pt_cmpR op_eq (pv 1) pe_int (nomark _)) (pss_one (ps_ret (pe_op op_mulW (pe_op op_add pe_int (pe_call (ok_ldigit T) (hr.mono (by decide)) (by rfl) T.g_ldigit T.F_ldigit.kp T.b_ldigit .nil pass0 (pa_cons (pv 0) (pa_cons pe_int pa_nil)))) (pe_call (ok_ltens T) (hr.mono (by decide)) (by rfl) T.g_ltens T.F_ltens.kp T.b_ltens .nil pass0 (pa_cons (pe_call (ok_ldigit T) (hr.mono (by decide)) (by rfl) T.g_ldigit T.F_ldigit.kp T.b_ldigit .nil pass0 (pa_cons (pv 0) (pa_cons pe_int pa_nil))) pa_nil))))) pss_nil)
        (pss_cons (ps_if (pt_cmpR op_eq (pv 1) pe_int (nomark _)) (pss_one (ps_ret (pe_op op_mulW (pe_op op_fdivW (pe_call (ok_ltens T) (hr.mono (by decide)) (by rfl) T.g_ltens T.F_ltens.kp T.b_ltens .nil pass0 (pa_cons (pe_op op_add pe_int (pe_call (ok_ldigit T) (hr.mono (by decide)) (by rfl) T.g_ldigit T.F_ldigit.kp T.b_ldigit .nil pass0 (pa_cons (pv 0) (pa_cons pe_int pa_nil)))) pa_nil)) pe_int) (pe_op op_add pe_int (pe_call (ok_ldigit T) (hr.mono (by decide)) (by rfl) T.g_ldigit T.F_ldigit.kp T.b_ldigit .nil pass0 (pa_cons (pv 0) (pa_cons pe_int pa_nil))))))) pss_nil)
        (pss_one (ps_ret (pe_call (ok_ldigit T) (hr.mono (by decide)) (by rfl) T.g_ldigit T.F_ldigit.kp T.b_ldigit .nil pass0 (pa_cons (pv 0) (pa_cons (pe_ix ix_list (pe_lst (pa_cons (pe_op op_pow pe_int pe_int) (pa_cons (pe_op op_pow pe_int pe_int) (pa_cons (pe_op op_pow pe_int pe_int) pa_nil)))) (pe_op op_sub (pv 1) pe_int) (fun _ _ => rfl)) pa_nil))))))))), ?_⟩
    have c60 : (10 : Int) ^ 60 < 2 ^ 200 := by decide +kernel
    refine ⟨_, rfl, p, _, rfl, hp, by decide, by unfold Bt; decide +kernel, fun d H1 d0 d1 s1 p1 => ?_⟩
    refine ⟨_, rfl, rfl, _, rfl, ite2 (fun _ => ?_) (fun h0 => ?_)⟩
    · exact ⟨_, rfl, p, _, rfl, p1, by decide, by unfold Bt; decide +kernel, fun g H2 g0 g1 s2 p2 => q g H2 g0 (by omega) (s1.trans s2) p2⟩
    have h0 : d ≠ 0 := fun z => h0 (by rw [z]; exact decide_eq_true rfl)
    refine ⟨_, rfl, rfl, _, rfl, ite2 (fun _ => ?_) (fun h1 => ?_)⟩
    · refine ⟨_, rfl, p, _, rfl, p1, by decide, by unfold Bt; decide +kernel, fun g H2 g0 g1 s2 p2 => ?_⟩
      refine ⟨_, _, rfl, rfl, _, rfl, p, _, rfl, p2, by decide, by unfold Bt; decide +kernel, fun n H3 n0 n1 s3 p3 => ?_⟩
      obtain ⟨n, rfl⟩ : ∃ m : Nat, n = m := ⟨n.toNat, by omega⟩
      refine ⟨n, rfl, by omega, ?_⟩
      have l1 := pow10_le (n := n) (m := 56) (by omega)
      have l0 := pow10_pos n
      have bg : Bt 10 (1 + g) := Bt.of_lt (by omega) (by omega)
      refine ⟨_, _, rfl, rfl, bg.cmul (bt_pow10 (n := n) (by omega)) (by decide), ?_⟩
      have c56 : (999 : Int) * 10 ^ 56 < 2 ^ 200 := by decide +kernel
      refine q _ H3 (Int.mul_nonneg (by omega) (by omega)) ?_ (s1.trans (s2.trans s3)) p3
      have := Int.mul_le_mul (show 1 + g ≤ 999 by omega) l1 (by omega) (by decide)
      omega
    have h1 : d ≠ 1 := fun z => h1 (by rw [z]; exact decide_eq_true rfl)
    refine ⟨_, rfl, rfl, _, rfl, ite2 (fun _ => ?_) (fun h2 => ?_)⟩
    · refine ⟨_, rfl, p, _, rfl, p1, by decide, by unfold Bt; decide +kernel, fun n H3 n0 n1 s3 p3 => ?_⟩
      obtain ⟨n, rfl⟩ : ∃ m : Nat, n = m := ⟨n.toNat, by omega⟩
      refine ⟨_, _, rfl, rfl, n + 1, ?_, by omega, ?_⟩
      · show [V.int (1 + (n : Int))] = [V.int ((n + 1 : Nat) : Int)]
        rw [show (1 + (n : Int)) = ((n + 1 : Nat) : Int) by omega]
      have l1 := pow10_le (n := n + 1) (m := 60) (by omega)
      have l0 := pow10_pos (n + 1)
      refine ⟨_, _, rfl, rfl, Bt.cdiv (n := 4) (by decide) (by unfold Bt; decide +kernel) (by decide), _, rfl, p, _, rfl, p3, by decide, by unfold Bt; decide +kernel, fun g H2 g0 g1 s2 p2 => ?_⟩
      generalize (10 : Int) ^ (n + 1) = X at *
      have bg : Bt 10 (1 + g) := Bt.of_lt (by omega) (by omega)
      have bx : Bt 200 (X / 9) := Bt.of_lt (by omega) (by omega)
      refine ⟨_, _, rfl, rfl, _, _, rfl, rfl, bx.cmul bg (by decide), ?_⟩
      refine q _ H2 (Int.mul_nonneg (by omega) (by omega)) ?_ (s1.trans (s3.trans s2)) p2
      have := Int.mul_le_mul (show X / 9 ≤ X / 9 by omega) (show 1 + g ≤ 9 by omega) (by omega) (by omega)
      omega
    have h2 : d ≠ 2 := fun z => h2 (by rw [z]; exact decide_eq_true rfl)
    refine ⟨_, rfl, _, _, rfl, rfl, ⟨by decide, by decide, by decide⟩, _, _, rfl, rfl, ⟨by decide, by decide, by decide⟩, _, _, rfl, rfl, ⟨by decide, by decide, by decide⟩, by show 3 ≤ sizeLine; decide, fun l nl => ?_⟩
    obtain ⟨B, eB, sB, hL⟩ : ∃ B, B = upd H1 l (.lst [.int (10 ^ (3 : Int).toNat), .int (10 ^ (30 : Int).toNat), .int (10 ^ (60 : Int).toNat)]) ∧ Same H1 B ∧ SqL K B l [.int (10 ^ (3 : Int).toNat), .int (10 ^ (30 : Int).toNat), .int (10 ^ (60 : Int).toNat)] := ⟨_, rfl, same_new nl, .inl (.inl upd_same)⟩
    rw [← eB]
    obtain ⟨v, hv, hm⟩ := pick (xs := [V.int (10 ^ (3 : Int).toNat), V.int (10 ^ (30 : Int).toNat), V.int (10 ^ (60 : Int).toNat)]) (d := d - 3) (by omega) (by simp; omega)
    refine ⟨_, rfl, _, _, rfl, rfl, l, _, _, v, rfl, rfl, hL, hv, ?_⟩
    obtain ⟨m, rfl, m0, m1⟩ : ∃ m : Int, v = .int m ∧ 0 < m ∧ m < 2 ^ 200 := by
      simp only [List.mem_cons, List.not_mem_nil, or_false] at hm
      rcases hm with rfl | rfl | rfl
      · exact ⟨_, rfl, by decide +kernel, by decide +kernel⟩
      · exact ⟨_, rfl, by decide +kernel, by decide +kernel⟩
      · exact ⟨_, rfl, by decide +kernel, by decide +kernel⟩
    have bm : Bt 201 m := Bt.of_lt (by omega) (by omega)
    exact ⟨p, _, rfl, p1.same sB, m0, bm.mono (by decide), fun a H2 a0 a1 s2 p2 => q a H2 a0 (by omega) (s1.trans ((Same.x sB).trans s2)) p2⟩
theorem ok_lone (T : Tx K mg base) : FnOk P w K mg base CX0 3 T.f_lone T.d_lone ["_law_pot_here"] (spDraw K 200) := by
  refine T.F_lone.ok sc_lone (fun vs H Q E h => ?_) (fun cdv A outer s H vs Q E hr h => ?_)
  · obtain ⟨p, rfl, _⟩ := h
    rfl
  · obtain ⟨p, rfl, hp, q⟩ := h
    refine ⟨_, (pss_cons (ps_par (i := 1) (j := 2) (by rfl) sc_lone.nd rfl rfl (by decide) rfl rfl (pa_cons (pe_call (ok_lnumber T) (hr.mono (by decide)) (by rfl) T.g_lnumber T.F_lnumber.kp T.b_lnumber .nil pass0 (pa_cons (pv 0) pa_nil)) (pa_cons pe_int pa_nil)) (by rfl))
        (C8.pss_cut (ps_if (pt_cmpR op_gt (pe_call (ok_ldigit T) (hr.mono (by decide)) (by rfl) T.g_ldigit T.F_ldigit.kp T.b_ldigit .nil pass0 (pa_cons (pv 0) (pa_cons pe_int pa_nil))) pe_int (nomark _)) (pss_one (ps_set (i := 2) sc_lone.nd rfl (.inl rfl) (pe_callB (call_max2 (by rfl)) (by rfl) T.n_max (by decide +kernel) (pa_cons pe_int (pa_cons (pe_call (ok_lnumber T) (hr.mono (by decide)) (by rfl) T.g_lnumber T.F_lnumber.kp T.b_lnumber .nil pass0 (pa_cons (pv 0) pa_nil)) pa_nil))))) pss_nil)
        (pss_one (ps_ret (pe_call (ok_llow T) (hr.mono (by decide)) (by rfl) T.g_llow T.F_llow.kp T.b_llow .nil pass0 (pa_cons (pe_ix ix_list (pe_lst (pa_cons (pv 1) (pa_cons (pe_op op_sub pe_int (pv 1)) pa_nil))) (pe_call (ok_ldigit T) (hr.mono (by decide)) (by rfl) T.g_ldigit T.F_ldigit.kp T.b_ldigit .nil pass0 (pa_cons (pv 0) (pa_cons pe_int pa_nil))) (fun _ _ => rfl)) (pa_cons (pv 2) pa_nil))))))), ?_⟩
    refine ⟨_, rfl, p, rfl, hp, fun a H1 a0 a1 s1 p1 => ?_⟩
    refine ⟨_, _, rfl, fun σ' H' => ∃ b : Int, σ' = [some (.ref p), some (.int a), some (.int b)] ∧ 0 < b ∧ b < 2 ^ 200 ∧ SameX p H H' ∧ PotAt H' p, ?_, ?_⟩
    · refine ⟨_, rfl, p, _, rfl, p1, by decide, by unfold Bt; decide +kernel, fun d H2 d0 d1 s2 p2 => ?_⟩
      refine ⟨_, _, rfl, rfl, _, rfl, ite2 (fun _ => ?_) (fun _ => ?_)⟩
      · refine ⟨_, rfl, p, rfl, p2, fun b H3 b0 b1 s3 p3 => ?_⟩
        exact ⟨_, _, rfl, _, rfl, by split <;> omega, by split <;> omega, s1.trans (s2.trans s3), p3⟩
      · exact ⟨_, rfl, by decide, by decide, s1.trans s2, p2⟩
    · rintro σ' H' ⟨b, rfl, b0, b1, s2, p2⟩
      refine ⟨_, rfl, _, rfl, _, _, rfl, rfl, by show 2 ≤ sizeLine; decide, fun l nl => ?_⟩
      obtain ⟨B, eB, sB, hL⟩ : ∃ B, B = upd H' l (.lst [.int a, .int (0 - a)]) ∧ Same H' B ∧ B l = some (.lst [.int a, .int (0 - a)]) := ⟨_, rfl, same_new nl, upd_same⟩
      rw [← eB]
      refine ⟨_, rfl, p, _, rfl, p2.same sB, by decide, by unfold Bt; decide +kernel, fun g H3 g0 g1 s3 p3 => ?_⟩
      have hL3 := s3.lst (K := K) (p2.ne nl) (.inl (.inl hL))
      obtain ⟨v, hv, hm⟩ := pick (xs := [V.int a, V.int (0 - a)]) g0 (by simpa using g1)
      obtain ⟨m, rfl, bm⟩ : ∃ m : Int, v = .int m ∧ Bt 200 m := by
        simp only [List.mem_cons, List.not_mem_nil, or_false] at hm
        rcases hm with rfl | rfl
        · exact ⟨_, rfl, Bt.of_lt (by omega) (by omega)⟩
        · exact ⟨_, rfl, Bt.of_lt (by omega) (by omega)⟩
      have bb : Bt 200 b := Bt.of_lt (by omega) (by omega)
      refine ⟨l, _, g, _, rfl, rfl, hL3, hv, _, rfl, _, _, rfl, b0, bb.mono (by decide), fun v' H4 s4 t4 => ?_⟩
      exact q v' _ _ H4 (lo_lowest b0) bm.lo1 bb.lo2 t4 (s2.trans ((Same.x sB).trans (s3.trans (Same.x s4)))) (p3.same s4)
theorem ok_lfigures (T : Tx K mg base) : FnOk P w K mg base CX0 1 T.f_lfigures T.d_lfigures ["_law_number_here"] spFigures := by
  refine T.F_lfigures.ok sc_lfigures (fun vs H Q E h => ?_) (fun cdv A outer s H vs Q E hr h => ?_)
  · obtain ⟨n, rfl, _⟩ := h
    rfl
  · obtain ⟨N, rfl, hN, q⟩ := h
    refine ⟨_, (pss_cons (ps_set (i := 1) sc_lfigures.nd rfl (.inl rfl) pe_str)
        (pss_cons (ps_set (i := 2) sc_lfigures.nd rfl (.inl rfl) (pv 0))
        (pss_cons (ps_while PassesOwn.never (pt_cmpR op_gt (pv 2) pe_int (nomark _)) (pss_cons (ps_set (i := 1) sc_lfigures.nd rfl (.inl rfl) (pe_op op_add_str (pe_ix ix_str pe_str (pe_op op_mod (pv 2) pe_int) (fun _ _ => rfl)) (pv 1)))
        (pss_one (ps_set (i := 2) sc_lfigures.nd rfl (.inl rfl) (pe_op op_fdivW (pv 2) pe_int)))))
        (pss_one (ps_ret (pe_op op_add_str (pe_ix ix_str pe_str (pv 2) (fun _ _ => rfl)) (pv 1))))))), ?_⟩
    have hNL := TL.numL_len (by decide) hN
    refine ⟨_, rfl, ?_⟩
    refine while_by (fun σ H' => ∃ (n : Nat) (f : Str), σ = [some (.int N), some (.str f), some (.int n)] ∧ TL.numL N = TL.numL n ++ TL.tl f ∧ H' = H)
      (fun σ _ => match σ with | [_, _, some (.int b)] => b.toNat | _ => 0) ⟨N, Str.empty, rfl, by rw [show TL.tl Str.empty = [] from rfl, List.append_nil], rfl⟩ ?_ ?_
    · rintro σ H' ⟨n, f, rfl, e, rfl⟩
      have fl : f.length ≤ 1330 := by
        have := congrArg List.length e
        rw [List.length_append, ← TL.len_tl] at this
        omega
      refine ⟨_, rfl, _, _, rfl, rfl, _, rfl, ?_⟩
      by_cases c : (9 : Int) < n
      · rw [decide_eq_true c]
        refine iteT ?_
        have em : ((n : Int) % 10) = ((n % 10 : Nat) : Int) := by omega
        refine ⟨_, rfl, _, _, rfl, rfl, by show (0 : Int) < 10; decide, _, _, _, rfl, rfl, by rw [sizeLine_eq]; decide, by show atI _ ((n : Int) % 10) = _; rw [em]; exact digs_at (n % 10) (by omega), ?_⟩
        refine ⟨_, rfl, _, _, rfl, rfl, by rw [sizeLine_eq]; show 1 + f.length ≤ _; omega, ?_⟩
        refine ⟨_, rfl, _, _, rfl, rfl, Bt.cdiv (n := 4) (by decide) (by unfold Bt; decide +kernel) (by decide), ?_, ?_⟩
        · refine ⟨n / 10, _, ?_, fig_step (by omega) e, rfl⟩
          show [some (V.int (N : Int)), some (V.str ((⟨#[48 + n % 10]⟩ : Str) ++ f)), some (V.int ((n : Int) / 10))] = _
          rw [show ((n : Int) / 10) = ((n / 10 : Nat) : Int) by omega]
        · show ((n : Int) / 10).toNat < ((n : Int)).toNat
          omega
      · rw [decide_eq_false c]
        refine iteF ?_
        refine ⟨_, rfl, _, _, _, rfl, rfl, by rw [sizeLine_eq]; decide, digs_at n (by omega), ?_⟩
        refine ⟨_, rfl, _, _, rfl, rfl, by rw [sizeLine_eq]; show 1 + f.length ≤ _; omega, ?_⟩
        rw [fig_end (by omega) e]
        exact q
    · rintro σ H Q Q' k ⟨v, h1, i, j, h2, h3, c, h4, q⟩
      exact ⟨v, h1, i, j, h2, h3, c, h4, k _ _ q⟩

end
end WS

set_option Elab.async false
set_option linter.all false
set_option maxRecDepth 100000
set_option maxHeartbeats 4000000
namespace WS
open PySem PySem.Spec PyProof.Rows L2
section
variable {P : Program} {w : World} {K : PySem.W.Frag} {mg : Str → Option Value} {base : Heap}
theorem ok_ltext (T : Tx K mg base) : FnOk P w K mg base CX0 2 T.f_ltext T.d_ltext ["_law_one_here"] (spText K) := by
  refine T.F_ltext.ok sc_ltext (fun vs H Q E h => ?_) (fun cdv A outer s H vs Q E hr h => ?_)
  · obtain ⟨v, a, b, rfl, _⟩ := h
    rfl
  · obtain ⟨v, a, b, rfl, ⟨t, rfl, ht⟩, b0, ba, bb, q⟩ := h
    refine ⟨_, (pss_cons (ps_asg (pv 0) (pg_tup (by rfl) (pgs_cons (pg_name (i := 1) sc_ltext.nd rfl (.inl rfl)) (pgs_cons (pg_name (i := 2) sc_ltext.nd rfl (.inl rfl)) pgs_nil))))
        (pss_cons (ps_set (i := 3) sc_ltext.nd rfl (.inl rfl) (pe_op op_add_str (pe_ix ix_list (pe_lst (pa_cons pe_str (pa_cons pe_str pa_nil))) (pe_callTy call_int1 (by rfl) T.n_int (by decide +kernel) (pa_cons (pe_cmpR op_lt (pv 1) pe_int (nomark _)) pa_nil)) (fun _ _ => rfl)) (pe_call (ok_lfigures T) (hr.mono (by decide)) (by rfl) T.g_lfigures T.F_lfigures.kp T.b_lfigures .nil pass0 (pa_cons (pe_callB call_abs (by rfl) T.n_abs (by decide +kernel) (pa_cons (pv 1) pa_nil)) pa_nil))))
        (C8.pss_cut (ps_if (pt_cmpR op_gt (pv 2) pe_int (nomark _)) (pss_one (ps_set (i := 3) sc_ltext.nd rfl (.inl rfl) (pe_op op_add_str (pe_op op_add_str (pv 3) pe_str) (pe_call (ok_lfigures T) (hr.mono (by decide)) (by rfl) T.g_lfigures T.F_lfigures.kp T.b_lfigures .nil pass0 (pa_cons (pv 2) pa_nil))))) pss_nil)
        (pss_one (ps_ret (pv 3)))))), ?_⟩
    refine ⟨_, rfl, t, _, rfl, ht, rfl, _, _, rfl, _, _, rfl, rfl, ?_⟩
    refine ⟨by show 2 ≤ sizeLine; decide, fun l nl => ?_⟩
    obtain ⟨B, eB, sB, hL⟩ : ∃ B, B = upd H l (.lst [.str (Str.ofString ""), .str (Str.ofString "-")]) ∧ Same H B ∧ SqL K B l [.str (Str.ofString ""), .str (Str.ofString "-")] := ⟨_, rfl, same_new nl, .inl (.inl upd_same)⟩
    rw [← eB]
    have l1 := nT_len3 ba
    have l2 := nT_len3 bb
    obtain ⟨sg, hsg, esg, ls⟩ : ∃ sg : Str, atI [V.str (Str.ofString ""), V.str (Str.ofString "-")] (if decide (a < 0) = true then 1 else 0) = some (.str sg) ∧ sg ++ nT (if a < 0 then -a else a) = nT a ∧ sg.length ≤ 1 := by
      by_cases h : a < 0
      · rw [decide_eq_true h, if_pos rfl, if_pos h]
        refine ⟨_, rfl, ?_, by decide⟩
        exact minus_text h
      · rw [decide_eq_false h, if_neg (by decide), if_neg h]
        exact ⟨_, rfl, str_nil _, by decide⟩
    refine ⟨_, rfl, _, _, rfl, rfl, .inr ⟨_, rfl, l, _, _, _, rfl, rfl, hL, hsg, ?_⟩⟩
    have la : (nT (if a < 0 then -a else a)).length ≤ 1331 := by
      split
      · exact nT_len3 ba.neg
      · exact l1
    have nat_a : (if a < 0 then -a else a) = ((a.natAbs : Nat) : Int) := by split <;> omega
    refine ⟨_, rfl, _, rfl, a.natAbs, by rw [nat_a]; rfl, Nat.lt_of_lt_of_le ba p1330, ?_⟩
    rw [← nat_a]
    refine ⟨_, _, rfl, rfl, by rw [sizeLine_eq]; omega, ?_⟩
    rw [esg]
    refine ⟨fun σ' H' => ∃ x, σ' = [some (.ref t), some (.int a), some (.int b), some x] ∧ x = .str (pT a b) ∧ H' = B, ?_, ?_⟩
    · unfold pT
      refine ⟨_, rfl, _, _, rfl, rfl, _, rfl, ite2 (fun h => ?_) (fun h => ?_)⟩
      · have h : 1 < b := of_decide_eq_true h
        rw [if_neg (show b ≠ 1 by omega)]
        refine ⟨_, rfl, _, _, rfl, rfl, by rw [sizeLine_eq]; show (nT a).length + 1 ≤ _; omega, ?_⟩
        refine ⟨_, rfl, b.natAbs, by rw [show ((b.natAbs : Nat) : Int) = b by omega]; rfl, Nat.lt_of_lt_of_le bb p1330, ?_⟩
        rw [show ((b.natAbs : Nat) : Int) = b by omega]
        refine ⟨_, _, rfl, rfl, ?_, ?_⟩
        · rw [sizeLine_eq, len_app]; show (nT a).length + 1 + (nT b).length ≤ _; omega
        · exact ⟨_, rfl, rfl, rfl⟩
      · have h : ¬ 1 < b := fun z => h (decide_eq_true z)
        rw [if_pos (show b = 1 by omega)]
        exact ⟨_, rfl, rfl, rfl⟩
    · rintro σ' H' ⟨x, rfl, rfl, rfl⟩
      exact ⟨_, rfl, q _ sB⟩
theorem ok_lright (T : Tx K mg base) : FnOk P w K mg base CX0 5 T.f_lright T.d_lright ["_law_one_here"] (spRightP K) := by
  refine T.F_lright.ok sc_lright (fun vs H Q E h => ?_) (fun cdv A outer s H vs Q E hr h => ?_)
  · obtain ⟨v, a, b, rfl, _⟩ := h
    rfl
  · obtain ⟨v, a, b, rfl, hv, lw, ba, bb, q⟩ := h
    refine ⟨_, (pss_cons (ps_set (i := 1) sc_lright.nd rfl (.inl rfl) (pe_call (ok_ltext T) (hr.mono (by decide)) (by rfl) T.g_ltext T.F_ltext.kp T.b_ltext .nil pass0 (pa_cons (pv 0) pa_nil)))
        (pss_cons (ps_if (PW.pt (pw_or (pt_not (pt_val (pe_callB call_isi (by rfl) T.n_isinstance (by decide +kernel) (pa_cons (pe_call (ok_part_text T) (hr.mono (by decide)) (by rfl) T.g_part_text T.F_part_text.kp T.b_part_text .nil pass0 (pa_cons (pv 0) pa_nil)) (pa_cons (pe_bltn (v := .ty "str") (by rfl) T.n_str (by decide +kernel) rfl) pa_nil))))) (pw_or1 (pt_cmpR op_ne (pe_call (ok_part_text T) (hr.mono (by decide)) (by rfl) T.g_part_text T.F_part_text.kp T.b_part_text .nil pass0 (pa_cons (pv 0) pa_nil)) (pv 1) (nomark _))))) (pss_one (ps_ret pe_bl)) pss_nil)
        (pss_cons (ps_set (i := 2) sc_lright.nd rfl (.inl rfl) (pe_call (ok_read_part T) (hr.mono (by decide)) (by rfl) T.g_read_part T.F_read_part.kp T.b_read_part .nil pass0 (pa_cons (pv 1) pa_nil)))
        (pss_cons (ps_if (PW.pt (pw_or (pt_not (pt_val (pe_callB call_isi (by rfl) T.n_isinstance (by decide +kernel) (pa_cons (pv 2) (pa_cons (pe_bltn (v := .ty "tuple") (by rfl) T.n_tuple (by decide +kernel) rfl) pa_nil))))) (pw_or (pt_cmpR (op_neD hr.units) (pv 2) (pv 0) (nomark _)) (pw_or1 (pt_not (pt_val (pe_callB (cr_all (by rfl)) (by rfl) T.n_all (by decide +kernel) (pa_cons (pe_lc (own := [("_law_number_here", 3)]) (g := gName 3) (tt := tYes) (by rfl) sc_lright.nd (pi_tup (pv 2)) (blkOk_by (own := [("_law_number_here", 3)]) (N := ["_law_one_here", "_law_text_here", "_law_found", "_law_number_here"]) (sc := defScope s_lright) (by decide +kernel)) (fun _ _ _ _ _ => (pg_name (i := 3) sc_lright.nd rfl (.inl rfl))) (fun _ _ _ _ _ => pts_nil) (fun _ _ _ _ _ => (pe_call (ok_lis_whole T) (hr.mono (by decide)) (by rfl) T.g_lis_whole T.F_lis_whole.kp T.b_lis_whole .nil pass0 (pa_cons (pv 3) pa_nil)))) pa_nil)))))))) (pss_one (ps_ret pe_bl)) pss_nil)
        (pss_one (ps_ret (pe_and (pe_cmpR op_eq (pe_call (ok_part_text T) (hr.mono (by decide)) (by rfl) T.g_part_text T.F_part_text.kp T.b_part_text .nil pass0 (pa_cons (pv 2) pa_nil)) (pv 1) (nomark _)) (pe_one (pe_cmpR (op_eqD hr.units) (pe_call (ok_read_part T) (hr.mono (by decide)) (by rfl) T.g_read_part T.F_read_part.kp T.b_read_part .nil pass0 (pa_cons (pe_call (ok_part_text T) (hr.mono (by decide)) (by rfl) T.g_part_text T.F_part_text.kp T.b_part_text .nil pass0 (pa_cons (pv 0) pa_nil)) pa_nil)) (pv 0) (nomark _)))))))))), ?_⟩
    have b0 := lw.1
    refine ⟨_, rfl, v, a, b, rfl, hv, b0, ba, bb, fun H1 s1 => ?_⟩
    have hv1 := hv.same s1
    refine ⟨_, rfl, v, a, b, rfl, hv1, b0, ba, bb, fun H2 s2 => ?_⟩
    have hv2 := hv1.same s2
    refine ⟨_, _, _, _, true, rfl, .ty "str", .base (.str _), kit_ty (by decide +kernel), true, rfl, iteF ?_⟩
    refine ⟨_, rfl, v, a, b, rfl, hv2, b0, ba, bb, fun H3 s3 => ⟨_, rfl, rfl, _, rfl, ?_⟩⟩
    rw [decide_eq_true rfl]
    refine iteF ?_
    have hv3 := hv2.same s3
    refine ⟨_, rfl, a, b, rfl, lw, ba, bb, fun u H4 s4 hu => ?_⟩
    have hv4 := hv3.same s4
    obtain ⟨tu, rfl, htu⟩ := hu
    have hu : TupI K H4 (.ref tu) a b := ⟨tu, rfl, htu⟩
    refine ⟨_, rfl, _, _, _, _, true, rfl, .ty "tuple", sqt_ty htu, kit_ty (by decide +kernel), true, rfl, iteF ?_⟩
    refine ⟨_, rfl, _, rfl, _, _, pd_dp hu, pd_dp hv4, rfl, rfl, _, rfl, ?_⟩
    rw [eqv_pairs, decide_eq_true ⟨rfl, rfl⟩]
    refine iteF ?_
    refine ⟨_, rfl, tu, rfl, ⟨_, htu⟩, fun Z nZ => ?_⟩
    refine lc_tup (K := K) (a := tu) (xs := [.int a, .int b]) (fun j H'' => H'' = upd H4 Z (.lst ((List.replicate j true).map V.bl))) rfl (fun j H'' _ e => by rw [e]; exact Same.tup (same_new nZ) htu) ?_ ?_
    · rintro j x H'' hx rfl
      have hj : j < 2 := (List.getElem?_eq_some_iff.mp hx).1
      obtain ⟨i, rfl⟩ : ∃ i, x = V.int i := by
        have := List.mem_of_getElem? hx
        simp only [List.mem_cons, List.not_mem_nil, or_false] at this
        rcases this with rfl | rfl
        · exact ⟨_, rfl⟩
        · exact ⟨_, rfl⟩
      refine ⟨rfl, tyes (iteT ?_)⟩
      refine ⟨_, rfl, _, _, rfl, whole_int, _, upd_same, ?_, ?_⟩
      · rw [List.length_map, List.length_replicate]
        exact small1000 (by omega)
      · rw [upd_upd, List.replicate_succ', List.map_append]
        rfl
    · rintro H'' rfl
      refine ⟨Z, _, rfl, .inl (.inl upd_same), ?_⟩
      rw [all_true]
      refine ⟨_, rfl, iteF ?_⟩
      have sZ : Same H4 (upd H4 Z (.lst ((List.replicate [V.int a, V.int b].length true).map V.bl))) := same_new nZ
      generalize upd H4 Z (.lst ((List.replicate [V.int a, V.int b].length true).map V.bl)) = H5 at sZ
      have hu5 := hu.same sZ
      have hv5 := hv4.same sZ
      refine ⟨_, rfl, _, a, b, rfl, hu5, b0, ba, bb, fun H6 s6 => ⟨_, rfl, rfl, ?_⟩⟩
      rw [decide_eq_true rfl]
      refine ⟨_, rfl, iteT ?_⟩
      have hv6 := hv5.same s6
      refine ⟨_, rfl, v, a, b, rfl, hv6, b0, ba, bb, fun H7 s7 => ?_⟩
      have hv7 := hv6.same s7
      refine ⟨a, b, rfl, lw, ba, bb, fun u2 H8 s8 hu2 => ?_⟩
      refine ⟨_, rfl, _, _, pd_dp hu2, pd_dp (hv7.same s8), rfl, rfl, ?_⟩
      rw [eqv_pairs, decide_eq_true ⟨rfl, rfl⟩]
      exact q _ (s1.trans (s2.trans (s3.trans (s4.trans (sZ.trans (s6.trans (s7.trans s8)))))))
theorem ok_law (T : Tx K mg base) : FnOk P w K mg base CX0 6 T.f_law T.d_law ["_law_script"] (spLaw K) := by
  refine T.F_law.ok sc_law (fun vs H Q E h => ?_) (fun cdv A outer s H vs Q E hr h => ?_)
  · obtain ⟨a, ns, rfl, _⟩ := h
    rfl
  · obtain ⟨a, ns, rfl, hS, hlen, q⟩ := h
    refine ⟨_, (pss_cons (ps_for PassesOwn.never rfl (pi_range1 (by rfl) T.n_range (pa_cons (pe_callB (call_max2 (by rfl)) (by rfl) T.n_max (by decide +kernel) (pa_cons pe_int (pa_cons (pe_callB (call_min2 (by rfl)) (by rfl) T.n_min (by decide +kernel) (pa_cons (pe_callB call_len_seq (by rfl) T.n_len (by decide +kernel) (pa_cons (pv 0) pa_nil)) (pa_cons pe_int pa_nil))) pa_nil))) pa_nil)) (pg_name (i := 1) sc_law.nd rfl (.inl rfl)) (pss_cons (ps_set (i := 2) sc_law.nd rfl (.inl rfl) (pe_call (ok_lpot T) (hr.mono (by decide)) (by rfl) T.g_lpot T.F_lpot.kp T.b_lpot .nil pass0 (pa_cons (pv 0) (pa_cons (pv 1) pa_nil))))
        (pss_cons (ps_par (i := 3) (j := 4) (by rfl) sc_law.nd rfl rfl (by decide) rfl rfl (pa_cons (pe_call (ok_lone T) (hr.mono (by decide)) (by rfl) T.g_lone T.F_lone.kp T.b_lone .nil pass0 (pa_cons (pv 2) pa_nil)) (pa_cons (pe_call (ok_lone T) (hr.mono (by decide)) (by rfl) T.g_lone T.F_lone.kp T.b_lone .nil pass0 (pa_cons (pv 2) pa_nil)) pa_nil)) (by rfl))
        (pss_cons (ps_if (PW.pt (pw_or (pt_not (pt_val (pe_call (ok_lright T) (hr.mono (by decide)) (by rfl) T.g_lright T.F_lright.kp T.b_lright .nil pass0 (pa_cons (pv 3) pa_nil)))) (pw_or (pt_not (pt_val (pe_call (ok_lright T) (hr.mono (by decide)) (by rfl) T.g_lright T.F_lright.kp T.b_lright .nil pass0 (pa_cons (pv 4) pa_nil)))) (pw_or1 (pt_cmpR op_ne (pe_cmpR op_eq (pe_call (ok_part_text T) (hr.mono (by decide)) (by rfl) T.g_part_text T.F_part_text.kp T.b_part_text .nil pass0 (pa_cons (pv 3) pa_nil)) (pe_call (ok_part_text T) (hr.mono (by decide)) (by rfl) T.g_part_text T.F_part_text.kp T.b_part_text .nil pass0 (pa_cons (pv 4) pa_nil)) (nomark _)) (pe_cmpR (op_eqD hr.units) (pv 3) (pv 4) (nomark _)) (nomark _)))))) (pss_one (ps_ret pe_bl)) pss_nil)
        (pss_cons (ps_set (i := 5) sc_law.nd rfl (.inl rfl) (pv 3))
        (pss_cons (ps_for PassesOwn.never rfl (pi_range1 (by rfl) T.n_range (pa_cons (pe_ix ix_list (pe_lst (pa_cons (pe_call (ok_ldigit T) (hr.mono (by decide)) (by rfl) T.g_ldigit T.F_ldigit.kp T.b_ldigit .nil pass0 (pa_cons (pv 2) (pa_cons pe_int pa_nil))) (pa_cons (pe_op op_add pe_int (pe_call (ok_ldigit T) (hr.mono (by decide)) (by rfl) T.g_ldigit T.F_ldigit.kp T.b_ldigit .nil pass0 (pa_cons (pv 2) (pa_cons pe_int pa_nil)))) pa_nil))) (pe_callTy call_int1 (by rfl) T.n_int (by decide +kernel) (pa_cons (pe_cmpR op_eq (pe_call (ok_ldigit T) (hr.mono (by decide)) (by rfl) T.g_ldigit T.F_ldigit.kp T.b_ldigit .nil pass0 (pa_cons (pv 2) (pa_cons pe_int pa_nil))) pe_int (nomark _)) pa_nil)) (fun _ _ => rfl)) pa_nil)) (pg_name (i := 6) sc_law.nd rfl (.inl rfl)) (pss_one (ps_set (i := 5) sc_law.nd rfl (.inl rfl) (pe_call (ok_plus T) (hr.mono (by decide)) (by rfl) T.g_plus T.F_plus.kp T.b_plus .nil pass0 (pa_cons (pv 5) (pa_cons (pe_ix ix_list (pe_lst (pa_cons (pv 4) (pa_cons (pv 3) (pa_cons (pe_call (ok_lone T) (hr.mono (by decide)) (by rfl) T.g_lone T.F_lone.kp T.b_lone .nil pass0 (pa_cons (pv 2) pa_nil)) pa_nil)))) (pe_call (ok_ldigit T) (hr.mono (by decide)) (by rfl) T.g_ldigit T.F_ldigit.kp T.b_ldigit .nil pass0 (pa_cons (pv 2) (pa_cons pe_int pa_nil))) (fun _ _ => rfl)) pa_nil))))))
        (pss_one (ps_if (PW.pt (pw_or (pt_not (pt_val (pe_call (ok_lright T) (hr.mono (by decide)) (by rfl) T.g_lright T.F_lright.kp T.b_lright .nil pass0 (pa_cons (pv 5) pa_nil)))) (pw_or1 (pt_not (pt_val (pe_call (ok_lright T) (hr.mono (by decide)) (by rfl) T.g_lright T.F_lright.kp T.b_lright .nil pass0 (pa_cons (pv 3) pa_nil))))))) (pss_one (ps_ret pe_bl)) pss_nil))))))))
        (pss_one (ps_ret pe_bl))), ?_⟩
    refine ⟨_, rfl, a, _, rfl, .inl hS, _, _, rfl, _, _, rfl, ?_⟩
    rw [List.length_map]
    generalize hN : (if (if (10 : Int) < ns.length then (10 : Int) else ns.length) > 1 then (if (10 : Int) < ns.length then (10 : Int) else ns.length) else 1) = N
    have hN2 : 0 ≤ N ∧ N ≤ 10 := by rw [← hN]; split <;> split <;> omega
    refine ⟨N, rfl, by omega, by omega, for_range (lo := 0) (n := N.toNat) (fun i σ H' => ∃ x1 x2 x3 x4 x5 x6, σ = [some (.ref a), x1, x2, x3, x4, x5, x6] ∧ (∀ o, H a = some o → H' a = some o))
      ⟨none, none, none, none, none, none, rfl, fun o e => e⟩ ?_ ?_⟩
    · rintro i σ H' hi ⟨_, _, _, _, _, _, rfl, hS'⟩
      refine ⟨_, rfl, _, rfl, a, ns, _, rfl, seq_keep hS hS', by omega, by omega, fun p H1 s1 np p1 => ?_⟩
      refine ⟨_, rfl, p, rfl, p1, fun v a1 b1 H2 lw1 ba1 bb1 hv1 s2 p2 => ?_⟩
      refine ⟨_, rfl, p, rfl, p2, fun u c1 d1 H3 lw2 bc1 bd1 hu s3 p3 => ?_⟩
      have hv3 := hv1.x s3 p2
      have m4 : ∀ {x : Int}, Bt 200 x → Bt 4400 x := fun h => h.mono (by decide)
      refine ⟨_, _, rfl, _, rfl, v, _, _, rfl, hv3, lw1, m4 ba1, m4 bb1, fun H4 s4 => ⟨true, rfl, iteF ?_⟩⟩
      refine ⟨_, rfl, u, _, _, rfl, hu.same s4, lw2, m4 bc1, m4 bd1, fun H5 s5 => ⟨true, rfl, iteF ?_⟩⟩
      have hv5 := (hv3.same s4).same s5
      have hu5 := (hu.same s4).same s5
      refine ⟨_, rfl, v, _, _, rfl, hv5, lw1.1, m4 ba1, m4 bb1, fun H6 s6 => ?_⟩
      refine ⟨_, rfl, u, _, _, rfl, hu5.same s6, lw2.1, m4 bc1, m4 bd1, fun H7 s7 => ?_⟩
      have hv7 := (hv5.same s6).same s7
      have hu7 := (hu5.same s6).same s7
      refine ⟨rfl, _, rfl, _, rfl, _, _, pd_dp hv7, pd_dp hu7, rfl, rfl, rfl, _, rfl, ?_⟩
      have eqs : decide (V.str (pT a1 b1) = V.str (pT c1 d1)) = PyData.eqv (pd a1 b1) (pd c1 d1) := by
        rw [eqv_pairs]
        refine decide_eq_decide.mpr ⟨fun h => pT_inj (V.str.inj h), ?_⟩
        rintro ⟨rfl, rfl⟩
        rfl
      rw [eqs, decide_eq_true rfl]
      refine iteF ?_
      have s37 : Same H3 H7 := s4.trans (s5.trans (s6.trans s7))
      have p7 := p3.same s37
      refine ⟨_, rfl, ?_⟩
      refine ⟨_, rfl, p, _, rfl, p7, by decide, by unfold Bt; decide +kernel, fun m1 G1 m10 m11 t1 q1 => ?_⟩
      refine ⟨_, rfl, p, _, rfl, q1, by decide, by unfold Bt; decide +kernel, fun m2 G2 m20 m21 t2 q2 => ?_⟩
      refine ⟨_, _, rfl, rfl, by show 2 ≤ sizeLine; decide, fun l nl => ?_⟩
      obtain ⟨C, eC, sC, hL⟩ : ∃ B, B = upd G2 l (.lst [.int m1, .int (9 + m2)]) ∧ Same G2 B ∧ B l = some (.lst [.int m1, .int (9 + m2)]) := ⟨_, rfl, same_new nl, upd_same⟩
      rw [← eC]
      refine ⟨_, rfl, p, _, rfl, q2.same sC, by decide, by unfold Bt; decide +kernel, fun g G3 g0 g1 t3 q3 => ?_⟩
      have hL3 := t3.lst (K := K) (q2.ne nl) (.inl (.inl hL))
      refine ⟨rfl, .inr ⟨_, rfl, ?_⟩⟩
      obtain ⟨m, hm, m0, m60⟩ : ∃ m : Int, atI [V.int m1, V.int (9 + m2)] (if decide (V.int g = V.int 0) = true then 1 else 0) = some (.int m) ∧ 0 ≤ m ∧ m ≤ 20 := by
        split
        · exact ⟨9 + m2, rfl, by omega, by omega⟩
        · exact ⟨m1, rfl, m10, by omega⟩
      refine ⟨l, _, _, _, rfl, rfl, hL3, hm, ?_⟩
      have sx7 : SameX p H7 G3 := t1.trans (t2.trans ((Same.x sC).trans t3))
      have kG : KT H7 G3 := kt_x sx7 p7
      have sx1 : SameX p H1 G3 := s2.trans (s3.trans ((Same.x s37).trans sx7))
      refine ⟨m, rfl, by omega, by omega, for_range (lo := 0) (n := m.toNat) (fun j σ G => ∃ x1 w A B x6, σ = [some (.ref a), x1, some (.ref p), some v, some u, some w, x6] ∧ TupI K G v a1 b1 ∧ TupI K G u c1 d1 ∧ TupI K G w A B ∧ Lowest A B ∧ Okp (200 + 201 * j) (A, B) ∧ SameX p H1 G ∧ PotAt G p)
        ⟨_, v, a1, b1, _, rfl, hv7.k kG, hu7.k kG, hv7.k kG, lw1, ⟨lw1.1, ba1, bb1⟩, sx1, q3⟩ ?_ ?_⟩
      · rintro j σ G hj ⟨x1, w', A', B', x6, rfl, gv, gu, gw, lwA, okA, sxG, pG⟩
        refine ⟨_, rfl, _, rfl, _, rfl, _, rfl, p, rfl, pG, fun z e1 f1 G4 lw4 be bf hz t4 p4 => ?_⟩
        refine ⟨by show 3 ≤ sizeLine; decide, fun l2 nl2 => ?_⟩
        obtain ⟨D, eD, sD, hL2⟩ : ∃ B, B = upd G4 l2 (.lst [u, v, z]) ∧ Same G4 B ∧ B l2 = some (.lst [u, v, z]) := ⟨_, rfl, same_new nl2, upd_same⟩
        rw [← eD]
        refine ⟨_, rfl, p, _, rfl, p4.same sD, by decide, by unfold Bt; decide +kernel, fun d2 G5 d20 d21 t5 p5 => ?_⟩
        have hL5 := t5.lst (K := K) (p4.ne nl2) (.inl (.inl hL2))
        have sx45 : SameX p G4 G5 := (Same.x sD).trans t5
        have k5 : KT G G5 := (kt_x t4 pG).trans (kt_x sx45 p4)
        obtain ⟨x, hx, hmx⟩ := pick (xs := [u, v, z]) d20 (by simpa using d21)
        refine ⟨l2, _, d2, x, rfl, rfl, hL5, hx, ?_⟩
        obtain ⟨e2, f2, hx2, ok2⟩ : ∃ e2 f2, TupI K G5 x e2 f2 ∧ Okp 200 (e2, f2) := by
          simp only [List.mem_cons, List.not_mem_nil, or_false] at hmx
          rcases hmx with rfl | rfl | rfl
          · exact ⟨_, _, gu.k k5, lw2.1, bc1, bd1⟩
          · exact ⟨_, _, gv.k k5, lw1.1, ba1, bb1⟩
          · exact ⟨_, _, hz.x sx45 p4, lw4.1, be, bf⟩
        have okA' : Okp 4400 (A', B') := okA.mono (by omega)
        have ok2' : Okp 4400 (e2, f2) := ok2.mono (by decide)
        refine ⟨_, _, _, _, _, _, rfl, gw.k k5, hx2, okA.1, ok2.1, okA'.2.1, okA'.2.2, ok2'.2.1, ok2'.2.2, fun y G6 s6' hy => ?_⟩
        have okn := okA.pl ok2
        refine ⟨_, y, _, _, _, rfl, (gv.k k5).same s6', (gu.k k5).same s6', hy, lo_lowest (Int.mul_pos okA.1 ok2.1), okn.mono (by omega), sxG.trans (t4.trans (sx45.trans (Same.x s6'))), p5.same s6'⟩
      · rintro σ G ⟨x1, w', A', B', x6, rfl, gv, gu, gw, lwA, okA, sxG, pG⟩
        have okA' : Okp 4400 (A', B') := okA.mono (by omega)
        refine ⟨_, rfl, w', _, _, rfl, gw, lwA, okA'.2.1, okA'.2.2, fun G2 u2 => ⟨true, rfl, iteF ?_⟩⟩
        refine ⟨_, rfl, v, _, _, rfl, gv.same u2, lw1, m4 ba1, m4 bb1, fun G3 u3 => ⟨true, rfl, iteF ?_⟩⟩
        refine ⟨_, _, _, _, _, _, rfl, fun o ho => ?_⟩
        have nap : a ≠ p := fun z => by rw [z] at ho hS'; rw [hS' o ho] at np; cases np
        exact u3 _ _ (u2 _ _ (sxG _ _ nap (s1 _ _ (hS' o ho))))
    · rintro σ H' ⟨_, _, _, _, _, _, rfl, _⟩
      exact q _

end
end WS

set_option Elab.async false
set_option linter.all false
set_option maxRecDepth 100000
set_option maxHeartbeats 4000000
namespace WS
open PySem PySem.Spec PyProof.Rows L2
theorem all_mk {l : PySem.W.OpenLaw} {w : World} {K : PySem.W.Frag} {h : Heap} {mg : Str → Option Value} {fa : Addr} (X : K.In h) (G : h.Ns mainGlobals mg) (hfa : mg "law" = some (.ref fa))
    {f_is_whole : Addr} {od_is_whole an_is_whole : Option Addr} {sl_is_whole : Array (Option Value)} {oc_is_whole dc_is_whole pm_is_whole cd_is_whole ct_is_whole : Value} {kV_is_whole : Value}
    {f_greatest_common : Addr} {od_greatest_common an_greatest_common : Option Addr} {sl_greatest_common : Array (Option Value)} {oc_greatest_common dc_greatest_common pm_greatest_common cd_greatest_common ct_greatest_common : Value} {kV_greatest_common : Value}
    {f_is_part : Addr} {od_is_part an_is_part : Option Addr} {sl_is_part : Array (Option Value)} {oc_is_part dc_is_part pm_is_part cd_is_part ct_is_part : Value} {kV_is_part : Value}
    {f_part : Addr} {od_part an_part : Option Addr} {sl_part : Array (Option Value)} {oc_part dc_part pm_part cd_part ct_part : Value} {kV_part : Value}
    {dT_part : Addr} {do_part : Option Addr} {dn_part : Nat} {ds_part : Array (Option Value)} {dt_part : Tok}
    {f_plus : Addr} {od_plus an_plus : Option Addr} {sl_plus : Array (Option Value)} {oc_plus dc_plus pm_plus cd_plus ct_plus : Value} {kV_plus : Value}
    {f_part_text : Addr} {od_part_text an_part_text : Option Addr} {sl_part_text : Array (Option Value)} {oc_part_text dc_part_text pm_part_text cd_part_text ct_part_text : Value} {kV_part_text : Value}
    {f_number_in : Addr} {od_number_in an_number_in : Option Addr} {sl_number_in : Array (Option Value)} {oc_number_in dc_number_in pm_number_in cd_number_in ct_number_in : Value} {kV_number_in : Value}
    {f_read_part : Addr} {od_read_part an_read_part : Option Addr} {sl_read_part : Array (Option Value)} {oc_read_part dc_read_part pm_read_part cd_read_part ct_read_part : Value} {kV_read_part : Value}
    {f_lpot : Addr} {od_lpot an_lpot : Option Addr} {sl_lpot : Array (Option Value)} {oc_lpot dc_lpot pm_lpot cd_lpot ct_lpot : Value} {kV_lpot : Value}
    {f_ldigit : Addr} {od_ldigit an_ldigit : Option Addr} {sl_ldigit : Array (Option Value)} {oc_ldigit dc_ldigit pm_ldigit cd_ldigit ct_ldigit : Value} {kV_ldigit : Value}
    {f_llow : Addr} {od_llow an_llow : Option Addr} {sl_llow : Array (Option Value)} {oc_llow dc_llow pm_llow cd_llow ct_llow : Value} {kV_llow : Value}
    {f_ltens : Addr} {od_ltens an_ltens : Option Addr} {sl_ltens : Array (Option Value)} {oc_ltens dc_ltens pm_ltens cd_ltens ct_ltens : Value} {kV_ltens : Value}
    {f_lnumber : Addr} {od_lnumber an_lnumber : Option Addr} {sl_lnumber : Array (Option Value)} {oc_lnumber dc_lnumber pm_lnumber cd_lnumber ct_lnumber : Value} {kV_lnumber : Value}
    {f_lone : Addr} {od_lone an_lone : Option Addr} {sl_lone : Array (Option Value)} {oc_lone dc_lone pm_lone cd_lone ct_lone : Value} {kV_lone : Value}
    {f_lfigures : Addr} {od_lfigures an_lfigures : Option Addr} {sl_lfigures : Array (Option Value)} {oc_lfigures dc_lfigures pm_lfigures cd_lfigures ct_lfigures : Value} {kV_lfigures : Value}
    {f_ltext : Addr} {od_ltext an_ltext : Option Addr} {sl_ltext : Array (Option Value)} {oc_ltext dc_ltext pm_ltext cd_ltext ct_ltext : Value} {kV_ltext : Value}
    {f_lis_whole : Addr} {od_lis_whole an_lis_whole : Option Addr} {sl_lis_whole : Array (Option Value)} {oc_lis_whole dc_lis_whole pm_lis_whole cd_lis_whole ct_lis_whole : Value} {kV_lis_whole : Value}
    {f_lright : Addr} {od_lright an_lright : Option Addr} {sl_lright : Array (Option Value)} {oc_lright dc_lright pm_lright cd_lright ct_lright : Value} {kV_lright : Value}
    {f_law : Addr} {od_law an_law : Option Addr} {sl_law : Array (Option Value)} {oc_law dc_law pm_law cd_law ct_law : Value} {kV_law : Value}
    {c_NoPart : Addr}
    (a_is_whole : PySem.W.nsIn K mainGlobals "is_whole" = some (some (.ref f_is_whole)))
    (l_is_whole : K.lookup f_is_whole = some ⟨oc_is_whole, od_is_whole, .func (PySem.W.fnOf "is_whole" "is_whole" (defArgs s_is_whole) (defBody s_is_whole) (defScope s_is_whole) .none kV_is_whole dc_is_whole pm_is_whole an_is_whole cd_is_whole ct_is_whole), sl_is_whole⟩)
    (c_is_whole : PySem.W.codeIn K cd_is_whole "is_whole" = true) (k_is_whole : PySem.W.keepIn K (.ref f_is_whole) = true)
    (a_greatest_common : PySem.W.nsIn K mainGlobals "greatest_common" = some (some (.ref f_greatest_common)))
    (l_greatest_common : K.lookup f_greatest_common = some ⟨oc_greatest_common, od_greatest_common, .func (PySem.W.fnOf "greatest_common" "greatest_common" (defArgs s_greatest_common) (defBody s_greatest_common) (defScope s_greatest_common) .none kV_greatest_common dc_greatest_common pm_greatest_common an_greatest_common cd_greatest_common ct_greatest_common), sl_greatest_common⟩)
    (c_greatest_common : PySem.W.codeIn K cd_greatest_common "greatest_common" = true) (k_greatest_common : PySem.W.keepIn K (.ref f_greatest_common) = true)
    (a_is_part : PySem.W.nsIn K mainGlobals "is_part" = some (some (.ref f_is_part)))
    (l_is_part : K.lookup f_is_part = some ⟨oc_is_part, od_is_part, .func (PySem.W.fnOf "is_part" "is_part" (defArgs s_is_part) (defBody s_is_part) (defScope s_is_part) .none kV_is_part dc_is_part pm_is_part an_is_part cd_is_part ct_is_part), sl_is_part⟩)
    (c_is_part : PySem.W.codeIn K cd_is_part "is_part" = true) (k_is_part : PySem.W.keepIn K (.ref f_is_part) = true)
    (a_part : PySem.W.nsIn K mainGlobals "part" = some (some (.ref f_part)))
    (l_part : K.lookup f_part = some ⟨oc_part, od_part, .func (PySem.W.fnOf "part" "part" (defArgs s_part) (defBody s_part) (defScope s_part) (.ref dT_part) kV_part dc_part pm_part an_part cd_part ct_part), sl_part⟩)
    (c_part : PySem.W.codeIn K cd_part "part" = true) (k_part : PySem.W.keepIn K (.ref f_part) = true)
    (q_part : K.lookup dT_part = some ⟨.type "tuple", do_part, .seq #[.int 1 dt_part] dn_part, ds_part⟩)
    (a_plus : PySem.W.nsIn K mainGlobals "plus" = some (some (.ref f_plus)))
    (l_plus : K.lookup f_plus = some ⟨oc_plus, od_plus, .func (PySem.W.fnOf "plus" "plus" (defArgs s_plus) (defBody s_plus) (defScope s_plus) .none kV_plus dc_plus pm_plus an_plus cd_plus ct_plus), sl_plus⟩)
    (c_plus : PySem.W.codeIn K cd_plus "plus" = true) (k_plus : PySem.W.keepIn K (.ref f_plus) = true)
    (a_part_text : PySem.W.nsIn K mainGlobals "part_text" = some (some (.ref f_part_text)))
    (l_part_text : K.lookup f_part_text = some ⟨oc_part_text, od_part_text, .func (PySem.W.fnOf "part_text" "part_text" (defArgs s_part_text) (defBody s_part_text) (defScope s_part_text) .none kV_part_text dc_part_text pm_part_text an_part_text cd_part_text ct_part_text), sl_part_text⟩)
    (c_part_text : PySem.W.codeIn K cd_part_text "part_text" = true) (k_part_text : PySem.W.keepIn K (.ref f_part_text) = true)
    (a_number_in : PySem.W.nsIn K mainGlobals "number_in" = some (some (.ref f_number_in)))
    (l_number_in : K.lookup f_number_in = some ⟨oc_number_in, od_number_in, .func (PySem.W.fnOf "number_in" "number_in" (defArgs s_number_in) (defBody s_number_in) (defScope s_number_in) .none kV_number_in dc_number_in pm_number_in an_number_in cd_number_in ct_number_in), sl_number_in⟩)
    (c_number_in : PySem.W.codeIn K cd_number_in "number_in" = true) (k_number_in : PySem.W.keepIn K (.ref f_number_in) = true)
    (a_read_part : PySem.W.nsIn K mainGlobals "read_part" = some (some (.ref f_read_part)))
    (l_read_part : K.lookup f_read_part = some ⟨oc_read_part, od_read_part, .func (PySem.W.fnOf "read_part" "read_part" (defArgs s_read_part) (defBody s_read_part) (defScope s_read_part) .none kV_read_part dc_read_part pm_read_part an_read_part cd_read_part ct_read_part), sl_read_part⟩)
    (c_read_part : PySem.W.codeIn K cd_read_part "read_part" = true) (k_read_part : PySem.W.keepIn K (.ref f_read_part) = true)
    (a_lpot : PySem.W.nsIn K mainGlobals "_law_pot" = some (some (.ref f_lpot)))
    (l_lpot : K.lookup f_lpot = some ⟨oc_lpot, od_lpot, .func (PySem.W.fnOf "_law_pot" "_law_pot" (defArgs s_lpot) (defBody s_lpot) (defScope s_lpot) .none kV_lpot dc_lpot pm_lpot an_lpot cd_lpot ct_lpot), sl_lpot⟩)
    (c_lpot : PySem.W.codeIn K cd_lpot "_law_pot" = true) (k_lpot : PySem.W.keepIn K (.ref f_lpot) = true)
    (a_ldigit : PySem.W.nsIn K mainGlobals "_law_digit" = some (some (.ref f_ldigit)))
    (l_ldigit : K.lookup f_ldigit = some ⟨oc_ldigit, od_ldigit, .func (PySem.W.fnOf "_law_digit" "_law_digit" (defArgs s_ldigit) (defBody s_ldigit) (defScope s_ldigit) .none kV_ldigit dc_ldigit pm_ldigit an_ldigit cd_ldigit ct_ldigit), sl_ldigit⟩)
    (c_ldigit : PySem.W.codeIn K cd_ldigit "_law_digit" = true) (k_ldigit : PySem.W.keepIn K (.ref f_ldigit) = true)
    (a_llow : PySem.W.nsIn K mainGlobals "_law_low" = some (some (.ref f_llow)))
    (l_llow : K.lookup f_llow = some ⟨oc_llow, od_llow, .func (PySem.W.fnOf "_law_low" "_law_low" (defArgs s_llow) (defBody s_llow) (defScope s_llow) .none kV_llow dc_llow pm_llow an_llow cd_llow ct_llow), sl_llow⟩)
    (c_llow : PySem.W.codeIn K cd_llow "_law_low" = true) (k_llow : PySem.W.keepIn K (.ref f_llow) = true)
    (a_ltens : PySem.W.nsIn K mainGlobals "_law_tens" = some (some (.ref f_ltens)))
    (l_ltens : K.lookup f_ltens = some ⟨oc_ltens, od_ltens, .func (PySem.W.fnOf "_law_tens" "_law_tens" (defArgs s_ltens) (defBody s_ltens) (defScope s_ltens) .none kV_ltens dc_ltens pm_ltens an_ltens cd_ltens ct_ltens), sl_ltens⟩)
    (c_ltens : PySem.W.codeIn K cd_ltens "_law_tens" = true) (k_ltens : PySem.W.keepIn K (.ref f_ltens) = true)
    (a_lnumber : PySem.W.nsIn K mainGlobals "_law_number" = some (some (.ref f_lnumber)))
    (l_lnumber : K.lookup f_lnumber = some ⟨oc_lnumber, od_lnumber, .func (PySem.W.fnOf "_law_number" "_law_number" (defArgs s_lnumber) (defBody s_lnumber) (defScope s_lnumber) .none kV_lnumber dc_lnumber pm_lnumber an_lnumber cd_lnumber ct_lnumber), sl_lnumber⟩)
    (c_lnumber : PySem.W.codeIn K cd_lnumber "_law_number" = true) (k_lnumber : PySem.W.keepIn K (.ref f_lnumber) = true)
    (a_lone : PySem.W.nsIn K mainGlobals "_law_one" = some (some (.ref f_lone)))
    (l_lone : K.lookup f_lone = some ⟨oc_lone, od_lone, .func (PySem.W.fnOf "_law_one" "_law_one" (defArgs s_lone) (defBody s_lone) (defScope s_lone) .none kV_lone dc_lone pm_lone an_lone cd_lone ct_lone), sl_lone⟩)
    (c_lone : PySem.W.codeIn K cd_lone "_law_one" = true) (k_lone : PySem.W.keepIn K (.ref f_lone) = true)
    (a_lfigures : PySem.W.nsIn K mainGlobals "_law_figures" = some (some (.ref f_lfigures)))
    (l_lfigures : K.lookup f_lfigures = some ⟨oc_lfigures, od_lfigures, .func (PySem.W.fnOf "_law_figures" "_law_figures" (defArgs s_lfigures) (defBody s_lfigures) (defScope s_lfigures) .none kV_lfigures dc_lfigures pm_lfigures an_lfigures cd_lfigures ct_lfigures), sl_lfigures⟩)
    (c_lfigures : PySem.W.codeIn K cd_lfigures "_law_figures" = true) (k_lfigures : PySem.W.keepIn K (.ref f_lfigures) = true)
    (a_ltext : PySem.W.nsIn K mainGlobals "_law_text" = some (some (.ref f_ltext)))
    (l_ltext : K.lookup f_ltext = some ⟨oc_ltext, od_ltext, .func (PySem.W.fnOf "_law_text" "_law_text" (defArgs s_ltext) (defBody s_ltext) (defScope s_ltext) .none kV_ltext dc_ltext pm_ltext an_ltext cd_ltext ct_ltext), sl_ltext⟩)
    (c_ltext : PySem.W.codeIn K cd_ltext "_law_text" = true) (k_ltext : PySem.W.keepIn K (.ref f_ltext) = true)
    (a_lis_whole : PySem.W.nsIn K mainGlobals "_law_is_whole" = some (some (.ref f_lis_whole)))
    (l_lis_whole : K.lookup f_lis_whole = some ⟨oc_lis_whole, od_lis_whole, .func (PySem.W.fnOf "_law_is_whole" "_law_is_whole" (defArgs s_lis_whole) (defBody s_lis_whole) (defScope s_lis_whole) .none kV_lis_whole dc_lis_whole pm_lis_whole an_lis_whole cd_lis_whole ct_lis_whole), sl_lis_whole⟩)
    (c_lis_whole : PySem.W.codeIn K cd_lis_whole "_law_is_whole" = true) (k_lis_whole : PySem.W.keepIn K (.ref f_lis_whole) = true)
    (a_lright : PySem.W.nsIn K mainGlobals "_law_right" = some (some (.ref f_lright)))
    (l_lright : K.lookup f_lright = some ⟨oc_lright, od_lright, .func (PySem.W.fnOf "_law_right" "_law_right" (defArgs s_lright) (defBody s_lright) (defScope s_lright) .none kV_lright dc_lright pm_lright an_lright cd_lright ct_lright), sl_lright⟩)
    (c_lright : PySem.W.codeIn K cd_lright "_law_right" = true) (k_lright : PySem.W.keepIn K (.ref f_lright) = true)
    (a_law : PySem.W.nsIn K mainGlobals "law" = some (some (.ref f_law)))
    (l_law : K.lookup f_law = some ⟨oc_law, od_law, .func (PySem.W.fnOf "law" "law" (defArgs s_law) (defBody s_law) (defScope s_law) .none kV_law dc_law pm_law an_law cd_law ct_law), sl_law⟩)
    (c_law : PySem.W.codeIn K cd_law "law" = true) (k_law : PySem.W.keepIn K (.ref f_law) = true)
    (gc_NoPart : PySem.W.nsIn K mainGlobals "NoPart" = some (some (.ref c_NoPart))) (x_NoPart : PySem.W.excIn K c_NoPart [.type "ValueError", .type "Exception", .type "BaseException", .type "object"] "ValueError.__new__" = true) (kc_NoPart : PySem.W.keepIn K (.ref c_NoPart) = true) (bc_NoPart : PySem.W.subIn K (.ref c_NoPart) (.type "BaseException") = some true) (tc_NoPart : PySem.W.typeIn K (.ref c_NoPart) = some (.type "type")) (hc_NoPart : PySem.W.hasDictIn K c_NoPart = true) (sc_NoPart : PySem.W.subIn K (.ref c_NoPart) (.ref c_NoPart) = some true)
    (n_ValueError : PySem.W.nsIn K mainGlobals "ValueError" = some none)
    (n_abs : PySem.W.nsIn K mainGlobals "abs" = some none)
    (n_all : PySem.W.nsIn K mainGlobals "all" = some none)
    (n_bool : PySem.W.nsIn K mainGlobals "bool" = some none)
    (n_divmod : PySem.W.nsIn K mainGlobals "divmod" = some none)
    (n_int : PySem.W.nsIn K mainGlobals "int" = some none)
    (n_isinstance : PySem.W.nsIn K mainGlobals "isinstance" = some none)
    (n_len : PySem.W.nsIn K mainGlobals "len" = some none)
    (n_max : PySem.W.nsIn K mainGlobals "max" = some none)
    (n_min : PySem.W.nsIn K mainGlobals "min" = some none)
    (n_range : PySem.W.nsIn K mainGlobals "range" = some none)
    (n_str : PySem.W.nsIn K mainGlobals "str" = some none)
    (n_tuple : PySem.W.nsIn K mainGlobals "tuple" = some none)
    : ∃ fd : FuncData, (∀ (s : Shared) (v : Value), BindsTo s fd ⟨[v], []⟩ [("_law_script", v)]) ∧ ∀ base : Heap, K.In base → base.Ns mainGlobals mg → base.NoDigits → FnAt callerA l.prog w K mg base CX0 6 fa fd ["_law_script"] (spLaw K) := by
  have e := hfa.symm.trans (PySem.W.mg_of X G a_law)
  cases e
  have F_is_whole := fun_mk (st := s_is_whole) l_is_whole c_is_whole k_is_whole
  have F_greatest_common := fun_mk (st := s_greatest_common) l_greatest_common c_greatest_common k_greatest_common
  have F_is_part := fun_mk (st := s_is_part) l_is_part c_is_part k_is_part
  have F_part : FunD K "part" "part" (defArgs s_part) (defBody s_part) (defScope s_part) [.int 1] [] f_part _ := ⟨⟨_, _, _, _, _, _, _, _, _, _, rfl, l_part, c_part, .inr ⟨by simp, dT_part, _, [.int 1 dt_part], _, rfl, q_part, rfl, .cons ⟨_, rfl⟩ .nil⟩, .inl rfl⟩, k_part⟩
  obtain ⟨ds_part2, vd_part2, b_part⟩ := F_part.binds1 (ps := ["above", "below"]) 2 1 (by simp) rfl (fun T kV doc pm an cdv ct us its h1 h2 => match us, its, h1, h2 with | [_, _], [_], _, _ => ⟨_, rfl, rfl⟩)
  cases vd_part2
  have F_plus := fun_mk (st := s_plus) l_plus c_plus k_plus
  have F_part_text := fun_mk (st := s_part_text) l_part_text c_part_text k_part_text
  have F_number_in := fun_mk (st := s_number_in) l_number_in c_number_in k_number_in
  have F_read_part := fun_mk (st := s_read_part) l_read_part c_read_part k_read_part
  have F_lpot := fun_mk (st := s_lpot) l_lpot c_lpot k_lpot
  have F_ldigit := fun_mk (st := s_ldigit) l_ldigit c_ldigit k_ldigit
  have F_llow := fun_mk (st := s_llow) l_llow c_llow k_llow
  have F_ltens := fun_mk (st := s_ltens) l_ltens c_ltens k_ltens
  have F_lnumber := fun_mk (st := s_lnumber) l_lnumber c_lnumber k_lnumber
  have F_lone := fun_mk (st := s_lone) l_lone c_lone k_lone
  have F_lfigures := fun_mk (st := s_lfigures) l_lfigures c_lfigures k_lfigures
  have F_ltext := fun_mk (st := s_ltext) l_ltext c_ltext k_ltext
  have F_lis_whole := fun_mk (st := s_lis_whole) l_lis_whole c_lis_whole k_lis_whole
  have F_lright := fun_mk (st := s_lright) l_lright c_lright k_lright
  have F_law := fun_mk (st := s_law) l_law c_law k_law
  exact ⟨_, fun s v => .of_eq rfl, fun base _ _ DG => fnat_of (ok_law (P := l.prog) (w := w) (base := base) ({
      f_is_whole := f_is_whole, d_is_whole := _, g_is_whole := PySem.W.mg_of X G a_is_whole, F_is_whole := F_is_whole, b_is_whole := F_is_whole.binds (ps := ["thing"]) (fun _ _ _ _ _ _ us hl => match us, hl with | [_], _ => rfl),
      f_greatest_common := f_greatest_common, d_greatest_common := _, g_greatest_common := PySem.W.mg_of X G a_greatest_common, F_greatest_common := F_greatest_common, b_greatest_common := F_greatest_common.binds (ps := ["one", "other"]) (fun _ _ _ _ _ _ us hl => match us, hl with | [_, _], _ => rfl),
      f_is_part := f_is_part, d_is_part := _, g_is_part := PySem.W.mg_of X G a_is_part, F_is_part := F_is_part, b_is_part := F_is_part.binds (ps := ["thing"]) (fun _ _ _ _ _ _ us hl => match us, hl with | [_], _ => rfl),
      f_part := f_part, d_part := _, g_part := PySem.W.mg_of X G a_part, F_part := F_part, b_part := b_part,
      f_plus := f_plus, d_plus := _, g_plus := PySem.W.mg_of X G a_plus, F_plus := F_plus, b_plus := F_plus.binds (ps := ["one", "other"]) (fun _ _ _ _ _ _ us hl => match us, hl with | [_, _], _ => rfl),
      f_part_text := f_part_text, d_part_text := _, g_part_text := PySem.W.mg_of X G a_part_text, F_part_text := F_part_text, b_part_text := F_part_text.binds (ps := ["one"]) (fun _ _ _ _ _ _ us hl => match us, hl with | [_], _ => rfl),
      f_number_in := f_number_in, d_number_in := _, g_number_in := PySem.W.mg_of X G a_number_in, F_number_in := F_number_in, b_number_in := F_number_in.binds (ps := ["text"]) (fun _ _ _ _ _ _ us hl => match us, hl with | [_], _ => rfl),
      f_read_part := f_read_part, d_read_part := _, g_read_part := PySem.W.mg_of X G a_read_part, F_read_part := F_read_part, b_read_part := F_read_part.binds (ps := ["text"]) (fun _ _ _ _ _ _ us hl => match us, hl with | [_], _ => rfl),
      f_lpot := f_lpot, d_lpot := _, g_lpot := PySem.W.mg_of X G a_lpot, F_lpot := F_lpot, b_lpot := F_lpot.binds (ps := ["_law_script", "_law_k"]) (fun _ _ _ _ _ _ us hl => match us, hl with | [_, _], _ => rfl),
      f_ldigit := f_ldigit, d_ldigit := _, g_ldigit := PySem.W.mg_of X G a_ldigit, F_ldigit := F_ldigit, b_ldigit := F_ldigit.binds (ps := ["_law_pot_here", "_law_many"]) (fun _ _ _ _ _ _ us hl => match us, hl with | [_, _], _ => rfl),
      f_llow := f_llow, d_llow := _, g_llow := PySem.W.mg_of X G a_llow, F_llow := F_llow, b_llow := F_llow.binds (ps := ["_law_above", "_law_below"]) (fun _ _ _ _ _ _ us hl => match us, hl with | [_, _], _ => rfl),
      f_ltens := f_ltens, d_ltens := _, g_ltens := PySem.W.mg_of X G a_ltens, F_ltens := F_ltens, b_ltens := F_ltens.binds (ps := ["_law_many"]) (fun _ _ _ _ _ _ us hl => match us, hl with | [_], _ => rfl),
      f_lnumber := f_lnumber, d_lnumber := _, g_lnumber := PySem.W.mg_of X G a_lnumber, F_lnumber := F_lnumber, b_lnumber := F_lnumber.binds (ps := ["_law_pot_here"]) (fun _ _ _ _ _ _ us hl => match us, hl with | [_], _ => rfl),
      f_lone := f_lone, d_lone := _, g_lone := PySem.W.mg_of X G a_lone, F_lone := F_lone, b_lone := F_lone.binds (ps := ["_law_pot_here"]) (fun _ _ _ _ _ _ us hl => match us, hl with | [_], _ => rfl),
      f_lfigures := f_lfigures, d_lfigures := _, g_lfigures := PySem.W.mg_of X G a_lfigures, F_lfigures := F_lfigures, b_lfigures := F_lfigures.binds (ps := ["_law_number_here"]) (fun _ _ _ _ _ _ us hl => match us, hl with | [_], _ => rfl),
      f_ltext := f_ltext, d_ltext := _, g_ltext := PySem.W.mg_of X G a_ltext, F_ltext := F_ltext, b_ltext := F_ltext.binds (ps := ["_law_one_here"]) (fun _ _ _ _ _ _ us hl => match us, hl with | [_], _ => rfl),
      f_lis_whole := f_lis_whole, d_lis_whole := _, g_lis_whole := PySem.W.mg_of X G a_lis_whole, F_lis_whole := F_lis_whole, b_lis_whole := F_lis_whole.binds (ps := ["_law_thing"]) (fun _ _ _ _ _ _ us hl => match us, hl with | [_], _ => rfl),
      f_lright := f_lright, d_lright := _, g_lright := PySem.W.mg_of X G a_lright, F_lright := F_lright, b_lright := F_lright.binds (ps := ["_law_one_here"]) (fun _ _ _ _ _ _ us hl => match us, hl with | [_], _ => rfl),
      f_law := _, d_law := _, g_law := PySem.W.mg_of X G a_law, F_law := F_law, b_law := F_law.binds (ps := ["_law_script"]) (fun _ _ _ _ _ _ us hl => match us, hl with | [_], _ => rfl),
      c_NoPart := c_NoPart, gc_NoPart := PySem.W.mg_of X G gc_NoPart, x_NoPart := x_NoPart, kc_NoPart := kc_NoPart, bc_NoPart := bc_NoPart, tc_NoPart := tc_NoPart, hc_NoPart := hc_NoPart, sc_NoPart := sc_NoPart,
      n_ValueError := PySem.W.mg_none_of X G n_ValueError,
      n_abs := PySem.W.mg_none_of X G n_abs,
      n_all := PySem.W.mg_none_of X G n_all,
      n_bool := PySem.W.mg_none_of X G n_bool,
      n_divmod := PySem.W.mg_none_of X G n_divmod,
      n_int := PySem.W.mg_none_of X G n_int,
      n_isinstance := PySem.W.mg_none_of X G n_isinstance,
      n_len := PySem.W.mg_none_of X G n_len,
      n_max := PySem.W.mg_none_of X G n_max,
      n_min := PySem.W.mg_none_of X G n_min,
      n_range := PySem.W.mg_none_of X G n_range,
      n_str := PySem.W.mg_none_of X G n_str,
      n_tuple := PySem.W.mg_none_of X G n_tuple,
      dg := DG } : Tx K mg base))⟩
end WS
open PySem PySem.W PyProof.Rows
set_option maxHeartbeats 0 in
theorem PySem.Challenge.cw_whoserves_k14_whole_part_texts_holds : PySem.Challenge.rw_whoserves_k14_whole_part_texts.Holds := by
  w_on; o_law; k_head; (case hw => w_witness2)
  k_fill
  refine WS.walk_D (l := PySem.Challenge.rw_whoserves_k14_whole_part_texts) (n := 63) (k := 6) (x := "_law_script") (sp := fun w => WS.spLaw _) rfl (by decide) rfl ⟨rfl, by decide, by decide⟩ (fun w h Y => PySem.W.kIn_of Y) ?F (fun _ _ a ns hl hS => ⟨a, ns, rfl, hS, hl, fun _ => rfl⟩)
  case F =>
    intro w mg fa h KX G hmg
    refine' WS.all_mk KX G hmg ?a_is_whole ?l_is_whole ?c_is_whole ?k_is_whole ?a_greatest_common ?l_greatest_common ?c_greatest_common ?k_greatest_common ?a_is_part ?l_is_part ?c_is_part ?k_is_part ?a_part ?l_part ?c_part ?k_part ?q_part ?a_plus ?l_plus ?c_plus ?k_plus ?a_part_text ?l_part_text ?c_part_text ?k_part_text ?a_number_in ?l_number_in ?c_number_in ?k_number_in ?a_read_part ?l_read_part ?c_read_part ?k_read_part ?a_lpot ?l_lpot ?c_lpot ?k_lpot ?a_ldigit ?l_ldigit ?c_ldigit ?k_ldigit ?a_llow ?l_llow ?c_llow ?k_llow ?a_ltens ?l_ltens ?c_ltens ?k_ltens ?a_lnumber ?l_lnumber ?c_lnumber ?k_lnumber ?a_lone ?l_lone ?c_lone ?k_lone ?a_lfigures ?l_lfigures ?c_lfigures ?k_lfigures ?a_ltext ?l_ltext ?c_ltext ?k_ltext ?a_lis_whole ?l_lis_whole ?c_lis_whole ?k_lis_whole ?a_lright ?l_lright ?c_lright ?k_lright ?a_law ?l_law ?c_law ?k_law ?gc_NoPart ?x_NoPart ?kc_NoPart ?bc_NoPart ?tc_NoPart ?hc_NoPart ?sc_NoPart ?n_ValueError ?n_abs ?n_all ?n_bool ?n_divmod ?n_int ?n_isinstance ?n_len ?n_max ?n_min ?n_range ?n_str ?n_tuple
    (case a_is_whole => k_is)
    (case l_is_whole => k_is)
    (case c_is_whole => k_is)
    (case k_is_whole => k_is)
    (case a_greatest_common => k_is)
    (case l_greatest_common => k_is)
    (case c_greatest_common => k_is)
    (case k_greatest_common => k_is)
    (case a_is_part => k_is)
    (case l_is_part => k_is)
    (case c_is_part => k_is)
    (case k_is_part => k_is)
    (case a_part => k_is)
    (case l_part => k_is)
    (case c_part => k_is)
    (case k_part => k_is)
    (case q_part => k_is)
    (case a_plus => k_is)
    (case l_plus => k_is)
    (case c_plus => k_is)
    (case k_plus => k_is)
    (case a_part_text => k_is)
    (case l_part_text => k_is)
    (case c_part_text => k_is)
    (case k_part_text => k_is)
    (case a_number_in => k_is)
    (case l_number_in => k_is)
    (case c_number_in => k_is)
    (case k_number_in => k_is)
    (case a_read_part => k_is)
    (case l_read_part => k_is)
    (case c_read_part => k_is)
    (case k_read_part => k_is)
    (case a_lpot => k_is)
    (case l_lpot => k_is)
    (case c_lpot => k_is)
    (case k_lpot => k_is)
    (case a_ldigit => k_is)
    (case l_ldigit => k_is)
    (case c_ldigit => k_is)
    (case k_ldigit => k_is)
    (case a_llow => k_is)
    (case l_llow => k_is)
    (case c_llow => k_is)
    (case k_llow => k_is)
    (case a_ltens => k_is)
    (case l_ltens => k_is)
    (case c_ltens => k_is)
    (case k_ltens => k_is)
    (case a_lnumber => k_is)
    (case l_lnumber => k_is)
    (case c_lnumber => k_is)
    (case k_lnumber => k_is)
    (case a_lone => k_is)
    (case l_lone => k_is)
    (case c_lone => k_is)
    (case k_lone => k_is)
    (case a_lfigures => k_is)
    (case l_lfigures => k_is)
    (case c_lfigures => k_is)
    (case k_lfigures => k_is)
    (case a_ltext => k_is)
    (case l_ltext => k_is)
    (case c_ltext => k_is)
    (case k_ltext => k_is)
    (case a_lis_whole => k_is)
    (case l_lis_whole => k_is)
    (case c_lis_whole => k_is)
    (case k_lis_whole => k_is)
    (case a_lright => k_is)
    (case l_lright => k_is)
    (case c_lright => k_is)
    (case k_lright => k_is)
    (case a_law => k_is)
    (case l_law => k_is)
    (case c_law => k_is)
    (case k_law => k_is)
    (case gc_NoPart => k_is)
    (case x_NoPart => k_exc)
    (case kc_NoPart => k_is)
    (case bc_NoPart => k_is)
    (case tc_NoPart => k_is)
    (case hc_NoPart => k_is)
    (case sc_NoPart => k_is)
    (case n_ValueError => k_is)
    (case n_abs => k_is)
    (case n_all => k_is)
    (case n_bool => k_is)
    (case n_divmod => k_is)
    (case n_int => k_is)
    (case n_isinstance => k_is)
    (case n_len => k_is)
    (case n_max => k_is)
    (case n_min => k_is)
    (case n_range => k_is)
    (case n_str => k_is)
    (case n_tuple => k_is)

