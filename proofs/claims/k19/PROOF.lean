import PyProof.Rows.All
import Wide.All
import OpenK.AllK
import Wide.FinOn
import HandS.ForMost
import HandS.ForExc
import HandS.Wide
import HandS.WideBits
import HandS.Defaults
import HandS.IsInst
import HandS.TryOnly
import HandS.ExcIs
import HandS.Codes
import PyProof.ReprRoads
import HandS.FStrTup
import PySem.Challenge.RW_whoserves_k19_the_most_by_joins_and_step
namespace WS
/-! lowest terms -/
def lo (a b : Int) : Int × Int := (a / (Int.gcd a b : Int), b / (Int.gcd a b : Int))
def Lowest (a b : Int) : Prop := 0 < b ∧ Int.gcd a b = 1
theorem gcd_pos {a b : Int} (h : b ≠ 0) : 0 < Int.gcd a b := by
  have := (Int.gcd_pos_iff (a := a) (b := b)).mpr (Or.inr h)
  exact this
theorem lo_fst (a b : Int) : (lo a b).1 * (Int.gcd a b : Int) = a := Int.ediv_mul_cancel (Int.gcd_dvd_left a b)
theorem lo_snd (a b : Int) : (lo a b).2 * (Int.gcd a b : Int) = b := Int.ediv_mul_cancel (Int.gcd_dvd_right a b)
theorem lo_lowest {a b : Int} (h : 0 < b) : Lowest (lo a b).1 (lo a b).2 := by
  have g : 0 < Int.gcd a b := gcd_pos (by omega)
  refine ⟨?_, Int.gcd_ediv_gcd_ediv_gcd g⟩
  have e := lo_snd a b
  apply Decidable.byContradiction
  intro n
  have : (lo a b).2 * (Int.gcd a b : Int) ≤ 0 := Int.mul_nonpos_of_nonpos_of_nonneg (by omega) (by omega)
  omega
theorem lo_cross (a b : Int) : (lo a b).1 * b = a * (lo a b).2 := by
  have e1 := lo_fst a b
  have e2 := lo_snd a b
  have h1 : (lo a b).1 * b = (lo a b).1 * ((lo a b).2 * (Int.gcd a b : Int)) := by rw [e2]
  have h2 : a * (lo a b).2 = ((lo a b).1 * (Int.gcd a b : Int)) * (lo a b).2 := by rw [e1]
  rw [h1, h2]
  simp only [Int.mul_assoc, Int.mul_comm, Int.mul_left_comm]
theorem dvd_cop {a b y : Int} (hg : Int.gcd a b = 1) (h : b ∣ a * y) : b ∣ y := by
  have h1 : b.natAbs ∣ a.natAbs * y.natAbs := by
    rw [← Int.natAbs_mul]
    exact Int.natAbs_dvd_natAbs.mpr h
  have c : Nat.Coprime b.natAbs a.natAbs := by
    have : Nat.gcd a.natAbs b.natAbs = 1 := hg
    exact (Nat.gcd_comm _ _).trans this
  exact Int.natAbs_dvd_natAbs.mp (c.dvd_of_dvd_mul_left h1)
theorem lowest_unique {a b x y : Int} (h : Lowest a b) (k : Lowest x y) (e : x * b = a * y) : x = a ∧ y = b := by
  have d1 : b ∣ y := dvd_cop h.2 (by rw [← e]; exact Int.dvd_mul_left _ _)
  have d2 : y ∣ b := dvd_cop k.2 (by rw [e]; exact Int.dvd_mul_left _ _)
  have hb := h.1
  have hy := k.1
  have l1 : b ≤ y := Int.le_of_dvd hy d1
  have l2 : y ≤ b := Int.le_of_dvd hb d2
  have ey : y = b := by omega
  refine ⟨?_, ey⟩
  rw [ey] at e
  exact Int.eq_of_mul_eq_mul_right (by omega) e
theorem lo_eq {a b x y : Int} (h : Lowest a b) (hy : 0 < y) (e : x * b = a * y) : lo x y = (a, b) := by
  have k := lo_lowest (a := x) hy
  have c := lo_cross x y
  have g : (lo x y).1 * b = a * (lo x y).2 := by
    have : ((lo x y).1 * b) * y = (a * (lo x y).2) * y := by
      calc ((lo x y).1 * b) * y = ((lo x y).1 * y) * b := by simp only [Int.mul_assoc, Int.mul_comm, Int.mul_left_comm]
        _ = (x * (lo x y).2) * b := by rw [c]
        _ = (x * b) * (lo x y).2 := by simp only [Int.mul_assoc, Int.mul_comm, Int.mul_left_comm]
        _ = (a * y) * (lo x y).2 := by rw [e]
        _ = (a * (lo x y).2) * y := by simp only [Int.mul_assoc, Int.mul_comm, Int.mul_left_comm]
    exact Int.eq_of_mul_eq_mul_right (by omega) this
  have u := lowest_unique h k g
  exact Prod.ext u.1 u.2
theorem lo_of {a b : Int} (h : Lowest a b) : lo a b = (a, b) := lo_eq h h.1 rfl
theorem ediv_natAbs_le (a : Int) (g : Nat) : (a / (g : Int)).natAbs ≤ a.natAbs := by
  cases g with
  | zero => simp
  | succ g => exact Int.natAbs_ediv_le_natAbs _ _
theorem lo_fst_le (a b : Int) : (lo a b).1.natAbs ≤ a.natAbs := ediv_natAbs_le a _
theorem lo_snd_le (a b : Int) : (lo a b).2.natAbs ≤ b.natAbs := ediv_natAbs_le b _
/-! bits -/
def Bt (n : Nat) (a : Int) : Prop := a.natAbs < 2 ^ n
theorem Bt.mono {n m : Nat} {a : Int} (h : Bt n a) (k : n ≤ m) : Bt m a := Nat.lt_of_lt_of_le h (Nat.pow_le_pow_right (by decide) k)
theorem Bt.of_le {n : Nat} {a b : Int} (h : Bt n b) (k : a.natAbs ≤ b.natAbs) : Bt n a := Nat.lt_of_le_of_lt k h
theorem Bt.mul {n m : Nat} {a b : Int} (h : Bt n a) (k : Bt m b) : Bt (n + m) (a * b) := by
  unfold Bt
  rw [Int.natAbs_mul, Nat.pow_add]
  exact Nat.mul_lt_mul'' h k
theorem Bt.add {n : Nat} {a b : Int} (h : Bt n a) (k : Bt n b) : Bt (n + 1) (a + b) := by
  unfold Bt at *
  have := Int.natAbs_add_le a b
  rw [Nat.pow_succ]
  omega
theorem Bt.sub {n : Nat} {a b : Int} (h : Bt n a) (k : Bt n b) : Bt (n + 1) (a - b) := by
  unfold Bt at *
  have : (a - b).natAbs ≤ a.natAbs + b.natAbs := Int.natAbs_sub_le a b
  rw [Nat.pow_succ]
  omega
theorem Bt.neg {n : Nat} {a : Int} (h : Bt n a) : Bt n (-a) := by
  unfold Bt at *
  rw [Int.natAbs_neg]
  exact h
theorem Bt.lo1 {n : Nat} {a b : Int} (h : Bt n a) : Bt n (lo a b).1 := h.of_le (lo_fst_le a b)
theorem Bt.lo2 {n : Nat} {a b : Int} (h : Bt n b) : Bt n (lo a b).2 := h.of_le (lo_snd_le a b)
theorem Bt.of_lt {n : Nat} {a : Int} (h0 : -(2 ^ n) < a) (h : a < 2 ^ n) : Bt n a := by
  unfold Bt
  have e : ((2 ^ n : Nat) : Int) = 2 ^ n := by simp
  omega
/-! the loop of the greatest number that goes into both -/
theorem gcd_step {x y : Int} (hx : 0 ≤ x) (hy : 0 < y) : Int.gcd y (x % y) = Int.gcd x y := by
  show Nat.gcd y.natAbs (x % y).natAbs = Nat.gcd x.natAbs y.natAbs
  have e : (x % y).natAbs = x.natAbs % y.natAbs := by
    have : x % y = ((x.natAbs % y.natAbs : Nat) : Int) := by
      rw [Int.natCast_emod]
      rw [Int.natAbs_of_nonneg hx, Int.natAbs_of_nonneg (by omega)]
    rw [this]
    rfl
  rw [e, Nat.gcd_comm y.natAbs, ← Nat.gcd_rec, Nat.gcd_comm]
theorem gcd_zero {x : Int} (hx : 0 ≤ x) : (Int.gcd x 0 : Int) = x := by
  have : Int.gcd x 0 = x.natAbs := Int.gcd_zero_right x
  rw [this]
  exact Int.natAbs_of_nonneg hx
theorem gcd_abs (a b : Int) : Int.gcd (if a < 0 then -a else a) b = Int.gcd a b := by
  split
  · exact Int.neg_gcd
  · rfl
/-! sums of parts -/
def pl (p q : Int × Int) : Int × Int := lo (p.1 * q.2 + q.1 * p.2) (p.2 * q.2)
theorem lo_neg_den {a b : Int} : lo a b = lo a b := rfl
end WS
set_option Elab.async false
set_option linter.all false
set_option maxRecDepth 100000
set_option maxHeartbeats 4000000
namespace WS
open PySem PySem.Spec PyProof.Rows L2
/-! heaps: what is new beside what stood; a pot that changes -/
theorem same_new {H : Hp} {p : Addr} {o : HO} (h : H p = none) : Same H (upd H p o) := fun b x e => by
  rw [upd_ne (ne_of_none e h)]
  exact e
theorem Same.tup {K : PySem.W.Frag} {H H' : Hp} {a : Addr} {xs : List V} (e : Same H H') (h : SqT K H a xs) : SqT K H' a xs := by
  rcases h with (h | ⟨o, h⟩) | h
  · exact .inl (.inl (e _ _ h))
  · exact .inl (.inr ⟨o, e _ _ h⟩)
  · exact .inr h
def SameX (p : Addr) (H H' : Hp) : Prop := ∀ b o, b ≠ p → H b = some o → H' b = some o
theorem SameX.refl (p : Addr) (H : Hp) : SameX p H H := fun _ _ _ h => h
theorem SameX.trans {p : Addr} {H H1 H2 : Hp} (a : SameX p H H1) (b : SameX p H1 H2) : SameX p H H2 := fun c o n h => b c o n (a c o n h)
theorem Same.x {p : Addr} {H H1 : Hp} (a : Same H H1) : SameX p H H1 := fun c o _ h => a c o h
theorem samex_set {p : Addr} {H : Hp} {o : HO} : SameX p H (upd H p o) := fun b x n e => by
  rw [upd_ne n]
  exact e
/-- a pot: two numbers, from which digits are drawn -/
def PotAt (H : Hp) (p : Addr) : Prop := ∃ x y : Int, H p = some (.lst [.int x, .int y]) ∧ 0 ≤ x ∧ 0 ≤ y ∧ y < 2147483648
theorem SameX.tup {K : PySem.W.Frag} {p : Addr} {H H' : Hp} {a : Addr} {xs : List V} (e : SameX p H H') (hp : PotAt H p) (h : SqT K H a xs) : SqT K H' a xs := by
  obtain ⟨x, y, hp, _⟩ := hp
  rcases h with (h | ⟨o, h⟩) | h
  · exact .inl (.inl (e _ _ (ne_of h hp (by intro z; cases z)) h))
  · exact .inl (.inr ⟨o, e _ _ (ne_of h hp (by intro z; cases z)) h⟩)
  · exact .inr h
theorem SameX.lst {K : PySem.W.Frag} {p : Addr} {H H' : Hp} {a : Addr} {xs : List V} (e : SameX p H H') (n : a ≠ p) (h : SqL K H a xs) : SqL K H' a xs := by
  rcases h with (h | ⟨o, h⟩) | h
  · exact .inl (.inl (e _ _ n h))
  · exact .inl (.inr ⟨o, e _ _ n h⟩)
  · exact .inr h
theorem PotAt.same {H H' : Hp} {p : Addr} (h : PotAt H p) (s : Same H H') : PotAt H' p := by
  obtain ⟨x, y, e, r⟩ := h
  exact ⟨x, y, s _ _ e, r⟩
/-! pairs of numbers -/
def TupI (K : PySem.W.Frag) (H : Hp) (v : V) (a b : Int) : Prop := ∃ t, v = .ref t ∧ SqT K H t [.int a, .int b]
theorem TupI.same {K : PySem.W.Frag} {H H' : Hp} {v : V} {a b : Int} (h : TupI K H v a b) (s : Same H H') : TupI K H' v a b := by
  obtain ⟨t, e, h⟩ := h
  exact ⟨t, e, Same.tup s h⟩
theorem TupI.x {K : PySem.W.Frag} {H H' : Hp} {p : Addr} {v : V} {a b : Int} (h : TupI K H v a b) (s : SameX p H H') (hp : PotAt H p) : TupI K H' v a b := by
  obtain ⟨t, e, h⟩ := h
  exact ⟨t, e, SameX.tup s hp h⟩
theorem TupI.new {K : PySem.W.Frag} {H : Hp} {p : Addr} {a b : Int} : TupI K (upd H p (.tup [.int a, .int b])) (.ref p) a b := ⟨p, rfl, .inl (.inl upd_same)⟩
def NewT (K : PySem.W.Frag) (H : Hp) (x y : Int) (Q : VK) : Prop := ∀ v H', Same H H' → TupI K H' v x y → Q v H'
/-! kinds -/
theorem sqt_ty {K : PySem.W.Frag} {H : Hp} {a : Addr} {xs : List V} (h : SqT K H a xs) : TyX K H (.ref a) (.type "tuple") := by
  rcases h with (h | ⟨o, h⟩) | ⟨o, its, n, h1, h2, _⟩
  · exact .base (.tup h)
  · exact .fTuple h
  · exact .kTuple h1 h2
/-- whether a thing is a whole number -/
def WholeIs (K : PySem.W.Frag) (H : Hp) (v : V) (b : Bool) : Prop := ∃ t b1 b2, TyX K H v t ∧ PySem.W.kitOne K t (.type "int") = some b1 ∧ PySem.W.kitOne K t (.type "bool") = some b2 ∧ b = (b1 && !b2)
theorem whole_int {K : PySem.W.Frag} {H : Hp} {i : Int} : WholeIs K H (.int i) true := ⟨_, true, false, .base (.int i), kit_ty (by decide +kernel), kit_ty (by decide +kernel), rfl⟩
theorem whole_non {K : PySem.W.Frag} {H : Hp} : WholeIs K H .non false := ⟨_, false, false, .base .non, kit_ty (by decide +kernel), kit_ty (by decide +kernel), rfl⟩
theorem whole_bl {K : PySem.W.Frag} {H : Hp} {b : Bool} : WholeIs K H (.bl b) false := ⟨_, true, true, .base (.bl b), kit_ty (by decide +kernel), kit_ty (by decide +kernel), rfl⟩
theorem whole_str {K : PySem.W.Frag} {H : Hp} {z : Str} : WholeIs K H (.str z) false := ⟨_, false, false, .base (.str z), kit_ty (by decide +kernel), kit_ty (by decide +kernel), rfl⟩
theorem whole_tup {K : PySem.W.Frag} {H : Hp} {a : Addr} {xs : List V} (h : SqT K H a xs) : WholeIs K H (.ref a) false := ⟨_, false, false, sqt_ty h, kit_ty (by decide +kernel), kit_ty (by decide +kernel), rfl⟩
theorem whole_lst {K : PySem.W.Frag} {H : Hp} {a : Addr} {xs : List V} (h : H a = some (.lst xs)) : WholeIs K H (.ref a) false := ⟨_, false, false, .base (.lst h), kit_ty (by decide +kernel), kit_ty (by decide +kernel), rfl⟩
/-! sizes -/
theorem Bt.cdiv {n : Nat} {i j : Int} (h : 0 < j) (hb : Bt n j) (h9 : n ≤ 8999) : CDivW i j := wide_div (b := n + 1) h (hb.mono (Nat.le_succ n)) (Nat.succ_pos n) (by omega)
theorem Bt.cmul {n m : Nat} {i j : Int} (ha : Bt n i) (hb : Bt m j) (h : n + m ≤ 900000) : CMulW i j := wide_mul (a := n + 1) (b := m + 1) (ha.mono (Nat.le_succ n)) (hb.mono (Nat.le_succ m)) (Nat.succ_pos n) (Nat.succ_pos m) (by omega)
theorem gcd_bt {n : Nat} {a b : Int} (h : 0 < b) (hb : Bt n b) : Bt n (Int.gcd a b : Int) := by
  refine hb.of_le ?_
  have : Int.gcd a b ≤ b.natAbs := Nat.le_of_dvd (by omega) (Nat.gcd_dvd_right a.natAbs b.natAbs)
  simpa using this
/-! promises -/
def spWhole (K : PySem.W.Frag) : Sp := fun vs H Q _ => ∃ v b, vs = [v] ∧ WholeIs K H v b ∧ Q (.bl b) H
def spGcd : Sp := fun vs H Q _ => ∃ x y : Int, vs = [.int x, .int y] ∧ 0 ≤ x ∧ 0 ≤ y ∧ Q (.int (Int.gcd x y)) H
def spLow (K : PySem.W.Frag) : Sp := fun vs H Q _ => ∃ a b : Int, vs = [.int a, .int b] ∧ 0 < b ∧ Bt 8999 b ∧ NewT K H (lo a b).1 (lo a b).2 Q
/-- two pairs and what is made of them -/
def spTwo (K : PySem.W.Frag) (f : Int → Int → Int → Int → Int × Int) : Sp := fun vs H Q _ => ∃ u v a b c d, vs = [u, v] ∧ TupI K H u a b ∧ TupI K H v c d ∧ 0 < b ∧ 0 < d ∧ Bt 4400 a ∧ Bt 4400 b ∧ Bt 4400 c ∧ Bt 4400 d ∧ NewT K H (f a b c d).1 (f a b c d).2 Q
def spTimes (K : PySem.W.Frag) : Sp := fun vs H Q _ => ∃ u a b m, vs = [u, .int m] ∧ TupI K H u a b ∧ 0 < b ∧ Bt 4400 a ∧ Bt 4400 b ∧ Bt 4400 m ∧ NewT K H (lo (a * m) b).1 (lo (a * m) b).2 Q
def Bad (K : PySem.W.Frag) (H : Hp) (m : V) : Prop := WholeIs K H m false ∨ ∃ i : Int, m = .int i ∧ i < 1
def spShared (K : PySem.W.Frag) (C : Addr) : Sp := fun vs H Q E => ∃ u a b m, vs = [u, m] ∧ TupI K H u a b ∧ ((Bad K H m ∧ E (.ref C) none H) ∨ ∃ i : Int, m = .int i ∧ 1 ≤ i ∧ 0 < b ∧ Bt 4400 a ∧ Bt 4400 b ∧ Bt 4400 i ∧ NewT K H (lo a (b * i)).1 (lo a (b * i)).2 Q)
def spDigit : Sp := fun vs H Q _ => ∃ p m, vs = [.ref p, .int m] ∧ PotAt H p ∧ 0 < m ∧ Bt 8999 m ∧ ∀ d H', 0 ≤ d → d < m → SameX p H H' → PotAt H' p → Q (.int d) H'
def spPot (K : PySem.W.Frag) : Sp := fun vs H Q _ => ∃ (a : Addr) (ns : List Int) (k : Int), vs = [.ref a, .int k] ∧ SqL K H a (ns.map V.int) ∧ 0 ≤ k ∧ k < 100 ∧ ∀ p H', Same H H' → H p = none → PotAt H' p → Q (.ref p) H'
/-! all tuples stay -/
def KT (H H' : Hp) : Prop := (∀ a xs, H a = some (.tup xs) → H' a = some (.tup xs)) ∧ (∀ a o xs, H a = some (.frz o (.tup xs)) → H' a = some (.frz o (.tup xs)))
theorem KT.refl (H : Hp) : KT H H := ⟨fun _ _ h => h, fun _ _ _ h => h⟩
theorem KT.trans {H H1 H2 : Hp} (a : KT H H1) (b : KT H1 H2) : KT H H2 := ⟨fun c o h => b.1 c o (a.1 c o h), fun c o x h => b.2 c o x (a.2 c o x h)⟩
theorem kt_same {H H' : Hp} (s : Same H H') : KT H H' := ⟨fun _ _ h => s _ _ h, fun _ _ _ h => s _ _ h⟩
theorem kt_x {p : Addr} {H H' : Hp} (s : SameX p H H') (hp : PotAt H p) : KT H H' := by
  obtain ⟨x, y, hp, _⟩ := hp
  exact ⟨fun a xs h => s _ _ (ne_of h hp (by intro z; cases z)) h, fun a o xs h => s _ _ (ne_of h hp (by intro z; cases z)) h⟩
theorem kt_set {H : Hp} {D : Addr} {xs ys : List V} (h : H D = some (.lst xs)) : KT H (upd H D (.lst ys)) :=
  ⟨fun a zs e => by rw [upd_ne (ne_of e h (by intro z; cases z))]; exact e, fun a o zs e => by rw [upd_ne (ne_of e h (by intro z; cases z))]; exact e⟩
theorem kt_new {H : Hp} {D : Addr} {o : HO} (h : H D = none) : KT H (upd H D o) := kt_same (same_new h)
theorem KT.sqt {K : PySem.W.Frag} {H H' : Hp} {a : Addr} {xs : List V} (e : KT H H') (h : SqT K H a xs) : SqT K H' a xs := by
  rcases h with (h | ⟨o, h⟩) | h
  · exact .inl (.inl (e.1 _ _ h))
  · exact .inl (.inr ⟨o, e.2 _ _ _ h⟩)
  · exact .inr h
theorem TupI.k {K : PySem.W.Frag} {H H' : Hp} {v : V} {a b : Int} (h : TupI K H v a b) (s : KT H H') : TupI K H' v a b := by
  obtain ⟨t, e, h⟩ := h
  exact ⟨t, e, s.sqt h⟩
/-- values that are pairs -/
def Parts (K : PySem.W.Frag) (H : Hp) (rs : List V) (ps : List (Int × Int)) : Prop := rs.length = ps.length ∧ ∀ (i : Nat) v, rs[i]? = some v → ∃ p, ps[i]? = some p ∧ TupI K H v p.1 p.2
theorem Parts.k {K : PySem.W.Frag} {H H' : Hp} {rs : List V} {ps : List (Int × Int)} (h : Parts K H rs ps) (s : KT H H') : Parts K H' rs ps :=
  ⟨h.1, fun i v e => by obtain ⟨p, e1, e2⟩ := h.2 i v e; exact ⟨p, e1, e2.k s⟩⟩
theorem Parts.nil {K : PySem.W.Frag} {H : Hp} : Parts K H [] [] := ⟨rfl, fun i v e => by simp at e⟩
theorem Parts.cons {K : PySem.W.Frag} {H : Hp} {v : V} {rs : List V} {p : Int × Int} {ps : List (Int × Int)} (h : TupI K H v p.1 p.2) (k : Parts K H rs ps) : Parts K H (v :: rs) (p :: ps) :=
  ⟨by simp [k.1], fun i x e => by
    cases i with
    | zero => exact ⟨p, rfl, by have e : v = x := Option.some.inj e; rw [← e]; exact h⟩
    | succ i => exact k.2 i x e⟩
theorem Parts.add {K : PySem.W.Frag} {H : Hp} {v : V} {rs : List V} {p : Int × Int} {ps : List (Int × Int)} (k : Parts K H rs ps) (h : TupI K H v p.1 p.2) : Parts K H (rs ++ [v]) (ps ++ [p]) :=
  ⟨by simp [k.1], fun i x e => by
    by_cases hi : i < rs.length
    · rw [List.getElem?_append_left hi] at e
      obtain ⟨q, e1, e2⟩ := k.2 i x e
      exact ⟨q, by rw [List.getElem?_append_left (by rw [← k.1]; exact hi)]; exact e1, e2⟩
    · rw [List.getElem?_append_right (by omega)] at e
      have hl := k.1
      have z : i - rs.length = 0 := by
        cases hz : i - rs.length with
        | zero => rfl
        | succ n => rw [hz] at e; simp at e
      rw [z] at e
      have e : v = x := Option.some.inj e
      refine ⟨p, ?_, by rw [← e]; exact h⟩
      rw [List.getElem?_append_right (by omega), show i - ps.length = 0 by omega]
      rfl⟩
/-- a number with a below, of at most n bits -/
def Okp (n : Nat) (p : Int × Int) : Prop := 0 < p.2 ∧ Bt n p.1 ∧ Bt n p.2
theorem Okp.mono {n m : Nat} {p : Int × Int} (h : Okp n p) (k : n ≤ m) : Okp m p := ⟨h.1, h.2.1.mono k, h.2.2.mono k⟩
theorem Okp.pl {n m : Nat} {p q : Int × Int} (h : Okp n p) (k : Okp m q) : Okp (n + m + 1) (pl p q) := by
  have hy : 0 < p.2 * q.2 := Int.mul_pos h.1 k.1
  refine ⟨(lo_lowest hy).1, Bt.lo1 ?_, Bt.lo2 ?_⟩
  · have a := h.2.1.mul k.2.2
    have b := (k.2.1.mul h.2.2).mono (show m + n ≤ n + m by omega)
    exact a.add b
  · exact (h.2.2.mul k.2.2).mono (by omega)
theorem fold_okp {n m : Nat} : ∀ (ps : List (Int × Int)) (p : Int × Int), Okp n p → (∀ q ∈ ps, Okp m q) → Okp (n + ps.length * (m + 1)) (ps.foldl pl p)
  | [], p, h, _ => by simpa using h
  | q :: r, p, h, k => by
    have h1 := h.pl (k q (by simp))
    have := fold_okp r (pl p q) h1 (fun x hx => k x (by simp [hx]))
    refine this.mono ?_
    simp only [List.length_cons, Nat.add_mul, Nat.one_mul]
    omega
theorem take_fold {i : Nat} {ps : List (Int × Int)} {p q : Int × Int} (h : ps[i]? = some q) : (ps.take (i + 1)).foldl pl p = pl ((ps.take i).foldl pl p) q := by
  rw [List.take_add_one, h, List.foldl_append]
  rfl
theorem pick {xs : List V} {d : Int} (h0 : 0 ≤ d) (h : d < xs.length) : ∃ v, atI xs d = some v ∧ v ∈ xs :=
  ⟨xs[d.toNat]'(by omega), at_of (j := d.toNat) (by omega) (List.getElem?_eq_getElem _), List.getElem_mem _⟩
def spSum (K : PySem.W.Frag) (n : Nat) : Sp := fun vs H Q _ => ∃ (l : Addr) (rs : List V) (ps : List (Int × Int)), vs = [.ref l] ∧ SqL K H l rs ∧ Parts K H rs ps ∧ (∀ q ∈ ps, Okp n q) ∧ (ps.length + 1) * (n + 1) ≤ 4400 ∧ ∀ v H', Same H H' → TupI K H' v (ps.foldl pl (0, 1)).1 (ps.foldl pl (0, 1)).2 → Q v H'
def spTotal (K : PySem.W.Frag) (n : Nat) : Sp := fun vs H Q _ => ∃ (l : Addr) (u : V) (a b : Int) (rs : List V) (ps : List (Int × Int)), vs = [.ref l, u] ∧ SqT K H l rs ∧ TupI K H u a b ∧ Okp n (a, b) ∧ Parts K H rs ps ∧ (∀ q ∈ ps, Okp n q) ∧ (ps.length + 1) * (n + 1) ≤ 4400 ∧ ∀ v H', Same H H' → TupI K H' v (ps.foldl pl (a, b)).1 (ps.foldl pl (a, b)).2 → Q v H'
def spNum (n : Nat) : Sp := fun vs H Q _ => ∃ p, vs = [.ref p] ∧ PotAt H p ∧ ∀ i H', Bt n i → SameX p H H' → PotAt H' p → Q (.int i) H'
def spDraw (K : PySem.W.Frag) (n : Nat) : Sp := fun vs H Q _ => ∃ p, vs = [.ref p] ∧ PotAt H p ∧ ∀ v a b H', Lowest a b → Bt n a → Bt n b → TupI K H' v a b → SameX p H H' → PotAt H' p → Q v H'
def spIs (K : PySem.W.Frag) : Sp := fun vs H Q _ => ∃ u v a b, vs = [u, v] ∧ TupI K H u a b ∧ TupI K H v a b ∧ Q (.bl true) H
theorem PotAt.ne {H : Hp} {p z : Addr} (h : PotAt H p) (n : H z = none) : z ≠ p := by
  obtain ⟨x, y, e, _⟩ := h
  intro q
  rw [q, e] at n
  cases n
theorem eqv_pair (a b : Int) : PyData.eqv (.tuple [.int a, .int b]) (.tuple [.int a, .int b]) = true := by simp [PyData.eqv, PyData.eqvAll]
theorem share_back {a b i : Int} (h : Lowest a b) (hi : 1 ≤ i) : lo ((lo a (b * i)).1 * i) (lo a (b * i)).2 = (a, b) := by
  have hy : 0 < b * i := Int.mul_pos h.1 (by omega)
  refine lo_eq h (lo_lowest hy).1 ?_
  have c := lo_cross a (b * i)
  calc (lo a (b * i)).1 * i * b = (lo a (b * i)).1 * (b * i) := by simp only [Int.mul_assoc, Int.mul_comm, Int.mul_left_comm]
    _ = a * (lo a (b * i)).2 := c
/-! promises that are kept where no repr is under way -/
def Calm (A : Around) : Prop := A.guards = some []
theorem Calm.down {A : Around} (h : Calm A) (env : Env) : Calm (A.deeper env) := h
structure FnAt (A : Around) (P : Program) (w : World) (K : PySem.W.Frag) (mg : Str → Option Value) (base : Heap) (CX : CXT) (k : Nat) (f : Addr) (fd : FuncData) (ps : List Str) (sp : Sp) : Prop where
  len : ∀ vs H Q E, sp vs H Q E → vs.length = ps.length
  go : ∀ (outer : List Env) (s : Shared) (H : Hp) (args : Args) (us : List Value) (vs : List V) (Q : VK) (E : XK),
    Room k A → Env0 P w K mg base A outer s H → BindsTo s fd args (ps.zip us) → Vals vs us → sp vs H Q E →
    codeAny (model P w) A (.call (.ref f) args) (CR CX outer P w H s Q E) s
theorem fnat_of {A : Around} {P : Program} {w : World} {K : PySem.W.Frag} {mg : Str → Option Value} {base : Heap} {CX : CXT} {k : Nat} {f : Addr} {fd : FuncData} {ps : List Str} {sp : Sp}
    (F : FnOk P w K mg base CX k f fd ps sp) : FnAt A P w K mg base CX k f fd ps sp := ⟨F.len, F.run A⟩
/-- a def by its body, at one place -/
theorem fun_at {A : Around} {P : Program} {w : World} {K : PySem.W.Frag} {mg : Str → Option Value} {base : Heap} {CX : CXT} {x qual : Str} {st : Stmt} {f : Addr} {fd : FuncData} {N ps : List Str} {k : Nat} {sp : Sp}
    (F : Fun K x qual st f fd) (S : FnScope N ps (defScope st)) (len : ∀ vs H Q E, sp vs H Q E → vs.length = ps.length)
    (B : ∀ (cdv : Value) (outer : List Env) (s : Shared) (H : Hp) (vs : List V) (Q : VK) (E : XK),
      Room k (A.deeper (envOfC qual (defScope st) s.heap.objs.size f cdv)) → sp vs H Q E →
      ∃ t, PSs (cxOf CX P w K mg base N qual (defScope st) f cdv A outer s H E) (defBody st) t ∧ t ⟨fun _ H' => Q .non H', Q, fun _ _ => False, fun _ _ => False⟩ (start N vs) H) :
    FnAt A P w K mg base CX (k + 1) f fd ps sp := by
  obtain ⟨oc, od, kV, doc, pm, an, cdv, ct, osl, rfl, at_f, code⟩ := F.ex
  refine ⟨len, ?_⟩
  intro outer s H args us vs Q E room env0 bt vals want
  have inK : K.In s.heap := env0.mod.kin.keeps (fun b o e => (env0.bs b o e).1)
  have kinds : ∀ y ∈ ps.zip us, (defScope st).names.lookup y.1 = some .local ∨ ((defScope st).names.lookup y.1 = some .cell ∧ ((cellsFrom (s.heap.objs.size + 1) (defScope st).names []).lookup y.1).isSome = true) := by
    rintro ⟨n, v⟩ hy
    rcases S.par n (List.of_mem_zip hy).1 with l | c
    · exact .inl l
    · exact .inr ⟨c, PySem.W.cellsFrom_some _ _ _ (.inl c)⟩
  refine codeAny_call_function room.depth (inK _ _ at_f) rfl S.co S.gen rfl (PySem.W.codeRec_of inK code) (bt _ _ _ _ ?_)
  refine wpAny_newFunctionEnv_cells S.kind kinds ?_
  rintro env rfl s1 ic
  refine ⟨(env0.mod.nolimit.keeps fun b o e => (env0.bs b o e).1).keeps ic.toInCall.keep, codeAny_func ?_⟩
  obtain ⟨t, pss, reading⟩ := B cdv outer s H vs Q E (room.deeper _) want
  have inv := inv_start (CX := CX) (E := E) S room.hd env0 (len _ _ _ _ want) vals ic
  refine wpAny_mono (pss.run [] s1 (start N vs) H _ inv reading) ?_ (fun _ _ z => z)
  intro fl s' z
  match fl, z with
  | .ret u, ⟨v, σ', H', J, rv, q⟩ => exact ⟨v, H', J.os, J.bare, J.base, J.hok, rv, q⟩
  | .next, ⟨σ', H', J, q⟩ => exact ⟨.non, H', J.os, J.bare, J.base, J.hok, rfl, q⟩
  | .brk, ⟨_, _, _, q⟩ => exact q.elim
  | .cont, ⟨_, _, _, q⟩ => exact q.elim
/-- f(e, ..) where f keeps its promise at this place -/
theorem pe_callA {X : Cx} {CX : CXT} {k : Nat} {f : Addr} {fd : FuncData} {ps : List Str} {sp : Sp} {dvs : List V} {ds : List Value} {E : XK} {x : Str} {p pos : Pos} {e : Expr} {es : List Expr} {t : TA}
    (F : FnAt X.A X.prog X.w X.K X.mg X.base CX k f fd ps sp) (room : Room k X.A) (gl : Gl X x) (at_x : X.mg x = some (.ref f)) (kp : PySem.W.keepIn X.K (.ref f) = true)
    (bi : Binds X.K fd ps ds) (vd : Vals dvs ds) (ex : Passes CX X E) (args : PA X (e :: es) t)
    (nodbg : (x == ("__debug__" : Str)) = false := by decide) (one : starEach (e :: es) X.env = (false, eval e X.env) :: starEach es X.env := by rfl) (nostar : (backTo pos (starEach es X.env)).any (·.1) = false := by rfl) :
    PE X (.Call (.Name x p) (e :: es) [] pos) (tCall sp dvs E t) := by
  constructor
  intro pins s σ H Q inv want
  refine wpAny_Call_Name_kw (ld_glob inv gl at_x ?_ nodbg)
  refine PySem.W.callWith_K (h₀ := X.base) inv.ok.mod.kin kp (thn (args.run pos pins s σ H _ inv want) ?_) one nostar
  rintro us s1 ⟨vs, H1, inv1, vals, want1⟩
  refine ⟨inv1.kIn, ?_⟩
  have both : Vals (vs ++ dvs) (us ++ ds) := vals.append vd
  have size : (us ++ ds).length = ps.length := both.length.symm.trans (F.len _ _ _ _ want1)
  refine wpAny_call (codeAny_mono (F.go X.stack s1 H1 ⟨us, []⟩ _ _ Q E room inv1.env0 (bi s1 us inv1.kIn size) both want1) ?_)
  intro r s' z
  match r, z with
  | .error er, z => exact ex pins σ H1 s1 er s' inv1 z
  | .ok (.ret u), z => exact inv1.after z
  | .ok .next, z => exact z.elim
  | .ok .brk, z => exact z.elim
  | .ok .cont, z => exact z.elim
/-- repr of data -/
def rRepr (X : Cx) : List V → Hp → VK → Prop := fun xs H Q => ∃ v d, xs = [v] ∧ Dp X.K H v d ∧ d.showable = true ∧ d.hasDict = false ∧ d.depth ≤ 60 ∧ d.shown.length ≤ sizeLine ∧ Q (.str d.shown) H
theorem call_reprD {X : Cx} (g : Calm X.A) (hu : X.A.units + 64 < cLine) : CallR X (.builtin "repr") (rRepr X) := by
  intro pins s σ H xs us Q inv vals want
  obtain ⟨v, d, rfl, dp, sh, nd, dep, len, q⟩ := want
  cases vals with
  | cons rv rest =>
    cases rest
    obtain ⟨as, rd⟩ := Dp.reads inv d v _ dp rv
    have nomod : d.hasDict = true → sysModules ∉ as := fun e => by rw [nd] at e; cases e
    cases dp with
    | non => cases rv; exact PySem.P.repr_of_none ⟨.str _, H, inv.tok _, ⟨_, rfl⟩, q⟩
    | bl b => cases rv; exact PySem.P.repr_of_bool ⟨.str _, H, inv.tok _, ⟨_, rfl⟩, q⟩
    | int i =>
      obtain ⟨t, rfl⟩ := rv
      exact PySem.P.repr_of_int (of_decide_eq_true sh) ⟨.str _, H, inv.tok _, ⟨_, rfl⟩, q⟩
    | str z =>
      obtain ⟨t, rfl⟩ := rv
      exact PySem.P.repr_of_str ⟨.str _, H, inv.tok _, ⟨_, rfl⟩, q⟩ len
    | lst h1 h2 =>
      cases rv
      exact repr_of_reads' rd sh nomod g (by omega) (fun _ _ z => z) (fun h' u tk keep => ⟨.str _, H, inv.kept keep, ⟨_, rfl⟩, q⟩) len
    | tup h1 h2 =>
      cases rv
      exact repr_of_reads' rd sh nomod g (by omega) (fun _ _ z => z) (fun h' u tk keep => ⟨.str _, H, inv.kept keep, ⟨_, rfl⟩, q⟩) len
/-! the end of a law whose def keeps its promise where the law is called -/
theorem begin_at {P : Program} {w : World} {K : PySem.W.Frag} {mg mb : Str → Option Value} {k : Nat} {fa a : Addr} {fd : FuncData} {x : Str} {sp : Sp} {s : Shared} {vs : List Value} {H : Hp}
    (inK : K.In s.heap) (gns : s.heap.Ns mainGlobals mg) (bns : s.heap.Ns builtinsNs mb) (bb : ∀ x : Str, x ≠ "__name__" → mb x = bootBuiltins x) (lim : s.heap.NoLimit) (nogen : s.gens = #[])
    (script : s.heap.get? a = some { cls := .type "list", data := .seq vs.toArray }) (room : Room k callerA)
    (F : ∀ base : Heap, K.In base → base.Ns mainGlobals mg → FnAt callerA P w K mg base CX0 k fa fd [x] sp) (bind1 : ∀ (s : Shared) (u : Value), BindsTo s fd ⟨[u], []⟩ [(x, u)])
    (only : ∀ b u, H b = some u → b = a ∧ K.lookup a = none ∧ ∃ o xs, u = .frz o (.lst xs)) (fits : HOk P w H s.heap)
    (want : sp [.ref a] H (fun v _ => v = .bl true) fun _ _ _ => False) :
    codeAny (model P w) callerA (.call (.ref fa) ⟨[.ref a], []⟩) (fun r s' => r = .ok (.ret (.bool true)) ∧ OldK s.heap s'.heap ∧ s'.os = s.os ∧ AllBare s'.gens) s := by
  have plain : ∀ {b : Addr}, b ≠ a → H b = none := fun {b} nb => by
    cases z : H b with
    | none => rfl
    | some u => exact absurd (only b u z).1 nb
  have noDict : ∀ {b : Addr} {o : Obj} {es : Array DictEntry} {ep : Nat}, s.heap.get? b = some o → o.data = .dict es ep → H b = none := by
    intro b o es ep e de
    refine plain ?_
    rintro rfl
    rw [script] at e
    cases e
    cases de
  have nsb : ∀ {b : Addr} {m : Str → Option Value}, s.heap.Ns b m → (hidT s.heap H).Ns b m := by
    rintro b m ⟨o, es, ep, e, de, rest⟩
    exact ⟨o, es, ep, hidT_get e (noDict e de), de, rest⟩
  have kb : K.In (hidT s.heap H) := by
    intro b o e
    refine hidT_get (inK b o e) ?_
    cases z : H b with
    | none => rfl
    | some u =>
      obtain ⟨rfl, nk, _⟩ := only b u z
      rw [nk] at e
      cases e
  obtain ⟨mc, l1, l2⟩ := lim
  have modu : Mod K mg (hidT s.heap H) := ⟨kb, nsb gns, ⟨mb, nsb bns, bb⟩, ⟨mc, nsb l1, l2⟩⟩
  have noEnv : ∀ b ∈ frs [], H b = none := fun b z => absurd (show b ∈ ([] : List Addr) from z) List.not_mem_nil
  have env0 : Env0 P w K mg (hidT s.heap H) callerA [] s H := ⟨rfl, modu, fun b o e => of_hidT e, Nat.le_of_eq (hidT_size _ _), trivial, noEnv, fits, .of_eq nogen⟩
  refine codeAny_mono ((F _ kb (nsb gns)).go [] s H ⟨[.ref a], []⟩ [.ref a] [.ref a] _ _ room env0 (bind1 s (.ref a)) (.cons rfl .nil) want) ?_
  intro r s' z
  match r, z with
  | .error er, z => exact z.elim
  | .ok .next, z => exact z.elim
  | .ok .brk, z => exact z.elim
  | .ok .cont, z => exact z.elim
  | .ok (.ret u), ⟨v, H', os, bare, un, fits', rel, q⟩ =>
    have q : v = .bl true := q
    subst q
    obtain rfl : u = Value.bool true := rel
    refine ⟨rfl, OldK.of_keep ?_, os, bare⟩
    intro b o e
    cases zb : H b with
    | none => exact un.keep b o e zb (fun z => absurd (show b ∈ ([] : List Addr) from z) List.not_mem_nil) List.not_mem_nil
    | some u =>
      obtain ⟨_, _, ob, xs, rfl⟩ := only b u zb
      have now := (fits' b _ (un.frzs b ob _ zb)).1
      have then_ := (fits b _ zb).1
      rw [e] at then_
      cases then_
      exact now
theorem walk_G {l : PySem.W.OpenLaw} {n k : Nat} {q : Program} {loose : List Str} {XP : (Str → Option Value) → Heap → Prop} {YP : World → Heap → Prop} {d : DefRec} {K : Params → PySem.W.Frag} {sp : World → Sp} {x : Str}
    (most : l.most = some n) (small : n ≤ sizeLine) (nodefault : d.params.defaults = []) (room : Room k callerA)
    (Y : ∀ (w : World) (h : Heap), YP w h → (K w.params).In h)
    (F : ∀ (w : World) (mg : Str → Option Value) (fa : Addr) (h : Heap), (K w.params).In h → h.Ns mainGlobals mg → mg d.name = some (.ref fa) →
      ∃ fd : FuncData, (∀ (s : Shared) (u : Value), BindsTo s fd ⟨[u], []⟩ [(x, u)]) ∧ ∀ base : Heap, (K w.params).In base → base.Ns mainGlobals mg → FnAt callerA l.prog w (K w.params) mg base CX0 k fa fd [x] (sp w))
    (want : ∀ (w : World) (H : Hp) (a : Addr) (ns : List Int), ns.length ≤ n → SqL (K w.params) H a (ns.map V.int) → sp w [.ref a] H (fun v _ => v = .bl true) fun _ _ _ => False) :
    PySem.W.WalkO q loose XP YP l.row.toRowW d [] (fun f vs => PySem.call f vs) := by
  refine Att.attach_call most nodefault ?_
  intro w s0 s mg mb fa o pm cd doc a vs ns G y _ _ _ at_law script hi len nogen
  have inK := Y w _ y
  obtain ⟨fd, b1, f⟩ := F w mg fa _ inK G.T.g at_law
  have rel : Vals (ns.map V.int) vs := vals_ints hi
  have sz : ns.length ≤ sizeLine := Nat.le_trans len small
  cases look : (K w.params).lookup a with
  | some ob =>
    have same := inK a ob look
    rw [script] at same
    cases same
    refine begin_at (H := fun _ => none) inK G.T.g G.T.b G.T.builtins G.T.nolimit nogen script room f b1 (fun b u z => ?_) (fun b u z => ?_) (want w _ a ns len (.inr ⟨_, vs.toArray, _, look, rfl, rfl, rfl, ?_, ?_⟩))
    · have z : (none : Option HO) = some u := z
      cases z
    · have z : (none : Option HO) = some u := z
      cases z
    · rw [List.size_toArray, hi.length]
      exact sz
    · simpa using rel
  | none =>
    have here : ∀ b u, (if b = a then some (HO.frz { cls := .type "list", data := .seq vs.toArray } (.lst (ns.map V.int))) else none) = some u → b = a ∧ u = HO.frz { cls := .type "list", data := .seq vs.toArray } (.lst (ns.map V.int)) := by
      intro b u z
      by_cases hb : b = a
      · rw [if_pos hb] at z
        exact ⟨hb, (Option.some.inj z).symm⟩
      · rw [if_neg hb] at z
        cases z
    refine begin_at (H := fun b => if b = a then some (.frz { cls := .type "list", data := .seq vs.toArray } (.lst (ns.map V.int))) else none) inK G.T.g G.T.b G.T.builtins G.T.nolimit nogen script room f b1 (fun b u z => ?_) (fun b u z => ?_) (want w _ a ns len (.inl (.inr ⟨_, if_pos rfl⟩)))
    · obtain ⟨e1, e2⟩ := here b u z
      exact ⟨e1, look, _, _, e2⟩
    · obtain ⟨rfl, rfl⟩ := here b u z
      exact ⟨script, by rw [List.length_map]; exact sz, vs, _, rel, script⟩
theorem tyes {σ : L2.St} {H : Hp} {F : Bool → Hp → Prop} (h : F true H) : tYes σ H F := h
/-- the script can be read where what it was stays -/
theorem seq_keep {K : PySem.W.Frag} {H H' : Hp} {a : Addr} {xs : List V} (h : SqL K H a xs) (s : ∀ o, H a = some o → H' a = some o) : SqL K H' a xs := by
  rcases h with (h | ⟨o, h⟩) | h
  · exact .inl (.inl (s _ h))
  · exact .inl (.inr ⟨o, s _ h⟩)
  · exact .inr h
theorem all_true : ∀ n : Nat, (List.replicate n true).all id = true
  | 0 => rfl
  | n + 1 => by simp [List.replicate_succ]
theorem pl_zero {a b : Int} (h : Lowest a b) : pl (0, 1) (a, b) = (a, b) := by
  show lo (0 * b + a * 1) (1 * b) = (a, b)
  rw [Int.zero_mul, Int.zero_add, Int.mul_one, Int.one_mul]
  exact lo_of h
def spOne : Sp := fun vs H Q _ => ∃ p, vs = [.ref p] ∧ PotAt H p ∧ ∀ H', SameX p H H' → Q (.bl true) H'
def spLaw (K : PySem.W.Frag) : Sp := fun vs H Q _ => ∃ (a : Addr) (ns : List Int), vs = [.ref a] ∧ SqL K H a (ns.map V.int) ∧ ns.length ≤ 63 ∧ ∀ H', Q (.bl true) H'
/-! parts by what they stand for -/
theorem lo_congr {x y x' y' : Int} (hy : 0 < y) (hy' : 0 < y') (e : x * y' = x' * y) : lo x y = lo x' y' := by
  have c := lo_cross x' y'
  refine (lo_eq (lo_lowest (a := x') hy') hy ?_).trans (Prod.eta _)
  have h : (x * (lo x' y').2) * y' = ((lo x' y').1 * y) * y' := by
    calc (x * (lo x' y').2) * y' = (x * y') * (lo x' y').2 := by simp only [Int.mul_assoc, Int.mul_comm, Int.mul_left_comm]
      _ = (x' * y) * (lo x' y').2 := by rw [e]
      _ = (x' * (lo x' y').2) * y := by simp only [Int.mul_assoc, Int.mul_comm, Int.mul_left_comm]
      _ = ((lo x' y').1 * y') * y := by rw [c]
      _ = ((lo x' y').1 * y) * y' := by simp only [Int.mul_assoc, Int.mul_comm, Int.mul_left_comm]
  exact Int.eq_of_mul_eq_mul_right (by omega) h
theorem lo_pl {a b c d : Int} (hb : 0 < b) (hd : 0 < d) : pl (lo a b) (lo c d) = lo (a * d + c * b) (b * d) := by
  have b' := (lo_lowest (a := a) hb).1
  have d' := (lo_lowest (a := c) hd).1
  have e1 := lo_cross a b
  have e2 := lo_cross c d
  show lo ((lo a b).1 * (lo c d).2 + (lo c d).1 * (lo a b).2) ((lo a b).2 * (lo c d).2) = _
  refine lo_congr (Int.mul_pos b' d') (Int.mul_pos hb hd) ?_
  generalize (lo a b).1 = p at *
  generalize (lo a b).2 = q at *
  generalize (lo c d).1 = r at *
  generalize (lo c d).2 = t at *
  have h1 : p * t * (b * d) = a * q * t * d := by rw [← e1]; simp only [Int.mul_assoc, Int.mul_comm, Int.mul_left_comm]
  have h2 : r * q * (b * d) = c * t * q * b := by rw [← e2]; simp only [Int.mul_assoc, Int.mul_comm, Int.mul_left_comm]
  rw [Int.add_mul, Int.add_mul, h1, h2]
  simp only [Int.mul_assoc, Int.mul_comm, Int.mul_left_comm]
theorem lo_times {a b m : Int} (hb : 0 < b) : lo ((lo a b).1 * m) (lo a b).2 = lo (a * m) b := by
  refine lo_congr (lo_lowest hb).1 hb ?_
  have e := lo_cross a b
  calc (lo a b).1 * m * b = ((lo a b).1 * b) * m := by simp only [Int.mul_assoc, Int.mul_comm, Int.mul_left_comm]
    _ = (a * (lo a b).2) * m := by rw [e]
    _ = a * m * (lo a b).2 := by simp only [Int.mul_assoc, Int.mul_comm, Int.mul_left_comm]
theorem lo_less {a b c d : Int} (hb : 0 < b) (hd : 0 < d) : (lo a b).1 * (lo c d).2 < (lo c d).1 * (lo a b).2 ↔ a * d < c * b := by
  have b' := (lo_lowest (a := a) hb).1
  have d' := (lo_lowest (a := c) hd).1
  have e1 := lo_cross a b
  have e2 := lo_cross c d
  generalize (lo a b).1 = p at *
  generalize (lo a b).2 = q at *
  generalize (lo c d).1 = r at *
  generalize (lo c d).2 = t at *
  have h1 : (p * t) * (b * d) = (a * d) * (q * t) := by
    calc (p * t) * (b * d) = (p * b) * (t * d) := by simp only [Int.mul_assoc, Int.mul_comm, Int.mul_left_comm]
      _ = (a * q) * (t * d) := by rw [e1]
      _ = (a * d) * (q * t) := by simp only [Int.mul_assoc, Int.mul_comm, Int.mul_left_comm]
  have h2 : (r * q) * (b * d) = (c * b) * (q * t) := by
    calc (r * q) * (b * d) = (r * d) * (q * b) := by simp only [Int.mul_assoc, Int.mul_comm, Int.mul_left_comm]
      _ = (c * t) * (q * b) := by rw [e2]
      _ = (c * b) * (q * t) := by simp only [Int.mul_assoc, Int.mul_comm, Int.mul_left_comm]
  have pb : 0 < b * d := Int.mul_pos hb hd
  have pq : 0 < q * t := Int.mul_pos b' d'
  constructor
  · intro h
    have := Int.mul_lt_mul_of_pos_right h pb
    rw [h1, h2] at this
    exact Int.lt_of_mul_lt_mul_right this (Int.le_of_lt pq)
  · intro h
    have := Int.mul_lt_mul_of_pos_right h pq
    rw [← h1, ← h2] at this
    exact Int.lt_of_mul_lt_mul_right this (Int.le_of_lt pb)
def spMost (K : PySem.W.Frag) : Sp := fun vs H Q _ => ∃ a n k : Int, vs = [.int a, .int n, .int k] ∧ Bt 200 a ∧ Bt 200 n ∧ Bt 200 k ∧ NewT K H (lo (a * k * (n - k)) 2).1 (lo (a * k * (n - k)) 2).2 Q
def spLess (K : PySem.W.Frag) : Sp := fun vs H Q _ => ∃ u v a b c d, vs = [u, v] ∧ TupI K H u a b ∧ TupI K H v c d ∧ Bt 4400 a ∧ Bt 4400 b ∧ Bt 4400 c ∧ Bt 4400 d ∧ Q (.bl (decide (a * d < c * b))) H
/-! how long a repr is -/
theorem text_len : ∀ (ts : List Str) (k : Nat) (acc : Str), (textFrom k acc ts).length ≤ acc.length + piled ts
  | [], k, acc => by show acc.length ≤ _; omega
  | t :: r, k, acc => by
    have ih := text_len r (k + 1) (acc ++ (if k > 0 then ", " else "" : String) ++ t)
    have e : ((if k > 0 then ", " else "" : String) : Str).length ≤ 2 := by split <;> decide +kernel
    show (textFrom (k + 1) (acc ++ (if k > 0 then ", " else "" : String) ++ t) r).length ≤ _
    rw [strLen_append, strLen_append] at ih
    rw [piled_cons]
    omega
theorem shown_int_len {n : Nat} {i : Int} (hn : 0 < n) (h : Bt n i) : (PyData.shown (.int i)).length ≤ n + 1 := by
  have e := int_text_length_le (a := i) hn (PySem.Flt.log2_lt_of hn h)
  show (Str.ofString (toString i)).length ≤ n + 1
  rw [PySem.ofString_length]
  exact e
theorem shown_tup_len (ds : List PyData) : (PyData.shown (.tuple ds)).length ≤ piled (PyData.shownAll ds) + 2 := PySem.fmt_text _
theorem shown_lst_len (ds : List PyData) : (PyData.shown (.list ds)).length ≤ piled (PyData.shownAll ds) + 2 := by
  show (textFrom 0 "[" (PyData.shownAll ds) ++ ("]" : Str)).length ≤ _
  have h := text_len (PyData.shownAll ds) 0 "["
  have e1 : (("[" : String) : Str).length = 1 := rfl
  have e2 : (("]" : String) : Str).length = 1 := rfl
  rw [strLen_append]
  omega
/-- the pair as data -/
def pd (a b : Int) : PyData := .tuple [.int a, .int b]
theorem pd_len {n : Nat} {a b : Int} (hn : 0 < n) (h : Bt n a) (k : Bt n b) : (pd a b).shown.length ≤ 2 * n + 8 := by
  have e := shown_tup_len [.int a, .int b]
  have h1 := shown_int_len hn h
  have h2 := shown_int_len hn k
  have e2 : piled (PyData.shownAll [.int a, .int b]) = (PyData.shown (.int a)).length + 2 + ((PyData.shown (.int b)).length + 2 + 0) := by
    show piled [PyData.shown (.int a), PyData.shown (.int b)] = _
    rw [piled_cons, piled_cons, piled_nil]
  show (PyData.shown (.tuple [.int a, .int b])).length ≤ _
  omega
theorem bt_show {i : Int} (h : Bt 1900 i) : (PyData.int i).showable = true := decide_eq_true (Nat.lt_of_lt_of_le (PySem.Flt.log2_lt_of (by decide) h) (by decide))
theorem pd_show {a b : Int} (h : Bt 1900 a) (k : Bt 1900 b) : (pd a b).showable = true := by
  show ((PyData.int a).showable && ((PyData.int b).showable && true)) = true
  rw [bt_show h, bt_show k]
  rfl
theorem pd_dp {K : PySem.W.Frag} {H : Hp} {v : V} {a b : Int} (h : TupI K H v a b) : Dp K H v (pd a b) := by
  obtain ⟨t, rfl, h⟩ := h
  exact .tup h (.cons (.int a) (.cons (.int b) .nil))
def spIsR (K : PySem.W.Frag) : Sp := fun vs H Q _ => ∃ u v a b, vs = [u, v] ∧ TupI K H u a b ∧ TupI K H v a b ∧ Bt 1900 a ∧ Bt 1900 b ∧ Q (.bl true) H
def spNumW (lo_ hi_ : Int) : Sp := fun vs H Q _ => ∃ p, vs = [.ref p] ∧ PotAt H p ∧ ∀ i H', lo_ ≤ i → i < hi_ → SameX p H H' → PotAt H' p → Q (.int i) H'
def spMany : Sp := fun vs H Q _ => ∃ p m, vs = [.ref p, .int m] ∧ PotAt H p ∧ 0 ≤ m ∧ m < 1000 ∧ ∀ i H', 0 ≤ i → i ≤ m → SameX p H H' → PotAt H' p → Q (.int i) H'
/-! behind the last argument -/
theorem nil2 {σ : L2.St} {H : Hp} {F : List V → Hp → Prop} (h : F [] H) : tNil σ H F := h
/-! a value that stands for x / y -/
def Rp (K : PySem.W.Frag) (H : Hp) (v : V) (x y : Int) (n : Nat) : Prop := TupI K H v (lo x y).1 (lo x y).2 ∧ 0 < y ∧ Bt n x ∧ Bt n y
theorem Rp.same {K : PySem.W.Frag} {H H' : Hp} {v : V} {x y : Int} {n : Nat} (h : Rp K H v x y n) (s : Same H H') : Rp K H' v x y n := ⟨h.1.same s, h.2⟩
theorem Rp.k {K : PySem.W.Frag} {H H' : Hp} {v : V} {x y : Int} {n : Nat} (h : Rp K H v x y n) (s : KT H H') : Rp K H' v x y n := ⟨h.1.k s, h.2⟩
theorem Rp.x {K : PySem.W.Frag} {H H' : Hp} {p : Addr} {v : V} {x y : Int} {n : Nat} (h : Rp K H v x y n) (s : SameX p H H') (hp : PotAt H p) : Rp K H' v x y n := ⟨h.1.x s hp, h.2⟩
theorem Rp.mono {K : PySem.W.Frag} {H : Hp} {v : V} {x y : Int} {n m : Nat} (h : Rp K H v x y n) (k : n ≤ m) : Rp K H v x y m := ⟨h.1, h.2.1, h.2.2.1.mono k, h.2.2.2.mono k⟩
theorem Rp.of {K : PySem.W.Frag} {H : Hp} {v : V} {a b : Int} {n : Nat} (h : TupI K H v a b) (l : Lowest a b) (ba : Bt n a) (bb : Bt n b) : Rp K H v a b n := ⟨by rw [lo_of l]; exact h, l.1, ba, bb⟩
theorem Rp.same_as {K : PySem.W.Frag} {H : Hp} {v : V} {x y x' y' : Int} {n m : Nat} (h : Rp K H v x y n) (hy : 0 < y') (bx : Bt m x') (b_y : Bt m y') (e : x * y' = x' * y) : Rp K H v x' y' m :=
  ⟨by rw [← lo_congr h.2.1 hy e]; exact h.1, hy, bx, b_y⟩
section
variable {K : PySem.W.Frag} {H : Hp} {u v : V} {x y x' y' : Int} {n m : Nat} {Q : VK}
theorem plus_rp (h : Rp K H u x y n) (k : Rp K H v x' y' m) (hn : n ≤ 4400) (hm : m ≤ 4400) (q : ∀ w H', Same H H' → Rp K H' w (x * y' + x' * y) (y * y') (n + m + 1) → Q w H') :
    spTwo K (fun a b c d => lo (a * d + c * b) (b * d)) [u, v] H Q E0 := by
  refine ⟨u, v, _, _, _, _, rfl, h.1, k.1, (lo_lowest h.2.1).1, (lo_lowest k.2.1).1, (Bt.lo1 h.2.2.1).mono hn, (Bt.lo2 h.2.2.2).mono hn, (Bt.lo1 k.2.2.1).mono hm, (Bt.lo2 k.2.2.2).mono hm, fun w H' s hw => q w H' s ⟨?_, Int.mul_pos h.2.1 k.2.1, ?_, ?_⟩⟩
  · have e : pl (lo x y) (lo x' y') = lo (x * y' + x' * y) (y * y') := lo_pl h.2.1 k.2.1
    have hw : TupI K H' w (pl (lo x y) (lo x' y')).1 (pl (lo x y) (lo x' y')).2 := hw
    rw [e] at hw
    exact hw
  · exact (h.2.2.1.mul k.2.2.2).add ((k.2.2.1.mul h.2.2.2).mono (by omega))
  · exact (h.2.2.2.mul k.2.2.2).mono (by omega)
theorem times_rp {i : Int} (h : Rp K H u x y n) (bi : Bt m i) (hn : n ≤ 4400) (hm : m ≤ 4400) (q : ∀ w H', Same H H' → Rp K H' w (x * i) y (n + m) → Q w H') : spTimes K [u, .int i] H Q E0 := by
  refine ⟨u, _, _, i, rfl, h.1, (lo_lowest h.2.1).1, (Bt.lo1 h.2.2.1).mono hn, (Bt.lo2 h.2.2.2).mono hn, bi.mono hm, fun w H' s hw => q w H' s ⟨?_, h.2.1, h.2.2.1.mul bi, h.2.2.2.mono (by omega)⟩⟩
  rw [lo_times h.2.1] at hw
  exact hw
theorem less_rp (h : Rp K H u x y n) (k : Rp K H v x' y' m) (hn : n ≤ 4400) (hm : m ≤ 4400) (q : Q (.bl (decide (x * y' < x' * y))) H) : spLess K [u, v] H Q E0 := by
  refine ⟨u, v, _, _, _, _, rfl, h.1, k.1, (Bt.lo1 h.2.2.1).mono hn, (Bt.lo2 h.2.2.2).mono hn, (Bt.lo1 k.2.2.1).mono hm, (Bt.lo2 k.2.2.2).mono hm, ?_⟩
  rw [decide_eq_decide.mpr (lo_less h.2.1 k.2.1)]
  exact q
theorem most_rp {a b c : Int} (ba : Bt 200 a) (bb : Bt 200 b) (bc : Bt 200 c) (q : ∀ w H', Same H H' → Rp K H' w (a * c * (b - c)) 2 700 → Q w H') : spMost K [.int a, .int b, .int c] H Q E0 :=
  ⟨a, b, c, rfl, ba, bb, bc, fun w H' s hw => q w H' s ⟨hw, by decide, ((ba.mul bc).mul (bb.sub bc)).mono (by decide), by unfold Bt; decide +kernel⟩⟩
theorem low_rp {a b : Int} (hb : 0 < b) (ba : Bt n a) (bb : Bt n b) (hn : n ≤ 8999) (q : ∀ w H', Same H H' → Rp K H' w a b n → Q w H') : spLow K [.int a, .int b] H Q E0 :=
  ⟨a, b, rfl, hb, bb.mono hn, fun w H' s hw => q w H' s ⟨hw, hb, ba, bb⟩⟩
theorem is_rp (h : Rp K H u x y n) (k : Rp K H v x' y' m) (hn : n ≤ 1900) (e : x * y' = x' * y) (q : Q (.bl true) H) : spIsR K [u, v] H Q E0 := by
  refine ⟨u, v, _, _, rfl, h.1, ?_, (Bt.lo1 h.2.2.1).mono hn, (Bt.lo2 h.2.2.2).mono hn, q⟩
  rw [lo_congr h.2.1 k.2.1 e]
  exact k.1
theorem eqd_rp (h : Rp K H u x y n) (k : Rp K H v x' y' m) (e : x * y' = x' * y) : ∃ d d', Dp K H u d ∧ Dp K H v d' ∧ SeqAt.shaped d = true ∧ SeqAt.shaped d' = true ∧ PyData.eqv d d' = true := by
  have k1 := k.1
  rw [← lo_congr h.2.1 k.2.1 e] at k1
  exact ⟨_, _, pd_dp h.1, pd_dp k1, rfl, rfl, eqv_pair _ _⟩
end
end WS
set_option Elab.async false
set_option linter.all false
set_option maxRecDepth 100000
set_option maxHeartbeats 4000000
namespace WS
open PySem PySem.Spec PyProof.Rows L2
def topS (i : Nat) : Stmt := PySem.Challenge.pw_whoserves_k19_the_most_by_joins_and_step.main.body.getD i (.Pass ⟨0, 0, 0, 0⟩)
abbrev s_is_whole : Stmt := topS 4
theorem sc_is_whole : FnScope ["thing"] ["thing"] (defScope s_is_whole) := ⟨rfl, rfl, rfl, by decide +kernel, rfl, by decide +kernel, by decide +kernel⟩
abbrev s_greatest_common : Stmt := topS 5
theorem sc_greatest_common : FnScope ["one", "other"] ["one", "other"] (defScope s_greatest_common) := ⟨rfl, rfl, rfl, by decide +kernel, rfl, by decide +kernel, by decide +kernel⟩
abbrev s_part : Stmt := topS 6
theorem sc_part : FnScope ["above", "below", "common"] ["above", "below"] (defScope s_part) := ⟨rfl, rfl, rfl, by decide +kernel, rfl, by decide +kernel, by decide +kernel⟩
abbrev s_most : Stmt := topS 8
theorem sc_most : FnScope ["weight", "seats", "many"] ["weight", "seats", "many"] (defScope s_most) := ⟨rfl, rfl, rfl, by decide +kernel, rfl, by decide +kernel, by decide +kernel⟩
abbrev s_lpot : Stmt := topS 10
theorem sc_lpot : FnScope ["_law_script", "_law_k", "_law_cell"] ["_law_script", "_law_k"] (defScope s_lpot) := ⟨rfl, rfl, rfl, by decide +kernel, rfl, by decide +kernel, by decide +kernel⟩
abbrev s_ldigit : Stmt := topS 11
theorem sc_ldigit : FnScope ["_law_pot_here", "_law_many_here", "_law_digit_here"] ["_law_pot_here", "_law_many_here"] (defScope s_ldigit) := ⟨rfl, rfl, rfl, by decide +kernel, rfl, by decide +kernel, by decide +kernel⟩
abbrev s_llow : Stmt := topS 12
theorem sc_llow : FnScope ["_law_above", "_law_below", "_law_one_here", "_law_other"] ["_law_above", "_law_below"] (defScope s_llow) := ⟨rfl, rfl, rfl, by decide +kernel, rfl, by decide +kernel, by decide +kernel⟩
abbrev s_lplus : Stmt := topS 13
theorem sc_lplus : FnScope ["_law_one_here", "_law_other"] ["_law_one_here", "_law_other"] (defScope s_lplus) := ⟨rfl, rfl, rfl, by decide +kernel, rfl, by decide +kernel, by decide +kernel⟩
abbrev s_ltimes : Stmt := topS 14
theorem sc_ltimes : FnScope ["_law_one_here", "_law_many_here"] ["_law_one_here", "_law_many_here"] (defScope s_ltimes) := ⟨rfl, rfl, rfl, by decide +kernel, rfl, by decide +kernel, by decide +kernel⟩
abbrev s_lless : Stmt := topS 15
theorem sc_lless : FnScope ["_law_one_here", "_law_other"] ["_law_one_here", "_law_other"] (defScope s_lless) := ⟨rfl, rfl, rfl, by decide +kernel, rfl, by decide +kernel, by decide +kernel⟩
abbrev s_lweight : Stmt := topS 16
theorem sc_lweight : FnScope ["_law_pot_here", "_law_far", "_law_some"] ["_law_pot_here"] (defScope s_lweight) := ⟨rfl, rfl, rfl, by decide +kernel, rfl, by decide +kernel, by decide +kernel⟩
abbrev s_lmany : Stmt := topS 17
theorem sc_lmany : FnScope ["_law_pot_here", "_law_most_of"] ["_law_pot_here", "_law_most_of"] (defScope s_lmany) := ⟨rfl, rfl, rfl, by decide +kernel, rfl, by decide +kernel, by decide +kernel⟩
abbrev s_lis : Stmt := topS 18
theorem sc_lis : FnScope ["_law_told", "_law_due"] ["_law_told", "_law_due"] (defScope s_lis) := ⟨rfl, rfl, rfl, by decide +kernel, rfl, by decide +kernel, by decide +kernel⟩
abbrev s_lstep_right : Stmt := topS 19
theorem sc_lstep_right : FnScope ["_law_pot_here", "_law_weight_here", "_law_seats", "_law_many_here", "_law_a", "_law_b", "_law_left", "_law_bound", "_law_right"] ["_law_pot_here", "_law_weight_here", "_law_seats", "_law_many_here"] (defScope s_lstep_right) := ⟨rfl, rfl, rfl, by decide +kernel, rfl, by decide +kernel, by decide +kernel⟩
abbrev s_ljoined_right : Stmt := topS 20
theorem sc_ljoined_right : FnScope ["_law_pot_here", "_law_weight_here", "_law_seats", "_law_many_here", "_law_others", "_law_more", "_law_both"] ["_law_pot_here", "_law_weight_here", "_law_seats", "_law_many_here"] (defScope s_ljoined_right) := ⟨rfl, rfl, rfl, by decide +kernel, rfl, by decide +kernel, by decide +kernel⟩
abbrev s_lone : Stmt := topS 21
theorem sc_lone : FnScope ["_law_pot_here", "_law_weight_here", "_law_other", "_law_seats", "_law_many_here", "_law_told"] ["_law_pot_here"] (defScope s_lone) := ⟨rfl, rfl, rfl, by decide +kernel, rfl, by decide +kernel, by decide +kernel⟩
abbrev s_law : Stmt := topS 22
theorem sc_law : FnScope ["_law_script", "_law_k"] ["_law_script"] (defScope s_law) := ⟨rfl, rfl, rfl, by decide +kernel, rfl, by decide +kernel, by decide +kernel⟩
structure Tx (K : PySem.W.Frag) (mg : Str → Option Value) where
  f_is_whole : Addr
  d_is_whole : FuncData
  g_is_whole : mg "is_whole" = some (.ref f_is_whole)
  F_is_whole : Fun K "is_whole" "is_whole" s_is_whole f_is_whole d_is_whole
  b_is_whole : Binds K d_is_whole ["thing"] []
  f_greatest_common : Addr
  d_greatest_common : FuncData
  g_greatest_common : mg "greatest_common" = some (.ref f_greatest_common)
  F_greatest_common : Fun K "greatest_common" "greatest_common" s_greatest_common f_greatest_common d_greatest_common
  b_greatest_common : Binds K d_greatest_common ["one", "other"] []
  f_part : Addr
  d_part : FuncData
  g_part : mg "part" = some (.ref f_part)
  F_part : FunD K "part" "part" (defArgs s_part) (defBody s_part) (defScope s_part) [.int 1] [] f_part d_part
  b_part : Binds K d_part ["above", "below"] []
  f_most : Addr
  d_most : FuncData
  g_most : mg "most" = some (.ref f_most)
  F_most : Fun K "most" "most" s_most f_most d_most
  b_most : Binds K d_most ["weight", "seats", "many"] []
  f_lpot : Addr
  d_lpot : FuncData
  g_lpot : mg "_law_pot" = some (.ref f_lpot)
  F_lpot : Fun K "_law_pot" "_law_pot" s_lpot f_lpot d_lpot
  b_lpot : Binds K d_lpot ["_law_script", "_law_k"] []
  f_ldigit : Addr
  d_ldigit : FuncData
  g_ldigit : mg "_law_digit" = some (.ref f_ldigit)
  F_ldigit : Fun K "_law_digit" "_law_digit" s_ldigit f_ldigit d_ldigit
  b_ldigit : Binds K d_ldigit ["_law_pot_here", "_law_many_here"] []
  f_llow : Addr
  d_llow : FuncData
  g_llow : mg "_law_low" = some (.ref f_llow)
  F_llow : Fun K "_law_low" "_law_low" s_llow f_llow d_llow
  b_llow : Binds K d_llow ["_law_above", "_law_below"] []
  f_lplus : Addr
  d_lplus : FuncData
  g_lplus : mg "_law_plus" = some (.ref f_lplus)
  F_lplus : Fun K "_law_plus" "_law_plus" s_lplus f_lplus d_lplus
  b_lplus : Binds K d_lplus ["_law_one_here", "_law_other"] []
  f_ltimes : Addr
  d_ltimes : FuncData
  g_ltimes : mg "_law_times" = some (.ref f_ltimes)
  F_ltimes : Fun K "_law_times" "_law_times" s_ltimes f_ltimes d_ltimes
  b_ltimes : Binds K d_ltimes ["_law_one_here", "_law_many_here"] []
  f_lless : Addr
  d_lless : FuncData
  g_lless : mg "_law_less" = some (.ref f_lless)
  F_lless : Fun K "_law_less" "_law_less" s_lless f_lless d_lless
  b_lless : Binds K d_lless ["_law_one_here", "_law_other"] []
  f_lweight : Addr
  d_lweight : FuncData
  g_lweight : mg "_law_weight" = some (.ref f_lweight)
  F_lweight : Fun K "_law_weight" "_law_weight" s_lweight f_lweight d_lweight
  b_lweight : Binds K d_lweight ["_law_pot_here"] []
  f_lmany : Addr
  d_lmany : FuncData
  g_lmany : mg "_law_many" = some (.ref f_lmany)
  F_lmany : Fun K "_law_many" "_law_many" s_lmany f_lmany d_lmany
  b_lmany : Binds K d_lmany ["_law_pot_here", "_law_most_of"] []
  f_lis : Addr
  d_lis : FuncData
  g_lis : mg "_law_is" = some (.ref f_lis)
  F_lis : Fun K "_law_is" "_law_is" s_lis f_lis d_lis
  b_lis : Binds K d_lis ["_law_told", "_law_due"] []
  f_lstep_right : Addr
  d_lstep_right : FuncData
  g_lstep_right : mg "_law_step_right" = some (.ref f_lstep_right)
  F_lstep_right : Fun K "_law_step_right" "_law_step_right" s_lstep_right f_lstep_right d_lstep_right
  b_lstep_right : Binds K d_lstep_right ["_law_pot_here", "_law_weight_here", "_law_seats", "_law_many_here"] []
  f_ljoined_right : Addr
  d_ljoined_right : FuncData
  g_ljoined_right : mg "_law_joined_right" = some (.ref f_ljoined_right)
  F_ljoined_right : Fun K "_law_joined_right" "_law_joined_right" s_ljoined_right f_ljoined_right d_ljoined_right
  b_ljoined_right : Binds K d_ljoined_right ["_law_pot_here", "_law_weight_here", "_law_seats", "_law_many_here"] []
  f_lone : Addr
  d_lone : FuncData
  g_lone : mg "_law_one" = some (.ref f_lone)
  F_lone : Fun K "_law_one" "_law_one" s_lone f_lone d_lone
  b_lone : Binds K d_lone ["_law_pot_here"] []
  f_law : Addr
  d_law : FuncData
  g_law : mg "law" = some (.ref f_law)
  F_law : Fun K "law" "law" s_law f_law d_law
  b_law : Binds K d_law ["_law_script"] []
  n_abs : mg "abs" = none
  n_all : mg "all" = none
  n_bool : mg "bool" = none
  n_divmod : mg "divmod" = none
  n_int : mg "int" = none
  n_isinstance : mg "isinstance" = none
  n_len : mg "len" = none
  n_max : mg "max" = none
  n_min : mg "min" = none
  n_range : mg "range" = none
  n_repr : mg "repr" = none
  n_tuple : mg "tuple" = none
section
variable {P : Program} {w : World} {K : PySem.W.Frag} {mg : Str → Option Value} {base : Heap}
theorem ok_is_whole (T : Tx K mg) : FnOk P w K mg base CX0 1 T.f_is_whole T.d_is_whole ["thing"] (spWhole K) := by
  refine T.F_is_whole.ok sc_is_whole (fun vs H Q E h => ?_) (fun cdv A outer s H vs Q E hr h => ?_)
  · obtain ⟨v, b, rfl, _⟩ := h
    rfl
  · obtain ⟨v, b, rfl, ⟨t, b1, b2, ht, k1, k2, rfl⟩, q⟩ := h
    refine ⟨_, (pss_one (ps_ret (pe_and (pe_callB call_isi (by rfl) T.n_isinstance (by decide +kernel) (pa_cons (pv 0) (pa_cons (pe_bltn (v := .ty "int") (by rfl) T.n_int (by decide +kernel) rfl) pa_nil))) (pe_one (pe_not (pe_callB call_isi (by rfl) T.n_isinstance (by decide +kernel) (pa_cons (pv 0) (pa_cons (pe_bltn (v := .ty "bool") (by rfl) T.n_bool (by decide +kernel) rfl) pa_nil)))))))), ?_⟩
    refine ⟨v, rfl, v, _, t, _, b1, rfl, .ty "int", ht, k1, b1, rfl, ?_⟩
    cases b1 with
    | false => exact iteF q
    | true => exact iteT ⟨v, rfl, v, _, t, _, b2, rfl, .ty "bool", ht, k2, b2, rfl, q⟩
theorem ok_greatest_common (T : Tx K mg) : FnOk P w K mg base CX0 1 T.f_greatest_common T.d_greatest_common ["one", "other"] spGcd := by
  refine T.F_greatest_common.ok sc_greatest_common (fun vs H Q E h => ?_) (fun cdv A outer s H vs Q E hr h => ?_)
  · obtain ⟨x, y, rfl, _⟩ := h
    rfl
  · obtain ⟨x, y, rfl, hx, hy, q⟩ := h
    refine ⟨_, (pss_cons (ps_while PassesOwn.never (pt_cmpR op_ne (pv 1) pe_int (nomark _)) (pss_one (ps_par (i := 0) (j := 1) (by rfl) sc_greatest_common.nd rfl rfl (by decide) rfl rfl (pa_cons (pv 1) (pa_cons (pe_op op_mod (pv 0) (pv 1)) pa_nil)) (by rfl))))
        (pss_one (ps_ret (pv 0)))), ?_⟩
    refine while_by (fun σ H' => ∃ a b : Int, σ = [some (.int a), some (.int b)] ∧ 0 ≤ a ∧ 0 ≤ b ∧ Int.gcd a b = Int.gcd x y ∧ H' = H)
      (fun σ _ => match σ with | [_, some (.int b)] => b.toNat | _ => 0) ⟨x, y, rfl, hx, hy, rfl, rfl⟩ ?_ ?_
    · rintro σ H' ⟨a, b, rfl, ha, hb, eg, rfl⟩
      refine ⟨_, rfl, rfl, _, rfl, ?_⟩
      by_cases c : b = 0
      · subst c
        refine iteNS rfl ?_
        refine ⟨_, rfl, ?_⟩
        have e := gcd_zero ha
        rw [eg] at e
        rw [← e]
        exact q
      · have hb' : 0 < b := by omega
        have d : decide (V.int b = V.int 0) = false := decide_eq_false (fun z => c (V.int.inj z))
        rw [d]
        refine iteT ?_
        refine ⟨_, rfl, _, rfl, _, rfl, _, _, rfl, rfl, hb', _, _, rfl, ?_, ?_⟩
        · exact ⟨b, a % b, rfl, hb, Int.emod_nonneg a c, (gcd_step ha hb').trans eg, rfl⟩
        · show (a % b).toNat < b.toNat
          have := Int.emod_lt_of_pos a hb'
          omega
    · rintro σ H Q Q' k ⟨v, h1, h2, c, h3, q⟩
      exact ⟨v, h1, h2, c, h3, k _ _ q⟩
theorem ok_part (T : Tx K mg) : FnOk P w K mg base CX0 3 T.f_part T.d_part ["above", "below"] (spLow K) := by
  refine T.F_part.ok sc_part (fun vs H Q E h => ?_) (fun cdv A outer s H vs Q E hr h => ?_)
  · obtain ⟨a, b, rfl, _⟩ := h
    rfl
  · obtain ⟨a, b, rfl, hb, h9, q⟩ := h
    refine ⟨_, PSs.nox (pss_cons (ps_if (PW.pt (pw_or (pt_not (pt_val (pe_call (ok_is_whole T) (hr.mono (by decide)) (by rfl) T.g_is_whole T.F_is_whole.kp T.b_is_whole .nil pass0 (pa_cons (pv 0) pa_nil)))) (pw_or1 (pt_not (pt_val (pe_call (ok_is_whole T) (hr.mono (by decide)) (by rfl) T.g_is_whole T.F_is_whole.kp T.b_is_whole .nil pass0 (pa_cons (pv 1) pa_nil))))))) (pss_one ps_never) pss_nil)
        (pss_cons (ps_if (pt_cmpR op_eq (pv 1) pe_int (nomark _)) (pss_one ps_never) pss_nil)
        (pss_cons (ps_if (pt_cmpR op_lt (pv 1) pe_int (nomark _)) (pss_one (ps_par (i := 0) (j := 1) (by rfl) sc_part.nd rfl rfl (by decide) rfl rfl (pa_cons (pe_un un_neg (pv 0)) (pa_cons (pe_un un_neg (pv 1)) pa_nil)) (by rfl))) pss_nil)
        (pss_cons (ps_set (i := 2) sc_part.nd rfl (.inl rfl) (pe_call (ok_greatest_common T) (hr.mono (by decide)) (by rfl) T.g_greatest_common T.F_greatest_common.kp T.b_greatest_common .nil pass0 (pa_cons (pe_callB call_abs (by rfl) T.n_abs (by decide +kernel) (pa_cons (pv 0) pa_nil)) (pa_cons (pv 1) pa_nil))))
        (pss_one (ps_ret (pe_tup (pa_cons (pe_op op_fdivW (pv 0) (pv 2)) (pa_cons (pe_op op_fdivW (pv 1) (pv 2)) pa_nil))))))))), ?_⟩
    refine ⟨_, rfl, _, _, rfl, whole_int, true, rfl, iteF ⟨_, rfl, _, _, rfl, whole_int, true, rfl, iteF ?_⟩⟩
    refine ⟨_, rfl, rfl, _, rfl, ?_⟩
    rw [show decide (V.int b = V.int 0) = false from decide_eq_false (fun z => by have := V.int.inj z; omega)]
    refine iteF ?_
    refine ⟨_, rfl, _, _, rfl, rfl, _, rfl, ?_⟩
    rw [show decide (b < 0) = false from decide_eq_false (by omega)]
    refine iteF ?_
    refine ⟨_, rfl, _, rfl, _, rfl, _, _, rfl, by split <;> omega, by omega, ?_⟩
    rw [gcd_abs]
    have g0 : 0 < (Int.gcd a b : Int) := by have := gcd_pos (a := a) (b := b) (by omega); omega
    have g9 : Bt 8999 (Int.gcd a b : Int) := gcd_bt hb h9
    refine ⟨_, rfl, _, rfl, _, _, rfl, rfl, g9.cdiv g0 (by decide), _, rfl, _, rfl, _, _, rfl, rfl, g9.cdiv g0 (by decide), by show 2 ≤ sizeLine; decide, fun p np => q _ _ (same_new np) TupI.new⟩
theorem ok_most (T : Tx K mg) : FnOk P w K mg base CX0 4 T.f_most T.d_most ["weight", "seats", "many"] (spMost K) := by
  refine T.F_most.ok sc_most (fun vs H Q E h => ?_) (fun cdv A outer s H vs Q E hr h => ?_)
  · obtain ⟨a, n, k, rfl, _⟩ := h
    rfl
  · obtain ⟨a, n, k, rfl, ba, bn, bk, q⟩ := h
    refine ⟨_, (pss_one (ps_ret (pe_call (ok_part T) (hr.mono (by decide)) (by rfl) T.g_part T.F_part.kp T.b_part .nil pass0 (pa_cons (pe_op op_mulW (pe_op op_mulW (pv 0) (pv 2)) (pe_op op_sub (pv 1) (pv 2))) (pa_cons pe_int pa_nil))))), ?_⟩
    refine ⟨_, rfl, _, rfl, _, _, rfl, rfl, ba.cmul bk (by decide), _, rfl, _, rfl, _, _, rfl, rfl, _, _, rfl, rfl, (ba.mul bk).cmul (bn.sub bk) (by decide), ?_⟩
    exact ⟨_, _, rfl, by decide, by unfold Bt; decide +kernel, q⟩
theorem ok_lpot (T : Tx K mg) : FnOk P w K mg base CX0 1 T.f_lpot T.d_lpot ["_law_script", "_law_k"] (spPot K) := by
  refine T.F_lpot.ok sc_lpot (fun vs H Q E h => ?_) (fun cdv A outer s H vs Q E hr h => ?_)
  · obtain ⟨a, ns, k, rfl, _⟩ := h
    rfl
  · obtain ⟨a, ns, k, rfl, hS, k0, k1, q⟩ := h
    refine ⟨_, (pss_cons (ps_set (i := 2) sc_lpot.nd rfl (.inl rfl) pe_int)
        (pss_cons (ps_if (pt_cmpR op_lt (pv 1) (pe_callB call_len_seq (by rfl) T.n_len (by decide +kernel) (pa_cons (pv 0) pa_nil)) (nomark _)) (pss_one (ps_set (i := 2) sc_lpot.nd rfl (.inl rfl) (pe_callB call_abs (by rfl) T.n_abs (by decide +kernel) (pa_cons (pe_ix ix_list (pv 0) (pv 1) (fun _ _ => rfl)) pa_nil)))) pss_nil)
        (pss_one (ps_ret (pe_lst (pa_cons (pe_callB (call_max2 (by rfl)) (by rfl) T.n_max (by decide +kernel) (pa_cons pe_int (pa_cons (pe_op op_sub (pv 2) (pe_op op_pow pe_int pe_int)) pa_nil))) (pa_cons (pe_op op_add (pe_op op_mod (pe_op op_pow (pe_op op_add (pe_op op_add (pe_op op_mod (pv 2) pe_int) (pe_op op_mulW pe_int (pv 1))) pe_int) pe_int) pe_int) pe_int) pa_nil))))))), ?_⟩
    have fin : ∀ c : Int, 0 ≤ c → (tRet (tLst (tCons (tCB (fun xs H Q => ∃ i j, xs = [.int i, .int j] ∧ Q (.int (if j > i then j else i)) H) (tCons (tC (.int 0)) (tCons (tOp (rI0 fun i j => .int (i - j)) (tVar 2) (tOp (rI CPow fun i j => .int (i ^ j.toNat)) (tC (.int 10)) (tC (.int 18)))) tNil))) (tCons (tOp (rI0 fun i j => .int (i + j)) (tOp (rI (fun _ j => 0 < j) fun i j => .int (i % j)) (tOp (rI CPow fun i j => .int (i ^ j.toNat)) (tOp (rI0 fun i j => .int (i + j)) (tOp (rI0 fun i j => .int (i + j)) (tOp (rI (fun _ j => 0 < j) fun i j => .int (i % j)) (tVar 2) (tC (.int 2147483423))) (tOp (rI CMulW fun i j => .int (i * j)) (tC (.int 89)) (tVar 1))) (tC (.int 7))) (tC (.int 2))) (tC (.int 2147483399))) (tC (.int 1))) tNil)))) { nx := fun _ H' => Q .non H', rt := Q } [some (.ref a), some (.int k), some (.int c)] H := by
      intro c hc
      refine ⟨_, rfl, _, _, rfl, rfl, ⟨by decide, by decide, by decide⟩, _, _, rfl, rfl, _, _, rfl, ?_⟩
      have m0 : 0 ≤ c % 2147483423 := Int.emod_nonneg _ (by decide)
      have m1 : c % 2147483423 < 2147483423 := Int.emod_lt_of_pos _ (by decide)
      refine ⟨_, rfl, _, _, rfl, rfl, by show (0 : Int) < 2147483423; decide, _, rfl, _, _, rfl, rfl, ?_, _, _, rfl, rfl, _, _, rfl, rfl, _, _, rfl, rfl, ⟨by decide, by decide, ?_⟩, _, _, rfl, rfl, by show (0 : Int) < 2147483399; decide, _, _, rfl, rfl, by show 2 ≤ sizeLine; decide, fun p np => ?_⟩
      · exact Bt.cmul (n := 10) (m := 10) (Bt.of_lt (by decide) (by decide)) (Bt.of_lt (by omega) (by omega)) (by decide)
      · show (c % 2147483423 + 89 * k + 7).natAbs < 2 ^ 64
        omega
      · refine q p _ (same_new np) np ⟨_, _, upd_same, by split <;> omega, ?_, ?_⟩
        · have := Int.emod_nonneg ((c % 2147483423 + 89 * k + 7) ^ (2 : Int).toNat) (b := 2147483399) (by decide)
          omega
        · have := Int.emod_lt_of_pos ((c % 2147483423 + 89 * k + 7) ^ (2 : Int).toNat) (b := 2147483399) (by decide)
          omega
    refine ⟨_, rfl, _, rfl, a, _, rfl, .inl hS, _, _, rfl, rfl, _, rfl, ?_⟩
    refine ite2 (fun c => ?_) (fun c => ?_)
    · have c := of_decide_eq_true c
      rw [List.length_map] at c
      have hk : k.toNat < ns.length := by omega
      have g : (ns.map V.int)[k.toNat]? = some (.int ns[k.toNat]) := by
        rw [List.getElem?_map, List.getElem?_eq_getElem hk]
        rfl
      refine ⟨_, rfl, _, rfl, a, _, k, _, rfl, rfl, hS, at_of (j := k.toNat) (by omega) g, _, rfl, ?_⟩
      exact fin _ (by split <;> omega)
    · exact fin 0 (by decide)
theorem ok_ldigit (T : Tx K mg) : FnOk P w K mg base CX0 1 T.f_ldigit T.d_ldigit ["_law_pot_here", "_law_many_here"] spDigit := by
  refine T.F_ldigit.ok sc_ldigit (fun vs H Q E h => ?_) (fun cdv A outer s H vs Q E hr h => ?_)
  · obtain ⟨p, m, rfl, _⟩ := h
    rfl
  · obtain ⟨p, m, rfl, ⟨x, y, hp, hx, hy, hy2⟩, hm, bm, q⟩ := h
    refine ⟨_, (pss_cons (ps_if (pt_cmpR op_gt (pe_ix ix_list (pv 0) pe_int (fun _ _ => rfl)) pe_int (nomark _)) (pss_cons (ps_asg (pe_callB call_divmodW (by rfl) T.n_divmod (by decide +kernel) (pa_cons (pe_ix ix_list (pv 0) pe_int (fun _ _ => rfl)) (pa_cons (pv 1) pa_nil))) (pg_tup (by rfl) (pgs_cons (pg_sub (pv 0) pe_int set_list) (pgs_cons (pg_name (i := 2) sc_ldigit.nd rfl (.inl rfl)) pgs_nil))))
        (pss_one (ps_ret (pv 2)))) pss_nil)
        (pss_cons (ps_asg (pe_op op_mod (pe_op op_add (pe_op op_mulW (pe_ix ix_list (pv 0) pe_int (fun _ _ => rfl)) pe_int) pe_int) pe_int) (pg_sub (pv 0) pe_int set_list))
        (pss_one (ps_ret (pe_op op_mod (pe_op op_fdivW (pe_op op_mod (pe_op op_mulW (pe_ix ix_list (pv 0) pe_int (fun _ _ => rfl)) (pe_ix ix_list (pv 0) pe_int (fun _ _ => rfl))) pe_int) pe_int) (pv 1)))))), ?_⟩
    have hL : SqL K H p [.int x, .int y] := .inl (.inl hp)
    refine ⟨_, rfl, p, _, 0, _, rfl, rfl, hL, atI_nat (j := 0) rfl, _, _, rfl, rfl, _, rfl, ?_⟩
    refine ite2 (fun c => ?_) (fun c => ?_)
    · have c := of_decide_eq_true c
      refine ⟨_, rfl, p, _, 0, _, rfl, rfl, hL, atI_nat (j := 0) rfl, _, rfl, _, _, rfl, ⟨hm, PyProof.noPylong_of_log2 (Nat.lt_of_lt_of_le (PySem.Flt.log2_lt_of (by decide) bm) (by decide))⟩, fun t nt => ?_⟩
      have npt : p ≠ t := ne_of_none hp nt
      have hp' : (upd H t (.tup [.int (x / m), .int (x % m)])) p = some (.lst [.int x, .int y]) := by rw [upd_ne npt]; exact hp
      refine ⟨t, _, rfl, .inl (.inl upd_same), rfl, _, _, rfl, _, rfl, p, _, _, 0, rfl, rfl, hp', rfl, _, _, rfl, rfl, ?_⟩
      refine ⟨_, rfl, ?_⟩
      refine q _ _ (Int.emod_nonneg x (by omega)) (Int.emod_lt_of_pos x hm) ((Same.x (same_new nt)).trans samex_set) ⟨x / m, y, upd_same, Int.ediv_nonneg (by omega) (by omega), hy, hy2⟩
    · refine ⟨_, rfl, p, _, 1, _, rfl, rfl, hL, atI_nat (j := 1) rfl, _, _, rfl, rfl, ?_, _, _, rfl, rfl, _, _, rfl, rfl, by show (0 : Int) < 2147483563; decide, ?_⟩
      · exact Bt.cmul (n := 32) (m := 32) (Bt.of_lt (by omega) (by omega)) (Bt.of_lt (by decide) (by decide)) (by decide)
      · refine ⟨_, rfl, p, _, _, 1, rfl, rfl, hp, rfl, ?_⟩
        have z0 : 0 ≤ (y * 45763 + 10061) % 2147483563 := Int.emod_nonneg _ (by decide)
        have z1 : (y * 45763 + 10061) % 2147483563 < 2147483563 := Int.emod_lt_of_pos _ (by decide)
        have hL2 : SqL K (upd H p (.lst [.int x, .int ((y * 45763 + 10061) % 2147483563)])) p [.int x, .int ((y * 45763 + 10061) % 2147483563)] := .inl (.inl upd_same)
        refine ⟨_, rfl, p, _, 1, _, rfl, rfl, hL2, atI_nat (j := 1) rfl, _, rfl, p, _, 1, _, rfl, rfl, hL2, atI_nat (j := 1) rfl, _, _, rfl, rfl, ?_, _, _, rfl, rfl, by show (0 : Int) < 2147483477; decide, _, _, rfl, rfl, ?_, _, rfl, _, _, rfl, rfl, hm, ?_⟩
        · exact Bt.cmul (n := 32) (m := 32) (Bt.of_lt (by omega) (by omega)) (Bt.of_lt (by omega) (by omega)) (by decide)
        · exact Bt.cdiv (n := 10) (by decide) (Bt.of_lt (by decide) (by decide)) (by decide)
        · exact q _ _ (Int.emod_nonneg _ (by omega)) (Int.emod_lt_of_pos _ hm) samex_set ⟨x, _, upd_same, hx, z0, by omega⟩
theorem ok_llow (T : Tx K mg) : FnOk P w K mg base CX0 1 T.f_llow T.d_llow ["_law_above", "_law_below"] (spLow K) := by
  refine T.F_llow.ok sc_llow (fun vs H Q E h => ?_) (fun cdv A outer s H vs Q E hr h => ?_)
  · obtain ⟨a, b, rfl, _⟩ := h
    rfl
  · obtain ⟨x, y, rfl, hy, h9, q⟩ := h
    refine ⟨_, (pss_cons (ps_par (i := 2) (j := 3) (by rfl) sc_llow.nd rfl rfl (by decide) rfl rfl (pa_cons (pe_callB call_abs (by rfl) T.n_abs (by decide +kernel) (pa_cons (pv 0) pa_nil)) (pa_cons (pv 1) pa_nil)) (by rfl))
        (pss_cons (ps_while PassesOwn.never (pt_cmpR op_gt (pv 3) pe_int (nomark _)) (pss_one (ps_par (i := 2) (j := 3) (by rfl) sc_llow.nd rfl rfl (by decide) rfl rfl (pa_cons (pv 3) (pa_cons (pe_op op_mod (pv 2) (pv 3)) pa_nil)) (by rfl))))
        (pss_one (ps_ret (pe_tup (pa_cons (pe_op op_fdivW (pv 0) (pv 2)) (pa_cons (pe_op op_fdivW (pv 1) (pv 2)) pa_nil))))))), ?_⟩
    refine ⟨_, rfl, _, rfl, _, rfl, _, _, rfl, ?_⟩
    refine while_by (fun σ H' => ∃ a b : Int, σ = [some (.int x), some (.int y), some (.int a), some (.int b)] ∧ 0 ≤ a ∧ 0 ≤ b ∧ Int.gcd a b = Int.gcd x y ∧ H' = H)
      (fun σ _ => match σ with | [_, _, _, some (.int b)] => b.toNat | _ => 0) ⟨_, _, rfl, by split <;> omega, by omega, gcd_abs x y, rfl⟩ ?_ ?_
    · rintro σ H' ⟨a, b, rfl, ha, hb, eg, rfl⟩
      refine ⟨_, rfl, _, _, rfl, rfl, _, rfl, ?_⟩
      by_cases c : b = 0
      · subst c
        rw [show decide ((0 : Int) < 0) = false from rfl]
        refine iteF ?_
        have e := gcd_zero ha
        rw [eg] at e
        have g0 : 0 < (Int.gcd x y : Int) := by have := gcd_pos (a := x) (b := y) (by omega); omega
        have g9 : Bt 8999 (Int.gcd x y : Int) := gcd_bt hy h9
        rw [← e]
        refine ⟨_, rfl, _, rfl, _, _, rfl, rfl, g9.cdiv g0 (by decide), _, rfl, _, rfl, _, _, rfl, rfl, g9.cdiv g0 (by decide), by show 2 ≤ sizeLine; decide, fun p np => q _ _ (same_new np) TupI.new⟩
      · have hb' : 0 < b := by omega
        rw [show decide (0 < b) = true from decide_eq_true hb']
        refine iteT ?_
        refine ⟨_, rfl, _, rfl, _, rfl, _, _, rfl, rfl, hb', _, _, rfl, ?_, ?_⟩
        · exact ⟨b, a % b, rfl, hb, Int.emod_nonneg a c, (gcd_step ha hb').trans eg, rfl⟩
        · show (a % b).toNat < b.toNat
          have := Int.emod_lt_of_pos a hb'
          omega
    · rintro σ H Q Q' k ⟨v, h1, i, j, h2, h3, c, h4, q⟩
      exact ⟨v, h1, i, j, h2, h3, c, h4, k _ _ q⟩
theorem ok_lplus (T : Tx K mg) : FnOk P w K mg base CX0 2 T.f_lplus T.d_lplus ["_law_one_here", "_law_other"] (spTwo K fun a b c d => lo (a * d + c * b) (b * d)) := by
  refine T.F_lplus.ok sc_lplus (fun vs H Q E h => ?_) (fun cdv A outer s H vs Q E hr h => ?_)
  · obtain ⟨u, v, a, b, c, d, rfl, _⟩ := h
    rfl
  · obtain ⟨u, v, a, b, c, d, rfl, ⟨t, rfl, ht⟩, ⟨r, rfl, hv⟩, hb, hd, ba, bb, bc, bd, q⟩ := h
    refine ⟨_, (pss_one (ps_ret (pe_call (ok_llow T) (hr.mono (by decide)) (by rfl) T.g_llow T.F_llow.kp T.b_llow .nil pass0 (pa_cons (pe_op op_add (pe_op op_mulW (pe_ix ix_tup (pv 0) pe_int (fun _ _ => rfl)) (pe_ix ix_tup (pv 1) pe_int (fun _ _ => rfl))) (pe_op op_mulW (pe_ix ix_tup (pv 1) pe_int (fun _ _ => rfl)) (pe_ix ix_tup (pv 0) pe_int (fun _ _ => rfl)))) (pa_cons (pe_op op_mulW (pe_ix ix_tup (pv 0) pe_int (fun _ _ => rfl)) (pe_ix ix_tup (pv 1) pe_int (fun _ _ => rfl))) pa_nil))))), ?_⟩
    refine ⟨_, rfl, t, _, 0, _, rfl, rfl, ht, atI_nat (j := 0) rfl, _, rfl, r, _, 1, _, rfl, rfl, hv, atI_nat (j := 1) rfl, _, _, rfl, rfl, ba.cmul bd (by decide), ?_⟩
    refine ⟨_, rfl, r, _, 0, _, rfl, rfl, hv, atI_nat (j := 0) rfl, _, rfl, t, _, 1, _, rfl, rfl, ht, atI_nat (j := 1) rfl, _, _, rfl, rfl, bc.cmul bb (by decide), ?_⟩
    refine ⟨_, _, rfl, rfl, ?_⟩
    refine ⟨_, rfl, t, _, 1, _, rfl, rfl, ht, atI_nat (j := 1) rfl, _, rfl, r, _, 1, _, rfl, rfl, hv, atI_nat (j := 1) rfl, _, _, rfl, rfl, bb.cmul bd (by decide), ?_⟩
    exact ⟨_, _, rfl, Int.mul_pos hb hd, (bb.mul bd).mono (by decide), q⟩
theorem ok_ltimes (T : Tx K mg) : FnOk P w K mg base CX0 2 T.f_ltimes T.d_ltimes ["_law_one_here", "_law_many_here"] (spTimes K) := by
  refine T.F_ltimes.ok sc_ltimes (fun vs H Q E h => ?_) (fun cdv A outer s H vs Q E hr h => ?_)
  · obtain ⟨u, a, b, m, rfl, _⟩ := h
    rfl
  · obtain ⟨u, a, b, m, rfl, ⟨t, rfl, ht⟩, hb, ba, bb, bm, q⟩ := h
    refine ⟨_, (pss_one (ps_ret (pe_call (ok_llow T) (hr.mono (by decide)) (by rfl) T.g_llow T.F_llow.kp T.b_llow .nil pass0 (pa_cons (pe_op op_mulW (pe_ix ix_tup (pv 0) pe_int (fun _ _ => rfl)) (pv 1)) (pa_cons (pe_ix ix_tup (pv 0) pe_int (fun _ _ => rfl)) pa_nil))))), ?_⟩
    refine ⟨_, rfl, t, _, 0, _, rfl, rfl, ht, atI_nat (j := 0) rfl, _, rfl, _, _, rfl, rfl, ba.cmul bm (by decide), ?_⟩
    refine ⟨_, rfl, t, _, 1, _, rfl, rfl, ht, atI_nat (j := 1) rfl, ?_⟩
    exact ⟨_, _, rfl, hb, bb.mono (by decide), q⟩
theorem ok_lless (T : Tx K mg) : FnOk P w K mg base CX0 1 T.f_lless T.d_lless ["_law_one_here", "_law_other"] (spLess K) := by
  refine T.F_lless.ok sc_lless (fun vs H Q E h => ?_) (fun cdv A outer s H vs Q E hr h => ?_)
  · obtain ⟨u, v, a, b, c, d, rfl, _⟩ := h
    rfl
  · obtain ⟨u, v, a, b, c, d, rfl, ⟨t, rfl, ht⟩, ⟨r, rfl, hv⟩, ba, bb, bc, bd, q⟩ := h
    refine ⟨_, (pss_one (ps_ret (pe_cmpR op_lt (pe_op op_mulW (pe_ix ix_tup (pv 0) pe_int (fun _ _ => rfl)) (pe_ix ix_tup (pv 1) pe_int (fun _ _ => rfl))) (pe_op op_mulW (pe_ix ix_tup (pv 1) pe_int (fun _ _ => rfl)) (pe_ix ix_tup (pv 0) pe_int (fun _ _ => rfl))) (nomark _)))), ?_⟩
    refine ⟨_, rfl, t, _, 0, _, rfl, rfl, ht, atI_nat (j := 0) rfl, _, rfl, r, _, 1, _, rfl, rfl, hv, atI_nat (j := 1) rfl, _, _, rfl, rfl, ba.cmul bd (by decide), ?_⟩
    refine ⟨_, rfl, r, _, 0, _, rfl, rfl, hv, atI_nat (j := 0) rfl, _, rfl, t, _, 1, _, rfl, rfl, ht, atI_nat (j := 1) rfl, _, _, rfl, rfl, bc.cmul bb (by decide), ?_⟩
    exact ⟨_, _, rfl, rfl, q⟩

theorem ok_lweight (T : Tx K mg) : FnOk P w K mg base CX0 2 T.f_lweight T.d_lweight ["_law_pot_here"] (spNumW 1 (2 ^ 100)) := by
  refine T.F_lweight.ok sc_lweight (fun vs H Q E h => ?_) (fun cdv A outer s H vs Q E hr h => ?_)
  · obtain ⟨p, rfl, _⟩ := h
    rfl
  · obtain ⟨p, rfl, hp, q⟩ := h
    refine ⟨_, (pss_cons (ps_set (i := 1) sc_lweight.nd rfl (.inl rfl) (pe_op op_mulW pe_int (pe_op op_pow pe_int pe_int)))
        (pss_cons (ps_set (i := 2) sc_lweight.nd rfl (.inl rfl) (pe_lst (pa_cons pe_int (pa_cons pe_int (pa_cons (pe_op op_add pe_int (pe_call (ok_ldigit T) (hr.mono (by decide)) (by rfl) T.g_ldigit T.F_ldigit.kp T.b_ldigit .nil pass0 (pa_cons (pv 0) (pa_cons pe_int pa_nil)))) (pa_cons (pe_op op_sub (pe_op op_sub (pv 1) pe_int) (pe_call (ok_ldigit T) (hr.mono (by decide)) (by rfl) T.g_ldigit T.F_ldigit.kp T.b_ldigit .nil pass0 (pa_cons (pv 0) (pa_cons pe_int pa_nil)))) (pa_cons (pe_op op_add pe_int (pe_call (ok_ldigit T) (hr.mono (by decide)) (by rfl) T.g_ldigit T.F_ldigit.kp T.b_ldigit .nil pass0 (pa_cons (pv 0) (pa_cons (pe_op op_sub (pv 1) pe_int) pa_nil)))) pa_nil)))))))
        (pss_one (ps_ret (pe_ix ix_list (pv 2) (pe_call (ok_ldigit T) (hr.mono (by decide)) (by rfl) T.g_ldigit T.F_ldigit.kp T.b_ldigit .nil pass0 (pa_cons (pv 0) (pa_cons pe_int pa_nil))) (fun _ _ => rfl)))))), ?_⟩
    have hP : 5 * (10 : Int) ^ (29 : Int).toNat < 2 ^ 99 := by decide +kernel
    have hP0 : 1000 < 5 * (10 : Int) ^ (29 : Int).toNat := by decide +kernel
    have hPb : Bt 8999 (5 * (10 : Int) ^ (29 : Int).toNat - 1) := by unfold Bt; decide +kernel
    refine ⟨_, _, rfl, rfl, ⟨by decide, by decide, by decide⟩, _, _, rfl, rfl, Bt.cmul (n := 10) (m := 150) (Bt.of_lt (by decide) (by decide)) (by unfold Bt; decide +kernel) (by decide), ?_⟩
    refine ⟨_, rfl, p, _, rfl, hp, by decide, by unfold Bt; decide +kernel, fun d H1 d0 d1 s1 p1 => ?_⟩
    refine ⟨_, _, rfl, rfl, _, rfl, _, _, rfl, rfl, _, rfl, p, _, rfl, p1, by decide, by unfold Bt; decide +kernel, fun e H2 e0 e1 s2 p2 => ?_⟩
    refine ⟨_, _, rfl, rfl, _, rfl, _, rfl, _, _, rfl, rfl, p, _, rfl, p2, by omega, hPb, fun f H3 f0 f1 s3 p3 => ?_⟩
    refine ⟨_, _, rfl, rfl, by show 5 ≤ sizeLine; decide, fun l nl => ?_⟩
    have p4 := p3.same (same_new (o := .lst [.int 1, .int 2, .int (1 + d), .int (5 * (10 : Int) ^ (29 : Int).toNat - 1 - e), .int (1 + f)]) nl)
    refine ⟨_, rfl, _, rfl, p, _, rfl, p4, by decide, by unfold Bt; decide +kernel, fun g H4 g0 g1 s4 p5 => ?_⟩
    have hL := s4.lst (K := K) (p3.ne nl) (.inl (.inl upd_same))
    obtain ⟨v, hv, hm⟩ := pick (xs := [V.int 1, .int 2, .int (1 + d), .int (5 * (10 : Int) ^ (29 : Int).toNat - 1 - e), .int (1 + f)]) g0 (by simpa using g1)
    refine ⟨l, _, g, v, rfl, rfl, hL, hv, ?_⟩
    have sx : SameX p H H4 := s1.trans (s2.trans (s3.trans ((Same.x (same_new nl)).trans s4)))
    generalize 5 * (10 : Int) ^ (29 : Int).toNat = P at *
    simp only [List.mem_cons, List.not_mem_nil, or_false] at hm
    rcases hm with rfl | rfl | rfl | rfl | rfl <;> exact q _ _ (by omega) (by omega) sx p5
theorem ok_lmany (T : Tx K mg) : FnOk P w K mg base CX0 2 T.f_lmany T.d_lmany ["_law_pot_here", "_law_most_of"] spMany := by
  refine T.F_lmany.ok sc_lmany (fun vs H Q E h => ?_) (fun cdv A outer s H vs Q E hr h => ?_)
  · obtain ⟨p, m, rfl, _⟩ := h
    rfl
  · obtain ⟨p, m, rfl, hp, m0, m1, q⟩ := h
    refine ⟨_, (pss_one (ps_ret (pe_ix ix_list (pe_lst (pa_cons pe_int (pa_cons (pv 1) (pa_cons (pe_call (ok_ldigit T) (hr.mono (by decide)) (by rfl) T.g_ldigit T.F_ldigit.kp T.b_ldigit .nil pass0 (pa_cons (pv 0) (pa_cons (pe_op op_add (pv 1) pe_int) pa_nil))) (pa_cons (pe_op op_fdivW (pv 1) pe_int) pa_nil))))) (pe_call (ok_ldigit T) (hr.mono (by decide)) (by rfl) T.g_ldigit T.F_ldigit.kp T.b_ldigit .nil pass0 (pa_cons (pv 0) (pa_cons pe_int pa_nil))) (fun _ _ => rfl)))), ?_⟩
    refine ⟨_, rfl, _, rfl, _, rfl, _, _, rfl, rfl, p, _, rfl, hp, by omega, Bt.of_lt (n := 8999) (by omega) (by omega), fun d H1 d0 d1 s1 p1 => ?_⟩
    refine ⟨_, rfl, _, _, rfl, rfl, Bt.cdiv (n := 10) (by decide) (Bt.of_lt (by decide) (by decide)) (by decide), by show 4 ≤ sizeLine; decide, fun l nl => ?_⟩
    have p2 := p1.same (same_new (o := .lst [.int 0, .int m, .int d, .int (m / 2)]) nl)
    refine ⟨_, rfl, p, _, rfl, p2, by decide, by unfold Bt; decide +kernel, fun g H4 g0 g1 s4 p5 => ?_⟩
    have hL := s4.lst (K := K) (p1.ne nl) (.inl (.inl upd_same))
    obtain ⟨v, hv, hm⟩ := pick (xs := [V.int 0, .int m, .int d, .int (m / 2)]) g0 (by simpa using g1)
    refine ⟨l, _, g, v, rfl, rfl, hL, hv, ?_⟩
    have sx : SameX p H H4 := s1.trans ((Same.x (same_new nl)).trans s4)
    simp only [List.mem_cons, List.not_mem_nil, or_false] at hm
    rcases hm with rfl | rfl | rfl | rfl <;> exact q _ _ (by omega) (by omega) sx p5
theorem ok_lis (T : Tx K mg) {A : Around} (hg : Calm A) : FnAt A P w K mg base CX0 1 T.f_lis T.d_lis ["_law_told", "_law_due"] (spIsR K) := by
  refine fun_at T.F_lis sc_lis (fun vs H Q E h => ?_) (fun cdv outer s H vs Q E hr h => ?_)
  · obtain ⟨u, v, a, b, rfl, _⟩ := h
    rfl
  · obtain ⟨u, v, a, b, rfl, hu, hv, ba, bb, q⟩ := h
    refine ⟨_, PSs.nox (pss_cons (ps_if (PW.pt (pw_or (pt_not (pt_val (pe_callB call_isi (by rfl) T.n_isinstance (by decide +kernel) (pa_cons (pv 0) (pa_cons (pe_bltn (v := .ty "tuple") (by rfl) T.n_tuple (by decide +kernel) rfl) pa_nil))))) (pw_or (pt_cmpR op_ne (pe_callB call_len_seq (by rfl) T.n_len (by decide +kernel) (pa_cons (pv 0) pa_nil)) pe_int (nomark _)) (pw_or (pt_val (pe_callB call_isi (by rfl) T.n_isinstance (by decide +kernel) (pa_cons (pe_ix ix_tup (pv 0) pe_int (fun _ _ => rfl)) (pa_cons (pe_bltn (v := .ty "bool") (by rfl) T.n_bool (by decide +kernel) rfl) pa_nil)))) (pw_or1 (pt_val (pe_callB call_isi (by rfl) T.n_isinstance (by decide +kernel) (pa_cons (pe_ix ix_tup (pv 0) pe_int (fun _ _ => rfl)) (pa_cons (pe_bltn (v := .ty "bool") (by rfl) T.n_bool (by decide +kernel) rfl) pa_nil))))))))) (pss_one (ps_ret pe_bl)) pss_nil)
        (pss_one (ps_ret (pe_cmpR op_eq (pe_callB (call_reprD (Calm.down hg _) hr.units) (by rfl) T.n_repr (by decide +kernel) (pa_cons (pv 0) pa_nil)) (pe_callB (call_reprD (Calm.down hg _) hr.units) (by rfl) T.n_repr (by decide +kernel) (pa_cons (pv 1) pa_nil)) (nomark _))))), ?_⟩
    have du := pd_dp hu
    have dv := pd_dp hv
    have sh := pd_show ba bb
    have ln : (pd a b).shown.length ≤ sizeLine := Nat.le_trans (pd_len (by decide) ba bb) (by decide)
    obtain ⟨t, rfl, ht⟩ := hu
    refine ⟨_, rfl, _, _, _, _, true, rfl, .ty "tuple", sqt_ty ht, kit_ty (by decide +kernel), true, rfl, iteF ?_⟩
    refine ⟨_, rfl, t, _, rfl, .inr ht, rfl, _, rfl, ?_⟩
    refine iteF ?_
    refine ⟨_, rfl, t, _, 0, _, rfl, rfl, ht, atI_nat (j := 0) rfl, _, _, _, _, false, rfl, .ty "bool", .base (.int a), kit_ty (by decide +kernel), false, rfl, iteF ?_⟩
    refine ⟨_, rfl, t, _, 1, _, rfl, rfl, ht, atI_nat (j := 1) rfl, _, _, _, _, false, rfl, .ty "bool", .base (.int b), kit_ty (by decide +kernel), false, rfl, iteF ?_⟩
    refine ⟨_, rfl, _, pd a b, rfl, du, sh, rfl, by show 1 ≤ 60; decide, ln, _, rfl, _, pd a b, rfl, dv, sh, rfl, by show 1 ≤ 60; decide, ln, rfl, ?_⟩
    rw [decide_eq_true rfl]
    exact q
end
end WS

set_option Elab.async false
set_option linter.all false
set_option maxRecDepth 100000
set_option maxHeartbeats 4000000
namespace WS
open PySem PySem.Spec PyProof.Rows L2
section
variable {P : Program} {w : World} {K : PySem.W.Frag} {mg : Str → Option Value} {base : Heap}
def spStep : Sp := fun vs H Q _ => ∃ p w n k, vs = [.ref p, .int w, .int n, .int k] ∧ PotAt H p ∧ 1 ≤ w ∧ w < 2 ^ 100 ∧ 0 ≤ k ∧ k ≤ n ∧ n ≤ 60 ∧ ∀ H', SameX p H H' → PotAt H' p → Q (.bl true) H'
theorem step_eq (W n k a b : Int) : (W * (k - a) * (n - (k - a)) * b * 2 + W * (k + b) * (n - (k + b)) * a * 2) * (2 * 2) = (W * k * (n - k) * 2 + (0 - W * a * b) * 2) * (a + b) * (2 * 2) := by grind
theorem ok_lstep_right (T : Tx K mg) : FnOk P w K mg base CX0 5 T.f_lstep_right T.d_lstep_right ["_law_pot_here", "_law_weight_here", "_law_seats", "_law_many_here"] spStep := by
  refine T.F_lstep_right.ok sc_lstep_right (fun vs H Q E h => ?_) (fun cdv A outer s H vs Q E hr h => ?_)
  · obtain ⟨p, W, n, k, rfl, _⟩ := h
    rfl
  · obtain ⟨p, W, n, k, rfl, hp, w0, w1, k0, k1, n1, q⟩ := h
    refine ⟨_, (pss_cons (ps_par (i := 4) (j := 5) (by rfl) sc_lstep_right.nd rfl rfl (by decide) rfl rfl (pa_cons (pe_call (ok_lmany T) (hr.mono (by decide)) (by rfl) T.g_lmany T.F_lmany.kp T.b_lmany .nil pass0 (pa_cons (pv 0) (pa_cons (pv 3) pa_nil))) (pa_cons (pe_call (ok_lmany T) (hr.mono (by decide)) (by rfl) T.g_lmany T.F_lmany.kp T.b_lmany .nil pass0 (pa_cons (pv 0) (pa_cons (pe_op op_sub (pv 2) (pv 3)) pa_nil))) pa_nil)) (by rfl))
        (pss_cons (ps_set (i := 6) sc_lstep_right.nd rfl (.inl rfl) (pe_call (ok_lplus T) (hr.mono (by decide)) (by rfl) T.g_lplus T.F_lplus.kp T.b_lplus .nil pass0 (pa_cons (pe_call (ok_ltimes T) (hr.mono (by decide)) (by rfl) T.g_ltimes T.F_ltimes.kp T.b_ltimes .nil pass0 (pa_cons (pe_call (ok_most T) (hr.mono (by decide)) (by rfl) T.g_most T.F_most.kp T.b_most .nil pass0 (pa_cons (pv 1) (pa_cons (pv 2) (pa_cons (pe_op op_sub (pv 3) (pv 4)) pa_nil)))) (pa_cons (pv 5) pa_nil))) (pa_cons (pe_call (ok_ltimes T) (hr.mono (by decide)) (by rfl) T.g_ltimes T.F_ltimes.kp T.b_ltimes .nil pass0 (pa_cons (pe_call (ok_most T) (hr.mono (by decide)) (by rfl) T.g_most T.F_most.kp T.b_most .nil pass0 (pa_cons (pv 1) (pa_cons (pv 2) (pa_cons (pe_op op_add (pv 3) (pv 5)) pa_nil)))) (pa_cons (pv 4) pa_nil))) pa_nil))))
        (pss_cons (ps_set (i := 7) sc_lstep_right.nd rfl (.inl rfl) (pe_call (ok_most T) (hr.mono (by decide)) (by rfl) T.g_most T.F_most.kp T.b_most .nil pass0 (pa_cons (pv 1) (pa_cons (pv 2) (pa_cons (pv 3) pa_nil)))))
        (pss_cons (ps_set (i := 8) sc_lstep_right.nd rfl (.inl rfl) (pe_call (ok_ltimes T) (hr.mono (by decide)) (by rfl) T.g_ltimes T.F_ltimes.kp T.b_ltimes .nil pass0 (pa_cons (pe_call (ok_lplus T) (hr.mono (by decide)) (by rfl) T.g_lplus T.F_lplus.kp T.b_lplus .nil pass0 (pa_cons (pv 7) (pa_cons (pe_call (ok_llow T) (hr.mono (by decide)) (by rfl) T.g_llow T.F_llow.kp T.b_llow .nil pass0 (pa_cons (pe_op op_sub pe_int (pe_op op_mulW (pe_op op_mulW (pv 1) (pv 4)) (pv 5))) (pa_cons pe_int pa_nil))) pa_nil))) (pa_cons (pe_op op_add (pv 4) (pv 5)) pa_nil))))
        (pss_one (ps_ret (pe_cmpR (op_eqD hr.units) (pv 6) (pv 8) (nomark _)))))))), ?_⟩
    refine ⟨_, rfl, _, rfl, p, k, rfl, hp, k0, by omega, fun a H1 a0 a1 s1 p1 => ?_⟩
    refine ⟨_, rfl, _, rfl, _, rfl, _, _, rfl, rfl, p, n - k, rfl, p1, by omega, by omega, fun b H2 b0 b1 s2 p2 => ⟨_, _, rfl, ?_⟩⟩
    have bW : Bt 200 W := Bt.of_lt (by omega) (by omega)
    have bn : Bt 200 n := Bt.of_lt (by omega) (by omega)
    have bk : Bt 200 k := Bt.of_lt (by omega) (by omega)
    have ba : Bt 10 a := Bt.of_lt (by omega) (by omega)
    have bb : Bt 10 b := Bt.of_lt (by omega) (by omega)
    have bka : Bt 200 (k - a) := Bt.of_lt (by omega) (by omega)
    have bkb : Bt 200 (k + b) := Bt.of_lt (by omega) (by omega)
    have bab : Bt 10 (a + b) := Bt.of_lt (by omega) (by omega)
    refine ⟨_, rfl, _, rfl, _, rfl, _, rfl, _, _, rfl, rfl, most_rp bW bn bka fun m1 I1 t1 h1 => ?_⟩
    refine ⟨_, rfl, times_rp h1 bb (by decide) (by decide) fun m2 I2 t2 h2 => ?_⟩
    refine ⟨_, rfl, _, rfl, _, rfl, _, rfl, _, _, rfl, rfl, most_rp bW bn bkb fun m3 I3 t3 h3 => ?_⟩
    refine ⟨_, rfl, times_rp h3 ba (by decide) (by decide) fun m4 I4 t4 h4 => ?_⟩
    refine plus_rp (h2.same (t3.trans t4)) h4 (by decide) (by decide) fun m5 I5 t5 h5 => ?_
    refine ⟨_, rfl, _, rfl, _, rfl, most_rp bW bn bk fun m6 I6 t6 h6 => ?_⟩
    refine ⟨_, rfl, _, rfl, _, rfl, _, _, rfl, rfl, bW.cmul ba (by decide), _, rfl, _, _, rfl, rfl, (bW.mul ba).cmul bb (by decide), _, _, rfl, rfl, ?_⟩
    refine low_rp (n := 300) (by decide) ?_ (by unfold Bt; decide +kernel) (by decide) fun m7 I7 t7 h7 => ?_
    · have z : Bt 220 (W * a * b) := ((bW.mul ba).mul bb)
      exact (Bt.sub (n := 220) (by unfold Bt; decide +kernel) z).mono (by decide)
    refine plus_rp (h6.same t7) h7 (by decide) (by decide) fun m8 I8 t8 h8 => ?_
    refine ⟨_, rfl, _, rfl, _, _, rfl, rfl, times_rp h8 bab (by decide) (by decide) fun m9 I9 t9 h9 => ?_⟩
    obtain ⟨d, d', e1, e2, e3, e4, e5⟩ := eqd_rp (h5.same (t6.trans (t7.trans (t8.trans t9)))) h9 (step_eq W n k a b)
    refine ⟨_, rfl, _, rfl, d, d', e1, e2, e3, e4, ?_⟩
    rw [e5]
    have st := t1.trans (t2.trans (t3.trans (t4.trans (t5.trans (t6.trans (t7.trans (t8.trans t9)))))))
    exact q _ (s1.trans (s2.trans (Same.x st))) (p2.same st)
theorem join_le (W n k o m : Int) (w0 : 1 ≤ W) (k0 : 0 ≤ k) (k1 : k ≤ n) (m0 : 0 ≤ m) (m1 : m ≤ o) : ¬ (W * (k + m) * (n + o - (k + m)) * (2 * 2) < (W * k * (n - k) * 2 + W * m * (o - m) * 2) * 2) := by
  have e : W * (k + m) * (n + o - (k + m)) * (2 * 2) - (W * k * (n - k) * 2 + W * m * (o - m) * 2) * 2 = 4 * (W * (k * (o - m) + m * (n - k))) := by grind
  have h1 : 0 ≤ k * (o - m) := Int.mul_nonneg k0 (by omega)
  have h2 : 0 ≤ m * (n - k) := Int.mul_nonneg m0 (by omega)
  have h3 : 0 ≤ W * (k * (o - m) + m * (n - k)) := Int.mul_nonneg (by omega) (by omega)
  omega
theorem wide_le (W n k o : Int) (w0 : 1 ≤ W) (k0 : 0 ≤ k) (o0 : 0 ≤ o) : ¬ (W * k * (n + o - k) * 2 < W * k * (n - k) * 2) := by
  have e : W * k * (n + o - k) * 2 - W * k * (n - k) * 2 = 2 * (W * (k * o)) := by grind
  have h1 : 0 ≤ k * o := Int.mul_nonneg k0 o0
  have h3 : 0 ≤ W * (k * o) := Int.mul_nonneg (by omega) h1
  omega
theorem ok_ljoined_right (T : Tx K mg) : FnOk P w K mg base CX0 5 T.f_ljoined_right T.d_ljoined_right ["_law_pot_here", "_law_weight_here", "_law_seats", "_law_many_here"] spStep := by
  refine T.F_ljoined_right.ok sc_ljoined_right (fun vs H Q E h => ?_) (fun cdv A outer s H vs Q E hr h => ?_)
  · obtain ⟨p, W, n, k, rfl, _⟩ := h
    rfl
  · obtain ⟨p, W, n, k, rfl, hp, w0, w1, k0, k1, n1, q⟩ := h
    refine ⟨_, (pss_cons (ps_set (i := 4) sc_ljoined_right.nd rfl (.inl rfl) (pe_call (ok_ldigit T) (hr.mono (by decide)) (by rfl) T.g_ldigit T.F_ldigit.kp T.b_ldigit .nil pass0 (pa_cons (pv 0) (pa_cons (pe_op op_sub pe_int (pv 2)) pa_nil))))
        (pss_cons (ps_set (i := 5) sc_ljoined_right.nd rfl (.inl rfl) (pe_call (ok_lmany T) (hr.mono (by decide)) (by rfl) T.g_lmany T.F_lmany.kp T.b_lmany .nil pass0 (pa_cons (pv 0) (pa_cons (pv 4) pa_nil))))
        (pss_cons (ps_set (i := 6) sc_ljoined_right.nd rfl (.inl rfl) (pe_call (ok_lplus T) (hr.mono (by decide)) (by rfl) T.g_lplus T.F_lplus.kp T.b_lplus .nil pass0 (pa_cons (pe_call (ok_most T) (hr.mono (by decide)) (by rfl) T.g_most T.F_most.kp T.b_most .nil pass0 (pa_cons (pv 1) (pa_cons (pv 2) (pa_cons (pv 3) pa_nil)))) (pa_cons (pe_call (ok_most T) (hr.mono (by decide)) (by rfl) T.g_most T.F_most.kp T.b_most .nil pass0 (pa_cons (pv 1) (pa_cons (pv 4) (pa_cons (pv 5) pa_nil)))) pa_nil))))
        (pss_cons (ps_if (pt_val (pe_call (ok_lless T) (hr.mono (by decide)) (by rfl) T.g_lless T.F_lless.kp T.b_lless .nil pass0 (pa_cons (pe_call (ok_most T) (hr.mono (by decide)) (by rfl) T.g_most T.F_most.kp T.b_most .nil pass0 (pa_cons (pv 1) (pa_cons (pe_op op_add (pv 2) (pv 4)) (pa_cons (pe_op op_add (pv 3) (pv 5)) pa_nil)))) (pa_cons (pv 6) pa_nil)))) (pss_one (ps_ret pe_bl)) pss_nil)
        (pss_one (ps_ret (pe_not (pe_call (ok_lless T) (hr.mono (by decide)) (by rfl) T.g_lless T.F_lless.kp T.b_lless .nil pass0 (pa_cons (pe_call (ok_most T) (hr.mono (by decide)) (by rfl) T.g_most T.F_most.kp T.b_most .nil pass0 (pa_cons (pv 1) (pa_cons (pe_op op_add (pv 2) (pv 4)) (pa_cons (pv 3) pa_nil)))) (pa_cons (pe_call (ok_most T) (hr.mono (by decide)) (by rfl) T.g_most T.F_most.kp T.b_most .nil pass0 (pa_cons (pv 1) (pa_cons (pv 2) (pa_cons (pv 3) pa_nil)))) pa_nil)))))))))), ?_⟩
    refine ⟨_, rfl, _, rfl, _, _, rfl, rfl, p, 61 - n, rfl, hp, by omega, Bt.of_lt (n := 8999) (by omega) (by omega), fun o H1 o0 o1 s1 p1 => ?_⟩
    refine ⟨_, rfl, _, rfl, p, o, rfl, p1, by omega, by omega, fun m H2 m0 m1 s2 p2 => ?_⟩
    have bW : Bt 200 W := Bt.of_lt (by omega) (by omega)
    have bn : Bt 200 n := Bt.of_lt (by omega) (by omega)
    have bk : Bt 200 k := Bt.of_lt (by omega) (by omega)
    have bo : Bt 200 o := Bt.of_lt (by omega) (by omega)
    have bm : Bt 200 m := Bt.of_lt (by omega) (by omega)
    have bno : Bt 200 (n + o) := Bt.of_lt (by omega) (by omega)
    have bkm : Bt 200 (k + m) := Bt.of_lt (by omega) (by omega)
    refine ⟨_, rfl, _, rfl, _, rfl, most_rp bW bn bk fun m1 I1 t1 h1 => ?_⟩
    refine ⟨_, rfl, _, rfl, _, rfl, most_rp bW bo bm fun m2 I2 t2 h2 => ?_⟩
    refine plus_rp (h1.same t2) h2 (by decide) (by decide) fun m3 I3 t3 h3 => ?_
    refine ⟨_, rfl, _, rfl, _, rfl, _, _, rfl, rfl, _, rfl, _, rfl, _, _, rfl, rfl, most_rp bW bno bkm fun m4 I4 t4 h4 => ?_⟩
    refine ⟨_, rfl, nil2 (less_rp h4 (h3.same t4) (by decide) (by decide) ?_)⟩
    rw [decide_eq_false (join_le W n k o m w0 k0 k1 m0 (by omega))]
    refine ⟨_, rfl, iteF ?_⟩
    refine ⟨_, rfl, _, rfl, _, rfl, _, _, rfl, rfl, _, rfl, most_rp bW bno bk fun m5 I5 t5 h5 => ?_⟩
    refine ⟨_, rfl, _, rfl, _, rfl, most_rp bW bn bk fun m6 I6 t6 h6 => ?_⟩
    refine nil2 (less_rp (h5.same t6) h6 (by decide) (by decide) ?_)
    rw [decide_eq_false (wide_le W n k o w0 k0 o0)]
    have st := t1.trans (t2.trans (t3.trans (t4.trans (t5.trans t6))))
    exact ⟨_, rfl, q _ (s1.trans (s2.trans (Same.x st))) (p2.same st)⟩
theorem ok_lone (T : Tx K mg) {A : Around} (hg : Calm A) : FnAt A P w K mg base CX0 6 T.f_lone T.d_lone ["_law_pot_here"] spOne := by
  refine fun_at T.F_lone sc_lone (fun vs H Q E h => ?_) (fun cdv outer s H vs Q E hr h => ?_)
  · obtain ⟨p, rfl, _⟩ := h
    rfl
  · obtain ⟨p, rfl, hp, q⟩ := h
    refine ⟨_, PSs.nox (pss_cons (ps_par (i := 1) (j := 2) (by rfl) sc_lone.nd rfl rfl (by decide) rfl rfl (pa_cons (pe_call (ok_lweight T) (hr.mono (by decide)) (by rfl) T.g_lweight T.F_lweight.kp T.b_lweight .nil pass0 (pa_cons (pv 0) pa_nil)) (pa_cons (pe_call (ok_lweight T) (hr.mono (by decide)) (by rfl) T.g_lweight T.F_lweight.kp T.b_lweight .nil pass0 (pa_cons (pv 0) pa_nil)) pa_nil)) (by rfl))
        (pss_cons (ps_set (i := 3) sc_lone.nd rfl (.inl rfl) (pe_ix ix_list (pe_lst (pa_cons (pe_call (ok_ldigit T) (hr.mono (by decide)) (by rfl) T.g_ldigit T.F_ldigit.kp T.b_ldigit .nil pass0 (pa_cons (pv 0) (pa_cons pe_int pa_nil))) (pa_cons pe_int (pa_cons (pe_call (ok_ldigit T) (hr.mono (by decide)) (by rfl) T.g_ldigit T.F_ldigit.kp T.b_ldigit .nil pass0 (pa_cons (pv 0) (pa_cons pe_int pa_nil))) pa_nil)))) (pe_call (ok_ldigit T) (hr.mono (by decide)) (by rfl) T.g_ldigit T.F_ldigit.kp T.b_ldigit .nil pass0 (pa_cons (pv 0) (pa_cons pe_int pa_nil))) (fun _ _ => rfl)))
        (pss_cons (ps_set (i := 4) sc_lone.nd rfl (.inl rfl) (pe_call (ok_lmany T) (hr.mono (by decide)) (by rfl) T.g_lmany T.F_lmany.kp T.b_lmany .nil pass0 (pa_cons (pv 0) (pa_cons (pv 3) pa_nil))))
        (pss_cons (ps_set (i := 5) sc_lone.nd rfl (.inl rfl) (pe_call (ok_most T) (hr.mono (by decide)) (by rfl) T.g_most T.F_most.kp T.b_most .nil pass0 (pa_cons (pv 1) (pa_cons (pv 3) (pa_cons (pv 4) pa_nil)))))
        (pss_cons (ps_if (pt_not (pt_val (pe_callA (ok_lis T (Calm.down hg _)) (hr.mono (by decide)) (by rfl) T.g_lis T.F_lis.kp T.b_lis .nil pass0 (pa_cons (pv 5) (pa_cons (pe_call (ok_llow T) (hr.mono (by decide)) (by rfl) T.g_llow T.F_llow.kp T.b_llow .nil pass0 (pa_cons (pe_op op_mulW (pe_op op_mulW (pv 1) (pv 4)) (pe_op op_sub (pv 3) (pv 4))) (pa_cons pe_int pa_nil))) pa_nil))))) (pss_one (ps_ret pe_bl)) pss_nil)
        (pss_cons (ps_if (PW.pt (pw_or (pt_not (pt_val (pe_callA (ok_lis T (Calm.down hg _)) (hr.mono (by decide)) (by rfl) T.g_lis T.F_lis.kp T.b_lis .nil pass0 (pa_cons (pe_call (ok_most T) (hr.mono (by decide)) (by rfl) T.g_most T.F_most.kp T.b_most .nil pass0 (pa_cons (pv 1) (pa_cons (pv 3) (pa_cons (pe_op op_sub (pv 3) (pv 4)) pa_nil)))) (pa_cons (pv 5) pa_nil))))) (pw_or1 (pt_not (pt_val (pe_callA (ok_lis T (Calm.down hg _)) (hr.mono (by decide)) (by rfl) T.g_lis T.F_lis.kp T.b_lis .nil pass0 (pa_cons (pe_call (ok_most T) (hr.mono (by decide)) (by rfl) T.g_most T.F_most.kp T.b_most .nil pass0 (pa_cons (pv 1) (pa_cons (pv 3) (pa_cons pe_int pa_nil)))) (pa_cons (pe_tup (pa_cons pe_int (pa_cons pe_int pa_nil))) pa_nil)))))))) (pss_one (ps_ret pe_bl)) pss_nil)
        (pss_cons (ps_if (pt_not (pt_val (pe_callA (ok_lis T (Calm.down hg _)) (hr.mono (by decide)) (by rfl) T.g_lis T.F_lis.kp T.b_lis .nil pass0 (pa_cons (pe_call (ok_most T) (hr.mono (by decide)) (by rfl) T.g_most T.F_most.kp T.b_most .nil pass0 (pa_cons (pv 1) (pa_cons (pv 3) (pa_cons (pv 3) pa_nil)))) (pa_cons (pe_tup (pa_cons pe_int (pa_cons pe_int pa_nil))) pa_nil))))) (pss_one (ps_ret pe_bl)) pss_nil)
        (pss_cons (ps_if (pt_not (pt_val (pe_callA (ok_lis T (Calm.down hg _)) (hr.mono (by decide)) (by rfl) T.g_lis T.F_lis.kp T.b_lis .nil pass0 (pa_cons (pe_call (ok_most T) (hr.mono (by decide)) (by rfl) T.g_most T.F_most.kp T.b_most .nil pass0 (pa_cons (pe_op op_add (pv 1) (pv 2)) (pa_cons (pv 3) (pa_cons (pv 4) pa_nil)))) (pa_cons (pe_call (ok_lplus T) (hr.mono (by decide)) (by rfl) T.g_lplus T.F_lplus.kp T.b_lplus .nil pass0 (pa_cons (pv 5) (pa_cons (pe_call (ok_most T) (hr.mono (by decide)) (by rfl) T.g_most T.F_most.kp T.b_most .nil pass0 (pa_cons (pv 2) (pa_cons (pv 3) (pa_cons (pv 4) pa_nil)))) pa_nil))) pa_nil))))) (pss_one (ps_ret pe_bl)) pss_nil)
        (pss_one (ps_ret (pe_and (pe_call (ok_lstep_right T) (hr.mono (by decide)) (by rfl) T.g_lstep_right T.F_lstep_right.kp T.b_lstep_right .nil pass0 (pa_cons (pv 0) (pa_cons (pv 1) (pa_cons (pv 3) (pa_cons (pv 4) pa_nil))))) (pe_one (pe_call (ok_ljoined_right T) (hr.mono (by decide)) (by rfl) T.g_ljoined_right T.F_ljoined_right.kp T.b_ljoined_right .nil pass0 (pa_cons (pv 0) (pa_cons (pv 1) (pa_cons (pv 3) (pa_cons (pv 4) pa_nil))))))))))))))))), ?_⟩
    refine ⟨_, rfl, p, rfl, hp, fun W H1 w0 w1 s1 p1 => ?_⟩
    refine ⟨_, rfl, p, rfl, p1, fun O H2 o0 o1 s2 p2 => ⟨_, _, rfl, ?_⟩⟩
    -- seats
    refine ⟨_, rfl, p, _, rfl, p2, by decide, by unfold Bt; decide +kernel, fun d H3 d0 d1 s3 p3 => ?_⟩
    refine ⟨_, rfl, p, _, rfl, p3, by decide, by unfold Bt; decide +kernel, fun e H4 e0 e1 s4 p4 => ?_⟩
    refine ⟨by show 3 ≤ sizeLine; decide, fun l nl => ?_⟩
    have p5 := p4.same (same_new (o := .lst [.int d, .int 60, .int e]) nl)
    refine ⟨_, rfl, p, _, rfl, p5, by decide, by unfold Bt; decide +kernel, fun g H5 g0 g1 s5 p6 => ?_⟩
    have hL := s5.lst (K := K) (p4.ne nl) (.inl (.inl upd_same))
    obtain ⟨v, hv, hm⟩ := pick (xs := [V.int d, .int 60, .int e]) g0 (by simpa using g1)
    refine ⟨l, _, g, v, rfl, rfl, hL, hv, ?_⟩
    have sx5 : SameX p H H5 := s1.trans (s2.trans (s3.trans (s4.trans ((Same.x (same_new nl)).trans s5))))
    obtain ⟨n, rfl, n0, n1⟩ : ∃ n : Int, v = .int n ∧ 0 ≤ n ∧ n ≤ 60 := by
      simp only [List.mem_cons, List.not_mem_nil, or_false] at hm
      rcases hm with rfl | rfl | rfl <;> exact ⟨_, rfl, by omega, by omega⟩
    refine ⟨_, rfl, _, rfl, p, n, rfl, p6, n0, by omega, fun k H6 k0 k1 s6 p7 => ?_⟩
    have bW : Bt 200 W := Bt.of_lt (by omega) (by omega)
    have bO : Bt 200 O := Bt.of_lt (by omega) (by omega)
    have bWO : Bt 200 (W + O) := Bt.of_lt (by omega) (by omega)
    have bn : Bt 200 n := Bt.of_lt (by omega) (by omega)
    have bk : Bt 200 k := Bt.of_lt (by omega) (by omega)
    have bnk : Bt 200 (n - k) := Bt.of_lt (by omega) (by omega)
    have b0 : Bt 200 (0 : Int) := by unfold Bt; decide +kernel
    have b2 : Bt 700 (2 : Int) := by unfold Bt; decide +kernel
    refine ⟨_, rfl, _, rfl, _, rfl, most_rp bW bn bk fun t I1 t1 ht => ?_⟩
    refine ⟨_, rfl, _, rfl, _, rfl, _, _, rfl, rfl, bW.cmul bk (by decide), _, rfl, _, rfl, _, _, rfl, rfl, _, _, rfl, rfl, (bW.mul bk).cmul bnk (by decide), ?_⟩
    refine low_rp (n := 700) (by decide) (((bW.mul bk).mul bnk).mono (by decide)) b2 (by decide) fun m2 I2 t2 h2 => ?_
    refine nil2 (is_rp (ht.same t2) h2 (by decide) rfl ?_)
    refine ⟨true, rfl, iteF ?_⟩
    refine ⟨_, rfl, _, rfl, _, rfl, _, rfl, _, _, rfl, rfl, most_rp bW bn bnk fun m3 I3 t3 h3 => ?_⟩
    refine ⟨_, rfl, nil2 (is_rp h3 (ht.same (t2.trans t3)) (by decide) (by grind) ?_)⟩
    refine ⟨true, rfl, iteF ?_⟩
    refine ⟨_, rfl, _, rfl, most_rp bW bn b0 fun m4 I4 t4 h4 => ?_⟩
    refine ⟨by show 2 ≤ sizeLine; decide, fun z nz => ?_⟩
    have z1 : Rp K (upd I4 z (.tup [.int 0, .int 1])) (.ref z) 0 1 700 := Rp.of TupI.new ⟨by decide, by decide⟩ (b0.mono (by decide)) (by unfold Bt; decide +kernel)
    refine nil2 (is_rp (h4.same (same_new nz)) z1 (by decide) (by grind) ?_)
    refine ⟨true, rfl, iteF ?_⟩
    have t5 := t2.trans (t3.trans (t4.trans (same_new (o := .tup [.int 0, .int 1]) nz)))
    refine ⟨_, rfl, _, rfl, _, rfl, most_rp bW bn bn fun m6 I6 t6 h6 => ?_⟩
    refine ⟨by show 2 ≤ sizeLine; decide, fun z' nz' => ?_⟩
    have z2 : Rp K (upd I6 z' (.tup [.int 0, .int 1])) (.ref z') 0 1 700 := Rp.of TupI.new ⟨by decide, by decide⟩ (b0.mono (by decide)) (by unfold Bt; decide +kernel)
    refine nil2 (is_rp (h6.same (same_new nz')) z2 (by decide) (by grind) ?_)
    refine ⟨true, rfl, iteF ?_⟩
    have t7 := t5.trans (t6.trans (same_new (o := .tup [.int 0, .int 1]) nz'))
    refine ⟨_, rfl, _, rfl, _, _, rfl, rfl, _, rfl, _, rfl, most_rp bWO bn bk fun m8 I8 t8 h8 => ?_⟩
    refine ⟨_, rfl, _, rfl, _, rfl, _, rfl, most_rp bO bn bk fun m9 I9 t9 h9 => ?_⟩
    refine plus_rp (ht.same (t7.trans (t8.trans t9))) h9 (by decide) (by decide) fun m10 I10 t10 h10 => ?_
    refine nil2 (is_rp (h8.same (t9.trans t10)) h10 (by decide) (by grind) ?_)
    refine ⟨true, rfl, iteF ?_⟩
    have st := t1.trans (t7.trans (t8.trans (t9.trans t10)))
    have sx : SameX p H I10 := sx5.trans (s6.trans (Same.x st))
    refine ⟨_, rfl, _, rfl, _, rfl, _, rfl, p, W, n, k, rfl, p7.same st, w0, w1, k0, k1, n1, fun J s7 p8 => ⟨true, rfl, iteT ?_⟩⟩
    exact ⟨_, rfl, _, rfl, _, rfl, _, rfl, p, W, n, k, rfl, p8, w0, w1, k0, k1, n1, fun J' s8 _ => q _ (sx.trans (s7.trans s8))⟩
theorem ok_law (T : Tx K mg) {A : Around} (hg : Calm A) : FnAt A P w K mg base CX0 7 T.f_law T.d_law ["_law_script"] (spLaw K) := by
  refine fun_at T.F_law sc_law (fun vs H Q E h => ?_) (fun cdv outer s H vs Q E hr h => ?_)
  · obtain ⟨a, ns, rfl, _⟩ := h
    rfl
  · obtain ⟨a, ns, rfl, hS, hlen, q⟩ := h
    refine ⟨_, PSs.nox (pss_one (ps_ret (pe_callB (cr_all (by rfl)) (by rfl) T.n_all (by decide +kernel) (pa_cons (pe_lc (own := [("_law_k", 1)]) (g := gName 1) (tt := tYes) (by rfl) sc_law.nd (pi_range1 (by rfl) T.n_range (pa_cons (pe_callB (call_max2 (by rfl)) (by rfl) T.n_max (by decide +kernel) (pa_cons pe_int (pa_cons (pe_callB (call_min2 (by rfl)) (by rfl) T.n_min (by decide +kernel) (pa_cons (pe_callB call_len_seq (by rfl) T.n_len (by decide +kernel) (pa_cons (pv 0) pa_nil)) (pa_cons pe_int pa_nil))) pa_nil))) pa_nil)) (blkOk_by (own := [("_law_k", 1)]) (N := ["_law_script", "_law_k"]) (sc := defScope s_law) (by decide +kernel)) (fun _ _ _ _ _ => (pg_name (i := 1) sc_law.nd rfl (.inl rfl))) (fun _ _ _ _ _ => pts_nil) (fun _ _ _ _ _ => (pe_callA (ok_lone T (Calm.down hg _)) (hr.mono (by decide)) (by rfl) T.g_lone T.F_lone.kp T.b_lone .nil pass0 (pa_cons (pe_call (ok_lpot T) (hr.mono (by decide)) (by rfl) T.g_lpot T.F_lpot.kp T.b_lpot .nil pass0 (pa_cons (pv 0) (pa_cons (pv 1) pa_nil))) pa_nil)))) pa_nil)))), ?_⟩
    refine ⟨_, rfl, a, _, rfl, .inl hS, _, _, rfl, _, _, rfl, ?_⟩
    rw [List.length_map]
    refine ⟨_, rfl, ?_, ?_, fun D nD => ?_⟩
    · split <;> omega
    · show (if (if (12 : Int) < ns.length then (12 : Int) else ns.length) > 1 then (if (12 : Int) < ns.length then (12 : Int) else ns.length) else 1) < 2 ^ 62
      split <;> split <;> omega
    · generalize hN : (if (if (12 : Int) < ns.length then (12 : Int) else ns.length) > 1 then (if (12 : Int) < ns.length then (12 : Int) else ns.length) else 1).toNat = N
      have hN2 : N ≤ 12 := by rw [← hN]; split <;> split <;> omega
      refine lc_range (lo := 0) (n := N) (fun i H' => H' D = some (.lst ((List.replicate i true).map V.bl)) ∧ ∀ o, H a = some o → H' a = some o) ⟨upd_same, same_new nD a⟩ ?_ ?_
      · rintro i H' hi ⟨hD, hS'⟩
        refine ⟨rfl, tyes ?_⟩
        refine iteT ?_
        refine ⟨_, rfl, _, rfl, a, ns, _, rfl, seq_keep hS hS', by omega, by omega, fun p H2 s2 np hp => ?_⟩
        refine ⟨p, rfl, hp, fun H3 s3 => ?_⟩
        have nDp : D ≠ p := ne_of_none hD np
        have hD3 : H3 D = some (.lst ((List.replicate i true).map V.bl)) := s3 D _ nDp (s2 _ _ hD)
        refine ⟨_, hD3, ?_, ?_, ?_⟩
        · rw [List.length_map, List.length_replicate]
          exact small1000 (by omega)
        · rw [upd_same, List.replicate_succ', List.map_append]
          rfl
        · intro o e
          rw [upd_ne (ne_of_none e nD)]
          exact s3 a o (ne_of_none (hS' o e) np) (s2 a o (hS' o e))
      · rintro H' ⟨hD, hS'⟩
        refine ⟨D, _, rfl, .inl (.inl hD), ?_⟩
        rw [all_true]
        exact q _

end
end WS

set_option Elab.async false
set_option linter.all false
set_option maxRecDepth 100000
set_option maxHeartbeats 4000000
namespace WS
open PySem PySem.Spec PyProof.Rows L2
theorem all_mk {l : PySem.W.OpenLaw} {w : World} {K : PySem.W.Frag} {h : Heap} {mg : Str → Option Value} {fa : Addr} (X : K.In h) (G : h.Ns mainGlobals mg) (hfa : mg "law" = some (.ref fa))
    {f_is_whole : Addr} {od_is_whole an_is_whole : Option Addr} {sl_is_whole : Array (Option Value)} {oc_is_whole dc_is_whole pm_is_whole cd_is_whole ct_is_whole : Value} {kV_is_whole : Value}
    {f_greatest_common : Addr} {od_greatest_common an_greatest_common : Option Addr} {sl_greatest_common : Array (Option Value)} {oc_greatest_common dc_greatest_common pm_greatest_common cd_greatest_common ct_greatest_common : Value} {kV_greatest_common : Value}
    {f_part : Addr} {od_part an_part : Option Addr} {sl_part : Array (Option Value)} {oc_part dc_part pm_part cd_part ct_part : Value} {kV_part : Value}
    {dT_part : Addr} {do_part : Option Addr} {dn_part : Nat} {ds_part : Array (Option Value)} {dt_part : Tok}
    {f_most : Addr} {od_most an_most : Option Addr} {sl_most : Array (Option Value)} {oc_most dc_most pm_most cd_most ct_most : Value} {kV_most : Value}
    {f_lpot : Addr} {od_lpot an_lpot : Option Addr} {sl_lpot : Array (Option Value)} {oc_lpot dc_lpot pm_lpot cd_lpot ct_lpot : Value} {kV_lpot : Value}
    {f_ldigit : Addr} {od_ldigit an_ldigit : Option Addr} {sl_ldigit : Array (Option Value)} {oc_ldigit dc_ldigit pm_ldigit cd_ldigit ct_ldigit : Value} {kV_ldigit : Value}
    {f_llow : Addr} {od_llow an_llow : Option Addr} {sl_llow : Array (Option Value)} {oc_llow dc_llow pm_llow cd_llow ct_llow : Value} {kV_llow : Value}
    {f_lplus : Addr} {od_lplus an_lplus : Option Addr} {sl_lplus : Array (Option Value)} {oc_lplus dc_lplus pm_lplus cd_lplus ct_lplus : Value} {kV_lplus : Value}
    {f_ltimes : Addr} {od_ltimes an_ltimes : Option Addr} {sl_ltimes : Array (Option Value)} {oc_ltimes dc_ltimes pm_ltimes cd_ltimes ct_ltimes : Value} {kV_ltimes : Value}
    {f_lless : Addr} {od_lless an_lless : Option Addr} {sl_lless : Array (Option Value)} {oc_lless dc_lless pm_lless cd_lless ct_lless : Value} {kV_lless : Value}
    {f_lweight : Addr} {od_lweight an_lweight : Option Addr} {sl_lweight : Array (Option Value)} {oc_lweight dc_lweight pm_lweight cd_lweight ct_lweight : Value} {kV_lweight : Value}
    {f_lmany : Addr} {od_lmany an_lmany : Option Addr} {sl_lmany : Array (Option Value)} {oc_lmany dc_lmany pm_lmany cd_lmany ct_lmany : Value} {kV_lmany : Value}
    {f_lis : Addr} {od_lis an_lis : Option Addr} {sl_lis : Array (Option Value)} {oc_lis dc_lis pm_lis cd_lis ct_lis : Value} {kV_lis : Value}
    {f_lstep_right : Addr} {od_lstep_right an_lstep_right : Option Addr} {sl_lstep_right : Array (Option Value)} {oc_lstep_right dc_lstep_right pm_lstep_right cd_lstep_right ct_lstep_right : Value} {kV_lstep_right : Value}
    {f_ljoined_right : Addr} {od_ljoined_right an_ljoined_right : Option Addr} {sl_ljoined_right : Array (Option Value)} {oc_ljoined_right dc_ljoined_right pm_ljoined_right cd_ljoined_right ct_ljoined_right : Value} {kV_ljoined_right : Value}
    {f_lone : Addr} {od_lone an_lone : Option Addr} {sl_lone : Array (Option Value)} {oc_lone dc_lone pm_lone cd_lone ct_lone : Value} {kV_lone : Value}
    {f_law : Addr} {od_law an_law : Option Addr} {sl_law : Array (Option Value)} {oc_law dc_law pm_law cd_law ct_law : Value} {kV_law : Value}
    (a_is_whole : PySem.W.nsIn K mainGlobals "is_whole" = some (some (.ref f_is_whole)))
    (l_is_whole : K.lookup f_is_whole = some ⟨oc_is_whole, od_is_whole, .func (PySem.W.fnOf "is_whole" "is_whole" (defArgs s_is_whole) (defBody s_is_whole) (defScope s_is_whole) .none kV_is_whole dc_is_whole pm_is_whole an_is_whole cd_is_whole ct_is_whole), sl_is_whole⟩)
    (c_is_whole : PySem.W.codeIn K cd_is_whole "is_whole" = true) (k_is_whole : PySem.W.keepIn K (.ref f_is_whole) = true)
    (a_greatest_common : PySem.W.nsIn K mainGlobals "greatest_common" = some (some (.ref f_greatest_common)))
    (l_greatest_common : K.lookup f_greatest_common = some ⟨oc_greatest_common, od_greatest_common, .func (PySem.W.fnOf "greatest_common" "greatest_common" (defArgs s_greatest_common) (defBody s_greatest_common) (defScope s_greatest_common) .none kV_greatest_common dc_greatest_common pm_greatest_common an_greatest_common cd_greatest_common ct_greatest_common), sl_greatest_common⟩)
    (c_greatest_common : PySem.W.codeIn K cd_greatest_common "greatest_common" = true) (k_greatest_common : PySem.W.keepIn K (.ref f_greatest_common) = true)
    (a_part : PySem.W.nsIn K mainGlobals "part" = some (some (.ref f_part)))
    (l_part : K.lookup f_part = some ⟨oc_part, od_part, .func (PySem.W.fnOf "part" "part" (defArgs s_part) (defBody s_part) (defScope s_part) (.ref dT_part) kV_part dc_part pm_part an_part cd_part ct_part), sl_part⟩)
    (c_part : PySem.W.codeIn K cd_part "part" = true) (k_part : PySem.W.keepIn K (.ref f_part) = true)
    (q_part : K.lookup dT_part = some ⟨.type "tuple", do_part, .seq #[.int 1 dt_part] dn_part, ds_part⟩)
    (a_most : PySem.W.nsIn K mainGlobals "most" = some (some (.ref f_most)))
    (l_most : K.lookup f_most = some ⟨oc_most, od_most, .func (PySem.W.fnOf "most" "most" (defArgs s_most) (defBody s_most) (defScope s_most) .none kV_most dc_most pm_most an_most cd_most ct_most), sl_most⟩)
    (c_most : PySem.W.codeIn K cd_most "most" = true) (k_most : PySem.W.keepIn K (.ref f_most) = true)
    (a_lpot : PySem.W.nsIn K mainGlobals "_law_pot" = some (some (.ref f_lpot)))
    (l_lpot : K.lookup f_lpot = some ⟨oc_lpot, od_lpot, .func (PySem.W.fnOf "_law_pot" "_law_pot" (defArgs s_lpot) (defBody s_lpot) (defScope s_lpot) .none kV_lpot dc_lpot pm_lpot an_lpot cd_lpot ct_lpot), sl_lpot⟩)
    (c_lpot : PySem.W.codeIn K cd_lpot "_law_pot" = true) (k_lpot : PySem.W.keepIn K (.ref f_lpot) = true)
    (a_ldigit : PySem.W.nsIn K mainGlobals "_law_digit" = some (some (.ref f_ldigit)))
    (l_ldigit : K.lookup f_ldigit = some ⟨oc_ldigit, od_ldigit, .func (PySem.W.fnOf "_law_digit" "_law_digit" (defArgs s_ldigit) (defBody s_ldigit) (defScope s_ldigit) .none kV_ldigit dc_ldigit pm_ldigit an_ldigit cd_ldigit ct_ldigit), sl_ldigit⟩)
    (c_ldigit : PySem.W.codeIn K cd_ldigit "_law_digit" = true) (k_ldigit : PySem.W.keepIn K (.ref f_ldigit) = true)
    (a_llow : PySem.W.nsIn K mainGlobals "_law_low" = some (some (.ref f_llow)))
    (l_llow : K.lookup f_llow = some ⟨oc_llow, od_llow, .func (PySem.W.fnOf "_law_low" "_law_low" (defArgs s_llow) (defBody s_llow) (defScope s_llow) .none kV_llow dc_llow pm_llow an_llow cd_llow ct_llow), sl_llow⟩)
    (c_llow : PySem.W.codeIn K cd_llow "_law_low" = true) (k_llow : PySem.W.keepIn K (.ref f_llow) = true)
    (a_lplus : PySem.W.nsIn K mainGlobals "_law_plus" = some (some (.ref f_lplus)))
    (l_lplus : K.lookup f_lplus = some ⟨oc_lplus, od_lplus, .func (PySem.W.fnOf "_law_plus" "_law_plus" (defArgs s_lplus) (defBody s_lplus) (defScope s_lplus) .none kV_lplus dc_lplus pm_lplus an_lplus cd_lplus ct_lplus), sl_lplus⟩)
    (c_lplus : PySem.W.codeIn K cd_lplus "_law_plus" = true) (k_lplus : PySem.W.keepIn K (.ref f_lplus) = true)
    (a_ltimes : PySem.W.nsIn K mainGlobals "_law_times" = some (some (.ref f_ltimes)))
    (l_ltimes : K.lookup f_ltimes = some ⟨oc_ltimes, od_ltimes, .func (PySem.W.fnOf "_law_times" "_law_times" (defArgs s_ltimes) (defBody s_ltimes) (defScope s_ltimes) .none kV_ltimes dc_ltimes pm_ltimes an_ltimes cd_ltimes ct_ltimes), sl_ltimes⟩)
    (c_ltimes : PySem.W.codeIn K cd_ltimes "_law_times" = true) (k_ltimes : PySem.W.keepIn K (.ref f_ltimes) = true)
    (a_lless : PySem.W.nsIn K mainGlobals "_law_less" = some (some (.ref f_lless)))
    (l_lless : K.lookup f_lless = some ⟨oc_lless, od_lless, .func (PySem.W.fnOf "_law_less" "_law_less" (defArgs s_lless) (defBody s_lless) (defScope s_lless) .none kV_lless dc_lless pm_lless an_lless cd_lless ct_lless), sl_lless⟩)
    (c_lless : PySem.W.codeIn K cd_lless "_law_less" = true) (k_lless : PySem.W.keepIn K (.ref f_lless) = true)
    (a_lweight : PySem.W.nsIn K mainGlobals "_law_weight" = some (some (.ref f_lweight)))
    (l_lweight : K.lookup f_lweight = some ⟨oc_lweight, od_lweight, .func (PySem.W.fnOf "_law_weight" "_law_weight" (defArgs s_lweight) (defBody s_lweight) (defScope s_lweight) .none kV_lweight dc_lweight pm_lweight an_lweight cd_lweight ct_lweight), sl_lweight⟩)
    (c_lweight : PySem.W.codeIn K cd_lweight "_law_weight" = true) (k_lweight : PySem.W.keepIn K (.ref f_lweight) = true)
    (a_lmany : PySem.W.nsIn K mainGlobals "_law_many" = some (some (.ref f_lmany)))
    (l_lmany : K.lookup f_lmany = some ⟨oc_lmany, od_lmany, .func (PySem.W.fnOf "_law_many" "_law_many" (defArgs s_lmany) (defBody s_lmany) (defScope s_lmany) .none kV_lmany dc_lmany pm_lmany an_lmany cd_lmany ct_lmany), sl_lmany⟩)
    (c_lmany : PySem.W.codeIn K cd_lmany "_law_many" = true) (k_lmany : PySem.W.keepIn K (.ref f_lmany) = true)
    (a_lis : PySem.W.nsIn K mainGlobals "_law_is" = some (some (.ref f_lis)))
    (l_lis : K.lookup f_lis = some ⟨oc_lis, od_lis, .func (PySem.W.fnOf "_law_is" "_law_is" (defArgs s_lis) (defBody s_lis) (defScope s_lis) .none kV_lis dc_lis pm_lis an_lis cd_lis ct_lis), sl_lis⟩)
    (c_lis : PySem.W.codeIn K cd_lis "_law_is" = true) (k_lis : PySem.W.keepIn K (.ref f_lis) = true)
    (a_lstep_right : PySem.W.nsIn K mainGlobals "_law_step_right" = some (some (.ref f_lstep_right)))
    (l_lstep_right : K.lookup f_lstep_right = some ⟨oc_lstep_right, od_lstep_right, .func (PySem.W.fnOf "_law_step_right" "_law_step_right" (defArgs s_lstep_right) (defBody s_lstep_right) (defScope s_lstep_right) .none kV_lstep_right dc_lstep_right pm_lstep_right an_lstep_right cd_lstep_right ct_lstep_right), sl_lstep_right⟩)
    (c_lstep_right : PySem.W.codeIn K cd_lstep_right "_law_step_right" = true) (k_lstep_right : PySem.W.keepIn K (.ref f_lstep_right) = true)
    (a_ljoined_right : PySem.W.nsIn K mainGlobals "_law_joined_right" = some (some (.ref f_ljoined_right)))
    (l_ljoined_right : K.lookup f_ljoined_right = some ⟨oc_ljoined_right, od_ljoined_right, .func (PySem.W.fnOf "_law_joined_right" "_law_joined_right" (defArgs s_ljoined_right) (defBody s_ljoined_right) (defScope s_ljoined_right) .none kV_ljoined_right dc_ljoined_right pm_ljoined_right an_ljoined_right cd_ljoined_right ct_ljoined_right), sl_ljoined_right⟩)
    (c_ljoined_right : PySem.W.codeIn K cd_ljoined_right "_law_joined_right" = true) (k_ljoined_right : PySem.W.keepIn K (.ref f_ljoined_right) = true)
    (a_lone : PySem.W.nsIn K mainGlobals "_law_one" = some (some (.ref f_lone)))
    (l_lone : K.lookup f_lone = some ⟨oc_lone, od_lone, .func (PySem.W.fnOf "_law_one" "_law_one" (defArgs s_lone) (defBody s_lone) (defScope s_lone) .none kV_lone dc_lone pm_lone an_lone cd_lone ct_lone), sl_lone⟩)
    (c_lone : PySem.W.codeIn K cd_lone "_law_one" = true) (k_lone : PySem.W.keepIn K (.ref f_lone) = true)
    (a_law : PySem.W.nsIn K mainGlobals "law" = some (some (.ref f_law)))
    (l_law : K.lookup f_law = some ⟨oc_law, od_law, .func (PySem.W.fnOf "law" "law" (defArgs s_law) (defBody s_law) (defScope s_law) .none kV_law dc_law pm_law an_law cd_law ct_law), sl_law⟩)
    (c_law : PySem.W.codeIn K cd_law "law" = true) (k_law : PySem.W.keepIn K (.ref f_law) = true)
    (n_abs : PySem.W.nsIn K mainGlobals "abs" = some none)
    (n_all : PySem.W.nsIn K mainGlobals "all" = some none)
    (n_bool : PySem.W.nsIn K mainGlobals "bool" = some none)
    (n_divmod : PySem.W.nsIn K mainGlobals "divmod" = some none)
    (n_int : PySem.W.nsIn K mainGlobals "int" = some none)
    (n_isinstance : PySem.W.nsIn K mainGlobals "isinstance" = some none)
    (n_len : PySem.W.nsIn K mainGlobals "len" = some none)
    (n_max : PySem.W.nsIn K mainGlobals "max" = some none)
    (n_min : PySem.W.nsIn K mainGlobals "min" = some none)
    (n_range : PySem.W.nsIn K mainGlobals "range" = some none)
    (n_repr : PySem.W.nsIn K mainGlobals "repr" = some none)
    (n_tuple : PySem.W.nsIn K mainGlobals "tuple" = some none)
    : ∃ fd : FuncData, (∀ (s : Shared) (v : Value), BindsTo s fd ⟨[v], []⟩ [("_law_script", v)]) ∧ ∀ base : Heap, K.In base → base.Ns mainGlobals mg → FnAt callerA l.prog w K mg base CX0 7 fa fd ["_law_script"] (spLaw K) := by
  have e := hfa.symm.trans (PySem.W.mg_of X G a_law)
  cases e
  have F_is_whole := fun_mk (st := s_is_whole) l_is_whole c_is_whole k_is_whole
  have F_greatest_common := fun_mk (st := s_greatest_common) l_greatest_common c_greatest_common k_greatest_common
  have F_part : FunD K "part" "part" (defArgs s_part) (defBody s_part) (defScope s_part) [.int 1] [] f_part _ := ⟨⟨_, _, _, _, _, _, _, _, _, _, rfl, l_part, c_part, .inr ⟨by simp, dT_part, _, [.int 1 dt_part], _, rfl, q_part, rfl, .cons ⟨_, rfl⟩ .nil⟩, .inl rfl⟩, k_part⟩
  obtain ⟨ds_part2, vd_part2, b_part⟩ := F_part.binds1 (ps := ["above", "below"]) 2 1 (by simp) rfl (fun T kV doc pm an cdv ct us its h1 h2 => match us, its, h1, h2 with | [_, _], [_], _, _ => ⟨_, rfl, rfl⟩)
  cases vd_part2
  have F_most := fun_mk (st := s_most) l_most c_most k_most
  have F_lpot := fun_mk (st := s_lpot) l_lpot c_lpot k_lpot
  have F_ldigit := fun_mk (st := s_ldigit) l_ldigit c_ldigit k_ldigit
  have F_llow := fun_mk (st := s_llow) l_llow c_llow k_llow
  have F_lplus := fun_mk (st := s_lplus) l_lplus c_lplus k_lplus
  have F_ltimes := fun_mk (st := s_ltimes) l_ltimes c_ltimes k_ltimes
  have F_lless := fun_mk (st := s_lless) l_lless c_lless k_lless
  have F_lweight := fun_mk (st := s_lweight) l_lweight c_lweight k_lweight
  have F_lmany := fun_mk (st := s_lmany) l_lmany c_lmany k_lmany
  have F_lis := fun_mk (st := s_lis) l_lis c_lis k_lis
  have F_lstep_right := fun_mk (st := s_lstep_right) l_lstep_right c_lstep_right k_lstep_right
  have F_ljoined_right := fun_mk (st := s_ljoined_right) l_ljoined_right c_ljoined_right k_ljoined_right
  have F_lone := fun_mk (st := s_lone) l_lone c_lone k_lone
  have F_law := fun_mk (st := s_law) l_law c_law k_law
  exact ⟨_, fun s v => .of_eq rfl, fun base _ _ => ok_law (P := l.prog) (w := w) (base := base) ({
      f_is_whole := f_is_whole, d_is_whole := _, g_is_whole := PySem.W.mg_of X G a_is_whole, F_is_whole := F_is_whole, b_is_whole := F_is_whole.binds (ps := ["thing"]) (fun _ _ _ _ _ _ us hl => match us, hl with | [_], _ => rfl),
      f_greatest_common := f_greatest_common, d_greatest_common := _, g_greatest_common := PySem.W.mg_of X G a_greatest_common, F_greatest_common := F_greatest_common, b_greatest_common := F_greatest_common.binds (ps := ["one", "other"]) (fun _ _ _ _ _ _ us hl => match us, hl with | [_, _], _ => rfl),
      f_part := f_part, d_part := _, g_part := PySem.W.mg_of X G a_part, F_part := F_part, b_part := b_part,
      f_most := f_most, d_most := _, g_most := PySem.W.mg_of X G a_most, F_most := F_most, b_most := F_most.binds (ps := ["weight", "seats", "many"]) (fun _ _ _ _ _ _ us hl => match us, hl with | [_, _, _], _ => rfl),
      f_lpot := f_lpot, d_lpot := _, g_lpot := PySem.W.mg_of X G a_lpot, F_lpot := F_lpot, b_lpot := F_lpot.binds (ps := ["_law_script", "_law_k"]) (fun _ _ _ _ _ _ us hl => match us, hl with | [_, _], _ => rfl),
      f_ldigit := f_ldigit, d_ldigit := _, g_ldigit := PySem.W.mg_of X G a_ldigit, F_ldigit := F_ldigit, b_ldigit := F_ldigit.binds (ps := ["_law_pot_here", "_law_many_here"]) (fun _ _ _ _ _ _ us hl => match us, hl with | [_, _], _ => rfl),
      f_llow := f_llow, d_llow := _, g_llow := PySem.W.mg_of X G a_llow, F_llow := F_llow, b_llow := F_llow.binds (ps := ["_law_above", "_law_below"]) (fun _ _ _ _ _ _ us hl => match us, hl with | [_, _], _ => rfl),
      f_lplus := f_lplus, d_lplus := _, g_lplus := PySem.W.mg_of X G a_lplus, F_lplus := F_lplus, b_lplus := F_lplus.binds (ps := ["_law_one_here", "_law_other"]) (fun _ _ _ _ _ _ us hl => match us, hl with | [_, _], _ => rfl),
      f_ltimes := f_ltimes, d_ltimes := _, g_ltimes := PySem.W.mg_of X G a_ltimes, F_ltimes := F_ltimes, b_ltimes := F_ltimes.binds (ps := ["_law_one_here", "_law_many_here"]) (fun _ _ _ _ _ _ us hl => match us, hl with | [_, _], _ => rfl),
      f_lless := f_lless, d_lless := _, g_lless := PySem.W.mg_of X G a_lless, F_lless := F_lless, b_lless := F_lless.binds (ps := ["_law_one_here", "_law_other"]) (fun _ _ _ _ _ _ us hl => match us, hl with | [_, _], _ => rfl),
      f_lweight := f_lweight, d_lweight := _, g_lweight := PySem.W.mg_of X G a_lweight, F_lweight := F_lweight, b_lweight := F_lweight.binds (ps := ["_law_pot_here"]) (fun _ _ _ _ _ _ us hl => match us, hl with | [_], _ => rfl),
      f_lmany := f_lmany, d_lmany := _, g_lmany := PySem.W.mg_of X G a_lmany, F_lmany := F_lmany, b_lmany := F_lmany.binds (ps := ["_law_pot_here", "_law_most_of"]) (fun _ _ _ _ _ _ us hl => match us, hl with | [_, _], _ => rfl),
      f_lis := f_lis, d_lis := _, g_lis := PySem.W.mg_of X G a_lis, F_lis := F_lis, b_lis := F_lis.binds (ps := ["_law_told", "_law_due"]) (fun _ _ _ _ _ _ us hl => match us, hl with | [_, _], _ => rfl),
      f_lstep_right := f_lstep_right, d_lstep_right := _, g_lstep_right := PySem.W.mg_of X G a_lstep_right, F_lstep_right := F_lstep_right, b_lstep_right := F_lstep_right.binds (ps := ["_law_pot_here", "_law_weight_here", "_law_seats", "_law_many_here"]) (fun _ _ _ _ _ _ us hl => match us, hl with | [_, _, _, _], _ => rfl),
      f_ljoined_right := f_ljoined_right, d_ljoined_right := _, g_ljoined_right := PySem.W.mg_of X G a_ljoined_right, F_ljoined_right := F_ljoined_right, b_ljoined_right := F_ljoined_right.binds (ps := ["_law_pot_here", "_law_weight_here", "_law_seats", "_law_many_here"]) (fun _ _ _ _ _ _ us hl => match us, hl with | [_, _, _, _], _ => rfl),
      f_lone := f_lone, d_lone := _, g_lone := PySem.W.mg_of X G a_lone, F_lone := F_lone, b_lone := F_lone.binds (ps := ["_law_pot_here"]) (fun _ _ _ _ _ _ us hl => match us, hl with | [_], _ => rfl),
      f_law := _, d_law := _, g_law := PySem.W.mg_of X G a_law, F_law := F_law, b_law := F_law.binds (ps := ["_law_script"]) (fun _ _ _ _ _ _ us hl => match us, hl with | [_], _ => rfl),
      n_abs := PySem.W.mg_none_of X G n_abs,
      n_all := PySem.W.mg_none_of X G n_all,
      n_bool := PySem.W.mg_none_of X G n_bool,
      n_divmod := PySem.W.mg_none_of X G n_divmod,
      n_int := PySem.W.mg_none_of X G n_int,
      n_isinstance := PySem.W.mg_none_of X G n_isinstance,
      n_len := PySem.W.mg_none_of X G n_len,
      n_max := PySem.W.mg_none_of X G n_max,
      n_min := PySem.W.mg_none_of X G n_min,
      n_range := PySem.W.mg_none_of X G n_range,
      n_repr := PySem.W.mg_none_of X G n_repr,
      n_tuple := PySem.W.mg_none_of X G n_tuple } : Tx K mg) rfl⟩
end WS
open PySem PySem.W PyProof.Rows
set_option maxHeartbeats 0 in
theorem PySem.Challenge.cw_whoserves_k19_the_most_by_joins_and_step_holds : PySem.Challenge.rw_whoserves_k19_the_most_by_joins_and_step.Holds := by
  w_on; o_law; k_head; (case hw => w_witness2)
  k_fill
  refine WS.walk_G (l := PySem.Challenge.rw_whoserves_k19_the_most_by_joins_and_step) (n := 63) (k := 7) (x := "_law_script") (sp := fun w => WS.spLaw _) rfl (by decide) rfl ⟨rfl, by decide, by decide⟩ (fun w h Y => PySem.W.kIn_of Y) ?F (fun _ _ a ns hl hS => ⟨a, ns, rfl, hS, hl, fun _ => rfl⟩)
  case F =>
    intro w mg fa h KX G hmg
    refine' WS.all_mk KX G hmg ?a_is_whole ?l_is_whole ?c_is_whole ?k_is_whole ?a_greatest_common ?l_greatest_common ?c_greatest_common ?k_greatest_common ?a_part ?l_part ?c_part ?k_part ?q_part ?a_most ?l_most ?c_most ?k_most ?a_lpot ?l_lpot ?c_lpot ?k_lpot ?a_ldigit ?l_ldigit ?c_ldigit ?k_ldigit ?a_llow ?l_llow ?c_llow ?k_llow ?a_lplus ?l_lplus ?c_lplus ?k_lplus ?a_ltimes ?l_ltimes ?c_ltimes ?k_ltimes ?a_lless ?l_lless ?c_lless ?k_lless ?a_lweight ?l_lweight ?c_lweight ?k_lweight ?a_lmany ?l_lmany ?c_lmany ?k_lmany ?a_lis ?l_lis ?c_lis ?k_lis ?a_lstep_right ?l_lstep_right ?c_lstep_right ?k_lstep_right ?a_ljoined_right ?l_ljoined_right ?c_ljoined_right ?k_ljoined_right ?a_lone ?l_lone ?c_lone ?k_lone ?a_law ?l_law ?c_law ?k_law ?n_abs ?n_all ?n_bool ?n_divmod ?n_int ?n_isinstance ?n_len ?n_max ?n_min ?n_range ?n_repr ?n_tuple
    (case a_is_whole => k_is)
    (case l_is_whole => k_is)
    (case c_is_whole => k_is)
    (case k_is_whole => k_is)
    (case a_greatest_common => k_is)
    (case l_greatest_common => k_is)
    (case c_greatest_common => k_is)
    (case k_greatest_common => k_is)
    (case a_part => k_is)
    (case l_part => k_is)
    (case c_part => k_is)
    (case k_part => k_is)
    (case q_part => k_is)
    (case a_most => k_is)
    (case l_most => k_is)
    (case c_most => k_is)
    (case k_most => k_is)
    (case a_lpot => k_is)
    (case l_lpot => k_is)
    (case c_lpot => k_is)
    (case k_lpot => k_is)
    (case a_ldigit => k_is)
    (case l_ldigit => k_is)
    (case c_ldigit => k_is)
    (case k_ldigit => k_is)
    (case a_llow => k_is)
    (case l_llow => k_is)
    (case c_llow => k_is)
    (case k_llow => k_is)
    (case a_lplus => k_is)
    (case l_lplus => k_is)
    (case c_lplus => k_is)
    (case k_lplus => k_is)
    (case a_ltimes => k_is)
    (case l_ltimes => k_is)
    (case c_ltimes => k_is)
    (case k_ltimes => k_is)
    (case a_lless => k_is)
    (case l_lless => k_is)
    (case c_lless => k_is)
    (case k_lless => k_is)
    (case a_lweight => k_is)
    (case l_lweight => k_is)
    (case c_lweight => k_is)
    (case k_lweight => k_is)
    (case a_lmany => k_is)
    (case l_lmany => k_is)
    (case c_lmany => k_is)
    (case k_lmany => k_is)
    (case a_lis => k_is)
    (case l_lis => k_is)
    (case c_lis => k_is)
    (case k_lis => k_is)
    (case a_lstep_right => k_is)
    (case l_lstep_right => k_is)
    (case c_lstep_right => k_is)
    (case k_lstep_right => k_is)
    (case a_ljoined_right => k_is)
    (case l_ljoined_right => k_is)
    (case c_ljoined_right => k_is)
    (case k_ljoined_right => k_is)
    (case a_lone => k_is)
    (case l_lone => k_is)
    (case c_lone => k_is)
    (case k_lone => k_is)
    (case a_law => k_is)
    (case l_law => k_is)
    (case c_law => k_is)
    (case k_law => k_is)
    (case n_abs => k_is)
    (case n_all => k_is)
    (case n_bool => k_is)
    (case n_divmod => k_is)
    (case n_int => k_is)
    (case n_isinstance => k_is)
    (case n_len => k_is)
    (case n_max => k_is)
    (case n_min => k_is)
    (case n_range => k_is)
    (case n_repr => k_is)
    (case n_tuple => k_is)

