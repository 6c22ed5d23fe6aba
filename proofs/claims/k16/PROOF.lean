import PyProof.Rows.All
import Wide.All
import OpenK.AllK
import Wide.FinOn
import HandS.ForMost
import HandS.ForExc
import HandS.Wide
import HandS.WideBits
import HandS.Defaults
import HandS.IsInst
import HandS.TryOnly
import HandS.ExcIs
import HandS.Codes
import PyProof.ReprRoads
import HandS.FStrTup
import HandS.HotCalls
import HandS.ExcCtx
import HandS.Style
import PySem.Challenge.RW_whoserves_k16_what_makes_no_part
namespace WS
/-! lowest terms -/
def lo (a b : Int) : Int × Int := (a / (Int.gcd a b : Int), b / (Int.gcd a b : Int))
def Lowest (a b : Int) : Prop := 0 < b ∧ Int.gcd a b = 1
theorem gcd_pos {a b : Int} (h : b ≠ 0) : 0 < Int.gcd a b := by
  have := (Int.gcd_pos_iff (a := a) (b := b)).mpr (Or.inr h)
  exact this
theorem lo_fst (a b : Int) : (lo a b).1 * (Int.gcd a b : Int) = a := Int.ediv_mul_cancel (Int.gcd_dvd_left a b)
theorem lo_snd (a b : Int) : (lo a b).2 * (Int.gcd a b : Int) = b := Int.ediv_mul_cancel (Int.gcd_dvd_right a b)
theorem lo_lowest {a b : Int} (h : 0 < b) : Lowest (lo a b).1 (lo a b).2 := by
  have g : 0 < Int.gcd a b := gcd_pos (by omega)
  refine ⟨?_, Int.gcd_ediv_gcd_ediv_gcd g⟩
  have e := lo_snd a b
  apply Decidable.byContradiction
  intro n
  have : (lo a b).2 * (Int.gcd a b : Int) ≤ 0 := Int.mul_nonpos_of_nonpos_of_nonneg (by omega) (by omega)
  omega
theorem lo_cross (a b : Int) : (lo a b).1 * b = a * (lo a b).2 := by
  have e1 := lo_fst a b
  have e2 := lo_snd a b
  have h1 : (lo a b).1 * b = (lo a b).1 * ((lo a b).2 * (Int.gcd a b : Int)) := by rw [e2]
  have h2 : a * (lo a b).2 = ((lo a b).1 * (Int.gcd a b : Int)) * (lo a b).2 := by rw [e1]
  rw [h1, h2]
  simp only [Int.mul_assoc, Int.mul_comm, Int.mul_left_comm]
theorem dvd_cop {a b y : Int} (hg : Int.gcd a b = 1) (h : b ∣ a * y) : b ∣ y := by
  have h1 : b.natAbs ∣ a.natAbs * y.natAbs := by
    rw [← Int.natAbs_mul]
    exact Int.natAbs_dvd_natAbs.mpr h
  have c : Nat.Coprime b.natAbs a.natAbs := by
    have : Nat.gcd a.natAbs b.natAbs = 1 := hg
    exact (Nat.gcd_comm _ _).trans this
  exact Int.natAbs_dvd_natAbs.mp (c.dvd_of_dvd_mul_left h1)
theorem lowest_unique {a b x y : Int} (h : Lowest a b) (k : Lowest x y) (e : x * b = a * y) : x = a ∧ y = b := by
  have d1 : b ∣ y := dvd_cop h.2 (by rw [← e]; exact Int.dvd_mul_left _ _)
  have d2 : y ∣ b := dvd_cop k.2 (by rw [e]; exact Int.dvd_mul_left _ _)
  have hb := h.1
  have hy := k.1
  have l1 : b ≤ y := Int.le_of_dvd hy d1
  have l2 : y ≤ b := Int.le_of_dvd hb d2
  have ey : y = b := by omega
  refine ⟨?_, ey⟩
  rw [ey] at e
  exact Int.eq_of_mul_eq_mul_right (by omega) e
theorem lo_eq {a b x y : Int} (h : Lowest a b) (hy : 0 < y) (e : x * b = a * y) : lo x y = (a, b) := by
  have k := lo_lowest (a := x) hy
  have c := lo_cross x y
  have g : (lo x y).1 * b = a * (lo x y).2 := by
    have : ((lo x y).1 * b) * y = (a * (lo x y).2) * y := by
      calc ((lo x y).1 * b) * y = ((lo x y).1 * y) * b := by simp only [Int.mul_assoc, Int.mul_comm, Int.mul_left_comm]
        _ = (x * (lo x y).2) * b := by rw [c]
        _ = (x * b) * (lo x y).2 := by simp only [Int.mul_assoc, Int.mul_comm, Int.mul_left_comm]
        _ = (a * y) * (lo x y).2 := by rw [e]
        _ = (a * (lo x y).2) * y := by simp only [Int.mul_assoc, Int.mul_comm, Int.mul_left_comm]
    exact Int.eq_of_mul_eq_mul_right (by omega) this
  have u := lowest_unique h k g
  exact Prod.ext u.1 u.2
theorem lo_of {a b : Int} (h : Lowest a b) : lo a b = (a, b) := lo_eq h h.1 rfl
theorem ediv_natAbs_le (a : Int) (g : Nat) : (a / (g : Int)).natAbs ≤ a.natAbs := by
  cases g with
  | zero => simp
  | succ g => exact Int.natAbs_ediv_le_natAbs _ _
theorem lo_fst_le (a b : Int) : (lo a b).1.natAbs ≤ a.natAbs := ediv_natAbs_le a _
theorem lo_snd_le (a b : Int) : (lo a b).2.natAbs ≤ b.natAbs := ediv_natAbs_le b _
/-! bits -/
def Bt (n : Nat) (a : Int) : Prop := a.natAbs < 2 ^ n
theorem Bt.mono {n m : Nat} {a : Int} (h : Bt n a) (k : n ≤ m) : Bt m a := Nat.lt_of_lt_of_le h (Nat.pow_le_pow_right (by decide) k)
theorem Bt.of_le {n : Nat} {a b : Int} (h : Bt n b) (k : a.natAbs ≤ b.natAbs) : Bt n a := Nat.lt_of_le_of_lt k h
theorem Bt.mul {n m : Nat} {a b : Int} (h : Bt n a) (k : Bt m b) : Bt (n + m) (a * b) := by
  unfold Bt
  rw [Int.natAbs_mul, Nat.pow_add]
  exact Nat.mul_lt_mul'' h k
theorem Bt.add {n : Nat} {a b : Int} (h : Bt n a) (k : Bt n b) : Bt (n + 1) (a + b) := by
  unfold Bt at *
  have := Int.natAbs_add_le a b
  rw [Nat.pow_succ]
  omega
theorem Bt.sub {n : Nat} {a b : Int} (h : Bt n a) (k : Bt n b) : Bt (n + 1) (a - b) := by
  unfold Bt at *
  have : (a - b).natAbs ≤ a.natAbs + b.natAbs := Int.natAbs_sub_le a b
  rw [Nat.pow_succ]
  omega
theorem Bt.neg {n : Nat} {a : Int} (h : Bt n a) : Bt n (-a) := by
  unfold Bt at *
  rw [Int.natAbs_neg]
  exact h
theorem Bt.lo1 {n : Nat} {a b : Int} (h : Bt n a) : Bt n (lo a b).1 := h.of_le (lo_fst_le a b)
theorem Bt.lo2 {n : Nat} {a b : Int} (h : Bt n b) : Bt n (lo a b).2 := h.of_le (lo_snd_le a b)
theorem Bt.of_lt {n : Nat} {a : Int} (h0 : -(2 ^ n) < a) (h : a < 2 ^ n) : Bt n a := by
  unfold Bt
  have e : ((2 ^ n : Nat) : Int) = 2 ^ n := by simp
  omega
/-! the loop of the greatest number that goes into both -/
theorem gcd_step {x y : Int} (hx : 0 ≤ x) (hy : 0 < y) : Int.gcd y (x % y) = Int.gcd x y := by
  show Nat.gcd y.natAbs (x % y).natAbs = Nat.gcd x.natAbs y.natAbs
  have e : (x % y).natAbs = x.natAbs % y.natAbs := by
    have : x % y = ((x.natAbs % y.natAbs : Nat) : Int) := by
      rw [Int.natCast_emod]
      rw [Int.natAbs_of_nonneg hx, Int.natAbs_of_nonneg (by omega)]
    rw [this]
    rfl
  rw [e, Nat.gcd_comm y.natAbs, ← Nat.gcd_rec, Nat.gcd_comm]
theorem gcd_zero {x : Int} (hx : 0 ≤ x) : (Int.gcd x 0 : Int) = x := by
  have : Int.gcd x 0 = x.natAbs := Int.gcd_zero_right x
  rw [this]
  exact Int.natAbs_of_nonneg hx
theorem gcd_abs (a b : Int) : Int.gcd (if a < 0 then -a else a) b = Int.gcd a b := by
  split
  · exact Int.neg_gcd
  · rfl
/-! sums of parts -/
def pl (p q : Int × Int) : Int × Int := lo (p.1 * q.2 + q.1 * p.2) (p.2 * q.2)
theorem lo_neg_den {a b : Int} : lo a b = lo a b := rfl
end WS
set_option Elab.async false
set_option linter.all false
set_option maxRecDepth 100000
set_option maxHeartbeats 4000000
namespace WS
open PySem PySem.Spec PyProof.Rows L2
/-! heaps: what is new beside what stood; a pot that changes -/
theorem same_new {H : Hp} {p : Addr} {o : HO} (h : H p = none) : Same H (upd H p o) := fun b x e => by
  rw [upd_ne (ne_of_none e h)]
  exact e
theorem Same.tup {K : PySem.W.Frag} {H H' : Hp} {a : Addr} {xs : List V} (e : Same H H') (h : SqT K H a xs) : SqT K H' a xs := by
  rcases h with (h | ⟨o, h⟩) | h
  · exact .inl (.inl (e _ _ h))
  · exact .inl (.inr ⟨o, e _ _ h⟩)
  · exact .inr h
def SameX (p : Addr) (H H' : Hp) : Prop := ∀ b o, b ≠ p → H b = some o → H' b = some o
theorem SameX.refl (p : Addr) (H : Hp) : SameX p H H := fun _ _ _ h => h
theorem SameX.trans {p : Addr} {H H1 H2 : Hp} (a : SameX p H H1) (b : SameX p H1 H2) : SameX p H H2 := fun c o n h => b c o n (a c o n h)
theorem Same.x {p : Addr} {H H1 : Hp} (a : Same H H1) : SameX p H H1 := fun c o _ h => a c o h
theorem samex_set {p : Addr} {H : Hp} {o : HO} : SameX p H (upd H p o) := fun b x n e => by
  rw [upd_ne n]
  exact e
/-- a pot: two numbers, from which digits are drawn -/
def PotAt (H : Hp) (p : Addr) : Prop := ∃ x y : Int, H p = some (.lst [.int x, .int y]) ∧ 0 ≤ x ∧ 0 ≤ y ∧ y < 2147483648
theorem SameX.tup {K : PySem.W.Frag} {p : Addr} {H H' : Hp} {a : Addr} {xs : List V} (e : SameX p H H') (hp : PotAt H p) (h : SqT K H a xs) : SqT K H' a xs := by
  obtain ⟨x, y, hp, _⟩ := hp
  rcases h with (h | ⟨o, h⟩) | h
  · exact .inl (.inl (e _ _ (ne_of h hp (by intro z; cases z)) h))
  · exact .inl (.inr ⟨o, e _ _ (ne_of h hp (by intro z; cases z)) h⟩)
  · exact .inr h
theorem SameX.lst {K : PySem.W.Frag} {p : Addr} {H H' : Hp} {a : Addr} {xs : List V} (e : SameX p H H') (n : a ≠ p) (h : SqL K H a xs) : SqL K H' a xs := by
  rcases h with (h | ⟨o, h⟩) | h
  · exact .inl (.inl (e _ _ n h))
  · exact .inl (.inr ⟨o, e _ _ n h⟩)
  · exact .inr h
theorem PotAt.same {H H' : Hp} {p : Addr} (h : PotAt H p) (s : Same H H') : PotAt H' p := by
  obtain ⟨x, y, e, r⟩ := h
  exact ⟨x, y, s _ _ e, r⟩
/-! pairs of numbers -/
def TupI (K : PySem.W.Frag) (H : Hp) (v : V) (a b : Int) : Prop := ∃ t, v = .ref t ∧ SqT K H t [.int a, .int b]
theorem TupI.same {K : PySem.W.Frag} {H H' : Hp} {v : V} {a b : Int} (h : TupI K H v a b) (s : Same H H') : TupI K H' v a b := by
  obtain ⟨t, e, h⟩ := h
  exact ⟨t, e, Same.tup s h⟩
theorem TupI.x {K : PySem.W.Frag} {H H' : Hp} {p : Addr} {v : V} {a b : Int} (h : TupI K H v a b) (s : SameX p H H') (hp : PotAt H p) : TupI K H' v a b := by
  obtain ⟨t, e, h⟩ := h
  exact ⟨t, e, SameX.tup s hp h⟩
theorem TupI.new {K : PySem.W.Frag} {H : Hp} {p : Addr} {a b : Int} : TupI K (upd H p (.tup [.int a, .int b])) (.ref p) a b := ⟨p, rfl, .inl (.inl upd_same)⟩
def NewT (K : PySem.W.Frag) (H : Hp) (x y : Int) (Q : VK) : Prop := ∀ v H', Same H H' → TupI K H' v x y → Q v H'
/-! kinds -/
theorem sqt_ty {K : PySem.W.Frag} {H : Hp} {a : Addr} {xs : List V} (h : SqT K H a xs) : TyX K H (.ref a) (.type "tuple") := by
  rcases h with (h | ⟨o, h⟩) | ⟨o, its, n, h1, h2, _⟩
  · exact .base (.tup h)
  · exact .fTuple h
  · exact .kTuple h1 h2
/-- whether a thing is a whole number -/
def WholeIs (K : PySem.W.Frag) (H : Hp) (v : V) (b : Bool) : Prop := ∃ t b1 b2, TyX K H v t ∧ PySem.W.kitOne K t (.type "int") = some b1 ∧ PySem.W.kitOne K t (.type "bool") = some b2 ∧ b = (b1 && !b2)
theorem whole_int {K : PySem.W.Frag} {H : Hp} {i : Int} : WholeIs K H (.int i) true := ⟨_, true, false, .base (.int i), kit_ty (by decide +kernel), kit_ty (by decide +kernel), rfl⟩
theorem whole_non {K : PySem.W.Frag} {H : Hp} : WholeIs K H .non false := ⟨_, false, false, .base .non, kit_ty (by decide +kernel), kit_ty (by decide +kernel), rfl⟩
theorem whole_bl {K : PySem.W.Frag} {H : Hp} {b : Bool} : WholeIs K H (.bl b) false := ⟨_, true, true, .base (.bl b), kit_ty (by decide +kernel), kit_ty (by decide +kernel), rfl⟩
theorem whole_str {K : PySem.W.Frag} {H : Hp} {z : Str} : WholeIs K H (.str z) false := ⟨_, false, false, .base (.str z), kit_ty (by decide +kernel), kit_ty (by decide +kernel), rfl⟩
theorem whole_tup {K : PySem.W.Frag} {H : Hp} {a : Addr} {xs : List V} (h : SqT K H a xs) : WholeIs K H (.ref a) false := ⟨_, false, false, sqt_ty h, kit_ty (by decide +kernel), kit_ty (by decide +kernel), rfl⟩
theorem whole_lst {K : PySem.W.Frag} {H : Hp} {a : Addr} {xs : List V} (h : H a = some (.lst xs)) : WholeIs K H (.ref a) false := ⟨_, false, false, .base (.lst h), kit_ty (by decide +kernel), kit_ty (by decide +kernel), rfl⟩
/-! sizes -/
theorem Bt.cdiv {n : Nat} {i j : Int} (h : 0 < j) (hb : Bt n j) (h9 : n ≤ 8999) : CDivW i j := wide_div (b := n + 1) h (hb.mono (Nat.le_succ n)) (Nat.succ_pos n) (by omega)
theorem Bt.cmul {n m : Nat} {i j : Int} (ha : Bt n i) (hb : Bt m j) (h : n + m ≤ 900000) : CMulW i j := wide_mul (a := n + 1) (b := m + 1) (ha.mono (Nat.le_succ n)) (hb.mono (Nat.le_succ m)) (Nat.succ_pos n) (Nat.succ_pos m) (by omega)
theorem gcd_bt {n : Nat} {a b : Int} (h : 0 < b) (hb : Bt n b) : Bt n (Int.gcd a b : Int) := by
  refine hb.of_le ?_
  have : Int.gcd a b ≤ b.natAbs := Nat.le_of_dvd (by omega) (Nat.gcd_dvd_right a.natAbs b.natAbs)
  simpa using this
/-! promises -/
def spWhole (K : PySem.W.Frag) : Sp := fun vs H Q _ => ∃ v b, vs = [v] ∧ WholeIs K H v b ∧ Q (.bl b) H
def spGcd : Sp := fun vs H Q _ => ∃ x y : Int, vs = [.int x, .int y] ∧ 0 ≤ x ∧ 0 ≤ y ∧ Q (.int (Int.gcd x y)) H
def spLow (K : PySem.W.Frag) : Sp := fun vs H Q _ => ∃ a b : Int, vs = [.int a, .int b] ∧ 0 < b ∧ Bt 8999 b ∧ NewT K H (lo a b).1 (lo a b).2 Q
/-- two pairs and what is made of them -/
def spTwo (K : PySem.W.Frag) (f : Int → Int → Int → Int → Int × Int) : Sp := fun vs H Q _ => ∃ u v a b c d, vs = [u, v] ∧ TupI K H u a b ∧ TupI K H v c d ∧ 0 < b ∧ 0 < d ∧ Bt 4400 a ∧ Bt 4400 b ∧ Bt 4400 c ∧ Bt 4400 d ∧ NewT K H (f a b c d).1 (f a b c d).2 Q
def spTimes (K : PySem.W.Frag) : Sp := fun vs H Q _ => ∃ u a b m, vs = [u, .int m] ∧ TupI K H u a b ∧ 0 < b ∧ Bt 4400 a ∧ Bt 4400 b ∧ Bt 4400 m ∧ NewT K H (lo (a * m) b).1 (lo (a * m) b).2 Q
def Bad (K : PySem.W.Frag) (H : Hp) (m : V) : Prop := WholeIs K H m false ∨ ∃ i : Int, m = .int i ∧ i < 1
def spShared (K : PySem.W.Frag) (C : Addr) : Sp := fun vs H Q E => ∃ u a b m, vs = [u, m] ∧ TupI K H u a b ∧ ((Bad K H m ∧ E (.ref C) none H) ∨ ∃ i : Int, m = .int i ∧ 1 ≤ i ∧ 0 < b ∧ Bt 4400 a ∧ Bt 4400 b ∧ Bt 4400 i ∧ NewT K H (lo a (b * i)).1 (lo a (b * i)).2 Q)
def spDigit : Sp := fun vs H Q _ => ∃ p m, vs = [.ref p, .int m] ∧ PotAt H p ∧ 0 < m ∧ Bt 8999 m ∧ ∀ d H', 0 ≤ d → d < m → SameX p H H' → PotAt H' p → Q (.int d) H'
def spPot (K : PySem.W.Frag) : Sp := fun vs H Q _ => ∃ (a : Addr) (ns : List Int) (k : Int), vs = [.ref a, .int k] ∧ SqL K H a (ns.map V.int) ∧ 0 ≤ k ∧ k < 100 ∧ ∀ p H', Same H H' → H p = none → PotAt H' p → Q (.ref p) H'
/-! all tuples stay -/
def KT (H H' : Hp) : Prop := (∀ a xs, H a = some (.tup xs) → H' a = some (.tup xs)) ∧ (∀ a o xs, H a = some (.frz o (.tup xs)) → H' a = some (.frz o (.tup xs)))
theorem KT.refl (H : Hp) : KT H H := ⟨fun _ _ h => h, fun _ _ _ h => h⟩
theorem KT.trans {H H1 H2 : Hp} (a : KT H H1) (b : KT H1 H2) : KT H H2 := ⟨fun c o h => b.1 c o (a.1 c o h), fun c o x h => b.2 c o x (a.2 c o x h)⟩
theorem kt_same {H H' : Hp} (s : Same H H') : KT H H' := ⟨fun _ _ h => s _ _ h, fun _ _ _ h => s _ _ h⟩
theorem kt_x {p : Addr} {H H' : Hp} (s : SameX p H H') (hp : PotAt H p) : KT H H' := by
  obtain ⟨x, y, hp, _⟩ := hp
  exact ⟨fun a xs h => s _ _ (ne_of h hp (by intro z; cases z)) h, fun a o xs h => s _ _ (ne_of h hp (by intro z; cases z)) h⟩
theorem kt_set {H : Hp} {D : Addr} {xs ys : List V} (h : H D = some (.lst xs)) : KT H (upd H D (.lst ys)) :=
  ⟨fun a zs e => by rw [upd_ne (ne_of e h (by intro z; cases z))]; exact e, fun a o zs e => by rw [upd_ne (ne_of e h (by intro z; cases z))]; exact e⟩
theorem kt_new {H : Hp} {D : Addr} {o : HO} (h : H D = none) : KT H (upd H D o) := kt_same (same_new h)
theorem KT.sqt {K : PySem.W.Frag} {H H' : Hp} {a : Addr} {xs : List V} (e : KT H H') (h : SqT K H a xs) : SqT K H' a xs := by
  rcases h with (h | ⟨o, h⟩) | h
  · exact .inl (.inl (e.1 _ _ h))
  · exact .inl (.inr ⟨o, e.2 _ _ _ h⟩)
  · exact .inr h
theorem TupI.k {K : PySem.W.Frag} {H H' : Hp} {v : V} {a b : Int} (h : TupI K H v a b) (s : KT H H') : TupI K H' v a b := by
  obtain ⟨t, e, h⟩ := h
  exact ⟨t, e, s.sqt h⟩
/-- values that are pairs -/
def Parts (K : PySem.W.Frag) (H : Hp) (rs : List V) (ps : List (Int × Int)) : Prop := rs.length = ps.length ∧ ∀ (i : Nat) v, rs[i]? = some v → ∃ p, ps[i]? = some p ∧ TupI K H v p.1 p.2
theorem Parts.k {K : PySem.W.Frag} {H H' : Hp} {rs : List V} {ps : List (Int × Int)} (h : Parts K H rs ps) (s : KT H H') : Parts K H' rs ps :=
  ⟨h.1, fun i v e => by obtain ⟨p, e1, e2⟩ := h.2 i v e; exact ⟨p, e1, e2.k s⟩⟩
theorem Parts.nil {K : PySem.W.Frag} {H : Hp} : Parts K H [] [] := ⟨rfl, fun i v e => by simp at e⟩
theorem Parts.cons {K : PySem.W.Frag} {H : Hp} {v : V} {rs : List V} {p : Int × Int} {ps : List (Int × Int)} (h : TupI K H v p.1 p.2) (k : Parts K H rs ps) : Parts K H (v :: rs) (p :: ps) :=
  ⟨by simp [k.1], fun i x e => by
    cases i with
    | zero => exact ⟨p, rfl, by have e : v = x := Option.some.inj e; rw [← e]; exact h⟩
    | succ i => exact k.2 i x e⟩
theorem Parts.add {K : PySem.W.Frag} {H : Hp} {v : V} {rs : List V} {p : Int × Int} {ps : List (Int × Int)} (k : Parts K H rs ps) (h : TupI K H v p.1 p.2) : Parts K H (rs ++ [v]) (ps ++ [p]) :=
  ⟨by simp [k.1], fun i x e => by
    by_cases hi : i < rs.length
    · rw [List.getElem?_append_left hi] at e
      obtain ⟨q, e1, e2⟩ := k.2 i x e
      exact ⟨q, by rw [List.getElem?_append_left (by rw [← k.1]; exact hi)]; exact e1, e2⟩
    · rw [List.getElem?_append_right (by omega)] at e
      have hl := k.1
      have z : i - rs.length = 0 := by
        cases hz : i - rs.length with
        | zero => rfl
        | succ n => rw [hz] at e; simp at e
      rw [z] at e
      have e : v = x := Option.some.inj e
      refine ⟨p, ?_, by rw [← e]; exact h⟩
      rw [List.getElem?_append_right (by omega), show i - ps.length = 0 by omega]
      rfl⟩
/-- a number with a below, of at most n bits -/
def Okp (n : Nat) (p : Int × Int) : Prop := 0 < p.2 ∧ Bt n p.1 ∧ Bt n p.2
theorem Okp.mono {n m : Nat} {p : Int × Int} (h : Okp n p) (k : n ≤ m) : Okp m p := ⟨h.1, h.2.1.mono k, h.2.2.mono k⟩
theorem Okp.pl {n m : Nat} {p q : Int × Int} (h : Okp n p) (k : Okp m q) : Okp (n + m + 1) (pl p q) := by
  have hy : 0 < p.2 * q.2 := Int.mul_pos h.1 k.1
  refine ⟨(lo_lowest hy).1, Bt.lo1 ?_, Bt.lo2 ?_⟩
  · have a := h.2.1.mul k.2.2
    have b := (k.2.1.mul h.2.2).mono (show m + n ≤ n + m by omega)
    exact a.add b
  · exact (h.2.2.mul k.2.2).mono (by omega)
theorem fold_okp {n m : Nat} : ∀ (ps : List (Int × Int)) (p : Int × Int), Okp n p → (∀ q ∈ ps, Okp m q) → Okp (n + ps.length * (m + 1)) (ps.foldl pl p)
  | [], p, h, _ => by simpa using h
  | q :: r, p, h, k => by
    have h1 := h.pl (k q (by simp))
    have := fold_okp r (pl p q) h1 (fun x hx => k x (by simp [hx]))
    refine this.mono ?_
    simp only [List.length_cons, Nat.add_mul, Nat.one_mul]
    omega
theorem take_fold {i : Nat} {ps : List (Int × Int)} {p q : Int × Int} (h : ps[i]? = some q) : (ps.take (i + 1)).foldl pl p = pl ((ps.take i).foldl pl p) q := by
  rw [List.take_add_one, h, List.foldl_append]
  rfl
theorem pick {xs : List V} {d : Int} (h0 : 0 ≤ d) (h : d < xs.length) : ∃ v, atI xs d = some v ∧ v ∈ xs :=
  ⟨xs[d.toNat]'(by omega), at_of (j := d.toNat) (by omega) (List.getElem?_eq_getElem _), List.getElem_mem _⟩
def spSum (K : PySem.W.Frag) (n : Nat) : Sp := fun vs H Q _ => ∃ (l : Addr) (rs : List V) (ps : List (Int × Int)), vs = [.ref l] ∧ SqL K H l rs ∧ Parts K H rs ps ∧ (∀ q ∈ ps, Okp n q) ∧ (ps.length + 1) * (n + 1) ≤ 4400 ∧ ∀ v H', Same H H' → TupI K H' v (ps.foldl pl (0, 1)).1 (ps.foldl pl (0, 1)).2 → Q v H'
def spTotal (K : PySem.W.Frag) (n : Nat) : Sp := fun vs H Q _ => ∃ (l : Addr) (u : V) (a b : Int) (rs : List V) (ps : List (Int × Int)), vs = [.ref l, u] ∧ SqT K H l rs ∧ TupI K H u a b ∧ Okp n (a, b) ∧ Parts K H rs ps ∧ (∀ q ∈ ps, Okp n q) ∧ (ps.length + 1) * (n + 1) ≤ 4400 ∧ ∀ v H', Same H H' → TupI K H' v (ps.foldl pl (a, b)).1 (ps.foldl pl (a, b)).2 → Q v H'
def spNum (n : Nat) : Sp := fun vs H Q _ => ∃ p, vs = [.ref p] ∧ PotAt H p ∧ ∀ i H', Bt n i → SameX p H H' → PotAt H' p → Q (.int i) H'
def spDraw (K : PySem.W.Frag) (n : Nat) : Sp := fun vs H Q _ => ∃ p, vs = [.ref p] ∧ PotAt H p ∧ ∀ v a b H', Lowest a b → Bt n a → Bt n b → TupI K H' v a b → SameX p H H' → PotAt H' p → Q v H'
def spIs (K : PySem.W.Frag) : Sp := fun vs H Q _ => ∃ u v a b, vs = [u, v] ∧ TupI K H u a b ∧ TupI K H v a b ∧ Q (.bl true) H
theorem PotAt.ne {H : Hp} {p z : Addr} (h : PotAt H p) (n : H z = none) : z ≠ p := by
  obtain ⟨x, y, e, _⟩ := h
  intro q
  rw [q, e] at n
  cases n
theorem eqv_pair (a b : Int) : PyData.eqv (.tuple [.int a, .int b]) (.tuple [.int a, .int b]) = true := by simp [PyData.eqv, PyData.eqvAll]
theorem share_back {a b i : Int} (h : Lowest a b) (hi : 1 ≤ i) : lo ((lo a (b * i)).1 * i) (lo a (b * i)).2 = (a, b) := by
  have hy : 0 < b * i := Int.mul_pos h.1 (by omega)
  refine lo_eq h (lo_lowest hy).1 ?_
  have c := lo_cross a (b * i)
  calc (lo a (b * i)).1 * i * b = (lo a (b * i)).1 * (b * i) := by simp only [Int.mul_assoc, Int.mul_comm, Int.mul_left_comm]
    _ = a * (lo a (b * i)).2 := c
/-! promises that are kept where no repr is under way -/
def Calm (A : Around) : Prop := A.guards = some []
theorem Calm.down {A : Around} (h : Calm A) (env : Env) : Calm (A.deeper env) := h
structure FnAt (A : Around) (P : Program) (w : World) (K : PySem.W.Frag) (mg : Str → Option Value) (base : Heap) (CX : CXT) (k : Nat) (f : Addr) (fd : FuncData) (ps : List Str) (sp : Sp) : Prop where
  len : ∀ vs H Q E, sp vs H Q E → vs.length = ps.length
  go : ∀ (outer : List Env) (s : Shared) (H : Hp) (args : Args) (us : List Value) (vs : List V) (Q : VK) (E : XK),
    Room k A → Env0 P w K mg base A outer s H → BindsTo s fd args (ps.zip us) → Vals vs us → sp vs H Q E →
    codeAny (model P w) A (.call (.ref f) args) (CR CX outer P w H s Q E) s
theorem fnat_of {A : Around} {P : Program} {w : World} {K : PySem.W.Frag} {mg : Str → Option Value} {base : Heap} {CX : CXT} {k : Nat} {f : Addr} {fd : FuncData} {ps : List Str} {sp : Sp}
    (F : FnOk P w K mg base CX k f fd ps sp) : FnAt A P w K mg base CX k f fd ps sp := ⟨F.len, F.run A⟩
/-- a def by its body, at one place -/
theorem fun_at {A : Around} {P : Program} {w : World} {K : PySem.W.Frag} {mg : Str → Option Value} {base : Heap} {CX : CXT} {x qual : Str} {st : Stmt} {f : Addr} {fd : FuncData} {N ps : List Str} {k : Nat} {sp : Sp}
    (F : Fun K x qual st f fd) (S : FnScope N ps (defScope st)) (len : ∀ vs H Q E, sp vs H Q E → vs.length = ps.length)
    (B : ∀ (cdv : Value) (outer : List Env) (s : Shared) (H : Hp) (vs : List V) (Q : VK) (E : XK),
      Room k (A.deeper (envOfC qual (defScope st) s.heap.objs.size f cdv)) → sp vs H Q E →
      ∃ t, PSs (cxOf CX P w K mg base N qual (defScope st) f cdv A outer s H E) (defBody st) t ∧ t ⟨fun _ H' => Q .non H', Q, fun _ _ => False, fun _ _ => False⟩ (start N vs) H) :
    FnAt A P w K mg base CX (k + 1) f fd ps sp := by
  obtain ⟨oc, od, kV, doc, pm, an, cdv, ct, osl, rfl, at_f, code⟩ := F.ex
  refine ⟨len, ?_⟩
  intro outer s H args us vs Q E room env0 bt vals want
  have inK : K.In s.heap := env0.mod.kin.keeps (fun b o e => (env0.bs b o e).1)
  have kinds : ∀ y ∈ ps.zip us, (defScope st).names.lookup y.1 = some .local ∨ ((defScope st).names.lookup y.1 = some .cell ∧ ((cellsFrom (s.heap.objs.size + 1) (defScope st).names []).lookup y.1).isSome = true) := by
    rintro ⟨n, v⟩ hy
    rcases S.par n (List.of_mem_zip hy).1 with l | c
    · exact .inl l
    · exact .inr ⟨c, PySem.W.cellsFrom_some _ _ _ (.inl c)⟩
  refine codeAny_call_function room.depth (inK _ _ at_f) rfl S.co S.gen rfl (PySem.W.codeRec_of inK code) (bt _ _ _ _ ?_)
  refine wpAny_newFunctionEnv_cells S.kind kinds ?_
  rintro env rfl s1 ic
  refine ⟨(env0.mod.nolimit.keeps fun b o e => (env0.bs b o e).1).keeps ic.toInCall.keep, codeAny_func ?_⟩
  obtain ⟨t, pss, reading⟩ := B cdv outer s H vs Q E (room.deeper _) want
  have inv := inv_start (CX := CX) (E := E) S room.hd env0 (len _ _ _ _ want) vals ic
  refine wpAny_mono (pss.run [] s1 (start N vs) H _ inv reading) ?_ (fun _ _ z => z)
  intro fl s' z
  match fl, z with
  | .ret u, ⟨v, σ', H', J, rv, q⟩ => exact ⟨v, H', J.os, J.bare, J.base, J.hok, rv, q⟩
  | .next, ⟨σ', H', J, q⟩ => exact ⟨.non, H', J.os, J.bare, J.base, J.hok, rfl, q⟩
  | .brk, ⟨_, _, _, q⟩ => exact q.elim
  | .cont, ⟨_, _, _, q⟩ => exact q.elim
/-- f(e, ..) where f keeps its promise at this place -/
theorem pe_callA {X : Cx} {CX : CXT} {k : Nat} {f : Addr} {fd : FuncData} {ps : List Str} {sp : Sp} {dvs : List V} {ds : List Value} {E : XK} {x : Str} {p pos : Pos} {e : Expr} {es : List Expr} {t : TA}
    (F : FnAt X.A X.prog X.w X.K X.mg X.base CX k f fd ps sp) (room : Room k X.A) (gl : Gl X x) (at_x : X.mg x = some (.ref f)) (kp : PySem.W.keepIn X.K (.ref f) = true)
    (bi : Binds X.K fd ps ds) (vd : Vals dvs ds) (ex : Passes CX X E) (args : PA X (e :: es) t)
    (nodbg : (x == ("__debug__" : Str)) = false := by decide) (one : starEach (e :: es) X.env = (false, eval e X.env) :: starEach es X.env := by rfl) (nostar : (backTo pos (starEach es X.env)).any (·.1) = false := by rfl) :
    PE X (.Call (.Name x p) (e :: es) [] pos) (tCall sp dvs E t) := by
  constructor
  intro pins s σ H Q inv want
  refine wpAny_Call_Name_kw (ld_glob inv gl at_x ?_ nodbg)
  refine PySem.W.callWith_K (h₀ := X.base) inv.ok.mod.kin kp (thn (args.run pos pins s σ H _ inv want) ?_) one nostar
  rintro us s1 ⟨vs, H1, inv1, vals, want1⟩
  refine ⟨inv1.kIn, ?_⟩
  have both : Vals (vs ++ dvs) (us ++ ds) := vals.append vd
  have size : (us ++ ds).length = ps.length := both.length.symm.trans (F.len _ _ _ _ want1)
  refine wpAny_call (codeAny_mono (F.go X.stack s1 H1 ⟨us, []⟩ _ _ Q E room inv1.env0 (bi s1 us inv1.kIn size) both want1) ?_)
  intro r s' z
  match r, z with
  | .error er, z => exact ex pins σ H1 s1 er s' inv1 z
  | .ok (.ret u), z => exact inv1.after z
  | .ok .next, z => exact z.elim
  | .ok .brk, z => exact z.elim
  | .ok .cont, z => exact z.elim
/-- repr of data -/
def rRepr (X : Cx) : List V → Hp → VK → Prop := fun xs H Q => ∃ v d, xs = [v] ∧ Dp X.K H v d ∧ d.showable = true ∧ d.hasDict = false ∧ d.depth ≤ 60 ∧ d.shown.length ≤ sizeLine ∧ Q (.str d.shown) H
theorem call_reprD {X : Cx} (g : Calm X.A) (hu : X.A.units + 64 < cLine) : CallR X (.builtin "repr") (rRepr X) := by
  intro pins s σ H xs us Q inv vals want
  obtain ⟨v, d, rfl, dp, sh, nd, dep, len, q⟩ := want
  cases vals with
  | cons rv rest =>
    cases rest
    obtain ⟨as, rd⟩ := Dp.reads inv d v _ dp rv
    have nomod : d.hasDict = true → sysModules ∉ as := fun e => by rw [nd] at e; cases e
    cases dp with
    | non => cases rv; exact PySem.P.repr_of_none ⟨.str _, H, inv.tok _, ⟨_, rfl⟩, q⟩
    | bl b => cases rv; exact PySem.P.repr_of_bool ⟨.str _, H, inv.tok _, ⟨_, rfl⟩, q⟩
    | int i =>
      obtain ⟨t, rfl⟩ := rv
      exact PySem.P.repr_of_int (of_decide_eq_true sh) ⟨.str _, H, inv.tok _, ⟨_, rfl⟩, q⟩
    | str z =>
      obtain ⟨t, rfl⟩ := rv
      exact PySem.P.repr_of_str ⟨.str _, H, inv.tok _, ⟨_, rfl⟩, q⟩ len
    | lst h1 h2 =>
      cases rv
      exact repr_of_reads' rd sh nomod g (by omega) (fun _ _ z => z) (fun h' u tk keep => ⟨.str _, H, inv.kept keep, ⟨_, rfl⟩, q⟩) len
    | tup h1 h2 =>
      cases rv
      exact repr_of_reads' rd sh nomod g (by omega) (fun _ _ z => z) (fun h' u tk keep => ⟨.str _, H, inv.kept keep, ⟨_, rfl⟩, q⟩) len
/-! the end of a law whose def keeps its promise where the law is called -/
theorem begin_at {P : Program} {w : World} {K : PySem.W.Frag} {mg mb : Str → Option Value} {k : Nat} {fa a : Addr} {fd : FuncData} {x : Str} {sp : Sp} {s : Shared} {vs : List Value} {H : Hp}
    (inK : K.In s.heap) (gns : s.heap.Ns mainGlobals mg) (bns : s.heap.Ns builtinsNs mb) (bb : ∀ x : Str, x ≠ "__name__" → mb x = bootBuiltins x) (lim : s.heap.NoLimit) (nogen : s.gens = #[])
    (script : s.heap.get? a = some { cls := .type "list", data := .seq vs.toArray }) (room : Room k callerA)
    (F : ∀ base : Heap, K.In base → base.Ns mainGlobals mg → FnAt callerA P w K mg base CX0 k fa fd [x] sp) (bind1 : ∀ (s : Shared) (u : Value), BindsTo s fd ⟨[u], []⟩ [(x, u)])
    (only : ∀ b u, H b = some u → b = a ∧ K.lookup a = none ∧ ∃ o xs, u = .frz o (.lst xs)) (fits : HOk P w H s.heap)
    (want : sp [.ref a] H (fun v _ => v = .bl true) fun _ _ _ => False) :
    codeAny (model P w) callerA (.call (.ref fa) ⟨[.ref a], []⟩) (fun r s' => r = .ok (.ret (.bool true)) ∧ OldK s.heap s'.heap ∧ s'.os = s.os ∧ AllBare s'.gens) s := by
  have plain : ∀ {b : Addr}, b ≠ a → H b = none := fun {b} nb => by
    cases z : H b with
    | none => rfl
    | some u => exact absurd (only b u z).1 nb
  have noDict : ∀ {b : Addr} {o : Obj} {es : Array DictEntry} {ep : Nat}, s.heap.get? b = some o → o.data = .dict es ep → H b = none := by
    intro b o es ep e de
    refine plain ?_
    rintro rfl
    rw [script] at e
    cases e
    cases de
  have nsb : ∀ {b : Addr} {m : Str → Option Value}, s.heap.Ns b m → (hidT s.heap H).Ns b m := by
    rintro b m ⟨o, es, ep, e, de, rest⟩
    exact ⟨o, es, ep, hidT_get e (noDict e de), de, rest⟩
  have kb : K.In (hidT s.heap H) := by
    intro b o e
    refine hidT_get (inK b o e) ?_
    cases z : H b with
    | none => rfl
    | some u =>
      obtain ⟨rfl, nk, _⟩ := only b u z
      rw [nk] at e
      cases e
  obtain ⟨mc, l1, l2⟩ := lim
  have modu : Mod K mg (hidT s.heap H) := ⟨kb, nsb gns, ⟨mb, nsb bns, bb⟩, ⟨mc, nsb l1, l2⟩⟩
  have noEnv : ∀ b ∈ frs [], H b = none := fun b z => absurd (show b ∈ ([] : List Addr) from z) List.not_mem_nil
  have env0 : Env0 P w K mg (hidT s.heap H) callerA [] s H := ⟨rfl, modu, fun b o e => of_hidT e, Nat.le_of_eq (hidT_size _ _), trivial, noEnv, fits, .of_eq nogen⟩
  refine codeAny_mono ((F _ kb (nsb gns)).go [] s H ⟨[.ref a], []⟩ [.ref a] [.ref a] _ _ room env0 (bind1 s (.ref a)) (.cons rfl .nil) want) ?_
  intro r s' z
  match r, z with
  | .error er, z => exact z.elim
  | .ok .next, z => exact z.elim
  | .ok .brk, z => exact z.elim
  | .ok .cont, z => exact z.elim
  | .ok (.ret u), ⟨v, H', os, bare, un, fits', rel, q⟩ =>
    have q : v = .bl true := q
    subst q
    obtain rfl : u = Value.bool true := rel
    refine ⟨rfl, OldK.of_keep ?_, os, bare⟩
    intro b o e
    cases zb : H b with
    | none => exact un.keep b o e zb (fun z => absurd (show b ∈ ([] : List Addr) from z) List.not_mem_nil) List.not_mem_nil
    | some u =>
      obtain ⟨_, _, ob, xs, rfl⟩ := only b u zb
      have now := (fits' b _ (un.frzs b ob _ zb)).1
      have then_ := (fits b _ zb).1
      rw [e] at then_
      cases then_
      exact now
theorem walk_G {l : PySem.W.OpenLaw} {n k : Nat} {q : Program} {loose : List Str} {XP : (Str → Option Value) → Heap → Prop} {YP : World → Heap → Prop} {d : DefRec} {K : Params → PySem.W.Frag} {sp : World → Sp} {x : Str}
    (most : l.most = some n) (small : n ≤ sizeLine) (nodefault : d.params.defaults = []) (room : Room k callerA)
    (Y : ∀ (w : World) (h : Heap), YP w h → (K w.params).In h)
    (F : ∀ (w : World) (mg : Str → Option Value) (fa : Addr) (h : Heap), (K w.params).In h → h.Ns mainGlobals mg → mg d.name = some (.ref fa) →
      ∃ fd : FuncData, (∀ (s : Shared) (u : Value), BindsTo s fd ⟨[u], []⟩ [(x, u)]) ∧ ∀ base : Heap, (K w.params).In base → base.Ns mainGlobals mg → FnAt callerA l.prog w (K w.params) mg base CX0 k fa fd [x] (sp w))
    (want : ∀ (w : World) (H : Hp) (a : Addr) (ns : List Int), ns.length ≤ n → SqL (K w.params) H a (ns.map V.int) → sp w [.ref a] H (fun v _ => v = .bl true) fun _ _ _ => False) :
    PySem.W.WalkO q loose XP YP l.row.toRowW d [] (fun f vs => PySem.call f vs) := by
  refine Att.attach_call most nodefault ?_
  intro w s0 s mg mb fa o pm cd doc a vs ns G y _ _ _ at_law script hi len nogen
  have inK := Y w _ y
  obtain ⟨fd, b1, f⟩ := F w mg fa _ inK G.T.g at_law
  have rel : Vals (ns.map V.int) vs := vals_ints hi
  have sz : ns.length ≤ sizeLine := Nat.le_trans len small
  cases look : (K w.params).lookup a with
  | some ob =>
    have same := inK a ob look
    rw [script] at same
    cases same
    refine begin_at (H := fun _ => none) inK G.T.g G.T.b G.T.builtins G.T.nolimit nogen script room f b1 (fun b u z => ?_) (fun b u z => ?_) (want w _ a ns len (.inr ⟨_, vs.toArray, _, look, rfl, rfl, rfl, ?_, ?_⟩))
    · have z : (none : Option HO) = some u := z
      cases z
    · have z : (none : Option HO) = some u := z
      cases z
    · rw [List.size_toArray, hi.length]
      exact sz
    · simpa using rel
  | none =>
    have here : ∀ b u, (if b = a then some (HO.frz { cls := .type "list", data := .seq vs.toArray } (.lst (ns.map V.int))) else none) = some u → b = a ∧ u = HO.frz { cls := .type "list", data := .seq vs.toArray } (.lst (ns.map V.int)) := by
      intro b u z
      by_cases hb : b = a
      · rw [if_pos hb] at z
        exact ⟨hb, (Option.some.inj z).symm⟩
      · rw [if_neg hb] at z
        cases z
    refine begin_at (H := fun b => if b = a then some (.frz { cls := .type "list", data := .seq vs.toArray } (.lst (ns.map V.int))) else none) inK G.T.g G.T.b G.T.builtins G.T.nolimit nogen script room f b1 (fun b u z => ?_) (fun b u z => ?_) (want w _ a ns len (.inl (.inr ⟨_, if_pos rfl⟩)))
    · obtain ⟨e1, e2⟩ := here b u z
      exact ⟨e1, look, _, _, e2⟩
    · obtain ⟨rfl, rfl⟩ := here b u z
      exact ⟨script, by rw [List.length_map]; exact sz, vs, _, rel, script⟩
theorem tyes {σ : L2.St} {H : Hp} {F : Bool → Hp → Prop} (h : F true H) : tYes σ H F := h
/-- the script can be read where what it was stays -/
theorem seq_keep {K : PySem.W.Frag} {H H' : Hp} {a : Addr} {xs : List V} (h : SqL K H a xs) (s : ∀ o, H a = some o → H' a = some o) : SqL K H' a xs := by
  rcases h with (h | ⟨o, h⟩) | h
  · exact .inl (.inl (s _ h))
  · exact .inl (.inr ⟨o, s _ h⟩)
  · exact .inr h
theorem all_true : ∀ n : Nat, (List.replicate n true).all id = true
  | 0 => rfl
  | n + 1 => by simp [List.replicate_succ]
theorem pl_zero {a b : Int} (h : Lowest a b) : pl (0, 1) (a, b) = (a, b) := by
  show lo (0 * b + a * 1) (1 * b) = (a, b)
  rw [Int.zero_mul, Int.zero_add, Int.mul_one, Int.one_mul]
  exact lo_of h
def spOne : Sp := fun vs H Q _ => ∃ p, vs = [.ref p] ∧ PotAt H p ∧ ∀ H', SameX p H H' → Q (.bl true) H'
def spLaw (K : PySem.W.Frag) : Sp := fun vs H Q _ => ∃ (a : Addr) (ns : List Int), vs = [.ref a] ∧ SqL K H a (ns.map V.int) ∧ ns.length ≤ 63 ∧ ∀ H', Q (.bl true) H'
/-! parts by what they stand for -/
theorem lo_congr {x y x' y' : Int} (hy : 0 < y) (hy' : 0 < y') (e : x * y' = x' * y) : lo x y = lo x' y' := by
  have c := lo_cross x' y'
  refine (lo_eq (lo_lowest (a := x') hy') hy ?_).trans (Prod.eta _)
  have h : (x * (lo x' y').2) * y' = ((lo x' y').1 * y) * y' := by
    calc (x * (lo x' y').2) * y' = (x * y') * (lo x' y').2 := by simp only [Int.mul_assoc, Int.mul_comm, Int.mul_left_comm]
      _ = (x' * y) * (lo x' y').2 := by rw [e]
      _ = (x' * (lo x' y').2) * y := by simp only [Int.mul_assoc, Int.mul_comm, Int.mul_left_comm]
      _ = ((lo x' y').1 * y') * y := by rw [c]
      _ = ((lo x' y').1 * y) * y' := by simp only [Int.mul_assoc, Int.mul_comm, Int.mul_left_comm]
  exact Int.eq_of_mul_eq_mul_right (by omega) h
theorem lo_pl {a b c d : Int} (hb : 0 < b) (hd : 0 < d) : pl (lo a b) (lo c d) = lo (a * d + c * b) (b * d) := by
  have b' := (lo_lowest (a := a) hb).1
  have d' := (lo_lowest (a := c) hd).1
  have e1 := lo_cross a b
  have e2 := lo_cross c d
  show lo ((lo a b).1 * (lo c d).2 + (lo c d).1 * (lo a b).2) ((lo a b).2 * (lo c d).2) = _
  refine lo_congr (Int.mul_pos b' d') (Int.mul_pos hb hd) ?_
  generalize (lo a b).1 = p at *
  generalize (lo a b).2 = q at *
  generalize (lo c d).1 = r at *
  generalize (lo c d).2 = t at *
  have h1 : p * t * (b * d) = a * q * t * d := by rw [← e1]; simp only [Int.mul_assoc, Int.mul_comm, Int.mul_left_comm]
  have h2 : r * q * (b * d) = c * t * q * b := by rw [← e2]; simp only [Int.mul_assoc, Int.mul_comm, Int.mul_left_comm]
  rw [Int.add_mul, Int.add_mul, h1, h2]
  simp only [Int.mul_assoc, Int.mul_comm, Int.mul_left_comm]
theorem lo_times {a b m : Int} (hb : 0 < b) : lo ((lo a b).1 * m) (lo a b).2 = lo (a * m) b := by
  refine lo_congr (lo_lowest hb).1 hb ?_
  have e := lo_cross a b
  calc (lo a b).1 * m * b = ((lo a b).1 * b) * m := by simp only [Int.mul_assoc, Int.mul_comm, Int.mul_left_comm]
    _ = (a * (lo a b).2) * m := by rw [e]
    _ = a * m * (lo a b).2 := by simp only [Int.mul_assoc, Int.mul_comm, Int.mul_left_comm]
theorem lo_less {a b c d : Int} (hb : 0 < b) (hd : 0 < d) : (lo a b).1 * (lo c d).2 < (lo c d).1 * (lo a b).2 ↔ a * d < c * b := by
  have b' := (lo_lowest (a := a) hb).1
  have d' := (lo_lowest (a := c) hd).1
  have e1 := lo_cross a b
  have e2 := lo_cross c d
  generalize (lo a b).1 = p at *
  generalize (lo a b).2 = q at *
  generalize (lo c d).1 = r at *
  generalize (lo c d).2 = t at *
  have h1 : (p * t) * (b * d) = (a * d) * (q * t) := by
    calc (p * t) * (b * d) = (p * b) * (t * d) := by simp only [Int.mul_assoc, Int.mul_comm, Int.mul_left_comm]
      _ = (a * q) * (t * d) := by rw [e1]
      _ = (a * d) * (q * t) := by simp only [Int.mul_assoc, Int.mul_comm, Int.mul_left_comm]
  have h2 : (r * q) * (b * d) = (c * b) * (q * t) := by
    calc (r * q) * (b * d) = (r * d) * (q * b) := by simp only [Int.mul_assoc, Int.mul_comm, Int.mul_left_comm]
      _ = (c * t) * (q * b) := by rw [e2]
      _ = (c * b) * (q * t) := by simp only [Int.mul_assoc, Int.mul_comm, Int.mul_left_comm]
  have pb : 0 < b * d := Int.mul_pos hb hd
  have pq : 0 < q * t := Int.mul_pos b' d'
  constructor
  · intro h
    have := Int.mul_lt_mul_of_pos_right h pb
    rw [h1, h2] at this
    exact Int.lt_of_mul_lt_mul_right this (Int.le_of_lt pq)
  · intro h
    have := Int.mul_lt_mul_of_pos_right h pq
    rw [← h1, ← h2] at this
    exact Int.lt_of_mul_lt_mul_right this (Int.le_of_lt pb)
def spMost (K : PySem.W.Frag) : Sp := fun vs H Q _ => ∃ a n k : Int, vs = [.int a, .int n, .int k] ∧ Bt 200 a ∧ Bt 200 n ∧ Bt 200 k ∧ NewT K H (lo (a * k * (n - k)) 2).1 (lo (a * k * (n - k)) 2).2 Q
def spLess (K : PySem.W.Frag) : Sp := fun vs H Q _ => ∃ u v a b c d, vs = [u, v] ∧ TupI K H u a b ∧ TupI K H v c d ∧ Bt 4400 a ∧ Bt 4400 b ∧ Bt 4400 c ∧ Bt 4400 d ∧ Q (.bl (decide (a * d < c * b))) H
/-! how long a repr is -/
theorem text_len : ∀ (ts : List Str) (k : Nat) (acc : Str), (textFrom k acc ts).length ≤ acc.length + piled ts
  | [], k, acc => by show acc.length ≤ _; omega
  | t :: r, k, acc => by
    have ih := text_len r (k + 1) (acc ++ (if k > 0 then ", " else "" : String) ++ t)
    have e : ((if k > 0 then ", " else "" : String) : Str).length ≤ 2 := by split <;> decide +kernel
    show (textFrom (k + 1) (acc ++ (if k > 0 then ", " else "" : String) ++ t) r).length ≤ _
    rw [strLen_append, strLen_append] at ih
    rw [piled_cons]
    omega
theorem shown_int_len {n : Nat} {i : Int} (hn : 0 < n) (h : Bt n i) : (PyData.shown (.int i)).length ≤ n + 1 := by
  have e := int_text_length_le (a := i) hn (PySem.Flt.log2_lt_of hn h)
  show (Str.ofString (toString i)).length ≤ n + 1
  rw [PySem.ofString_length]
  exact e
theorem shown_tup_len (ds : List PyData) : (PyData.shown (.tuple ds)).length ≤ piled (PyData.shownAll ds) + 2 := PySem.fmt_text _
theorem shown_lst_len (ds : List PyData) : (PyData.shown (.list ds)).length ≤ piled (PyData.shownAll ds) + 2 := by
  show (textFrom 0 "[" (PyData.shownAll ds) ++ ("]" : Str)).length ≤ _
  have h := text_len (PyData.shownAll ds) 0 "["
  have e1 : (("[" : String) : Str).length = 1 := rfl
  have e2 : (("]" : String) : Str).length = 1 := rfl
  rw [strLen_append]
  omega
/-- the pair as data -/
def pd (a b : Int) : PyData := .tuple [.int a, .int b]
theorem pd_len {n : Nat} {a b : Int} (hn : 0 < n) (h : Bt n a) (k : Bt n b) : (pd a b).shown.length ≤ 2 * n + 8 := by
  have e := shown_tup_len [.int a, .int b]
  have h1 := shown_int_len hn h
  have h2 := shown_int_len hn k
  have e2 : piled (PyData.shownAll [.int a, .int b]) = (PyData.shown (.int a)).length + 2 + ((PyData.shown (.int b)).length + 2 + 0) := by
    show piled [PyData.shown (.int a), PyData.shown (.int b)] = _
    rw [piled_cons, piled_cons, piled_nil]
  show (PyData.shown (.tuple [.int a, .int b])).length ≤ _
  omega
theorem bt_show {i : Int} (h : Bt 1900 i) : (PyData.int i).showable = true := decide_eq_true (Nat.lt_of_lt_of_le (PySem.Flt.log2_lt_of (by decide) h) (by decide))
theorem pd_show {a b : Int} (h : Bt 1900 a) (k : Bt 1900 b) : (pd a b).showable = true := by
  show ((PyData.int a).showable && ((PyData.int b).showable && true)) = true
  rw [bt_show h, bt_show k]
  rfl
theorem pd_dp {K : PySem.W.Frag} {H : Hp} {v : V} {a b : Int} (h : TupI K H v a b) : Dp K H v (pd a b) := by
  obtain ⟨t, rfl, h⟩ := h
  exact .tup h (.cons (.int a) (.cons (.int b) .nil))
def spIsR (K : PySem.W.Frag) : Sp := fun vs H Q _ => ∃ u v a b, vs = [u, v] ∧ TupI K H u a b ∧ TupI K H v a b ∧ Bt 1900 a ∧ Bt 1900 b ∧ Q (.bl true) H
def spNumW (lo_ hi_ : Int) : Sp := fun vs H Q _ => ∃ p, vs = [.ref p] ∧ PotAt H p ∧ ∀ i H', lo_ ≤ i → i < hi_ → SameX p H H' → PotAt H' p → Q (.int i) H'
def spMany : Sp := fun vs H Q _ => ∃ p m, vs = [.ref p, .int m] ∧ PotAt H p ∧ 0 ≤ m ∧ m < 1000 ∧ ∀ i H', 0 ≤ i → i ≤ m → SameX p H H' → PotAt H' p → Q (.int i) H'
/-! behind the last argument -/
theorem nil2 {σ : L2.St} {H : Hp} {F : List V → Hp → Prop} (h : F [] H) : tNil σ H F := h
/-! a value that stands for x / y -/
def Rp (K : PySem.W.Frag) (H : Hp) (v : V) (x y : Int) (n : Nat) : Prop := TupI K H v (lo x y).1 (lo x y).2 ∧ 0 < y ∧ Bt n x ∧ Bt n y
theorem Rp.same {K : PySem.W.Frag} {H H' : Hp} {v : V} {x y : Int} {n : Nat} (h : Rp K H v x y n) (s : Same H H') : Rp K H' v x y n := ⟨h.1.same s, h.2⟩
theorem Rp.k {K : PySem.W.Frag} {H H' : Hp} {v : V} {x y : Int} {n : Nat} (h : Rp K H v x y n) (s : KT H H') : Rp K H' v x y n := ⟨h.1.k s, h.2⟩
theorem Rp.x {K : PySem.W.Frag} {H H' : Hp} {p : Addr} {v : V} {x y : Int} {n : Nat} (h : Rp K H v x y n) (s : SameX p H H') (hp : PotAt H p) : Rp K H' v x y n := ⟨h.1.x s hp, h.2⟩
theorem Rp.mono {K : PySem.W.Frag} {H : Hp} {v : V} {x y : Int} {n m : Nat} (h : Rp K H v x y n) (k : n ≤ m) : Rp K H v x y m := ⟨h.1, h.2.1, h.2.2.1.mono k, h.2.2.2.mono k⟩
theorem Rp.of {K : PySem.W.Frag} {H : Hp} {v : V} {a b : Int} {n : Nat} (h : TupI K H v a b) (l : Lowest a b) (ba : Bt n a) (bb : Bt n b) : Rp K H v a b n := ⟨by rw [lo_of l]; exact h, l.1, ba, bb⟩
theorem Rp.same_as {K : PySem.W.Frag} {H : Hp} {v : V} {x y x' y' : Int} {n m : Nat} (h : Rp K H v x y n) (hy : 0 < y') (bx : Bt m x') (b_y : Bt m y') (e : x * y' = x' * y) : Rp K H v x' y' m :=
  ⟨by rw [← lo_congr h.2.1 hy e]; exact h.1, hy, bx, b_y⟩
section
variable {K : PySem.W.Frag} {H : Hp} {u v : V} {x y x' y' : Int} {n m : Nat} {Q : VK}
theorem plus_rp (h : Rp K H u x y n) (k : Rp K H v x' y' m) (hn : n ≤ 4400) (hm : m ≤ 4400) (q : ∀ w H', Same H H' → Rp K H' w (x * y' + x' * y) (y * y') (n + m + 1) → Q w H') :
    spTwo K (fun a b c d => lo (a * d + c * b) (b * d)) [u, v] H Q E0 := by
  refine ⟨u, v, _, _, _, _, rfl, h.1, k.1, (lo_lowest h.2.1).1, (lo_lowest k.2.1).1, (Bt.lo1 h.2.2.1).mono hn, (Bt.lo2 h.2.2.2).mono hn, (Bt.lo1 k.2.2.1).mono hm, (Bt.lo2 k.2.2.2).mono hm, fun w H' s hw => q w H' s ⟨?_, Int.mul_pos h.2.1 k.2.1, ?_, ?_⟩⟩
  · have e : pl (lo x y) (lo x' y') = lo (x * y' + x' * y) (y * y') := lo_pl h.2.1 k.2.1
    have hw : TupI K H' w (pl (lo x y) (lo x' y')).1 (pl (lo x y) (lo x' y')).2 := hw
    rw [e] at hw
    exact hw
  · exact (h.2.2.1.mul k.2.2.2).add ((k.2.2.1.mul h.2.2.2).mono (by omega))
  · exact (h.2.2.2.mul k.2.2.2).mono (by omega)
theorem times_rp {i : Int} (h : Rp K H u x y n) (bi : Bt m i) (hn : n ≤ 4400) (hm : m ≤ 4400) (q : ∀ w H', Same H H' → Rp K H' w (x * i) y (n + m) → Q w H') : spTimes K [u, .int i] H Q E0 := by
  refine ⟨u, _, _, i, rfl, h.1, (lo_lowest h.2.1).1, (Bt.lo1 h.2.2.1).mono hn, (Bt.lo2 h.2.2.2).mono hn, bi.mono hm, fun w H' s hw => q w H' s ⟨?_, h.2.1, h.2.2.1.mul bi, h.2.2.2.mono (by omega)⟩⟩
  rw [lo_times h.2.1] at hw
  exact hw
theorem less_rp (h : Rp K H u x y n) (k : Rp K H v x' y' m) (hn : n ≤ 4400) (hm : m ≤ 4400) (q : Q (.bl (decide (x * y' < x' * y))) H) : spLess K [u, v] H Q E0 := by
  refine ⟨u, v, _, _, _, _, rfl, h.1, k.1, (Bt.lo1 h.2.2.1).mono hn, (Bt.lo2 h.2.2.2).mono hn, (Bt.lo1 k.2.2.1).mono hm, (Bt.lo2 k.2.2.2).mono hm, ?_⟩
  rw [decide_eq_decide.mpr (lo_less h.2.1 k.2.1)]
  exact q
theorem most_rp {a b c : Int} (ba : Bt 200 a) (bb : Bt 200 b) (bc : Bt 200 c) (q : ∀ w H', Same H H' → Rp K H' w (a * c * (b - c)) 2 700 → Q w H') : spMost K [.int a, .int b, .int c] H Q E0 :=
  ⟨a, b, c, rfl, ba, bb, bc, fun w H' s hw => q w H' s ⟨hw, by decide, ((ba.mul bc).mul (bb.sub bc)).mono (by decide), by unfold Bt; decide +kernel⟩⟩
theorem low_rp {a b : Int} (hb : 0 < b) (ba : Bt n a) (bb : Bt n b) (hn : n ≤ 8999) (q : ∀ w H', Same H H' → Rp K H' w a b n → Q w H') : spLow K [.int a, .int b] H Q E0 :=
  ⟨a, b, rfl, hb, bb.mono hn, fun w H' s hw => q w H' s ⟨hw, hb, ba, bb⟩⟩
theorem is_rp (h : Rp K H u x y n) (k : Rp K H v x' y' m) (hn : n ≤ 1900) (e : x * y' = x' * y) (q : Q (.bl true) H) : spIsR K [u, v] H Q E0 := by
  refine ⟨u, v, _, _, rfl, h.1, ?_, (Bt.lo1 h.2.2.1).mono hn, (Bt.lo2 h.2.2.2).mono hn, q⟩
  rw [lo_congr h.2.1 k.2.1 e]
  exact k.1
theorem eqd_rp (h : Rp K H u x y n) (k : Rp K H v x' y' m) (e : x * y' = x' * y) : ∃ d d', Dp K H u d ∧ Dp K H v d' ∧ SeqAt.shaped d = true ∧ SeqAt.shaped d' = true ∧ PyData.eqv d d' = true := by
  have k1 := k.1
  rw [← lo_congr h.2.1 k.2.1 e] at k1
  exact ⟨_, _, pd_dp h.1, pd_dp k1, rfl, rfl, eqv_pair _ _⟩
end
end WS
set_option Elab.async false
set_option linter.all false
set_option maxRecDepth 100000
set_option maxHeartbeats 4000000
namespace WS
open PySem PySem.Spec PyProof.Rows L2
/-! within an except suite -/
section
variable {prog : Program} {w : World} {A : Around} {E : Value → Shared → Prop} {s : Shared}
theorem list_end_hot {it l x1 : Addr} {i : Nat} {its : Array Value} {Q : Option Value → Shared → Prop} (hot : HotX.HotAt A x1 s.heap) (ni : x1 ≠ it)
    (hit : s.heap.IsListIter it l i) (hl : s.heap.IsList l its) (out : its[i]? = none)
    (fin : ∀ h', (∀ b o, b ≠ it → s.heap.get? b = some o → h'.get? b = some o) → Q none { s with heap := h' }) : wpAny (model prog w) A (pyNext (.ref it)) Q E s := by
  have ty := hit.typeIs
  obtain ⟨oi, gi, ci, di⟩ := hit
  obtain ⟨ol, gl, _, nl, dl⟩ := hl
  obtain ⟨hh, oh, vh, gh, dh, ch⟩ := hot
  unfold pyNext
  refine wpAny_bind (wpAny_attempt (wpAny_callSpecial?_slot (name := Str.ofString "__next__") ty slot_listiter_next (wpAny_call_entry slot_listiter_next ty entry_listiter_next ?_ (args_listiter_next _))))
  show wpAny _ _ (field (.ref it) 0 >>= _) _ _ s
  refine wpAny_bind (wpAny_field gi di (x := .ref l) rfl ?_)
  show wpAny _ _ (ite ((Value.ref l == Value.none) = true) _ _) _ _ s
  rw [if_neg (show ¬ (Value.ref l == Value.none) = true from Bool.false_ne_true)]
  show wpAny _ _ (field (.ref it) 1 >>= _) _ _ s
  refine wpAny_bind (wpAny_field gi di (x := .int i 0) rfl (?_ : wpAny _ _ (seqItems? (.ref l) >>= _) _ _ s))
  refine wpAny_bind (wpAny_seqItems gl dl ?_)
  simp only [Int.toNat_natCast, out]
  refine wpAny_bind (wpAny_rule (wpAny_bind (wpAny_setField gi di (by simp) (?_ : wpAny _ _ (newExc (.type "StopIteration") [] >>= _) _ _ _))))
  refine wpAny_bind ?_
  simp only [newExc, newTuple]
  refine wpAny_bind (wpAny_newObj_type ?_ (by size_fits))
  refine wpAny_bind (m := firstArgMember _ _) (wpAny_of_eq (a := Value.none) (by first | rfl | (simp only [firstArgMember]; rfl)) (wpAny_newObj_type ?_ (by size_fits)))
  have gh1 : (s.heap.update it (Obj.mapFields (·.setIfInBounds 0 .none))).get? x1 = some oh := by
    rw [Heap.get?_update_other _ _ ni.symm]
    exact gh
  refine HotX.raiseNew_hot ⟨hh, oh, vh, Heap.get?_push_of_some _ (Heap.get?_push_of_some _ gh1), dh, ch⟩ (Nat.ne_of_lt (Heap.lt_size (Heap.get?_push_of_some _ gh1))) (Heap.get?_push_size _ rfl) rfl (by first | (simp; done) | (simp; omega)) ?_
  refine wpAny_bind (wpAny_isInstance (T := "StopIteration") (b := true) ⟨_, Heap.get?_update_self _ (Heap.get?_push_size _ rfl) rfl, rfl⟩ isSubtype_stop (wpAny_pure (fin _ fun b o nb e => ?_)))
  have e1 : (s.heap.update it (Obj.mapFields (·.setIfInBounds 0 .none))).get? b = some o := by
    rw [Heap.get?_update_other _ _ nb.symm]
    exact e
  rw [Heap.get?_update_other _ _ (Nat.ne_of_gt (Heap.lt_size (Heap.get?_push_of_some _ e1)))]
  exact Heap.get?_push_of_some _ (Heap.get?_push_of_some _ e1)
end
/-- what the heap says of the exception that is handled -/
def Held (x1 : Addr) (h : Heap) : Prop := ∃ (o : Obj) (vs : Array Value), h.get? x1 = some o ∧ o.data = .fields vs ∧ vs[2]? = some .none
theorem walks_hot {prog : Program} {w : World} {A : Around} {I ax x1 : Addr} (hh : A.handled = some (.ref x1)) (hne : ax ≠ I) (hn1 : x1 ≠ I) (its : Array Value) :
    Walks prog w A I [I, ax, x1] [I] its.size (fun i v => its[i]? = some v) (fun i h => (h.IsListIter I ax i ∧ h.IsList ax its) ∧ Held x1 h) where
  sub := fun b hb => by simp at hb; simp [hb]
  frame := fun i h h' st keep => ⟨⟨st.1.1.at (keep I (by simp)), st.1.2.at (keep ax (by simp))⟩, by
    obtain ⟨o, vs, e, r⟩ := st.2
    exact ⟨o, vs, keep x1 (by simp) _ e, r⟩⟩
  item := fun i s Q E hi st fin => by
    refine wpAny_pyNext_list_item st.1.1 st.1.2 (x := its[i]) (by simp [hi]) fun h' again same => fin _ h' s.toks (by simp [hi]) ⟨⟨again, st.1.2.extBut same.extBut hne⟩, ?_⟩ fun b o hb e => same.extBut b o (fun h => hb (by simp [h])) e
    obtain ⟨o, vs, e, r⟩ := st.2
    exact ⟨o, vs, same.extBut x1 o hn1 e, r⟩
  done := fun s Q E st fin => list_end_hot ⟨hh, st.2⟩ hn1 st.1.1 st.1.2 (by simp) fun h' keep => fin h' s.toks fun b o hb e => keep b o (fun h => hb (by simp [h])) e
  self := fun _ _ _ _ st q => wpAny_pyIter_listiter st.1.1 q
theorem held_of {X : Cx} {pins : List (Addr × Obj)} {σ : L2.St} {H : Hp} {s : Shared} {p : Addr × Obj} (hot : L2H.Hot1 X.A p) (hp : p ∈ X.pn) (inv : Inv X pins σ H s) : Held p.1 s.heap := by
  obtain ⟨_, vs, d, c⟩ := hot
  exact ⟨p.2, vs, (inv.pin p (List.mem_append_left _ hp)).1, d, c⟩
/-- any(list of truths) there -/
theorem cr_anyH {X : Cx} {p : Addr × Obj} (hot : L2H.Hot1 X.A p) (hp : p ∈ X.pn) : CallR X (.builtin "any") (rAny X.K) := by
  intro pins s σ H vs us Q inv vals want
  obtain ⟨a, bs, rfl, at_a, q⟩ := want
  obtain ⟨its, rel, pl, _⟩ := inv.list at_a
  rw [Vals.ref1 vals]
  have tb := rel.bls
  have held := held_of hot hp inv
  refine call_any_walk (iter_any pl.isList fun s2 e2 st ne => ?_)
  subst e2
  have lt : p.1 < s.heap.objs.size := by
    obtain ⟨o, _, e, _⟩ := held
    exact Heap.lt_size e
  have held2 : Held p.1 (s.heap.push { cls := .type "list_iterator", data := .fields #[.ref a, .int 0 0] }) := by
    obtain ⟨o, vs, e, r⟩ := held
    exact ⟨o, vs, Heap.get?_push_of_some _ e, r⟩
  refine ⟨_, _, _, _, _, _, _, rfl, walks_hot (A := X.A.in1) (x1 := p.1) hot.1 ne (Nat.ne_of_lt lt) its.toArray, ⟨st, held2⟩, truth_bools tb, fun h' tk keep => ⟨.bl _, H, inv.kept fun b o eo => keep b o (fun z => ?_) (Heap.get?_push_of_some _ eo), ?_, q⟩⟩
  · have z : b = s.heap.objs.size := by simpa using z
    exact absurd (z ▸ Heap.lt_size eo) (Nat.lt_irrefl _)
  · show Value.bool _ = Value.bool _
    rw [← L2.any_range, tb, List.size_toArray, List.length_map]
/-! isinstance of the exception that is handled -/
theorem inst_of {X : Cx} {pins : List (Addr × Obj)} {σ : L2.St} {H : Hp} {s : Shared} {p : Addr × Obj} {D : Addr} (hp : p ∈ X.pn) (inv : Inv X pins σ H s) (hc : p.2.cls = .ref D) (hd : p.2.dict = none) (hf : ∃ vs, p.2.data = .fields vs) : PySem.W.InstAt s.heap p.1 p.2 D none := by
  obtain ⟨get, _⟩ := inv.pin p (List.mem_append_left _ hp)
  obtain ⟨a, oc, od, oda, osl⟩ := p
  obtain ⟨vs, e⟩ := hf
  dsimp only at hc hd e get ⊢
  subst hc hd e
  exact ⟨get, rfl, rfl, trivial⟩
theorem call_isP {X : Cx} {p : Addr × Obj} {D : Addr} (hp : p ∈ X.pn) (C : ExcC X.K D) (hc : p.2.cls = .ref D) (hd : p.2.dict = none) (hf : ∃ vs, p.2.data = .fields vs) :
    CallR X (.builtin "isinstance") (fun xs H Q => ∃ (c : V) (cv : Value) (b : Bool), xs = [.ref p.1, c] ∧ ClsV c cv ∧ PySem.W.kitOne X.K (.ref D) cv = some b ∧ Q (.bl b) H) := by
  intro pins s σ H xs us Q inv vals want
  obtain ⟨c, cv, b, rfl, cls, kit, q⟩ := want
  obtain ⟨u1, u2, rfl, r1, r2⟩ := vals2 vals
  cases (show u1 = Value.ref p.1 from r1)
  cases cls.eq r2
  exact PySem.W.kia_one (PySem.W.handS_kitx_exc C.hg C.hk C.hs C.hd C.ha C.hn C.ht C.hm) inv.kIn (inst_of hp inv hc hd hf) kit (fun z => nomatch z) fun tk => ⟨.bl b, H, inv.tok tk, rfl, q⟩
theorem call_isPT {X : Cx} {p : Addr × Obj} {D : Addr} (hp : p ∈ X.pn) (C : ExcC X.K D) (hc : p.2.cls = .ref D) (hd : p.2.dict = none) (hf : ∃ vs, p.2.data = .fields vs) :
    CallR X (.builtin "isinstance") (fun xs H Q => ∃ (tp : Addr) (cs : List V) (ws : List Value) (b : Bool), xs = [.ref p.1, .ref tp] ∧ H tp = some (.tup cs) ∧ Paired ClsV cs ws ∧ PySem.W.kitAny X.K (.ref D) ws = some b ∧ Q (.bl b) H) := by
  intro pins s σ H xs us Q inv vals want
  obtain ⟨tp, cs, ws, b, rfl, at_t, cls, kit, q⟩ := want
  obtain ⟨u1, u2, rfl, r1, r2⟩ := vals2 vals
  cases (show u1 = Value.ref p.1 from r1)
  cases (show u2 = Value.ref tp from r2)
  obtain ⟨_, its, rel, o, g, ec, n, ed⟩ := (show ObjOk X.prog X.w H s.heap tp (.tup cs) from inv.hok tp _ at_t)
  cases ClsV.all cls rel
  obtain ⟨oc, od, dt, sl⟩ := o
  dsimp only at ec ed
  subst ec ed
  exact PySem.W.kia_tup (PySem.W.handS_kitx_exc C.hg C.hk C.hs C.hd C.ha C.hn C.ht C.hm) inv.kIn (inst_of hp inv hc hd hf) g kit (fun z => nomatch z) fun tk => ⟨.bl b, H, inv.tok tk, rfl, q⟩
/-! a def called there, of the exception p that is handled -/
structure FnHot (A : Around) (p : Addr × Obj) (P : Program) (w : World) (K : PySem.W.Frag) (mg : Str → Option Value) (base : Heap) (k : Nat) (f : Addr) (fd : FuncData) (ps : List Str) (sp : Sp) : Prop where
  len : ∀ vs H Q E, sp vs H Q E → vs.length = ps.length
  go : ∀ (outer : List Env) (s : Shared) (H : Hp) (args : Args) (us : List Value) (vs : List V) (Q : VK),
    L2H.RoomH k A → L2H.PinOk outer H s p → Env0 P w K mg base A outer s H → BindsTo s fd args (ps.zip us) → Vals vs us → sp vs H Q E0 →
    codeAny (model P w) A (.call (.ref f) args) (CR CX0 outer P w H s Q E0) s
theorem fun_hot {A : Around} {p : Addr × Obj} {P : Program} {w : World} {K : PySem.W.Frag} {mg : Str → Option Value} {base : Heap} {x qual : Str} {st : Stmt} {f : Addr} {fd : FuncData} {N ps : List Str} {k : Nat} {sp : Sp}
    (F : Fun K x qual st f fd) (S : FnScope N ps (defScope st)) (len : ∀ vs H Q E, sp vs H Q E → vs.length = ps.length)
    (B : ∀ (cdv : Value) (outer : List Env) (s : Shared) (H : Hp) (vs : List V) (Q : VK),
      L2H.RoomH k (A.deeper (envOfC qual (defScope st) s.heap.objs.size f cdv)) → sp vs H Q E0 →
      ∃ t, PSs (L2H.cxH CX0 P w K mg base N qual (defScope st) f cdv A outer s H E0 p) (defBody st) t ∧ t ⟨fun _ H' => Q .non H', Q, fun _ _ => False, fun _ _ => False⟩ (start N vs) H) :
    FnHot A p P w K mg base (k + 1) f fd ps sp := by
  obtain ⟨oc, od, kV, doc, pm, an, cdv, ct, osl, rfl, at_f, code⟩ := F.ex
  refine ⟨len, ?_⟩
  intro outer s H args us vs Q room pin env0 bt vals want
  have inK : K.In s.heap := env0.mod.kin.keeps (fun b o e => (env0.bs b o e).1)
  have kinds : ∀ y ∈ ps.zip us, (defScope st).names.lookup y.1 = some .local ∨ ((defScope st).names.lookup y.1 = some .cell ∧ ((cellsFrom (s.heap.objs.size + 1) (defScope st).names []).lookup y.1).isSome = true) := by
    rintro ⟨n, v⟩ hy
    rcases S.par n (List.of_mem_zip hy).1 with l | c
    · exact .inl l
    · exact .inr ⟨c, PySem.W.cellsFrom_some _ _ _ (.inl c)⟩
  refine codeAny_call_function room.depth (inK _ _ at_f) rfl S.co S.gen rfl (PySem.W.codeRec_of inK code) (bt _ _ _ _ ?_)
  refine wpAny_newFunctionEnv_cells S.kind kinds ?_
  rintro env rfl s1 ic
  refine ⟨(env0.mod.nolimit.keeps fun b o e => (env0.bs b o e).1).keeps ic.toInCall.keep, codeAny_func ?_⟩
  obtain ⟨t, pss, reading⟩ := B cdv outer s H vs Q (room.deeper _) want
  have inv := L2H.inv_startH (CX := CX0) (E := E0) S pin env0 (len _ _ _ _ want) vals ic
  refine wpAny_mono (pss.run [] s1 (start N vs) H _ inv reading) ?_ (fun _ _ z => z)
  intro fl s' z
  match fl, z with
  | .ret u, ⟨v, σ', H', J, rv, q⟩ => exact ⟨v, H', J.os, J.bare, J.base, J.hok, rv, q⟩
  | .next, ⟨σ', H', J, q⟩ => exact ⟨.non, H', J.os, J.bare, J.base, J.hok, rfl, q⟩
  | .brk, ⟨_, _, _, q⟩ => exact q.elim
  | .cont, ⟨_, _, _, q⟩ => exact q.elim
theorem pe_callHot {X : Cx} {k : Nat} {p : Addr × Obj} {f : Addr} {fd : FuncData} {ps : List Str} {sp : Sp} {x : Str} {p1 pos : Pos} {e : Expr} {es : List Expr} {t : TA}
    (F : FnHot X.A p X.prog X.w X.K X.mg X.base k f fd ps sp) (room : L2H.RoomH k X.A) (hp : p ∈ X.pn) (gl : Gl X x) (at_x : X.mg x = some (.ref f)) (kp : PySem.W.keepIn X.K (.ref f) = true)
    (bi : Binds X.K fd ps []) (args : PA X (e :: es) t)
    (nodbg : (x == ("__debug__" : Str)) = false := by decide) (one : starEach (e :: es) X.env = (false, eval e X.env) :: starEach es X.env := by rfl) (nostar : (backTo pos (starEach es X.env)).any (·.1) = false := by rfl) :
    PE X (.Call (.Name x p1) (e :: es) [] pos) (tCall sp [] E0 t) := by
  constructor
  intro pins s σ H Q inv want
  refine wpAny_Call_Name_kw (ld_glob inv gl at_x ?_ nodbg)
  refine PySem.W.callWith_K (h₀ := X.base) inv.ok.mod.kin kp (thn (args.run pos pins s σ H _ inv want) ?_) one nostar
  rintro us s1 ⟨vs, H1, inv1, vals, want1⟩
  refine ⟨inv1.kIn, ?_⟩
  rw [List.append_nil] at want1
  have size : us.length = ps.length := vals.length.symm.trans (F.len _ _ _ _ want1)
  have bt := bi s1 us inv1.kIn (by rw [List.append_nil]; exact size)
  rw [List.append_nil] at bt
  obtain ⟨g1, g2, g3, g4, g5⟩ := inv1.pin p (List.mem_append_left _ hp)
  have pin : L2H.PinOk X.stack H1 s1 p := ⟨g1, g2, fun z => (List.mem_cons.mp (inv1.stkSub p.1 z)).elim g3 g4, g5⟩
  refine wpAny_call (codeAny_mono (F.go X.stack s1 H1 ⟨us, []⟩ us vs Q room pin inv1.env0 bt vals want1) ?_)
  intro r s' z
  match r, z with
  | .error er, z => exact z.elim
  | .ok (.ret u), z => exact inv1.after z
  | .ok .next, z => exact z.elim
  | .ok .brk, z => exact z.elim
  | .ok .cont, z => exact z.elim
end WS
set_option Elab.async false
set_option linter.all false
set_option maxRecDepth 100000
set_option maxHeartbeats 4000000
namespace WS
open PySem PySem.Spec PyProof.Rows L2
/-! calls with defaults where what is raised is wished for at the caller's slots -/
def tCallSD (sp : Sp) (dvs : List V) (E : L2.St → XK) (t : TA) : TE := fun σ H Q => t σ H fun vs H1 => sp (vs ++ dvs) H1 Q (E σ)
theorem pe_callSD {X : Cx} {CX : CXT} {k : Nat} {f : Addr} {fd : FuncData} {ps : List Str} {sp : Sp} {dvs : List V} {ds : List Value} {E : L2.St → XK} {x : Str} {p1 pos : Pos} {e : Expr} {es : List Expr} {t : TA}
    (F : FnOk X.prog X.w X.K X.mg X.base CX k f fd ps sp) (room : Room k X.A) (gl : Gl X x) (at_x : X.mg x = some (.ref f)) (kp : PySem.W.keepIn X.K (.ref f) = true)
    (bi : Binds X.K fd ps ds) (vd : Vals dvs ds) (ex : ∀ σ, PassesAt CX X σ (E σ)) (args : PA X (e :: es) t)
    (nodbg : (x == ("__debug__" : Str)) = false := by decide) (one : starEach (e :: es) X.env = (false, eval e X.env) :: starEach es X.env := by rfl) (nostar : (backTo pos (starEach es X.env)).any (·.1) = false := by rfl) :
    PE X (.Call (.Name x p1) (e :: es) [] pos) (tCallSD sp dvs E t) := by
  constructor
  intro pins s σ H Q inv want
  refine wpAny_Call_Name_kw (ld_glob inv gl at_x ?_ nodbg)
  refine PySem.W.callWith_K (h₀ := X.base) inv.ok.mod.kin kp (thn (args.run pos pins s σ H _ inv want) ?_) one nostar
  rintro us s1 ⟨vs, H1, inv1, vals, want1⟩
  refine ⟨inv1.kIn, ?_⟩
  have both : Vals (vs ++ dvs) (us ++ ds) := vals.append vd
  have size : (us ++ ds).length = ps.length := both.length.symm.trans (F.len _ _ _ _ want1)
  refine wpAny_call (codeAny_mono (F.run X.A X.stack s1 H1 ⟨us, []⟩ _ _ Q (E σ) room inv1.env0 (bi s1 us inv1.kIn size) both want1) ?_)
  intro r s' z
  match r, z with
  | .error er, z => exact ex σ pins H1 s1 er s' inv1 z
  | .ok (.ret u), z => exact inv1.after z
  | .ok .next, z => exact z.elim
  | .ok .brk, z => exact z.elim
  | .ok .cont, z => exact z.elim
theorem takes0N {X : Cx} : L2N.Takes X (fun _ _ _ _ => False) := fun _ _ x => by
  obtain ⟨_, _, _, _, _, _, _, _, _, _, _, _, _, _, _, _, z⟩ := x
  exact z.elim
theorem hot_of {A : Around} {a : Addr} {oe : Obj} {cls : Value} {d : Option Addr} (hz : L2N.Zn cls d oe) (hf : ∃ vs, oe.data = .fields vs) : L2H.Hot1 (A.mark (some (.ref a))) (a, oe) := by
  obtain ⟨vs, e⟩ := hf
  exact ⟨rfl, vs, e, hz.2.2 vs e⟩
theorem room_hot {k : Nat} {A : Around} {v : Option Value} (hr : Room k A) : L2H.RoomH k (A.mark v) := ⟨hr.dp, hr.un⟩
/-! classes that are no base of D -/
def Oth (K : PySem.W.Frag) (D C : Addr) : Prop := PySem.W.isClsIn K C = true ∧ PySem.W.typeIn K (.ref C) = some (.type "type") ∧ PySem.W.subIn K (.ref D) (.ref C) = some false
theorem oth_kit {K : PySem.W.Frag} {D C : Addr} (hs : PySem.W.subIn K (.ref D) (.ref D) = some true) (h : Oth K D C) : PySem.W.kitOne K (.ref D) (.ref C) = some false := by
  have ne : ¬ ((Value.ref D == Value.ref C) = true) := fun e => by
    have e : D = C := Value.ref.inj (beq_iff_eq.mp e)
    have h3 := h.2.2
    rw [← e, hs] at h3
    cases h3
  have h1 : (PySem.W.clsIn K C).isSome = true := h.1
  unfold PySem.W.kitOne
  rw [if_neg ne]
  show (if ((PySem.W.clsIn K C).isSome && PySem.W.typeIn K (.ref C) == some (.type "type")) = true then PySem.W.subIn K (.ref D) (.ref C) else none) = some false
  rw [if_pos (by rw [h1, h.2.1]; rfl)]
  exact h.2.2
def Oths (K : PySem.W.Frag) (D : Addr) : List Addr → Prop
  | [] => True
  | c :: r => Oth K D c ∧ Oths K D r
theorem oths_kit {K : PySem.W.Frag} {D : Addr} (hs : PySem.W.subIn K (.ref D) (.ref D) = some true) : ∀ cs : List Addr, Oths K D cs → PySem.W.kitAny K (.ref D) (cs.map Value.ref) = some false
  | [], _ => rfl
  | c :: r, h => kitAny_cons (oth_kit hs h.1) (fun _ => oths_kit hs r h.2) (fun z => nomatch z)
theorem self_kit {K : PySem.W.Frag} {D : Addr} : PySem.W.kitOne K (.ref D) (.ref D) = some true := if_pos (beq_self_eq_true _)
theorem ve_kit {K : PySem.W.Frag} {D : Addr} (h : PySem.W.subIn K (.ref D) (.type "ValueError") = some true) : PySem.W.kitOne K (.ref D) (.type "ValueError") = some true := by
  show (if (Value.ref D == Value.type "ValueError") = true then some true else (if PySem.W.kitMeta "ValueError" = true then PySem.W.subIn K (.ref D) (.type "ValueError") else none)) = some true
  rw [if_neg (show ¬ (Value.ref D == Value.type "ValueError") = true from Bool.false_ne_true), if_pos (by decide +kernel)]
  exact h
def spAlone (a : Addr) (cls : Value) (d : Option Addr) (D : Addr) : Sp := fun vs H Q _ => vs = [.ref a] ∧ cls = .ref D ∧ d = none ∧ ∀ H', Same H H' → Q (.bl true) H'
/-! things that are no whole numbers -/
def Odd (p : Addr) (K : PySem.W.Frag) (H : Hp) (v : V) : Prop := v = .non ∨ (∃ b, v = .bl b) ∨ (∃ z, v = .str z) ∨ ∃ a, v = .ref a ∧ ((∃ xs, SqT K H a xs) ∨ (a ≠ p ∧ ∃ xs, H a = some (.lst xs)) ∨ (a ≠ p ∧ ∃ kvs, H a = some (.dK kvs)))
theorem whole_dct {K : PySem.W.Frag} {H : Hp} {a : Addr} {kvs : List (Key × V)} (h : H a = some (.dK kvs)) : WholeIs K H (.ref a) false := ⟨_, false, false, .base (.dK h), kit_ty (by decide +kernel), kit_ty (by decide +kernel), rfl⟩
theorem Odd.whole {p : Addr} {K : PySem.W.Frag} {H : Hp} {v : V} (h : Odd p K H v) : WholeIs K H v false := by
  rcases h with rfl | ⟨b, rfl⟩ | ⟨z, rfl⟩ | ⟨a, rfl, ⟨xs, h⟩ | ⟨_, xs, h⟩ | ⟨_, kvs, h⟩⟩
  · exact whole_non
  · exact whole_bl
  · exact whole_str
  · exact whole_tup h
  · exact whole_lst h
  · exact whole_dct h
theorem Odd.x {p : Addr} {K : PySem.W.Frag} {H H' : Hp} {v : V} (h : Odd p K H v) (s : SameX p H H') (hp : PotAt H p) : Odd p K H' v := by
  rcases h with rfl | ⟨b, rfl⟩ | ⟨z, rfl⟩ | ⟨a, rfl, ⟨xs, h⟩ | ⟨n, xs, h⟩ | ⟨n, kvs, h⟩⟩
  · exact .inl rfl
  · exact .inr (.inl ⟨b, rfl⟩)
  · exact .inr (.inr (.inl ⟨z, rfl⟩))
  · exact .inr (.inr (.inr ⟨a, rfl, .inl ⟨xs, s.tup hp h⟩⟩))
  · exact .inr (.inr (.inr ⟨a, rfl, .inr (.inl ⟨n, xs, s a _ n h⟩)⟩))
  · exact .inr (.inr (.inr ⟨a, rfl, .inr (.inr ⟨n, kvs, s a _ n h⟩)⟩))
/-- a whole number, or none -/
def Thing (p : Addr) (K : PySem.W.Frag) (H : Hp) (v : V) : Prop := (∃ i : Int, v = .int i ∧ Bt 400 i) ∨ Odd p K H v
theorem Thing.x {p : Addr} {K : PySem.W.Frag} {H H' : Hp} {v : V} (h : Thing p K H v) (s : SameX p H H') (hp : PotAt H p) : Thing p K H' v := h.elim .inl fun h => .inr (h.x s hp)
/-! the part that two numbers make -/
def sg (a b : Int) : Int × Int := if b < 0 then lo (-a) (-b) else lo a b
theorem sg_low {a b : Int} (h : b ≠ 0) : Lowest (sg a b).1 (sg a b).2 := by
  unfold sg
  split
  · exact lo_lowest (by omega)
  · exact lo_lowest (by omega)
theorem sg_cross (a b : Int) : (sg a b).1 * b = a * (sg a b).2 := by
  unfold sg
  split
  · have e := lo_cross (-a) (-b)
    rw [Int.mul_neg, Int.neg_mul] at e
    exact Int.neg_inj.mp e
  · exact lo_cross a b
theorem sg_bt {n : Nat} {a b : Int} (ha : Bt n a) (hb : Bt n b) : Bt n (sg a b).1 ∧ Bt n (sg a b).2 := by
  unfold sg
  split
  · exact ⟨Bt.lo1 ha.neg, Bt.lo2 hb.neg⟩
  · exact ⟨Bt.lo1 ha, Bt.lo2 hb⟩
def NoPartOf (K : PySem.W.Frag) (H : Hp) (u v : V) : Prop := WholeIs K H u false ∨ ∃ a, u = .int a ∧ (WholeIs K H v false ∨ v = .int 0)
def spPartG (K : PySem.W.Frag) (C : Addr) : Sp := fun vs H Q E => ∃ u v, vs = [u, v] ∧ ((∃ a b : Int, u = .int a ∧ v = .int b ∧ b ≠ 0 ∧ Bt 8999 b ∧ NewT K H (sg a b).1 (sg a b).2 Q) ∨ (NoPartOf K H u v ∧ E (.ref C) none H))
/-! what is a part -/
def PairIs (K : PySem.W.Frag) (H : Hp) (v : V) (b : Bool) : Prop :=
  (b = false ∧ ∃ t, TyX K H v t ∧ PySem.W.kitOne K t (.type "tuple") = some false) ∨
  ∃ a xs, v = .ref a ∧ SqT K H a xs ∧ ((b = false ∧ xs.length ≠ 2) ∨ ∃ x y, xs = [x, y] ∧ ((b = false ∧ WholeIs K H x false) ∨ (∃ i, x = .int i ∧ b = false ∧ WholeIs K H y false) ∨ ∃ i j : Int, x = .int i ∧ y = .int j ∧ b = (decide (0 < j) && decide ((Int.gcd i j : Int) = 1))))
def spPair (K : PySem.W.Frag) : Sp := fun vs H Q _ => ∃ v b, vs = [v] ∧ PairIs K H v b ∧ Q (.bl b) H
theorem pair_of {K : PySem.W.Frag} {H : Hp} {v : V} {a b : Int} (h : TupI K H v a b) : PairIs K H v (decide (0 < b) && decide ((Int.gcd a b : Int) = 1)) := by
  obtain ⟨t, rfl, h⟩ := h
  exact .inr ⟨t, _, rfl, h, .inr ⟨_, _, rfl, .inr (.inr ⟨a, b, rfl, rfl, rfl⟩)⟩⟩
theorem ty_same {K : PySem.W.Frag} {H H' : Hp} {v : V} {t : Value} (h : TyX K H v t) (s : Same H H') : TyX K H' v t := by
  cases h with
  | base h =>
    cases h with
    | non => exact .base .non
    | bl x => exact .base (.bl x)
    | int i => exact .base (.int i)
    | str z => exact .base (.str z)
    | flt z => exact .base (.flt z)
    | lst e => exact .base (.lst (s _ _ e))
    | frz e => exact .base (.frz (s _ _ e))
    | tup e => exact .base (.tup (s _ _ e))
    | dK e => exact .base (.dK (s _ _ e))
    | dT e => exact .base (.dT (s _ _ e))
    | ins e a b c d f => exact .base (.ins (s _ _ e) a b c d f)
  | byt b => exact .byt b
  | set e => exact .set (s _ _ e)
  | kList e c => exact .kList e c
  | kTuple e c => exact .kTuple e c
  | kDict e c => exact .kDict e c
  | fTuple e => exact .fTuple (s _ _ e)
  | fDict e => exact .fDict (s _ _ e)
theorem WholeIs.same {K : PySem.W.Frag} {H H' : Hp} {v : V} {b : Bool} (h : WholeIs K H v b) (s : Same H H') : WholeIs K H' v b := by
  obtain ⟨t, b1, b2, ty, r⟩ := h
  exact ⟨t, b1, b2, ty_same ty s, r⟩
theorem PairIs.same {K : PySem.W.Frag} {H H' : Hp} {v : V} {b : Bool} (h : PairIs K H v b) (s : Same H H') : PairIs K H' v b := by
  rcases h with ⟨e, t, ty, k⟩ | ⟨a, xs, e, ht, h⟩
  · exact .inl ⟨e, t, ty_same ty s, k⟩
  · refine .inr ⟨a, xs, e, Same.tup s ht, ?_⟩
    rcases h with h | ⟨x, y, e, h⟩
    · exact .inl h
    · refine .inr ⟨x, y, e, ?_⟩
      rcases h with ⟨e1, w⟩ | ⟨i, e1, e2, w⟩ | h
      · exact .inl ⟨e1, w.same s⟩
      · exact .inr (.inl ⟨i, e1, e2, w.same s⟩)
      · exact .inr (.inr h)
end WS
set_option Elab.async false
set_option linter.all false
set_option maxRecDepth 100000
set_option maxHeartbeats 4000000
namespace WS
open PySem PySem.Spec PyProof.Rows L2
/-! defs that let exceptions out, of any kind -/
theorem fun_ok {CX : CXT} {P : Program} {w : World} {K : PySem.W.Frag} {mg : Str → Option Value} {base : Heap} {x qual : Str} {st : Stmt} {f : Addr} {fd : FuncData} {N ps : List Str} {k : Nat} {sp : Sp}
    (F : Fun K x qual st f fd) (S : FnScope N ps (defScope st)) (len : ∀ vs H Q E, sp vs H Q E → vs.length = ps.length)
    (B : ∀ (cdv : Value) (A : Around) (outer : List Env) (s : Shared) (H : Hp) (vs : List V) (Q : VK) (E : XK), Room k (A.deeper (envOfC qual (defScope st) s.heap.objs.size f cdv)) → sp vs H Q E →
      ∃ t, PSs (cxOf CX P w K mg base N qual (defScope st) f cdv A outer s H E) (defBody st) t ∧ t ⟨fun _ H' => Q .non H', Q, fun _ _ => False, fun _ _ => False⟩ (start N vs) H) : FnOk P w K mg base CX (k + 1) f fd ps sp := by
  obtain ⟨oc, od, kV, doc, pm, an, cdv, ct, osl, rfl, lk, code⟩ := F.ex
  exact fn_of lk code S len (B cdv)
theorem passN {X : Cx} : Passes (L2N.CX X.prog X.w) X E0 := L2N.passes_call takes0N (fun _ _ _ _ h => h)
def tCallND (n m : Nat) (sp : Sp) (gV : List V → List V → List V) (E : L2.St → XK) (t tk : TA) : TE := fun σ H Q => t σ H fun vs H1 => tk σ H1 fun zs H2 => vs.length = n ∧ zs.length = m ∧ sp (gV vs zs) H2 Q (E σ)
theorem pe_callND {X : Cx} {CX : CXT} {k n : Nat} {f : Addr} {fd : FuncData} {ps ks : List Str} {sp : Sp} {E : L2.St → XK} {x : Str} {p1 pos : Pos} {e : Expr} {es : List Expr} {kws : List Keyword} {t tk : TA} {g : List Value → List Value → List Value} {gV : List V → List V → List V}
    (F : FnOk X.prog X.w X.K X.mg X.base CX k f fd ps sp) (room : Room k X.A) (gl : Gl X x) (at_x : X.mg x = some (.ref f)) (kp : PySem.W.keepIn X.K (.ref f) = true) (kb : KBn X.K fd ps n ks g gV) (ex : ∀ σ, PassesAt CX X σ (E σ))
    (args : PA X (e :: es) t) (kwa : PK X kws tk) (all : (backToKw pos (keywordEach kws X.env)).all (·.1.isSome) = true := by rfl) (names : (backToKw pos (keywordEach kws X.env)).filterMap (·.1) = ks := by rfl)
    (nodbg : (x == ("__debug__" : Str)) = false := by decide) (one : starEach (e :: es) X.env = (false, eval e X.env) :: starEach es X.env := by rfl)
    (nostar : ((backTo pos (starEach (e :: es) X.env)).any (·.1) || (backToKw pos (keywordEach kws X.env)).any (·.1.isNone)) = false := by rfl) :
    PE X (.Call (.Name x p1) (e :: es) kws pos) (tCallND n ks.length sp gV E t tk) := by
  constructor
  intro pins s σ H Q inv want
  refine wpAny_Call_Name_kw (ld_glob inv gl at_x ?_ nodbg)
  refine PySem.W.callWith_KW (h₀ := X.base) inv.ok.mod.kin kp all (thn (args.run pos pins s σ H _ inv want) ?_) nostar one
  rintro us s1 ⟨vs, H1, inv1, vals, want1⟩
  refine thn (kwa.run pos pins s1 σ H1 _ inv1 want1) ?_
  rintro ws s2 ⟨zs, H2, inv2, zals, l1, l2, want2⟩
  refine ⟨inv2.kIn, ?_⟩
  rw [names]
  have rel := kb.rel vals zals
  refine wpAny_call (codeAny_mono (F.run X.A X.stack s2 H2 ⟨us, ks.zip ws⟩ (g us ws) (gV vs zs) Q (E σ) room inv2.env0 (kb.to s2 us ws inv2.kIn (vals.length.symm.trans l1) (zals.length.symm.trans l2)) rel want2) ?_)
  intro r s' z
  match r, z with
  | .error er, z => exact ex σ pins H2 s2 er s' inv2 z
  | .ok (.ret u), z => exact inv2.after z
  | .ok .next, z => exact z.elim
  | .ok .brk, z => exact z.elim
  | .ok .cont, z => exact z.elim
theorem kbn_one {K : PySem.W.Frag} {x qual : Str} {params : Arguments} {body : List Stmt} {scope : Scope} {dvs : List V} {f : Addr} {fd : FuncData} {ps : List Str} (F : FunD K x qual params body scope dvs [] f fd) (n : Nat) (ks : List Str) (hd : dvs ≠ [])
    (h : ∀ (T : Addr) (kV doc pm : Value) (an : Option Addr) (cdv ct : Value) (us its ws : List Value), us.length = n → its.length = dvs.length → ws.length = ks.length →
      ∃ k, bindArgs (PySem.W.fnOf x qual params body scope (.ref T) kV doc pm an cdv ct) ⟨us, ks.zip ws⟩ = seqItems? (.ref T) >>= k ∧ k (some its.toArray) = pure (ps.zip (us ++ ws))) :
    KBn K fd ps n ks (fun us ws => us ++ ws) (fun vs zs => vs ++ zs) := by
  obtain ⟨oc, od, dV, kV, doc, pm, an, cdv, ct, osl, rfl, lk, code, D, _⟩ := F.ex
  rcases D with ⟨e, _⟩ | ⟨_, T, o, its, m, rfl, lT, oT, rT⟩
  · exact absurd e hd
  · refine ⟨fun s us ws inK l1 l2 => BindsTo.of_looks fun M => ?_, fun r1 r2 => r1.append r2⟩
    obtain ⟨k, e1, e2⟩ := h T kV doc pm an cdv ct us its ws l1 rT.length.symm l2
    rw [e1]
    exact looks_items inK lT oT (.of_pure e2)
/-! things of two dozen sorts that are no whole numbers, and no parts -/
def Odd2 (p : Addr) (K : PySem.W.Frag) (H : Hp) (v : V) : Prop := v = .non ∨ (∃ b, v = .bl b) ∨ (∃ z, v = .str z) ∨ ∃ a, v = .ref a ∧ ((∃ xs, SqT K H a xs ∧ (xs.length ≠ 2 ∨ (∃ y, xs = [.non, y]) ∨ (∃ z y, xs = [.str z, y]) ∨ xs = [.int 2, .int 2])) ∨ (a ≠ p ∧ ∃ xs, H a = some (.lst xs)) ∨ (a ≠ p ∧ ∃ kvs, H a = some (.dK kvs)))
theorem Odd2.odd {p : Addr} {K : PySem.W.Frag} {H : Hp} {v : V} (h : Odd2 p K H v) : Odd p K H v := by
  rcases h with h | h | h | ⟨a, e, ⟨xs, h, _⟩ | h | h⟩
  · exact .inl h
  · exact .inr (.inl h)
  · exact .inr (.inr (.inl h))
  · exact .inr (.inr (.inr ⟨a, e, .inl ⟨xs, h⟩⟩))
  · exact .inr (.inr (.inr ⟨a, e, .inr (.inl h)⟩))
  · exact .inr (.inr (.inr ⟨a, e, .inr (.inr h)⟩))
theorem Odd2.x {p : Addr} {K : PySem.W.Frag} {H H' : Hp} {v : V} (h : Odd2 p K H v) (s : SameX p H H') (hp : PotAt H p) : Odd2 p K H' v := by
  rcases h with h | h | h | ⟨a, e, ⟨xs, h, r⟩ | ⟨n, xs, h⟩ | ⟨n, kvs, h⟩⟩
  · exact .inl h
  · exact .inr (.inl h)
  · exact .inr (.inr (.inl h))
  · exact .inr (.inr (.inr ⟨a, e, .inl ⟨xs, s.tup hp h, r⟩⟩))
  · exact .inr (.inr (.inr ⟨a, e, .inr (.inl ⟨n, xs, s a _ n h⟩)⟩))
  · exact .inr (.inr (.inr ⟨a, e, .inr (.inr ⟨n, kvs, s a _ n h⟩)⟩))
theorem pair_len {K : PySem.W.Frag} {H : Hp} {a : Addr} {xs : List V} (h : SqT K H a xs) (n : xs.length ≠ 2) : PairIs K H (.ref a) false := .inr ⟨a, xs, rfl, h, .inl ⟨rfl, n⟩⟩
theorem pair_fst {K : PySem.W.Frag} {H : Hp} {a : Addr} {x y : V} (h : SqT K H a [x, y]) (n : WholeIs K H x false) : PairIs K H (.ref a) false := .inr ⟨a, _, rfl, h, .inr ⟨x, y, rfl, .inl ⟨rfl, n⟩⟩⟩
theorem pair_snd {K : PySem.W.Frag} {H : Hp} {a : Addr} {i : Int} {y : V} (h : SqT K H a [.int i, y]) (n : WholeIs K H y false) : PairIs K H (.ref a) false := .inr ⟨a, _, rfl, h, .inr ⟨_, y, rfl, .inr (.inl ⟨i, rfl, rfl, n⟩)⟩⟩
theorem Odd2.pair {p : Addr} {K : PySem.W.Frag} {H : Hp} {v : V} (h : Odd2 p K H v) : PairIs K H v false := by
  rcases h with rfl | ⟨b, rfl⟩ | ⟨z, rfl⟩ | ⟨a, rfl, ⟨xs, h, r⟩ | ⟨n, xs, h⟩ | ⟨n, kvs, h⟩⟩
  · exact .inl ⟨rfl, _, .base .non, kit_ty (by decide +kernel)⟩
  · exact .inl ⟨rfl, _, .base (.bl b), kit_ty (by decide +kernel)⟩
  · exact .inl ⟨rfl, _, .base (.str z), kit_ty (by decide +kernel)⟩
  · rcases r with r | ⟨y, rfl⟩ | ⟨z, y, rfl⟩ | rfl
    · exact pair_len h r
    · exact pair_fst h whole_non
    · exact pair_fst h whole_str
    · exact pair_of ⟨a, rfl, h⟩
  · exact .inl ⟨rfl, _, .base (.lst h), kit_ty (by decide +kernel)⟩
  · exact .inl ⟨rfl, _, .base (.dK h), kit_ty (by decide +kernel)⟩
/-- the part that two things make, or the word for a refusal -/
def DueOf (K : PySem.W.Frag) (H : Hp) (u v : V) (Q : VK) : Prop := (∃ a b : Int, u = .int a ∧ v = .int b ∧ b ≠ 0 ∧ Bt 400 a ∧ Bt 400 b ∧ NewT K H (sg a b).1 (sg a b).2 Q) ∨ (NoPartOf K H u v ∧ ∀ H', Same H H' → Q (.str "alone") H')
def DueSh (K : PySem.W.Frag) (H : Hp) (a b : Int) (m : V) (Q : VK) : Prop := (∃ i : Int, m = .int i ∧ 1 ≤ i ∧ Bt 400 i ∧ NewT K H (lo a (b * i)).1 (lo a (b * i)).2 Q) ∨ (Bad K H m ∧ ∀ H', Same H H' → Q (.str "alone") H')
end WS
set_option Elab.async false
set_option linter.all false
set_option maxRecDepth 100000
set_option maxHeartbeats 4000000
namespace WS
open PySem PySem.Spec PyProof.Rows L2
def topS (i : Nat) : Stmt := PySem.Challenge.pw_whoserves_k16_what_makes_no_part.main.body.getD i (.Pass ⟨0, 0, 0, 0⟩)
abbrev s_is_whole : Stmt := topS 21
theorem sc_is_whole : FnScope ["thing"] ["thing"] (defScope s_is_whole) := ⟨rfl, rfl, rfl, by decide +kernel, rfl, by decide +kernel, by decide +kernel⟩
abbrev s_greatest_common : Stmt := topS 22
theorem sc_greatest_common : FnScope ["one", "other"] ["one", "other"] (defScope s_greatest_common) := ⟨rfl, rfl, rfl, by decide +kernel, rfl, by decide +kernel, by decide +kernel⟩
abbrev s_is_part : Stmt := topS 23
theorem sc_is_part : FnScope ["thing", "above", "below"] ["thing"] (defScope s_is_part) := ⟨rfl, rfl, rfl, by decide +kernel, rfl, by decide +kernel, by decide +kernel⟩
abbrev s_part : Stmt := topS 24
theorem sc_part : FnScope ["above", "below", "common"] ["above", "below"] (defScope s_part) := ⟨rfl, rfl, rfl, by decide +kernel, rfl, by decide +kernel, by decide +kernel⟩
abbrev s_shared : Stmt := topS 25
theorem sc_shared : FnScope ["one", "many"] ["one", "many"] (defScope s_shared) := ⟨rfl, rfl, rfl, by decide +kernel, rfl, by decide +kernel, by decide +kernel⟩
abbrev s_lpot : Stmt := topS 27
theorem sc_lpot : FnScope ["_law_script", "_law_k", "_law_cell"] ["_law_script", "_law_k"] (defScope s_lpot) := ⟨rfl, rfl, rfl, by decide +kernel, rfl, by decide +kernel, by decide +kernel⟩
abbrev s_ldigit : Stmt := topS 28
theorem sc_ldigit : FnScope ["_law_pot_here", "_law_many", "_law_digit_here"] ["_law_pot_here", "_law_many"] (defScope s_ldigit) := ⟨rfl, rfl, rfl, by decide +kernel, rfl, by decide +kernel, by decide +kernel⟩
abbrev s_llow : Stmt := topS 29
theorem sc_llow : FnScope ["_law_above", "_law_under", "_law_one", "_law_other"] ["_law_above", "_law_under"] (defScope s_llow) := ⟨rfl, rfl, rfl, by decide +kernel, rfl, by decide +kernel, by decide +kernel⟩
abbrev s_lnumber : Stmt := topS 30
theorem sc_lnumber : FnScope ["_law_pot_here", "_law_way", "_law_least"] ["_law_pot_here"] (defScope s_lnumber) := ⟨rfl, rfl, rfl, by decide +kernel, rfl, by decide +kernel, by decide +kernel⟩
abbrev s_lodd : Stmt := topS 31
theorem sc_lodd : FnScope ["_law_pot_here", "_law_some"] ["_law_pot_here"] (defScope s_lodd) := ⟨rfl, rfl, rfl, by decide +kernel, rfl, by decide +kernel, by decide +kernel⟩
abbrev s_lis_whole : Stmt := topS 32
theorem sc_lis_whole : FnScope ["_law_thing"] ["_law_thing"] (defScope s_lis_whole) := ⟨rfl, rfl, rfl, by decide +kernel, rfl, by decide +kernel, by decide +kernel⟩
abbrev s_lis_alone : Stmt := topS 33
theorem sc_lis_alone : FnScope ["_law_e", "_law_others"] ["_law_e"] (defScope s_lis_alone) := ⟨rfl, rfl, rfl, by decide +kernel, rfl, by decide +kernel, by decide +kernel⟩
abbrev s_lmade : Stmt := topS 34
theorem sc_lmade : FnScope ["_law_above", "_law_under", "_law_way", "_law_told", "_law_e"] ["_law_above", "_law_under", "_law_way"] (defScope s_lmade) := ⟨rfl, rfl, rfl, by decide +kernel, rfl, by decide +kernel, by decide +kernel⟩
abbrev s_lparted_by : Stmt := topS 35
theorem sc_lparted_by : FnScope ["_law_one", "_law_many", "_law_told", "_law_e"] ["_law_one", "_law_many"] (defScope s_lparted_by) := ⟨rfl, rfl, rfl, by decide +kernel, rfl, by decide +kernel, by decide +kernel⟩
abbrev s_ldue : Stmt := topS 36
theorem sc_ldue : FnScope ["_law_above", "_law_under"] ["_law_above", "_law_under"] (defScope s_ldue) := ⟨rfl, rfl, rfl, by decide +kernel, rfl, by decide +kernel, by decide +kernel⟩
abbrev s_ldue_shared : Stmt := topS 37
theorem sc_ldue_shared : FnScope ["_law_one", "_law_many"] ["_law_one", "_law_many"] (defScope s_ldue_shared) := ⟨rfl, rfl, rfl, by decide +kernel, rfl, by decide +kernel, by decide +kernel⟩
abbrev s_lnone_is : Stmt := topS 38
theorem sc_lnone_is : FnScope ["_law_one", "_law_thing", "_law_above", "_law_under", "_law_some", "_law_other"] ["_law_one", "_law_thing"] (defScope s_lnone_is) := ⟨rfl, rfl, rfl, by decide +kernel, rfl, by decide +kernel, by decide +kernel⟩
abbrev s_lright : Stmt := topS 39
theorem sc_lright : FnScope ["_law_pot_here", "_law_ways", "_law_odd_here", "_law_above", "_law_under", "_law_good", "_law_things", "_law_many"] ["_law_pot_here"] (defScope s_lright) := ⟨rfl, rfl, rfl, by decide +kernel, rfl, by decide +kernel, by decide +kernel⟩
abbrev s_law : Stmt := topS 40
theorem sc_law : FnScope ["_law_script", "_law_k"] ["_law_script"] (defScope s_law) := ⟨rfl, rfl, rfl, by decide +kernel, rfl, by decide +kernel, by decide +kernel⟩
structure Tx (K : PySem.W.Frag) (mg : Str → Option Value) where
  f_is_whole : Addr
  d_is_whole : FuncData
  g_is_whole : mg "is_whole" = some (.ref f_is_whole)
  F_is_whole : Fun K "is_whole" "is_whole" s_is_whole f_is_whole d_is_whole
  b_is_whole : Binds K d_is_whole ["thing"] []
  f_greatest_common : Addr
  d_greatest_common : FuncData
  g_greatest_common : mg "greatest_common" = some (.ref f_greatest_common)
  F_greatest_common : Fun K "greatest_common" "greatest_common" s_greatest_common f_greatest_common d_greatest_common
  b_greatest_common : Binds K d_greatest_common ["one", "other"] []
  f_is_part : Addr
  d_is_part : FuncData
  g_is_part : mg "is_part" = some (.ref f_is_part)
  F_is_part : Fun K "is_part" "is_part" s_is_part f_is_part d_is_part
  b_is_part : Binds K d_is_part ["thing"] []
  f_part : Addr
  d_part : FuncData
  g_part : mg "part" = some (.ref f_part)
  F_part : FunD K "part" "part" (defArgs s_part) (defBody s_part) (defScope s_part) [.int 1] [] f_part d_part
  b_part : Binds K d_part ["above", "below"] []
  v_part : List Value
  vb_part : Vals [.int 1] v_part
  b1_part : Binds K d_part ["above", "below"] v_part
  kb_part : KBn K d_part ["above", "below"] 1 ["below"] (fun us ws => us ++ ws) (fun us ws => us ++ ws)
  f_shared : Addr
  d_shared : FuncData
  g_shared : mg "shared" = some (.ref f_shared)
  F_shared : Fun K "shared" "shared" s_shared f_shared d_shared
  b_shared : Binds K d_shared ["one", "many"] []
  f_lpot : Addr
  d_lpot : FuncData
  g_lpot : mg "_law_pot" = some (.ref f_lpot)
  F_lpot : Fun K "_law_pot" "_law_pot" s_lpot f_lpot d_lpot
  b_lpot : Binds K d_lpot ["_law_script", "_law_k"] []
  f_ldigit : Addr
  d_ldigit : FuncData
  g_ldigit : mg "_law_digit" = some (.ref f_ldigit)
  F_ldigit : Fun K "_law_digit" "_law_digit" s_ldigit f_ldigit d_ldigit
  b_ldigit : Binds K d_ldigit ["_law_pot_here", "_law_many"] []
  f_llow : Addr
  d_llow : FuncData
  g_llow : mg "_law_low" = some (.ref f_llow)
  F_llow : Fun K "_law_low" "_law_low" s_llow f_llow d_llow
  b_llow : Binds K d_llow ["_law_above", "_law_under"] []
  f_lnumber : Addr
  d_lnumber : FuncData
  g_lnumber : mg "_law_number" = some (.ref f_lnumber)
  F_lnumber : Fun K "_law_number" "_law_number" s_lnumber f_lnumber d_lnumber
  b_lnumber : Binds K d_lnumber ["_law_pot_here"] []
  f_lodd : Addr
  d_lodd : FuncData
  g_lodd : mg "_law_odd" = some (.ref f_lodd)
  F_lodd : Fun K "_law_odd" "_law_odd" s_lodd f_lodd d_lodd
  b_lodd : Binds K d_lodd ["_law_pot_here"] []
  f_lis_whole : Addr
  d_lis_whole : FuncData
  g_lis_whole : mg "_law_is_whole" = some (.ref f_lis_whole)
  F_lis_whole : Fun K "_law_is_whole" "_law_is_whole" s_lis_whole f_lis_whole d_lis_whole
  b_lis_whole : Binds K d_lis_whole ["_law_thing"] []
  f_lis_alone : Addr
  d_lis_alone : FuncData
  g_lis_alone : mg "_law_is_alone" = some (.ref f_lis_alone)
  F_lis_alone : Fun K "_law_is_alone" "_law_is_alone" s_lis_alone f_lis_alone d_lis_alone
  b_lis_alone : Binds K d_lis_alone ["_law_e"] []
  f_lmade : Addr
  d_lmade : FuncData
  g_lmade : mg "_law_made" = some (.ref f_lmade)
  F_lmade : Fun K "_law_made" "_law_made" s_lmade f_lmade d_lmade
  b_lmade : Binds K d_lmade ["_law_above", "_law_under", "_law_way"] []
  f_lparted_by : Addr
  d_lparted_by : FuncData
  g_lparted_by : mg "_law_parted_by" = some (.ref f_lparted_by)
  F_lparted_by : Fun K "_law_parted_by" "_law_parted_by" s_lparted_by f_lparted_by d_lparted_by
  b_lparted_by : Binds K d_lparted_by ["_law_one", "_law_many"] []
  f_ldue : Addr
  d_ldue : FuncData
  g_ldue : mg "_law_due" = some (.ref f_ldue)
  F_ldue : Fun K "_law_due" "_law_due" s_ldue f_ldue d_ldue
  b_ldue : Binds K d_ldue ["_law_above", "_law_under"] []
  f_ldue_shared : Addr
  d_ldue_shared : FuncData
  g_ldue_shared : mg "_law_due_shared" = some (.ref f_ldue_shared)
  F_ldue_shared : Fun K "_law_due_shared" "_law_due_shared" s_ldue_shared f_ldue_shared d_ldue_shared
  b_ldue_shared : Binds K d_ldue_shared ["_law_one", "_law_many"] []
  f_lnone_is : Addr
  d_lnone_is : FuncData
  g_lnone_is : mg "_law_none_is" = some (.ref f_lnone_is)
  F_lnone_is : Fun K "_law_none_is" "_law_none_is" s_lnone_is f_lnone_is d_lnone_is
  b_lnone_is : Binds K d_lnone_is ["_law_one", "_law_thing"] []
  f_lright : Addr
  d_lright : FuncData
  g_lright : mg "_law_right" = some (.ref f_lright)
  F_lright : Fun K "_law_right" "_law_right" s_lright f_lright d_lright
  b_lright : Binds K d_lright ["_law_pot_here"] []
  f_law : Addr
  d_law : FuncData
  g_law : mg "law" = some (.ref f_law)
  F_law : Fun K "law" "law" s_law f_law d_law
  b_law : Binds K d_law ["_law_script"] []
  c_NoPart : Addr
  gc_NoPart : mg "NoPart" = some (.ref c_NoPart)
  x_NoPart : PySem.W.excIn K c_NoPart [.type "ValueError", .type "Exception", .type "BaseException", .type "object"] "ValueError.__new__" = true
  kc_NoPart : PySem.W.keepIn K (.ref c_NoPart) = true
  bc_NoPart : PySem.W.subIn K (.ref c_NoPart) (.type "BaseException") = some true
  tc_NoPart : PySem.W.typeIn K (.ref c_NoPart) = some (.type "type")
  hc_NoPart : PySem.W.hasDictIn K c_NoPart = true
  sc_NoPart : PySem.W.subIn K (.ref c_NoPart) (.ref c_NoPart) = some true
  c_NoName : Addr
  gc_NoName : mg "NoName" = some (.ref c_NoName)
  o_NoName : Oth K c_NoPart c_NoName
  c_NoWeight : Addr
  gc_NoWeight : mg "NoWeight" = some (.ref c_NoWeight)
  o_NoWeight : Oth K c_NoPart c_NoWeight
  c_NoPerson : Addr
  gc_NoPerson : mg "NoPerson" = some (.ref c_NoPerson)
  o_NoPerson : Oth K c_NoPart c_NoPerson
  c_NoSeat : Addr
  gc_NoSeat : mg "NoSeat" = some (.ref c_NoSeat)
  o_NoSeat : Oth K c_NoPart c_NoSeat
  c_NoEvening : Addr
  gc_NoEvening : mg "NoEvening" = some (.ref c_NoEvening)
  o_NoEvening : Oth K c_NoPart c_NoEvening
  c_NoDuty : Addr
  gc_NoDuty : mg "NoDuty" = some (.ref c_NoDuty)
  o_NoDuty : Oth K c_NoPart c_NoDuty
  c_NoGift : Addr
  gc_NoGift : mg "NoGift" = some (.ref c_NoGift)
  o_NoGift : Oth K c_NoPart c_NoGift
  c_Unlike : Addr
  gc_Unlike : mg "Unlike" = some (.ref c_Unlike)
  o_Unlike : Oth K c_NoPart c_Unlike
  c_NoFact : Addr
  gc_NoFact : mg "NoFact" = some (.ref c_NoFact)
  o_NoFact : Oth K c_NoPart c_NoFact
  c_NoBack : Addr
  gc_NoBack : mg "NoBack" = some (.ref c_NoBack)
  o_NoBack : Oth K c_NoPart c_NoBack
  c_NoDeed : Addr
  gc_NoDeed : mg "NoDeed" = some (.ref c_NoDeed)
  o_NoDeed : Oth K c_NoPart c_NoDeed
  c_NoText : Addr
  gc_NoText : mg "NoText" = some (.ref c_NoText)
  o_NoText : Oth K c_NoPart c_NoText
  c_NoRow : Addr
  gc_NoRow : mg "NoRow" = some (.ref c_NoRow)
  o_NoRow : Oth K c_NoPart c_NoRow
  c_Taken : Addr
  gc_Taken : mg "Taken" = some (.ref c_Taken)
  o_Taken : Oth K c_NoPart c_Taken
  c_Beyond : Addr
  gc_Beyond : mg "Beyond" = some (.ref c_Beyond)
  o_Beyond : Oth K c_NoPart c_Beyond
  c_Unbalanced : Addr
  gc_Unbalanced : mg "Unbalanced" = some (.ref c_Unbalanced)
  o_Unbalanced : Oth K c_NoPart c_Unbalanced
  c_Astray : Addr
  gc_Astray : mg "Astray" = some (.ref c_Astray)
  o_Astray : Oth K c_NoPart c_Astray
  c_ClubError : Addr
  gc_ClubError : mg "ClubError" = some (.ref c_ClubError)
  em : PySem.W.exmOne K (.ref c_NoPart) (.ref c_ClubError) = some true
  xc : ExcC K c_NoPart
  sv : PySem.W.subIn K (.ref c_NoPart) (.type "ValueError") = some true
  n_ValueError : mg "ValueError" = none
  n_abs : mg "abs" = none
  n_all : mg "all" = none
  n_any : mg "any" = none
  n_bool : mg "bool" = none
  n_divmod : mg "divmod" = none
  n_int : mg "int" = none
  n_isinstance : mg "isinstance" = none
  n_len : mg "len" = none
  n_max : mg "max" = none
  n_min : mg "min" = none
  n_range : mg "range" = none
  n_repr : mg "repr" = none
  n_tuple : mg "tuple" = none
section
variable {P : Program} {w : World} {K : PySem.W.Frag} {mg : Str → Option Value} {base : Heap}
theorem ok_is_whole (T : Tx K mg) : FnOk P w K mg base CX0 1 T.f_is_whole T.d_is_whole ["thing"] (spWhole K) := by
  refine T.F_is_whole.ok sc_is_whole (fun vs H Q E h => ?_) (fun cdv A outer s H vs Q E hr h => ?_)
  · obtain ⟨v, b, rfl, _⟩ := h
    rfl
  · obtain ⟨v, b, rfl, ⟨t, b1, b2, ht, k1, k2, rfl⟩, q⟩ := h
    refine ⟨_, (pss_one (ps_ret (pe_and (pe_callB call_isi (by rfl) T.n_isinstance (by decide +kernel) (pa_cons (pv 0) (pa_cons (pe_bltn (v := .ty "int") (by rfl) T.n_int (by decide +kernel) rfl) pa_nil))) (pe_one (pe_not (pe_callB call_isi (by rfl) T.n_isinstance (by decide +kernel) (pa_cons (pv 0) (pa_cons (pe_bltn (v := .ty "bool") (by rfl) T.n_bool (by decide +kernel) rfl) pa_nil)))))))), ?_⟩
    refine ⟨v, rfl, v, _, t, _, b1, rfl, .ty "int", ht, k1, b1, rfl, ?_⟩
    cases b1 with
    | false => exact iteF q
    | true => exact iteT ⟨v, rfl, v, _, t, _, b2, rfl, .ty "bool", ht, k2, b2, rfl, q⟩
theorem ok_greatest_common (T : Tx K mg) : FnOk P w K mg base CX0 1 T.f_greatest_common T.d_greatest_common ["one", "other"] spGcd := by
  refine T.F_greatest_common.ok sc_greatest_common (fun vs H Q E h => ?_) (fun cdv A outer s H vs Q E hr h => ?_)
  · obtain ⟨x, y, rfl, _⟩ := h
    rfl
  · obtain ⟨x, y, rfl, hx, hy, q⟩ := h
    refine ⟨_, (pss_cons (ps_while PassesOwn.never (pt_cmpR op_ne (pv 1) pe_int (nomark _)) (pss_one (ps_par (i := 0) (j := 1) (by rfl) sc_greatest_common.nd rfl rfl (by decide) rfl rfl (pa_cons (pv 1) (pa_cons (pe_op op_mod (pv 0) (pv 1)) pa_nil)) (by rfl))))
        (pss_one (ps_ret (pv 0)))), ?_⟩
    refine while_by (fun σ H' => ∃ a b : Int, σ = [some (.int a), some (.int b)] ∧ 0 ≤ a ∧ 0 ≤ b ∧ Int.gcd a b = Int.gcd x y ∧ H' = H)
      (fun σ _ => match σ with | [_, some (.int b)] => b.toNat | _ => 0) ⟨x, y, rfl, hx, hy, rfl, rfl⟩ ?_ ?_
    · rintro σ H' ⟨a, b, rfl, ha, hb, eg, rfl⟩
      refine ⟨_, rfl, rfl, _, rfl, ?_⟩
      by_cases c : b = 0
      · subst c
        refine iteNS rfl ?_
        refine ⟨_, rfl, ?_⟩
        have e := gcd_zero ha
        rw [eg] at e
        rw [← e]
        exact q
      · have hb' : 0 < b := by omega
        have d : decide (V.int b = V.int 0) = false := decide_eq_false (fun z => c (V.int.inj z))
        rw [d]
        refine iteT ?_
        refine ⟨_, rfl, _, rfl, _, rfl, _, _, rfl, rfl, hb', _, _, rfl, ?_, ?_⟩
        · exact ⟨b, a % b, rfl, hb, Int.emod_nonneg a c, (gcd_step ha hb').trans eg, rfl⟩
        · show (a % b).toNat < b.toNat
          have := Int.emod_lt_of_pos a hb'
          omega
    · rintro σ H Q Q' k ⟨v, h1, h2, c, h3, q⟩
      exact ⟨v, h1, h2, c, h3, k _ _ q⟩
theorem ok_is_part (T : Tx K mg) : FnOk P w K mg base CX0 2 T.f_is_part T.d_is_part ["thing"] (spPair K) := by
  refine T.F_is_part.ok sc_is_part (fun vs H Q E h => ?_) (fun cdv A outer s H vs Q E hr h => ?_)
  · obtain ⟨v, b, rfl, _⟩ := h
    rfl
  · obtain ⟨v, b, rfl, hv, q⟩ := h
    refine ⟨_, (pss_cons (ps_if (PW.pt (pw_or (pt_not (pt_val (pe_callB call_isi (by rfl) T.n_isinstance (by decide +kernel) (pa_cons (pv 0) (pa_cons (pe_bltn (v := .ty "tuple") (by rfl) T.n_tuple (by decide +kernel) rfl) pa_nil))))) (pw_or1 (pt_cmpR op_ne (pe_callB call_len_seq (by rfl) T.n_len (by decide +kernel) (pa_cons (pv 0) pa_nil)) pe_int (nomark _))))) (pss_one (ps_ret pe_bl)) pss_nil)
        (pss_cons (ps_asg (pv 0) (pg_tup (by rfl) (pgs_cons (pg_name (i := 1) sc_is_part.nd rfl (.inl rfl)) (pgs_cons (pg_name (i := 2) sc_is_part.nd rfl (.inl rfl)) pgs_nil))))
        (pss_cons (ps_if (PW.pt (pw_or (pt_not (pt_val (pe_call (ok_is_whole T) (hr.mono (by decide)) (by rfl) T.g_is_whole T.F_is_whole.kp T.b_is_whole .nil pass0 (pa_cons (pv 1) pa_nil)))) (pw_or (pt_not (pt_val (pe_call (ok_is_whole T) (hr.mono (by decide)) (by rfl) T.g_is_whole T.F_is_whole.kp T.b_is_whole .nil pass0 (pa_cons (pv 2) pa_nil)))) (pw_or1 (pt_cmpR op_le (pv 2) pe_int (nomark _)))))) (pss_one (ps_ret pe_bl)) pss_nil)
        (pss_one (ps_ret (pe_cmpR op_eq (pe_call (ok_greatest_common T) (hr.mono (by decide)) (by rfl) T.g_greatest_common T.F_greatest_common.kp T.b_greatest_common .nil pass0 (pa_cons (pe_callB call_abs (by rfl) T.n_abs (by decide +kernel) (pa_cons (pv 1) pa_nil)) (pa_cons (pv 2) pa_nil))) pe_int (nomark _))))))), ?_⟩
    rcases hv with ⟨rfl, t, ht, kt⟩ | ⟨a, xs, rfl, ht, hv⟩
    · exact ⟨_, rfl, _, _, t, _, false, rfl, .ty "tuple", ht, kt, false, rfl, iteT (iteT q)⟩
    · refine ⟨_, rfl, _, _, _, _, true, rfl, .ty "tuple", sqt_ty ht, kit_ty (by decide +kernel), true, rfl, iteF ?_⟩
      refine ⟨_, rfl, a, xs, rfl, .inr ht, rfl, _, rfl, ?_⟩
      rcases hv with ⟨rfl, hl⟩ | ⟨x, y, rfl, hv⟩
      · rw [decide_eq_false (show ¬ V.int (xs.length : Int) = V.int 2 from fun z => hl (by have := V.int.inj z; omega))]
        exact iteT q
      · refine iteF ?_
        refine ⟨_, rfl, a, _, rfl, ht, rfl, x, [y], rfl, y, [], rfl, rfl, ?_⟩
        rcases hv with ⟨rfl, hx⟩ | ⟨i, rfl, rfl, hy⟩ | ⟨i, j, rfl, rfl, rfl⟩
        · exact ⟨_, rfl, _, _, rfl, hx, false, rfl, iteT (iteT q)⟩
        · refine ⟨_, rfl, _, _, rfl, whole_int, true, rfl, iteF ?_⟩
          exact ⟨_, rfl, _, _, rfl, hy, false, rfl, iteT (iteT q)⟩
        · refine ⟨_, rfl, _, _, rfl, whole_int, true, rfl, iteF ⟨_, rfl, _, _, rfl, whole_int, true, rfl, iteF ?_⟩⟩
          refine ⟨_, rfl, _, _, rfl, rfl, _, rfl, ?_⟩
          by_cases c : 0 < j
          · rw [decide_eq_false (show ¬ j ≤ 0 by omega)]
            refine iteF ?_
            refine ⟨_, rfl, _, rfl, _, rfl, _, _, rfl, by split <;> omega, by omega, rfl, ?_⟩
            rw [gcd_abs]
            rw [decide_eq_true c, Bool.true_and] at q
            rw [decide_eq_decide.mpr (show V.int (Int.gcd i j : Int) = V.int 1 ↔ (Int.gcd i j : Int) = 1 from ⟨V.int.inj, congrArg V.int⟩)]
            exact q
          · rw [decide_eq_true (show j ≤ 0 by omega)]
            rw [decide_eq_false c, Bool.false_and] at q
            exact iteT q
theorem ok_part (T : Tx K mg) : FnOk P w K mg base (L2N.CX P w) 3 T.f_part T.d_part ["above", "below"] (spPartG K T.c_NoPart) := by
  refine T.F_part.ok sc_part (fun vs H Q E h => ?_) (fun cdv A outer s H vs Q E hr h => ?_)
  · obtain ⟨u, v, rfl, _⟩ := h
    rfl
  · obtain ⟨u, v, rfl, h⟩ := h
    refine ⟨_, (pss_cons (ps_if (PW.pt (pw_or (pt_not (pt_val (pe_call (ok_is_whole T) (hr.mono (by decide)) (by rfl) T.g_is_whole T.F_is_whole.kp T.b_is_whole .nil pass0 (pa_cons (pv 0) pa_nil)))) (pw_or1 (pt_not (pt_val (pe_call (ok_is_whole T) (hr.mono (by decide)) (by rfl) T.g_is_whole T.F_is_whole.kp T.b_is_whole .nil pass0 (pa_cons (pv 1) pa_nil))))))) (pss_one (L2N.ps_raise rfl (L2N.takes_of rfl rfl rfl rfl) (L2N.pmk_own PySem.F.excBase_ValueError T.x_NoPart T.gc_NoPart T.kc_NoPart (raises_own T.bc_NoPart T.tc_NoPart) (by rfl)))) pss_nil)
        (pss_cons (ps_if (pt_cmpR op_eq (pv 1) pe_int (nomark _)) (pss_one (L2N.ps_raise rfl (L2N.takes_of rfl rfl rfl rfl) (L2N.pmk_own PySem.F.excBase_ValueError T.x_NoPart T.gc_NoPart T.kc_NoPart (raises_own T.bc_NoPart T.tc_NoPart) (by rfl)))) pss_nil)
        (pss_cons (ps_if (pt_cmpR op_lt (pv 1) pe_int (nomark _)) (pss_one (ps_par (i := 0) (j := 1) (by rfl) sc_part.nd rfl rfl (by decide) rfl rfl (pa_cons (pe_un un_neg (pv 0)) (pa_cons (pe_un un_neg (pv 1)) pa_nil)) (by rfl))) pss_nil)
        (pss_cons (ps_set (i := 2) sc_part.nd rfl (.inl rfl) (pe_call (ok_greatest_common T) (hr.mono (by decide)) (by rfl) T.g_greatest_common T.F_greatest_common.kp T.b_greatest_common .nil pass0 (pa_cons (pe_callB call_abs (by rfl) T.n_abs (by decide +kernel) (pa_cons (pv 0) pa_nil)) (pa_cons (pv 1) pa_nil))))
        (pss_one (ps_ret (pe_tup (pa_cons (pe_op op_fdivW (pv 0) (pv 2)) (pa_cons (pe_op op_fdivW (pv 1) (pv 2)) pa_nil))))))))), ?_⟩
    rcases h with ⟨a, b, rfl, rfl, hb, h9, q⟩ | ⟨bad, q⟩
    · refine ⟨_, rfl, _, _, rfl, whole_int, true, rfl, iteF ⟨_, rfl, _, _, rfl, whole_int, true, rfl, iteF ?_⟩⟩
      refine ⟨_, rfl, rfl, _, rfl, ?_⟩
      rw [show decide (V.int b = V.int 0) = false from decide_eq_false (fun z => hb (V.int.inj z))]
      refine iteF ?_
      refine ⟨_, rfl, _, _, rfl, rfl, _, rfl, ?_⟩
      unfold sg at q
      by_cases c : b < 0
      · rw [if_pos c] at q
        rw [decide_eq_true c]
        have g0 : 0 < (Int.gcd (-a) (-b) : Int) := by have := gcd_pos (a := -a) (b := -b) (by omega); omega
        have g9 : Bt 8999 (Int.gcd (-a) (-b) : Int) := gcd_bt (by omega) h9.neg
        refine iteT ⟨_, rfl, _, rfl, _, rfl, _, rfl, _, _, rfl, ?_⟩
        refine ⟨_, rfl, _, rfl, _, rfl, _, _, rfl, by split <;> omega, by omega, ?_⟩
        rw [gcd_abs]
        exact ⟨_, rfl, _, rfl, _, _, rfl, rfl, g9.cdiv g0 (by decide), _, rfl, _, rfl, _, _, rfl, rfl, g9.cdiv g0 (by decide), by show 2 ≤ sizeLine; decide, fun p np => q _ _ (same_new np) TupI.new⟩
      · rw [if_neg c] at q
        rw [decide_eq_false c]
        have g0 : 0 < (Int.gcd a b : Int) := by have := gcd_pos (a := a) (b := b) hb; omega
        have g9 : Bt 8999 (Int.gcd a b : Int) := gcd_bt (by omega) h9
        refine iteF ?_
        refine ⟨_, rfl, _, rfl, _, rfl, _, _, rfl, by split <;> omega, by omega, ?_⟩
        rw [gcd_abs]
        exact ⟨_, rfl, _, rfl, _, _, rfl, rfl, g9.cdiv g0 (by decide), _, rfl, _, rfl, _, _, rfl, rfl, g9.cdiv g0 (by decide), by show 2 ≤ sizeLine; decide, fun p np => q _ _ (same_new np) TupI.new⟩
    · rcases bad with hu | ⟨a, rfl, hv | rfl⟩
      · exact ⟨_, rfl, _, _, rfl, hu, false, rfl, iteT (iteT q)⟩
      · refine ⟨_, rfl, _, _, rfl, whole_int, true, rfl, iteF ?_⟩
        exact ⟨_, rfl, _, _, rfl, hv, false, rfl, iteT q⟩
      · refine ⟨_, rfl, _, _, rfl, whole_int, true, rfl, iteF ⟨_, rfl, _, _, rfl, whole_int, true, rfl, iteF ?_⟩⟩
        refine ⟨_, rfl, rfl, _, rfl, ?_⟩
        rw [show decide (V.int 0 = V.int 0) = true from decide_eq_true rfl]
        exact iteT q
theorem ok_lpot (T : Tx K mg) : FnOk P w K mg base CX0 1 T.f_lpot T.d_lpot ["_law_script", "_law_k"] (spPot K) := by
  refine T.F_lpot.ok sc_lpot (fun vs H Q E h => ?_) (fun cdv A outer s H vs Q E hr h => ?_)
  · obtain ⟨a, ns, k, rfl, _⟩ := h
    rfl
  · obtain ⟨a, ns, k, rfl, hS, k0, k1, q⟩ := h
    refine ⟨_, (pss_cons (ps_set (i := 2) sc_lpot.nd rfl (.inl rfl) pe_int)
        (pss_cons (ps_if (pt_cmpR op_lt (pv 1) (pe_callB call_len_seq (by rfl) T.n_len (by decide +kernel) (pa_cons (pv 0) pa_nil)) (nomark _)) (pss_one (ps_set (i := 2) sc_lpot.nd rfl (.inl rfl) (pe_callB call_abs (by rfl) T.n_abs (by decide +kernel) (pa_cons (pe_ix ix_list (pv 0) (pv 1) (fun _ _ => rfl)) pa_nil)))) pss_nil)
        (pss_one (ps_ret (pe_lst (pa_cons (pe_callB (call_max2 (by rfl)) (by rfl) T.n_max (by decide +kernel) (pa_cons pe_int (pa_cons (pe_op op_sub (pv 2) (pe_op op_pow pe_int pe_int)) pa_nil))) (pa_cons (pe_op op_add (pe_op op_mod (pe_op op_pow (pe_op op_add (pe_op op_add (pe_op op_mod (pv 2) pe_int) (pe_op op_mulW pe_int (pv 1))) pe_int) pe_int) pe_int) pe_int) pa_nil))))))), ?_⟩
    have fin : ∀ c : Int, 0 ≤ c → (tRet (tLst (tCons (tCB (fun xs H Q => ∃ i j, xs = [.int i, .int j] ∧ Q (.int (if j > i then j else i)) H) (tCons (tC (.int 0)) (tCons (tOp (rI0 fun i j => .int (i - j)) (tVar 2) (tOp (rI CPow fun i j => .int (i ^ j.toNat)) (tC (.int 10)) (tC (.int 18)))) tNil))) (tCons (tOp (rI0 fun i j => .int (i + j)) (tOp (rI (fun _ j => 0 < j) fun i j => .int (i % j)) (tOp (rI CPow fun i j => .int (i ^ j.toNat)) (tOp (rI0 fun i j => .int (i + j)) (tOp (rI0 fun i j => .int (i + j)) (tOp (rI (fun _ j => 0 < j) fun i j => .int (i % j)) (tVar 2) (tC (.int 2147483423))) (tOp (rI CMulW fun i j => .int (i * j)) (tC (.int 89)) (tVar 1))) (tC (.int 7))) (tC (.int 2))) (tC (.int 2147483399))) (tC (.int 1))) tNil)))) { nx := fun _ H' => Q .non H', rt := Q } [some (.ref a), some (.int k), some (.int c)] H := by
      intro c hc
      refine ⟨_, rfl, _, _, rfl, rfl, ⟨by decide, by decide, by decide⟩, _, _, rfl, rfl, _, _, rfl, ?_⟩
      have m0 : 0 ≤ c % 2147483423 := Int.emod_nonneg _ (by decide)
      have m1 : c % 2147483423 < 2147483423 := Int.emod_lt_of_pos _ (by decide)
      refine ⟨_, rfl, _, _, rfl, rfl, by show (0 : Int) < 2147483423; decide, _, rfl, _, _, rfl, rfl, ?_, _, _, rfl, rfl, _, _, rfl, rfl, _, _, rfl, rfl, ⟨by decide, by decide, ?_⟩, _, _, rfl, rfl, by show (0 : Int) < 2147483399; decide, _, _, rfl, rfl, by show 2 ≤ sizeLine; decide, fun p np => ?_⟩
      · exact Bt.cmul (n := 10) (m := 10) (Bt.of_lt (by decide) (by decide)) (Bt.of_lt (by omega) (by omega)) (by decide)
      · show (c % 2147483423 + 89 * k + 7).natAbs < 2 ^ 64
        omega
      · refine q p _ (same_new np) np ⟨_, _, upd_same, by split <;> omega, ?_, ?_⟩
        · have := Int.emod_nonneg ((c % 2147483423 + 89 * k + 7) ^ (2 : Int).toNat) (b := 2147483399) (by decide)
          omega
        · have := Int.emod_lt_of_pos ((c % 2147483423 + 89 * k + 7) ^ (2 : Int).toNat) (b := 2147483399) (by decide)
          omega
    refine ⟨_, rfl, _, rfl, a, _, rfl, .inl hS, _, _, rfl, rfl, _, rfl, ?_⟩
    refine ite2 (fun c => ?_) (fun c => ?_)
    · have c := of_decide_eq_true c
      rw [List.length_map] at c
      have hk : k.toNat < ns.length := by omega
      have g : (ns.map V.int)[k.toNat]? = some (.int ns[k.toNat]) := by
        rw [List.getElem?_map, List.getElem?_eq_getElem hk]
        rfl
      refine ⟨_, rfl, _, rfl, a, _, k, _, rfl, rfl, hS, at_of (j := k.toNat) (by omega) g, _, rfl, ?_⟩
      exact fin _ (by split <;> omega)
    · exact fin 0 (by decide)
theorem ok_ldigit (T : Tx K mg) : FnOk P w K mg base CX0 1 T.f_ldigit T.d_ldigit ["_law_pot_here", "_law_many"] spDigit := by
  refine T.F_ldigit.ok sc_ldigit (fun vs H Q E h => ?_) (fun cdv A outer s H vs Q E hr h => ?_)
  · obtain ⟨p, m, rfl, _⟩ := h
    rfl
  · obtain ⟨p, m, rfl, ⟨x, y, hp, hx, hy, hy2⟩, hm, bm, q⟩ := h
    refine ⟨_, (pss_cons (ps_if (pt_cmpR op_gt (pe_ix ix_list (pv 0) pe_int (fun _ _ => rfl)) pe_int (nomark _)) (pss_cons (ps_asg (pe_callB call_divmodW (by rfl) T.n_divmod (by decide +kernel) (pa_cons (pe_ix ix_list (pv 0) pe_int (fun _ _ => rfl)) (pa_cons (pv 1) pa_nil))) (pg_tup (by rfl) (pgs_cons (pg_sub (pv 0) pe_int set_list) (pgs_cons (pg_name (i := 2) sc_ldigit.nd rfl (.inl rfl)) pgs_nil))))
        (pss_one (ps_ret (pv 2)))) pss_nil)
        (pss_cons (ps_asg (pe_op op_mod (pe_op op_add (pe_op op_mulW (pe_ix ix_list (pv 0) pe_int (fun _ _ => rfl)) pe_int) pe_int) pe_int) (pg_sub (pv 0) pe_int set_list))
        (pss_one (ps_ret (pe_op op_mod (pe_op op_fdivW (pe_op op_mod (pe_op op_mulW (pe_ix ix_list (pv 0) pe_int (fun _ _ => rfl)) (pe_ix ix_list (pv 0) pe_int (fun _ _ => rfl))) pe_int) pe_int) (pv 1)))))), ?_⟩
    have hL : SqL K H p [.int x, .int y] := .inl (.inl hp)
    refine ⟨_, rfl, p, _, 0, _, rfl, rfl, hL, atI_nat (j := 0) rfl, _, _, rfl, rfl, _, rfl, ?_⟩
    refine ite2 (fun c => ?_) (fun c => ?_)
    · have c := of_decide_eq_true c
      refine ⟨_, rfl, p, _, 0, _, rfl, rfl, hL, atI_nat (j := 0) rfl, _, rfl, _, _, rfl, ⟨hm, PyProof.noPylong_of_log2 (Nat.lt_of_lt_of_le (PySem.Flt.log2_lt_of (by decide) bm) (by decide))⟩, fun t nt => ?_⟩
      have npt : p ≠ t := ne_of_none hp nt
      have hp' : (upd H t (.tup [.int (x / m), .int (x % m)])) p = some (.lst [.int x, .int y]) := by rw [upd_ne npt]; exact hp
      refine ⟨t, _, rfl, .inl (.inl upd_same), rfl, _, _, rfl, _, rfl, p, _, _, 0, rfl, rfl, hp', rfl, _, _, rfl, rfl, ?_⟩
      refine ⟨_, rfl, ?_⟩
      refine q _ _ (Int.emod_nonneg x (by omega)) (Int.emod_lt_of_pos x hm) ((Same.x (same_new nt)).trans samex_set) ⟨x / m, y, upd_same, Int.ediv_nonneg (by omega) (by omega), hy, hy2⟩
    · refine ⟨_, rfl, p, _, 1, _, rfl, rfl, hL, atI_nat (j := 1) rfl, _, _, rfl, rfl, ?_, _, _, rfl, rfl, _, _, rfl, rfl, by show (0 : Int) < 2147483563; decide, ?_⟩
      · exact Bt.cmul (n := 32) (m := 32) (Bt.of_lt (by omega) (by omega)) (Bt.of_lt (by decide) (by decide)) (by decide)
      · refine ⟨_, rfl, p, _, _, 1, rfl, rfl, hp, rfl, ?_⟩
        have z0 : 0 ≤ (y * 45763 + 10061) % 2147483563 := Int.emod_nonneg _ (by decide)
        have z1 : (y * 45763 + 10061) % 2147483563 < 2147483563 := Int.emod_lt_of_pos _ (by decide)
        have hL2 : SqL K (upd H p (.lst [.int x, .int ((y * 45763 + 10061) % 2147483563)])) p [.int x, .int ((y * 45763 + 10061) % 2147483563)] := .inl (.inl upd_same)
        refine ⟨_, rfl, p, _, 1, _, rfl, rfl, hL2, atI_nat (j := 1) rfl, _, rfl, p, _, 1, _, rfl, rfl, hL2, atI_nat (j := 1) rfl, _, _, rfl, rfl, ?_, _, _, rfl, rfl, by show (0 : Int) < 2147483477; decide, _, _, rfl, rfl, ?_, _, rfl, _, _, rfl, rfl, hm, ?_⟩
        · exact Bt.cmul (n := 32) (m := 32) (Bt.of_lt (by omega) (by omega)) (Bt.of_lt (by omega) (by omega)) (by decide)
        · exact Bt.cdiv (n := 10) (by decide) (Bt.of_lt (by decide) (by decide)) (by decide)
        · exact q _ _ (Int.emod_nonneg _ (by omega)) (Int.emod_lt_of_pos _ hm) samex_set ⟨x, _, upd_same, hx, z0, by omega⟩
theorem ok_llow (T : Tx K mg) : FnOk P w K mg base CX0 1 T.f_llow T.d_llow ["_law_above", "_law_under"] (spLow K) := by
  refine T.F_llow.ok sc_llow (fun vs H Q E h => ?_) (fun cdv A outer s H vs Q E hr h => ?_)
  · obtain ⟨a, b, rfl, _⟩ := h
    rfl
  · obtain ⟨x, y, rfl, hy, h9, q⟩ := h
    refine ⟨_, (pss_cons (ps_par (i := 2) (j := 3) (by rfl) sc_llow.nd rfl rfl (by decide) rfl rfl (pa_cons (pe_callB call_abs (by rfl) T.n_abs (by decide +kernel) (pa_cons (pv 0) pa_nil)) (pa_cons (pv 1) pa_nil)) (by rfl))
        (pss_cons (ps_while PassesOwn.never (pt_cmpR op_gt (pv 3) pe_int (nomark _)) (pss_one (ps_par (i := 2) (j := 3) (by rfl) sc_llow.nd rfl rfl (by decide) rfl rfl (pa_cons (pv 3) (pa_cons (pe_op op_mod (pv 2) (pv 3)) pa_nil)) (by rfl))))
        (pss_one (ps_ret (pe_tup (pa_cons (pe_op op_fdivW (pv 0) (pv 2)) (pa_cons (pe_op op_fdivW (pv 1) (pv 2)) pa_nil))))))), ?_⟩
    refine ⟨_, rfl, _, rfl, _, rfl, _, _, rfl, ?_⟩
    refine while_by (fun σ H' => ∃ a b : Int, σ = [some (.int x), some (.int y), some (.int a), some (.int b)] ∧ 0 ≤ a ∧ 0 ≤ b ∧ Int.gcd a b = Int.gcd x y ∧ H' = H)
      (fun σ _ => match σ with | [_, _, _, some (.int b)] => b.toNat | _ => 0) ⟨_, _, rfl, by split <;> omega, by omega, gcd_abs x y, rfl⟩ ?_ ?_
    · rintro σ H' ⟨a, b, rfl, ha, hb, eg, rfl⟩
      refine ⟨_, rfl, _, _, rfl, rfl, _, rfl, ?_⟩
      by_cases c : b = 0
      · subst c
        rw [show decide ((0 : Int) < 0) = false from rfl]
        refine iteF ?_
        have e := gcd_zero ha
        rw [eg] at e
        have g0 : 0 < (Int.gcd x y : Int) := by have := gcd_pos (a := x) (b := y) (by omega); omega
        have g9 : Bt 8999 (Int.gcd x y : Int) := gcd_bt hy h9
        rw [← e]
        refine ⟨_, rfl, _, rfl, _, _, rfl, rfl, g9.cdiv g0 (by decide), _, rfl, _, rfl, _, _, rfl, rfl, g9.cdiv g0 (by decide), by show 2 ≤ sizeLine; decide, fun p np => q _ _ (same_new np) TupI.new⟩
      · have hb' : 0 < b := by omega
        rw [show decide (0 < b) = true from decide_eq_true hb']
        refine iteT ?_
        refine ⟨_, rfl, _, rfl, _, rfl, _, _, rfl, rfl, hb', _, _, rfl, ?_, ?_⟩
        · exact ⟨b, a % b, rfl, hb, Int.emod_nonneg a c, (gcd_step ha hb').trans eg, rfl⟩
        · show (a % b).toNat < b.toNat
          have := Int.emod_lt_of_pos a hb'
          omega
    · rintro σ H Q Q' k ⟨v, h1, i, j, h2, h3, c, h4, q⟩
      exact ⟨v, h1, i, j, h2, h3, c, h4, k _ _ q⟩
theorem ok_lis_whole (T : Tx K mg) : FnOk P w K mg base CX0 1 T.f_lis_whole T.d_lis_whole ["_law_thing"] (spWhole K) := by
  refine T.F_lis_whole.ok sc_lis_whole (fun vs H Q E h => ?_) (fun cdv A outer s H vs Q E hr h => ?_)
  · obtain ⟨v, b, rfl, _⟩ := h
    rfl
  · obtain ⟨v, b, rfl, ⟨t, b1, b2, ht, k1, k2, rfl⟩, q⟩ := h
    refine ⟨_, (pss_one (ps_ret (pe_and (pe_callB call_isi (by rfl) T.n_isinstance (by decide +kernel) (pa_cons (pv 0) (pa_cons (pe_bltn (v := .ty "int") (by rfl) T.n_int (by decide +kernel) rfl) pa_nil))) (pe_one (pe_not (pe_callB call_isi (by rfl) T.n_isinstance (by decide +kernel) (pa_cons (pv 0) (pa_cons (pe_bltn (v := .ty "bool") (by rfl) T.n_bool (by decide +kernel) rfl) pa_nil)))))))), ?_⟩
    refine ⟨v, rfl, v, _, t, _, b1, rfl, .ty "int", ht, k1, b1, rfl, ?_⟩
    cases b1 with
    | false => exact iteF q
    | true => exact iteT ⟨v, rfl, v, _, t, _, b2, rfl, .ty "bool", ht, k2, b2, rfl, q⟩
theorem ok_lis_alone (T : Tx K mg) {A : Around} {a : Addr} {oe : Obj} {cls : Value} {d : Option Addr} (hot : L2H.Hot1 A (a, oe)) (hz : L2N.Zn cls d oe) : FnHot A (a, oe) P w K mg base 1 T.f_lis_alone T.d_lis_alone ["_law_e"] (spAlone a cls d T.c_NoPart) := by
  refine fun_hot T.F_lis_alone sc_lis_alone (fun vs H Q E h => ?_) (fun cdv outer s H vs Q hr h => ?_)
  · obtain ⟨rfl, _⟩ := h
    rfl
  · obtain ⟨rfl, hcl, hdi, q⟩ := h
    have hmem : (a, oe) ∈ (L2H.cxH CX0 P w K mg base ["_law_e", "_law_others"] "_law_is_alone" (defScope s_lis_alone) T.f_lis_alone cdv A outer s H E0 (a, oe)).pn := List.mem_cons_self
    have hfi : ∃ vs, oe.data = .fields vs := by
      obtain ⟨_, vs, e, _⟩ := hot
      exact ⟨vs, e⟩
    replace hcl : oe.cls = .ref T.c_NoPart := hz.1.trans hcl
    replace hdi : oe.dict = none := hz.2.1.trans hdi
    refine ⟨_, (pss_cons (ps_set (i := 1) sc_lis_alone.nd rfl (.inl rfl) (pe_lst (pa_cons (pe_callB (call_isPT hmem T.xc hcl hdi hfi) (by rfl) T.n_isinstance (by decide +kernel) (pa_cons (pv 0) (pa_cons (pe_tup (pa_cons (pe_glob (v := .ref T.c_NoName) (by rfl) T.gc_NoName rfl) (pa_cons (pe_glob (v := .ref T.c_NoWeight) (by rfl) T.gc_NoWeight rfl) (pa_cons (pe_glob (v := .ref T.c_NoPerson) (by rfl) T.gc_NoPerson rfl) (pa_cons (pe_glob (v := .ref T.c_NoSeat) (by rfl) T.gc_NoSeat rfl) (pa_cons (pe_glob (v := .ref T.c_NoEvening) (by rfl) T.gc_NoEvening rfl) (pa_cons (pe_glob (v := .ref T.c_NoDuty) (by rfl) T.gc_NoDuty rfl) (pa_cons (pe_glob (v := .ref T.c_NoGift) (by rfl) T.gc_NoGift rfl) (pa_cons (pe_glob (v := .ref T.c_Unlike) (by rfl) T.gc_Unlike rfl) (pa_cons (pe_glob (v := .ref T.c_NoFact) (by rfl) T.gc_NoFact rfl) (pa_cons (pe_glob (v := .ref T.c_NoBack) (by rfl) T.gc_NoBack rfl) pa_nil))))))))))) pa_nil))) pa_nil)))
        (pss_cons (ps_expr (pe_bm PySem.F.plainAttrs_list PySem.F.slot_list_append PySem.F.type_list_append mt_append (pv 1) (pa_cons (pe_callB (call_isPT hmem T.xc hcl hdi hfi) (by rfl) T.n_isinstance (by decide +kernel) (pa_cons (pv 0) (pa_cons (pe_tup (pa_cons (pe_glob (v := .ref T.c_NoDeed) (by rfl) T.gc_NoDeed rfl) (pa_cons (pe_glob (v := .ref T.c_NoText) (by rfl) T.gc_NoText rfl) (pa_cons (pe_glob (v := .ref T.c_NoRow) (by rfl) T.gc_NoRow rfl) (pa_cons (pe_glob (v := .ref T.c_Taken) (by rfl) T.gc_Taken rfl) (pa_cons (pe_glob (v := .ref T.c_Beyond) (by rfl) T.gc_Beyond rfl) (pa_cons (pe_glob (v := .ref T.c_Unbalanced) (by rfl) T.gc_Unbalanced rfl) (pa_cons (pe_glob (v := .ref T.c_Astray) (by rfl) T.gc_Astray rfl) pa_nil)))))))) pa_nil))) pa_nil)))
        (pss_one (ps_ret (pe_and (pe_callB (call_isP hmem T.xc hcl hdi hfi) (by rfl) T.n_isinstance (by decide +kernel) (pa_cons (pv 0) (pa_cons (pe_glob (v := .ref T.c_NoPart) (by rfl) T.gc_NoPart rfl) pa_nil))) (pe_and (pe_callB (call_isP hmem T.xc hcl hdi hfi) (by rfl) T.n_isinstance (by decide +kernel) (pa_cons (pv 0) (pa_cons (pe_bltn (v := .ty "ValueError") (by rfl) T.n_ValueError (by decide +kernel) rfl) pa_nil))) (pe_one (pe_not (pe_callB (cr_anyH hot hmem) (by rfl) T.n_any (by decide +kernel) (pa_cons (pv 1) pa_nil)))))))))), ?_⟩
    refine ⟨_, rfl, by show 10 ≤ sizeLine; decide, fun t nt => ?_⟩
    refine ⟨t, _, _, false, rfl, upd_same, .cons (.own _) (.cons (.own _) (.cons (.own _) (.cons (.own _) (.cons (.own _) (.cons (.own _) (.cons (.own _) (.cons (.own _) (.cons (.own _) (.cons (.own _) .nil))))))))), oths_kit T.sc_NoPart [_, _, _, _, _, _, _, _, _, _] ⟨T.o_NoName, T.o_NoWeight, T.o_NoPerson, T.o_NoSeat, T.o_NoEvening, T.o_NoDuty, T.o_NoGift, T.o_Unlike, T.o_NoFact, T.o_NoBack, trivial⟩, ?_⟩
    refine ⟨by show 1 ≤ sizeLine; decide, fun l nl => ?_⟩
    refine ⟨_, rfl, .inl ⟨rfl, _, .inl (.inl upd_same)⟩, _, rfl, by show 7 ≤ sizeLine; decide, fun t2 nt2 => ?_⟩
    have nlt : l ≠ t2 := fun e => by
      rw [e] at nt2
      rw [upd_same] at nt2
      cases nt2
    refine ⟨t2, _, _, false, rfl, upd_same, .cons (.own _) (.cons (.own _) (.cons (.own _) (.cons (.own _) (.cons (.own _) (.cons (.own _) (.cons (.own _) .nil)))))), oths_kit T.sc_NoPart [_, _, _, _, _, _, _] ⟨T.o_NoDeed, T.o_NoText, T.o_NoRow, T.o_Taken, T.o_Beyond, T.o_Unbalanced, T.o_Astray, trivial⟩, ?_⟩
    refine ⟨l, [.bl false], .bl false, rfl, rfl, ?_, by show 1 < sizeLine; decide, ?_⟩
    · rw [upd_ne nlt]
      exact upd_same
    refine ⟨_, rfl, _, _, true, rfl, .own _, self_kit, true, rfl, iteT ?_⟩
    refine ⟨_, rfl, _, _, true, rfl, .ty "ValueError", ve_kit T.sv, true, rfl, iteT ?_⟩
    refine ⟨_, rfl, l, [false, false], rfl, .inl (.inl upd_same), false, rfl, ?_⟩
    refine q _ fun b o e => ?_
    have e1 := fun w => same_new (o := w) nt b o e
    rw [upd_ne (ne_of_none (e1 _) nl)]
    exact same_new nt2 b o (same_new nl b o (e1 _))

end
end WS

set_option Elab.async false
set_option linter.all false
set_option maxRecDepth 100000
set_option maxHeartbeats 4000000
namespace WS
open PySem PySem.Spec PyProof.Rows L2
section
variable {P : Program} {w : World} {K : PySem.W.Frag} {mg : Str → Option Value} {base : Heap}
def spOdd2 (K : PySem.W.Frag) : Sp := fun vs H Q _ => ∃ p, vs = [.ref p] ∧ PotAt H p ∧ ∀ v H', Odd2 p K H' v → SameX p H H' → PotAt H' p → Q v H'
theorem ok_lodd (T : Tx K mg) : FnOk P w K mg base CX0 2 T.f_lodd T.d_lodd ["_law_pot_here"] (spOdd2 K) := by
  refine T.F_lodd.ok sc_lodd (fun vs H Q E h => ?_) (fun cdv A outer s H vs Q E hr h => ?_)
  · obtain ⟨p, rfl, _⟩ := h
    rfl
  · obtain ⟨p, rfl, hp, q⟩ := h
    refine ⟨_, (pss_cons (ps_set (i := 1) sc_lodd.nd rfl (.inl rfl) (pe_lst (pa_cons pe_non (pa_cons pe_bl (pa_cons pe_bl (pa_cons pe_str (pa_cons pe_str (pa_cons pe_str (pa_cons pe_str (pa_cons (pe_lst pa_nil) (pa_cons (pe_tup pa_nil) (pa_cons pe_dnewK (pa_cons (pe_lst (pa_cons pe_int pa_nil)) (pa_cons (pe_tup (pa_cons pe_int pa_nil)) (pa_cons (pe_tup (pa_cons pe_int (pa_cons pe_int pa_nil))) (pa_cons (pe_lst (pa_cons pe_int (pa_cons pe_int pa_nil))) (pa_cons (pe_tup (pa_cons (pe_tup (pa_cons pe_int (pa_cons pe_int pa_nil))) pa_nil)) (pa_cons (pe_disp (pps_cons pe_int pe_int pps_nil) (by rfl) (by rfl) (fun z => by cases z) (by decide)) (pa_cons pe_str pa_nil)))))))))))))))))))
        (pss_cons (ps_set (i := 1) sc_lodd.nd rfl (.inl rfl) (pe_op op_cat (pv 1) (pe_lst (pa_cons (pe_tup (pa_cons pe_int (pa_cons pe_int (pa_cons pe_int pa_nil)))) (pa_cons (pe_tup (pa_cons pe_bl pa_nil)) (pa_cons (pe_lst (pa_cons pe_non pa_nil)) (pa_cons (pe_tup (pa_cons pe_str (pa_cons pe_str pa_nil))) (pa_cons (pe_tup (pa_cons (pe_lst pa_nil) pa_nil)) (pa_cons pe_str (pa_cons (pe_tup (pa_cons pe_non (pa_cons pe_int pa_nil))) pa_nil))))))))))
        (pss_one (ps_ret (pe_ix ix_list (pv 1) (pe_call (ok_ldigit T) (hr.mono (by decide)) (by rfl) T.g_ldigit T.F_ldigit.kp T.b_ldigit .nil pass0 (pa_cons (pv 0) (pa_cons (pe_callB call_len_seq (by rfl) T.n_len (by decide +kernel) (pa_cons (pv 1) pa_nil)) pa_nil))) (fun _ _ => rfl)))))), ?_⟩
    refine ⟨by show 0 ≤ sizeLine; decide, fun l1 n1 => ?_⟩
    obtain ⟨A1, e1, s1, h1⟩ : ∃ B, B = upd H l1 (.lst []) ∧ Same H B ∧ B l1 = some (.lst []) := ⟨_, rfl, same_new n1, upd_same⟩
    rw [← e1]
    clear e1
    refine ⟨by show 0 ≤ sizeLine; decide, fun t1 n2 => ?_⟩
    obtain ⟨A2, e2, s2, h2⟩ : ∃ B, B = upd A1 t1 (.tup []) ∧ Same A1 B ∧ B t1 = some (.tup []) := ⟨_, rfl, same_new n2, upd_same⟩
    rw [← e2]
    clear e2
    intro d1 n3
    obtain ⟨A3, e3, s3, h3⟩ : ∃ B, B = upd A2 d1 (.dK []) ∧ Same A2 B ∧ B d1 = some (.dK []) := ⟨_, rfl, same_new n3, upd_same⟩
    rw [← e3]
    clear e3
    refine ⟨by show 1 ≤ sizeLine; decide, fun l2 n4 => ?_⟩
    obtain ⟨A4, e4, s4, h4⟩ : ∃ B, B = upd A3 l2 (.lst [V.int 1]) ∧ Same A3 B ∧ B l2 = some (.lst [V.int 1]) := ⟨_, rfl, same_new n4, upd_same⟩
    rw [← e4]
    clear e4
    refine ⟨by show 1 ≤ sizeLine; decide, fun t2 n5 => ?_⟩
    obtain ⟨A5, e5, s5, h5⟩ : ∃ B, B = upd A4 t2 (.tup [V.int 1]) ∧ Same A4 B ∧ B t2 = some (.tup [V.int 1]) := ⟨_, rfl, same_new n5, upd_same⟩
    rw [← e5]
    clear e5
    refine ⟨by show 2 ≤ sizeLine; decide, fun t3 n6 => ?_⟩
    obtain ⟨A6, e6, s6, h6⟩ : ∃ B, B = upd A5 t3 (.tup [V.int 2, V.int 2]) ∧ Same A5 B ∧ B t3 = some (.tup [V.int 2, V.int 2]) := ⟨_, rfl, same_new n6, upd_same⟩
    rw [← e6]
    clear e6
    refine ⟨by show 2 ≤ sizeLine; decide, fun l3 n7 => ?_⟩
    obtain ⟨A7, e7, s7, h7⟩ : ∃ B, B = upd A6 l3 (.lst [V.int 1, V.int 2]) ∧ Same A6 B ∧ B l3 = some (.lst [V.int 1, V.int 2]) := ⟨_, rfl, same_new n7, upd_same⟩
    rw [← e7]
    clear e7
    refine ⟨by show 2 ≤ sizeLine; decide, fun t4 n8 => ?_⟩
    obtain ⟨A8, e8, s8, h8⟩ : ∃ B, B = upd A7 t4 (.tup [V.int 1, V.int 2]) ∧ Same A7 B ∧ B t4 = some (.tup [V.int 1, V.int 2]) := ⟨_, rfl, same_new n8, upd_same⟩
    rw [← e8]
    clear e8
    refine ⟨by show 1 ≤ sizeLine; decide, fun t5 n9 => ?_⟩
    obtain ⟨A9, e9, s9, h9⟩ : ∃ B, B = upd A8 t5 (.tup [V.ref t4]) ∧ Same A8 B ∧ B t5 = some (.tup [V.ref t4]) := ⟨_, rfl, same_new n9, upd_same⟩
    rw [← e9]
    clear e9
    intro d2 n10
    refine ⟨upd_same, [(Sum.inl 1, .int 2)], rfl, by decide, ?_⟩
    obtain ⟨A10, e10, s10, h10⟩ : ∃ B, B = upd (upd A9 d2 (.dK [])) d2 (.dK (mergeK [] [(Sum.inl 1, .int 2)])) ∧ Same A9 B ∧ B d2 = some (.dK (mergeK [] [(Sum.inl 1, .int 2)])) := ⟨_, rfl, fun b o e => by rw [upd_ne (ne_of_none e n10)]; exact same_new n10 b o e, upd_same⟩
    rw [← e10]
    clear e10
    refine ⟨by show 17 ≤ sizeLine; decide, fun L1 n11 => ?_⟩
    obtain ⟨A11, e11, s11, h11⟩ : ∃ B, B = upd A10 L1 (.lst [V.non, V.bl true, V.bl false, V.str "", V.str "1", V.str "3/2", V.str "one", V.ref l1, V.ref t1, V.ref d1, V.ref l2, V.ref t2, V.ref t3, V.ref l3, V.ref t5, V.ref d2, V.str "-1"]) ∧ Same A10 B ∧ B L1 = some (.lst [V.non, V.bl true, V.bl false, V.str "", V.str "1", V.str "3/2", V.str "one", V.ref l1, V.ref t1, V.ref d1, V.ref l2, V.ref t2, V.ref t3, V.ref l3, V.ref t5, V.ref d2, V.str "-1"]) := ⟨_, rfl, same_new n11, upd_same⟩
    rw [← e11]
    clear e11
    refine ⟨_, rfl, ?_⟩
    refine ⟨by show 3 ≤ sizeLine; decide, fun t6 n12 => ?_⟩
    obtain ⟨A12, e12, s12, h12⟩ : ∃ B, B = upd A11 t6 (.tup [V.int 1, V.int 2, V.int 3]) ∧ Same A11 B ∧ B t6 = some (.tup [V.int 1, V.int 2, V.int 3]) := ⟨_, rfl, same_new n12, upd_same⟩
    rw [← e12]
    clear e12
    refine ⟨by show 1 ≤ sizeLine; decide, fun t7 n13 => ?_⟩
    obtain ⟨A13, e13, s13, h13⟩ : ∃ B, B = upd A12 t7 (.tup [V.bl true]) ∧ Same A12 B ∧ B t7 = some (.tup [V.bl true]) := ⟨_, rfl, same_new n13, upd_same⟩
    rw [← e13]
    clear e13
    refine ⟨by show 1 ≤ sizeLine; decide, fun l4 n14 => ?_⟩
    obtain ⟨A14, e14, s14, h14⟩ : ∃ B, B = upd A13 l4 (.lst [V.non]) ∧ Same A13 B ∧ B l4 = some (.lst [V.non]) := ⟨_, rfl, same_new n14, upd_same⟩
    rw [← e14]
    clear e14
    refine ⟨by show 2 ≤ sizeLine; decide, fun t8 n15 => ?_⟩
    obtain ⟨A15, e15, s15, h15⟩ : ∃ B, B = upd A14 t8 (.tup [V.str "1", V.str "2"]) ∧ Same A14 B ∧ B t8 = some (.tup [V.str "1", V.str "2"]) := ⟨_, rfl, same_new n15, upd_same⟩
    rw [← e15]
    clear e15
    refine ⟨by show 0 ≤ sizeLine; decide, fun l5 n16 => ?_⟩
    obtain ⟨A16, e16, s16, h16⟩ : ∃ B, B = upd A15 l5 (.lst []) ∧ Same A15 B ∧ B l5 = some (.lst []) := ⟨_, rfl, same_new n16, upd_same⟩
    rw [← e16]
    clear e16
    refine ⟨by show 1 ≤ sizeLine; decide, fun t9 n17 => ?_⟩
    obtain ⟨A17, e17, s17, h17⟩ : ∃ B, B = upd A16 t9 (.tup [V.ref l5]) ∧ Same A16 B ∧ B t9 = some (.tup [V.ref l5]) := ⟨_, rfl, same_new n17, upd_same⟩
    rw [← e17]
    clear e17
    refine ⟨by show 2 ≤ sizeLine; decide, fun t10 n18 => ?_⟩
    obtain ⟨A18, e18, s18, h18⟩ : ∃ B, B = upd A17 t10 (.tup [V.non, V.int 1]) ∧ Same A17 B ∧ B t10 = some (.tup [V.non, V.int 1]) := ⟨_, rfl, same_new n18, upd_same⟩
    rw [← e18]
    clear e18
    refine ⟨by show 7 ≤ sizeLine; decide, fun L2 n19 => ?_⟩
    obtain ⟨A19, e19, s19, h19⟩ : ∃ B, B = upd A18 L2 (.lst [V.ref t6, V.ref t7, V.ref l4, V.ref t8, V.ref t9, V.str "0", V.ref t10]) ∧ Same A18 B ∧ B L2 = some (.lst [V.ref t6, V.ref t7, V.ref l4, V.ref t8, V.ref t9, V.str "0", V.ref t10]) := ⟨_, rfl, same_new n19, upd_same⟩
    rw [← e19]
    clear e19
    have c19 := Same.refl A19
    have c18 := s19.trans c19
    have c17 := s18.trans c18
    have c16 := s17.trans c17
    have c15 := s16.trans c16
    have c14 := s15.trans c15
    have c13 := s14.trans c14
    have c12 := s13.trans c13
    have c11 := s12.trans c12
    have c10 := s11.trans c11
    have c9 := s10.trans c10
    have c8 := s9.trans c9
    have c7 := s8.trans c8
    have c6 := s7.trans c7
    have c5 := s6.trans c6
    have c4 := s5.trans c5
    have c3 := s4.trans c4
    have c2 := s3.trans c3
    have c1 := s2.trans c2
    have c0 := s1.trans c1
    refine ⟨L1, L2, _, _, rfl, rfl, c11 _ _ h11, h19, by show 24 ≤ sizeLine; decide, fun L nL => ?_⟩
    have fL := same_new (o := .lst [V.non, V.bl true, V.bl false, V.str "", V.str "1", V.str "3/2", V.str "one", V.ref l1, V.ref t1, V.ref d1, V.ref l2, V.ref t2, V.ref t3, V.ref l3, V.ref t5, V.ref d2, V.str "-1", V.ref t6, V.ref t7, V.ref l4, V.ref t8, V.ref t9, V.str "0", V.ref t10]) nL
    have pl := hp.same c0
    refine ⟨_, rfl, _, rfl, _, rfl, L, _, rfl, .inl (.inl (.inl upd_same)), p, _, rfl, pl.same fL, by show (0 : Int) < 24; decide, by show Bt 8999 (24 : Int); unfold Bt; decide +kernel, fun g H1 g0 g1 sx p1 => ?_⟩
    have hL1 := sx.lst (K := K) (pl.ne nL) (.inl (.inl upd_same))
    obtain ⟨v, hv, hm⟩ := pick (xs := [V.non, V.bl true, V.bl false, V.str "", V.str "1", V.str "3/2", V.str "one", V.ref l1, V.ref t1, V.ref d1, V.ref l2, V.ref t2, V.ref t3, V.ref l3, V.ref t5, V.ref d2, V.str "-1", V.ref t6, V.ref t7, V.ref l4, V.ref t8, V.ref t9, V.str "0", V.ref t10]) g0 (by simpa using g1)
    refine ⟨L, _, g, v, rfl, rfl, hL1, hv, ?_⟩
    have kx := kt_x sx (pl.same fL)
    refine q v H1 ?_ ((Same.x (c0.trans fL)).trans sx) p1
    have tup : ∀ a xs, A19 a = some (.tup xs) → SqT K H1 a xs := fun a xs e => kx.sqt (.inl (.inl (fL _ _ e)))
    have lst : ∀ a o, a ≠ p → A19 a = some o → H1 a = some o := fun a o na e => sx _ _ na (fL _ _ e)
    have np : ∀ a xs, A19 a = some (.dK xs) → a ≠ p := fun a xs e z => by obtain ⟨x, y, e2, _⟩ := pl; rw [z, e2] at e; cases e
    have b0 := Same.refl H
    have b1 := b0.trans s1
    have b2 := b1.trans s2
    have b3 := b2.trans s3
    have b4 := b3.trans s4
    have b5 := b4.trans s5
    have b6 := b5.trans s6
    have b7 := b6.trans s7
    have b8 := b7.trans s8
    have b9 := b8.trans s9
    have b10 := b9.trans s10
    have b11 := b10.trans s11
    have b12 := b11.trans s12
    have b13 := b12.trans s13
    have b14 := b13.trans s14
    have b15 := b14.trans s15
    have b16 := b15.trans s16
    have b17 := b16.trans s17
    have b18 := b17.trans s18
    have b19 := b18.trans s19
    simp only [List.mem_cons, List.not_mem_nil, or_false] at hm
    rcases hm with rfl | rfl | rfl | rfl | rfl | rfl | rfl | rfl | rfl | rfl | rfl | rfl | rfl | rfl | rfl | rfl | rfl | rfl | rfl | rfl | rfl | rfl | rfl | rfl
    · exact .inl rfl
    · exact .inr (.inl ⟨_, rfl⟩)
    · exact .inr (.inl ⟨_, rfl⟩)
    · exact .inr (.inr (.inl ⟨_, rfl⟩))
    · exact .inr (.inr (.inl ⟨_, rfl⟩))
    · exact .inr (.inr (.inl ⟨_, rfl⟩))
    · exact .inr (.inr (.inl ⟨_, rfl⟩))
    · exact .inr (.inr (.inr ⟨_, rfl, .inr (.inl ⟨(hp.same b0).ne n1, _, lst _ _ ((hp.same b0).ne n1) (c1 _ _ h1)⟩)⟩))
    · exact .inr (.inr (.inr ⟨_, rfl, .inl ⟨_, tup _ _ (c2 _ _ h2), .inl (by show 0 ≠ 2; decide)⟩⟩))
    · exact .inr (.inr (.inr ⟨_, rfl, .inr (.inr ⟨np _ _ (c3 _ _ h3), _, lst _ _ (np _ _ (c3 _ _ h3)) (c3 _ _ h3)⟩)⟩))
    · exact .inr (.inr (.inr ⟨_, rfl, .inr (.inl ⟨(hp.same b3).ne n4, _, lst _ _ ((hp.same b3).ne n4) (c4 _ _ h4)⟩)⟩))
    · exact .inr (.inr (.inr ⟨_, rfl, .inl ⟨_, tup _ _ (c5 _ _ h5), .inl (by show 1 ≠ 2; decide)⟩⟩))
    · exact .inr (.inr (.inr ⟨_, rfl, .inl ⟨_, tup _ _ (c6 _ _ h6), .inr (.inr (.inr rfl))⟩⟩))
    · exact .inr (.inr (.inr ⟨_, rfl, .inr (.inl ⟨(hp.same b6).ne n7, _, lst _ _ ((hp.same b6).ne n7) (c7 _ _ h7)⟩)⟩))
    · exact .inr (.inr (.inr ⟨_, rfl, .inl ⟨_, tup _ _ (c9 _ _ h9), .inl (by show 1 ≠ 2; decide)⟩⟩))
    · exact .inr (.inr (.inr ⟨_, rfl, .inr (.inr ⟨np _ _ (c10 _ _ h10), _, lst _ _ (np _ _ (c10 _ _ h10)) (c10 _ _ h10)⟩)⟩))
    · exact .inr (.inr (.inl ⟨_, rfl⟩))
    · exact .inr (.inr (.inr ⟨_, rfl, .inl ⟨_, tup _ _ (c12 _ _ h12), .inl (by show 3 ≠ 2; decide)⟩⟩))
    · exact .inr (.inr (.inr ⟨_, rfl, .inl ⟨_, tup _ _ (c13 _ _ h13), .inl (by show 1 ≠ 2; decide)⟩⟩))
    · exact .inr (.inr (.inr ⟨_, rfl, .inr (.inl ⟨(hp.same b13).ne n14, _, lst _ _ ((hp.same b13).ne n14) (c14 _ _ h14)⟩)⟩))
    · exact .inr (.inr (.inr ⟨_, rfl, .inl ⟨_, tup _ _ (c15 _ _ h15), .inr (.inr (.inl ⟨_, _, rfl⟩))⟩⟩))
    · exact .inr (.inr (.inr ⟨_, rfl, .inl ⟨_, tup _ _ (c17 _ _ h17), .inl (by show 1 ≠ 2; decide)⟩⟩))
    · exact .inr (.inr (.inl ⟨_, rfl⟩))
    · exact .inr (.inr (.inr ⟨_, rfl, .inl ⟨_, tup _ _ (c18 _ _ h18), .inr (.inl ⟨_, rfl⟩)⟩⟩))
theorem ok_shared (T : Tx K mg) : FnOk P w K mg base (L2N.CX P w) 4 T.f_shared T.d_shared ["one", "many"] (spShared K T.c_NoPart) := by
  refine fun_ok T.F_shared sc_shared (fun vs H Q E h => ?_) (fun cdv A outer s H vs Q E hr h => ?_)
  · obtain ⟨u, a, b, m, rfl, _⟩ := h
    rfl
  · obtain ⟨u, a, b, m, rfl, ⟨t, rfl, ht⟩, h⟩ := h
    refine ⟨_, (pss_cons (ps_if (PW.pt (pw_or (pt_not (pt_val (pe_call (ok_is_whole T) (hr.mono (by decide)) (by rfl) T.g_is_whole T.F_is_whole.kp T.b_is_whole .nil pass0 (pa_cons (pv 1) pa_nil)))) (pw_or1 (pt_cmpR op_lt (pv 1) pe_int (nomark _))))) (pss_one (L2N.ps_raise rfl (L2N.takes_of rfl rfl rfl rfl) (L2N.pmk_own PySem.F.excBase_ValueError T.x_NoPart T.gc_NoPart T.kc_NoPart (raises_own T.bc_NoPart T.tc_NoPart) (by rfl)))) pss_nil)
        (pss_one (ps_ret (pe_call (ok_part T) (hr.mono (by decide)) (by rfl) T.g_part T.F_part.kp T.b_part .nil passN (pa_cons (pe_ix ix_tup (pv 0) pe_int (fun _ _ => rfl)) (pa_cons (pe_op op_mulW (pe_ix ix_tup (pv 0) pe_int (fun _ _ => rfl)) (pv 1)) pa_nil)))))), ?_⟩
    rcases h with ⟨hbad, q⟩ | ⟨i, rfl, hi, hb, ba, bb, bi, q⟩
    · rcases hbad with hw | ⟨i, rfl, hi⟩
      · exact ⟨_, rfl, _, _, rfl, hw, false, rfl, iteT (iteT q)⟩
      · refine ⟨_, rfl, _, _, rfl, whole_int, true, rfl, iteF ?_⟩
        refine ⟨_, rfl, _, _, rfl, rfl, _, rfl, ?_⟩
        rw [show decide (i < 1) = true from decide_eq_true hi]
        exact iteT q
    · refine ⟨_, rfl, _, _, rfl, whole_int, true, rfl, iteF ?_⟩
      refine ⟨_, rfl, _, _, rfl, rfl, _, rfl, ?_⟩
      rw [show decide (i < 1) = false from decide_eq_false (by omega)]
      refine iteF ?_
      refine ⟨_, rfl, t, _, 0, _, rfl, rfl, ht, atI_nat (j := 0) rfl, _, rfl, t, _, 1, _, rfl, rfl, ht, atI_nat (j := 1) rfl, _, rfl, _, _, rfl, rfl, bb.cmul bi (by decide), ?_⟩
      have pos := Int.mul_pos hb (show 0 < i by omega)
      refine ⟨_, _, rfl, .inl ⟨a, b * i, rfl, rfl, by omega, (bb.mul bi).mono (by decide), ?_⟩⟩
      unfold sg
      rw [if_neg (by omega)]
      exact q
theorem ok_lnumber (T : Tx K mg) : FnOk P w K mg base CX0 2 T.f_lnumber T.d_lnumber ["_law_pot_here"] (spNum 150) := by
  refine T.F_lnumber.ok sc_lnumber (fun vs H Q E h => ?_) (fun cdv A outer s H vs Q E hr h => ?_)
  · obtain ⟨p, rfl, _⟩ := h
    rfl
  · obtain ⟨p, rfl, hp, q⟩ := h
    refine ⟨_, (pss_cons (ps_set (i := 1) sc_lnumber.nd rfl (.inl rfl) (pe_call (ok_ldigit T) (hr.mono (by decide)) (by rfl) T.g_ldigit T.F_ldigit.kp T.b_ldigit .nil pass0 (pa_cons (pv 0) (pa_cons pe_int pa_nil))))
        (pss_cons (ps_set (i := 2) sc_lnumber.nd rfl (.inl rfl) (pe_ix ix_list (pe_lst (pa_cons pe_int (pa_cons pe_int (pa_cons (pe_op op_sub (pe_op op_pow pe_int pe_int) pe_int) pa_nil)))) (pv 1) (fun _ _ => rfl)))
        (pss_one (ps_ret (pe_op op_sub (pe_call (ok_ldigit T) (hr.mono (by decide)) (by rfl) T.g_ldigit T.F_ldigit.kp T.b_ldigit .nil pass0 (pa_cons (pv 0) (pa_cons (pe_op op_add (pe_op op_mulW pe_int (pv 2)) pe_int) pa_nil))) (pv 2)))))), ?_⟩
    have hP : (10 : Int) ^ (40 : Int).toNat < 2 ^ 149 := by decide +kernel
    have hP0 : 1000 < (10 : Int) ^ (40 : Int).toNat := by decide +kernel
    refine ⟨_, rfl, p, _, rfl, hp, by decide, by unfold Bt; decide +kernel, fun d H1 d0 d1 s1 p1 => ?_⟩
    refine ⟨_, _, rfl, rfl, ⟨by decide, by decide, by decide⟩, _, _, rfl, rfl, by show 3 ≤ sizeLine; decide, fun l nl => ?_⟩
    have p2 := p1.same (same_new (o := .lst [.int 6, .int 1000, .int ((10 : Int) ^ (40 : Int).toNat - 1)]) nl)
    obtain ⟨v, hv, hm⟩ := pick (xs := [V.int 6, .int 1000, .int ((10 : Int) ^ (40 : Int).toNat - 1)]) d0 (by simpa using d1)
    refine ⟨_, rfl, l, _, d, v, rfl, rfl, .inl (.inl upd_same), hv, ?_⟩
    obtain ⟨n, rfl, n0, n1⟩ : ∃ n : Int, v = .int n ∧ 0 ≤ n ∧ n < 2 ^ 149 := by
      generalize (10 : Int) ^ (40 : Int).toNat = P at *
      simp only [List.mem_cons, List.not_mem_nil, or_false] at hm
      rcases hm with rfl | rfl | rfl <;> exact ⟨_, rfl, by omega, by omega⟩
    have bn : Bt 149 n := Bt.of_lt (by omega) (by omega)
    have two : Bt 10 (2 : Int) := by unfold Bt; decide +kernel
    refine ⟨_, rfl, _, rfl, _, _, rfl, rfl, two.cmul bn (by decide), _, _, rfl, rfl, p, _, rfl, p2, by omega, ((two.mul bn).mono (show 10 + 149 ≤ 200 by decide)).add (show Bt 200 (1 : Int) by unfold Bt; decide +kernel) |>.mono (by decide), fun g H2 g0 g1 s2 p3 => ?_⟩
    exact ⟨_, rfl, _, _, rfl, rfl, q _ _ (Bt.of_lt (by omega) (by omega)) (s1.trans ((Same.x (same_new nl)).trans s2)) p3⟩
def spMade (K : PySem.W.Frag) : Sp := fun vs H Q _ => ∃ u v w, vs = [u, v, .int w] ∧ 0 ≤ w ∧ w ≤ 2 ∧ (w = 2 → v = .int 1) ∧ DueOf K H u v Q
theorem ok_lmade (T : Tx K mg) : FnOk P w K mg base CX0 4 T.f_lmade T.d_lmade ["_law_above", "_law_under", "_law_way"] (spMade K) := by
  refine T.F_lmade.ok sc_lmade (fun vs H Q E h => ?_) (fun cdv A outer s H vs Q E hr h => ?_)
  · obtain ⟨u, v, l, rfl, _⟩ := h
    rfl
  · obtain ⟨u, v, w3, rfl, w0, w2, hw, h⟩ := h
    refine ⟨_, pss_cons (ps_set (i := 3) sc_lmade.nd rfl (.inl rfl) pe_non) (pss_cons (L2N.ps_try_as (i := 4) rfl rfl sc_lmade.nd rfl rfl ⟨rfl, by decide, .inl T.gc_ClubError⟩ takes0N
      (fun W pn xe tk _ => pss_one (ps_if (pt_cmpR op_eq (pv 2) pe_int (nomark _))
        (pss_one (ps_set (i := 3) sc_lmade.nd rfl (.inl rfl) (pe_callSD (ok_part T) (hr.mono (by decide)) (by rfl) T.g_part T.F_part.kp T.b_part .nil (fun σ => L2N.passAt tk σ) (pa_cons (pv 0) (pa_cons (pv 1) pa_nil)))))
        (pss_one (ps_if (pt_cmpR op_eq (pv 2) pe_int (nomark _))
          (pss_one (ps_set (i := 3) sc_lmade.nd rfl (.inl rfl) (pe_callND (ok_part T) (hr.mono (by decide)) (by rfl) T.g_part T.F_part.kp T.kb_part (fun σ => L2N.passAt tk σ) (pa_cons (pv 0) pa_nil) (pk_cons (pv 1) pk_nil))))
          (pss_one (ps_set (i := 3) sc_lmade.nd rfl (.inl rfl) (pe_callSD (ok_part T) (hr.mono (by decide)) (by rfl) T.g_part T.F_part.kp T.b1_part T.vb_part (fun σ => L2N.passAt tk σ) (pa_cons (pv 0) pa_nil))))))))
      (fun a oe cls d pn hz hf => pss_one (ps_set (i := 3) sc_lmade.nd rfl (.inl rfl) (pe_ifExp (pt_val (pe_callHot (p := (a, oe)) (ok_lis_alone T (hot_of hz hf) hz) (room_hot (hr.mono (by decide))) List.mem_cons_self (by rfl) T.g_lis_alone T.F_lis_alone.kp T.b_lis_alone (pa_cons (pv 4) pa_nil))) pe_str pe_str))))
      (pss_one (ps_ret (pv 3)))), ?_⟩
    have hw' : w3 = 0 ∨ w3 = 1 ∨ w3 = 2 := by omega
    rcases h with ⟨a, b, rfl, rfl, hb, _, b4, q⟩ | ⟨bad, q⟩
    · have good : ∀ (Q' : VK) (E' : XK), (∀ w H', Q w H' → Q' w H') → spPartG K T.c_NoPart [.int a, .int b] H Q' E' := fun Q' E' k => ⟨_, _, rfl, .inl ⟨a, b, rfl, rfl, hb, b4.mono (by decide), fun w H' s hw => k _ _ (q w H' s hw)⟩⟩
      rcases hw' with rfl | rfl | rfl
      · exact ⟨_, rfl, rfl, _, rfl, iteT ⟨_, rfl, _, rfl, good _ _ fun w H' k => ⟨_, rfl, k⟩⟩⟩
      · exact ⟨_, rfl, rfl, _, rfl, iteF ⟨_, rfl, rfl, _, rfl, iteT ⟨_, rfl, _, rfl, rfl, rfl, good _ _ fun w H' k => ⟨_, rfl, k⟩⟩⟩⟩
      · cases hw rfl
        exact ⟨_, rfl, rfl, _, rfl, iteF ⟨_, rfl, rfl, _, rfl, iteF ⟨_, rfl, good _ _ fun w H' k => ⟨_, rfl, k⟩⟩⟩⟩
    · rcases hw' with rfl | rfl | rfl
      · exact ⟨_, rfl, rfl, _, rfl, iteT ⟨_, rfl, _, rfl, _, _, rfl, .inr ⟨bad, true, T.em, fun _ x _ => ⟨_, rfl, rfl, rfl, rfl, fun H' s => ⟨_, rfl, iteT ⟨_, rfl, q H' s⟩⟩⟩, fun z => nomatch z⟩⟩⟩
      · exact ⟨_, rfl, rfl, _, rfl, iteF ⟨_, rfl, rfl, _, rfl, iteT ⟨_, rfl, _, rfl, rfl, rfl, _, _, rfl, .inr ⟨bad, true, T.em, fun _ x _ => ⟨_, rfl, rfl, rfl, rfl, fun H' s => ⟨_, rfl, iteT ⟨_, rfl, q H' s⟩⟩⟩, fun z => nomatch z⟩⟩⟩⟩
      · cases hw rfl
        exact ⟨_, rfl, rfl, _, rfl, iteF ⟨_, rfl, rfl, _, rfl, iteF ⟨_, rfl, _, _, rfl, .inr ⟨bad, true, T.em, fun _ x _ => ⟨_, rfl, rfl, rfl, rfl, fun H' s => ⟨_, rfl, iteT ⟨_, rfl, q H' s⟩⟩⟩, fun z => nomatch z⟩⟩⟩⟩
def spParted (K : PySem.W.Frag) : Sp := fun vs H Q _ => ∃ u a b m, vs = [u, m] ∧ TupI K H u a b ∧ Lowest a b ∧ Bt 400 a ∧ Bt 400 b ∧ DueSh K H a b m Q
theorem ok_lparted_by (T : Tx K mg) : FnOk P w K mg base CX0 5 T.f_lparted_by T.d_lparted_by ["_law_one", "_law_many"] (spParted K) := by
  refine T.F_lparted_by.ok sc_lparted_by (fun vs H Q E h => ?_) (fun cdv A outer s H vs Q E hr h => ?_)
  · obtain ⟨u, a, b, m, rfl, _⟩ := h
    rfl
  · obtain ⟨u, a, b, m, rfl, hu, lw, ba, bb, h⟩ := h
    refine ⟨_, pss_cons (ps_set (i := 2) sc_lparted_by.nd rfl (.inl rfl) pe_non) (pss_cons (L2N.ps_try_as (i := 3) rfl rfl sc_lparted_by.nd rfl rfl ⟨rfl, by decide, .inl T.gc_ClubError⟩ takes0N
      (fun W pn xe tk _ => pss_one (ps_set (i := 2) sc_lparted_by.nd rfl (.inl rfl) (pe_callSD (ok_shared T) (hr.mono (by decide)) (by rfl) T.g_shared T.F_shared.kp T.b_shared .nil (fun σ => L2N.passAt tk σ) (pa_cons (pv 0) (pa_cons (pv 1) pa_nil)))))
      (fun a oe cls d pn hz hf => pss_one (ps_set (i := 2) sc_lparted_by.nd rfl (.inl rfl) (pe_ifExp (pt_val (pe_callHot (p := (a, oe)) (ok_lis_alone T (hot_of hz hf) hz) (room_hot (hr.mono (by decide))) List.mem_cons_self (by rfl) T.g_lis_alone T.F_lis_alone.kp T.b_lis_alone (pa_cons (pv 3) pa_nil))) pe_str pe_str))))
      (pss_one (ps_ret (pv 2)))), ?_⟩
    rcases h with ⟨i, rfl, hi, bi, q⟩ | ⟨bad, q⟩
    · exact ⟨_, rfl, _, rfl, u, a, b, _, rfl, hu, .inr ⟨i, rfl, hi, lw.1, ba.mono (by decide), bb.mono (by decide), bi.mono (by decide), fun w H' s hw => ⟨_, rfl, q w H' s hw⟩⟩⟩
    · exact ⟨_, rfl, _, rfl, u, a, b, m, rfl, hu, .inl ⟨bad, true, T.em, fun _ x _ => ⟨_, rfl, rfl, rfl, rfl, fun H' s => ⟨_, rfl, iteT ⟨_, rfl, q H' s⟩⟩⟩, fun z => nomatch z⟩⟩
def spDue (K : PySem.W.Frag) : Sp := fun vs H Q _ => ∃ u v, vs = [u, v] ∧ DueOf K H u v Q
theorem ok_ldue (T : Tx K mg) : FnOk P w K mg base CX0 2 T.f_ldue T.d_ldue ["_law_above", "_law_under"] (spDue K) := by
  refine T.F_ldue.ok sc_ldue (fun vs H Q E h => ?_) (fun cdv A outer s H vs Q E hr h => ?_)
  · obtain ⟨u, v, rfl, _⟩ := h
    rfl
  · obtain ⟨u, v, rfl, h⟩ := h
    refine ⟨_, (pss_cons (ps_if (PW.pt (pw_or (pt_not (pt_val (pe_call (ok_lis_whole T) (hr.mono (by decide)) (by rfl) T.g_lis_whole T.F_lis_whole.kp T.b_lis_whole .nil pass0 (pa_cons (pv 0) pa_nil)))) (pw_or (pt_not (pt_val (pe_call (ok_lis_whole T) (hr.mono (by decide)) (by rfl) T.g_lis_whole T.F_lis_whole.kp T.b_lis_whole .nil pass0 (pa_cons (pv 1) pa_nil)))) (pw_or1 (pt_cmpR op_eq (pv 1) pe_int (nomark _)))))) (pss_one (ps_ret pe_str)) pss_nil)
        (pss_one (ps_ret (pe_call (ok_llow T) (hr.mono (by decide)) (by rfl) T.g_llow T.F_llow.kp T.b_llow .nil pass0 (pa_cons (pe_ix ix_list (pe_lst (pa_cons (pv 0) (pa_cons (pe_op op_sub pe_int (pv 0)) pa_nil))) (pe_callTy call_int1 (by rfl) T.n_int (by decide +kernel) (pa_cons (pe_cmpR op_lt (pv 1) pe_int (nomark _)) pa_nil)) (fun _ _ => rfl)) (pa_cons (pe_callB call_abs (by rfl) T.n_abs (by decide +kernel) (pa_cons (pv 1) pa_nil)) pa_nil)))))), ?_⟩
    rcases h with ⟨a, b, rfl, rfl, hb, ba, bb, q⟩ | ⟨bad, q⟩
    · refine ⟨_, rfl, _, _, rfl, whole_int, true, rfl, iteF ⟨_, rfl, _, _, rfl, whole_int, true, rfl, iteF ?_⟩⟩
      refine ⟨_, rfl, rfl, _, rfl, ?_⟩
      rw [show decide (V.int b = V.int 0) = false from decide_eq_false (fun z => hb (V.int.inj z))]
      refine iteF ?_
      refine ⟨_, rfl, _, rfl, _, _, rfl, rfl, by show 2 ≤ sizeLine; decide, fun l nl => ?_⟩
      have f1 := same_new (o := .lst [.int a, .int (0 - a)]) nl
      refine ⟨_, rfl, _, _, rfl, rfl, .inr ⟨_, rfl, ?_⟩⟩
      by_cases c : b < 0
      · rw [decide_eq_true c]
        refine ⟨l, _, 1, _, rfl, rfl, .inl (.inl upd_same), atI_nat (j := 1) rfl, _, rfl, _, rfl, ?_⟩
        rw [if_pos c]
        refine ⟨_, _, rfl, by omega, bb.neg.mono (by decide), fun w H' s hw => q w H' (f1.trans s) ?_⟩
        unfold sg
        rw [if_pos c, ← Int.zero_sub a]
        exact hw
      · rw [decide_eq_false c]
        refine ⟨l, _, 0, _, rfl, rfl, .inl (.inl upd_same), atI_nat (j := 0) rfl, _, rfl, _, rfl, ?_⟩
        rw [if_neg c]
        refine ⟨_, _, rfl, by omega, bb.mono (by decide), fun w H' s hw => q w H' (f1.trans s) ?_⟩
        unfold sg
        rw [if_neg c]
        exact hw
    · have fin := q H (Same.refl H)
      rcases bad with hu | ⟨a, rfl, hv | rfl⟩
      · exact ⟨_, rfl, _, _, rfl, hu, false, rfl, iteT (iteT fin)⟩
      · refine ⟨_, rfl, _, _, rfl, whole_int, true, rfl, iteF ?_⟩
        exact ⟨_, rfl, _, _, rfl, hv, false, rfl, iteT (iteT fin)⟩
      · refine ⟨_, rfl, _, _, rfl, whole_int, true, rfl, iteF ⟨_, rfl, _, _, rfl, whole_int, true, rfl, iteF ?_⟩⟩
        refine ⟨_, rfl, rfl, _, rfl, ?_⟩
        rw [show decide (V.int 0 = V.int 0) = true from decide_eq_true rfl]
        exact iteT fin
theorem ok_ldue_shared (T : Tx K mg) : FnOk P w K mg base CX0 2 T.f_ldue_shared T.d_ldue_shared ["_law_one", "_law_many"] (spParted K) := by
  refine T.F_ldue_shared.ok sc_ldue_shared (fun vs H Q E h => ?_) (fun cdv A outer s H vs Q E hr h => ?_)
  · obtain ⟨u, a, b, m, rfl, _⟩ := h
    rfl
  · obtain ⟨u, a, b, m, rfl, ⟨t, rfl, ht⟩, lw, ba, bb, h⟩ := h
    refine ⟨_, (pss_cons (ps_if (PW.pt (pw_or (pt_not (pt_val (pe_call (ok_lis_whole T) (hr.mono (by decide)) (by rfl) T.g_lis_whole T.F_lis_whole.kp T.b_lis_whole .nil pass0 (pa_cons (pv 1) pa_nil)))) (pw_or1 (pt_cmpR op_lt (pv 1) pe_int (nomark _))))) (pss_one (ps_ret pe_str)) pss_nil)
        (pss_one (ps_ret (pe_call (ok_llow T) (hr.mono (by decide)) (by rfl) T.g_llow T.F_llow.kp T.b_llow .nil pass0 (pa_cons (pe_ix ix_tup (pv 0) pe_int (fun _ _ => rfl)) (pa_cons (pe_op op_mulW (pe_ix ix_tup (pv 0) pe_int (fun _ _ => rfl)) (pv 1)) pa_nil)))))), ?_⟩
    rcases h with ⟨i, rfl, hi, bi, q⟩ | ⟨bad, q⟩
    · refine ⟨_, rfl, _, _, rfl, whole_int, true, rfl, iteF ?_⟩
      refine ⟨_, rfl, _, _, rfl, rfl, _, rfl, ?_⟩
      rw [show decide (i < 1) = false from decide_eq_false (by omega)]
      refine iteF ?_
      refine ⟨_, rfl, t, _, 0, _, rfl, rfl, ht, atI_nat (j := 0) rfl, _, rfl, t, _, 1, _, rfl, rfl, ht, atI_nat (j := 1) rfl, _, rfl, _, _, rfl, rfl, bb.cmul bi (by decide), ?_⟩
      exact ⟨_, _, rfl, Int.mul_pos lw.1 (by omega), (bb.mul bi).mono (by decide), q⟩
    · have fin := q H (Same.refl H)
      rcases bad with hw | ⟨i, rfl, hi⟩
      · exact ⟨_, rfl, _, _, rfl, hw, false, rfl, iteT (iteT fin)⟩
      · refine ⟨_, rfl, _, _, rfl, whole_int, true, rfl, iteF ?_⟩
        refine ⟨_, rfl, _, _, rfl, rfl, _, rfl, ?_⟩
        rw [show decide (i < 1) = true from decide_eq_true hi]
        exact iteT fin
end
end WS

set_option Elab.async false
set_option linter.all false
set_option maxRecDepth 100000
set_option maxHeartbeats 4000000
namespace WS
open PySem PySem.Spec PyProof.Rows L2
section
variable {P : Program} {w : World} {K : PySem.W.Frag} {mg : Str → Option Value} {base : Heap}
def spNone (K : PySem.W.Frag) : Sp := fun vs H Q _ => ∃ p u v a b, vs = [u, v] ∧ PotAt H p ∧ TupI K H u a b ∧ Lowest a b ∧ Odd2 p K H v ∧ ∀ H', Same H H' → Q (.bl true) H'
theorem ok_lnone_is (T : Tx K mg) : FnOk P w K mg base CX0 3 T.f_lnone_is T.d_lnone_is ["_law_one", "_law_thing"] (spNone K) := by
  refine T.F_lnone_is.ok sc_lnone_is (fun vs H Q E h => ?_) (fun cdv A outer s H vs Q E hr h => ?_)
  · obtain ⟨p, u, v, a, b, rfl, _⟩ := h
    rfl
  · obtain ⟨p, u, v, a, b, rfl, hp, ⟨ut, rfl, ht⟩, lw, hv, q⟩ := h
    refine ⟨_, (pss_cons (ps_asg (pv 0) (pg_tup (by rfl) (pgs_cons (pg_name (i := 2) sc_lnone_is.nd rfl (.inl rfl)) (pgs_cons (pg_name (i := 3) sc_lnone_is.nd rfl (.inl rfl)) pgs_nil))))
        (pss_cons (ps_set (i := 4) sc_lnone_is.nd rfl (.inl rfl) (pe_lst (pa_cons (pv 1) (pa_cons (pe_tup (pa_cons (pv 2) (pa_cons (pv 1) pa_nil))) (pa_cons (pe_tup (pa_cons (pv 1) (pa_cons (pv 3) pa_nil))) (pa_cons (pe_tup (pa_cons (pv 1) (pa_cons (pv 1) pa_nil))) (pa_cons (pe_tup (pa_cons (pv 2) (pa_cons (pv 3) (pa_cons (pv 1) pa_nil)))) (pa_cons (pe_tup (pa_cons (pv 2) (pa_cons (pv 3) (pa_cons pe_int pa_nil)))) (pa_cons (pe_tup (pa_cons (pv 2) pa_nil)) pa_nil)))))))))
        (pss_cons (ps_set (i := 4) sc_lnone_is.nd rfl (.inl rfl) (pe_op op_cat (pv 4) (pe_lst (pa_cons (pe_lst (pa_cons (pv 2) (pa_cons (pv 3) pa_nil))) (pa_cons (pe_tup (pa_cons (pv 0) (pa_cons (pv 3) pa_nil))) (pa_cons (pe_tup (pa_cons (pv 2) (pa_cons (pv 0) pa_nil))) (pa_cons (pe_tup (pa_cons (pv 0) (pa_cons (pv 0) pa_nil))) (pa_cons (pe_tup (pa_cons (pv 2) (pa_cons pe_int pa_nil))) (pa_cons (pe_tup (pa_cons (pv 2) (pa_cons (pe_op op_sub pe_int (pv 3)) pa_nil))) (pa_cons (pe_tup (pa_cons (pv 0) pa_nil)) pa_nil))))))))))
        (pss_one (ps_ret (pe_cmpR (op_eqD hr.units) (pe_lc (own := [("_law_other", 5)]) (g := gName 5) (by rfl) sc_lnone_is.nd (pi_list (pv 4)) (blkOk_by (own := [("_law_other", 5)]) (N := ["_law_one", "_law_thing", "_law_above", "_law_under", "_law_some", "_law_other"]) (sc := defScope s_lnone_is) (by decide +kernel)) (fun _ _ _ _ _ => (pg_name (i := 5) sc_lnone_is.nd rfl (.inl rfl))) (fun _ _ _ _ _ => (pts_one (pt_cmpR op_notBl (pe_call (ok_is_part T) (hr.mono (by decide)) (by rfl) T.g_is_part T.F_is_part.kp T.b_is_part .nil pass0 (pa_cons (pv 5) pa_nil)) pe_bl (nomark _)))) (fun _ _ _ _ _ => (pv 5))) (pe_lst pa_nil) (nomark _))))))), ?_⟩
    refine ⟨_, rfl, ut, _, rfl, ht, rfl, _, _, rfl, _, _, rfl, rfl, ?_⟩
    refine ⟨_, rfl, _, rfl, _, rfl, by show 2 ≤ sizeLine; decide, fun t1 n1 => ?_⟩
    obtain ⟨A1, e1, s1, h1⟩ : ∃ B, B = upd H t1 (.tup [.int a, v]) ∧ Same H B ∧ B t1 = some (.tup [.int a, v]) := ⟨_, rfl, same_new n1, upd_same⟩
    replace e1 := e1.symm
    first | rw [e1] | (erw [e1])
    clear e1
    refine ⟨_, rfl, _, rfl, by show 2 ≤ sizeLine; decide, fun t2 n2 => ?_⟩
    obtain ⟨A2, e2, s2, h2⟩ : ∃ B, B = upd A1 t2 (.tup [v, .int b]) ∧ Same A1 B ∧ B t2 = some (.tup [v, .int b]) := ⟨_, rfl, same_new n2, upd_same⟩
    replace e2 := e2.symm
    first | rw [e2] | (erw [e2])
    clear e2
    refine ⟨_, rfl, _, rfl, by show 2 ≤ sizeLine; decide, fun t3 n3 => ?_⟩
    obtain ⟨A3, e3, s3, h3⟩ : ∃ B, B = upd A2 t3 (.tup [v, v]) ∧ Same A2 B ∧ B t3 = some (.tup [v, v]) := ⟨_, rfl, same_new n3, upd_same⟩
    replace e3 := e3.symm
    first | rw [e3] | (erw [e3])
    clear e3
    refine ⟨_, rfl, _, rfl, _, rfl, by show 3 ≤ sizeLine; decide, fun t4 n4 => ?_⟩
    obtain ⟨A4, e4, s4, h4⟩ : ∃ B, B = upd A3 t4 (.tup [.int a, .int b, v]) ∧ Same A3 B ∧ B t4 = some (.tup [.int a, .int b, v]) := ⟨_, rfl, same_new n4, upd_same⟩
    replace e4 := e4.symm
    first | rw [e4] | (erw [e4])
    clear e4
    refine ⟨_, rfl, _, rfl, by show 3 ≤ sizeLine; decide, fun t5 n5 => ?_⟩
    obtain ⟨A5, e5, s5, h5⟩ : ∃ B, B = upd A4 t5 (.tup [.int a, .int b, .int 1]) ∧ Same A4 B ∧ B t5 = some (.tup [.int a, .int b, .int 1]) := ⟨_, rfl, same_new n5, upd_same⟩
    replace e5 := e5.symm
    first | rw [e5] | (erw [e5])
    clear e5
    refine ⟨_, rfl, by show 1 ≤ sizeLine; decide, fun t6 n6 => ?_⟩
    obtain ⟨A6, e6, s6, h6⟩ : ∃ B, B = upd A5 t6 (.tup [.int a]) ∧ Same A5 B ∧ B t6 = some (.tup [.int a]) := ⟨_, rfl, same_new n6, upd_same⟩
    replace e6 := e6.symm
    first | rw [e6] | (erw [e6])
    clear e6
    refine ⟨by show 7 ≤ sizeLine; decide, fun L1 n7 => ?_⟩
    obtain ⟨A7, e7, s7, h7⟩ : ∃ B, B = upd A6 L1 (.lst [v, .ref t1, .ref t2, .ref t3, .ref t4, .ref t5, .ref t6]) ∧ Same A6 B ∧ B L1 = some (.lst [v, .ref t1, .ref t2, .ref t3, .ref t4, .ref t5, .ref t6]) := ⟨_, rfl, same_new n7, upd_same⟩
    replace e7 := e7.symm
    first | rw [e7] | (erw [e7])
    clear e7
    refine ⟨_, rfl, _, rfl, _, rfl, by show 2 ≤ sizeLine; decide, fun l1 n8 => ?_⟩
    obtain ⟨A8, e8, s8, h8⟩ : ∃ B, B = upd A7 l1 (.lst [.int a, .int b]) ∧ Same A7 B ∧ B l1 = some (.lst [.int a, .int b]) := ⟨_, rfl, same_new n8, upd_same⟩
    replace e8 := e8.symm
    first | rw [e8] | (erw [e8])
    clear e8
    refine ⟨_, rfl, _, rfl, by show 2 ≤ sizeLine; decide, fun t7 n9 => ?_⟩
    obtain ⟨A9, e9, s9, h9⟩ : ∃ B, B = upd A8 t7 (.tup [.ref ut, .int b]) ∧ Same A8 B ∧ B t7 = some (.tup [.ref ut, .int b]) := ⟨_, rfl, same_new n9, upd_same⟩
    replace e9 := e9.symm
    first | rw [e9] | (erw [e9])
    clear e9
    refine ⟨_, rfl, _, rfl, by show 2 ≤ sizeLine; decide, fun t8 n10 => ?_⟩
    obtain ⟨A10, e10, s10, h10⟩ : ∃ B, B = upd A9 t8 (.tup [.int a, .ref ut]) ∧ Same A9 B ∧ B t8 = some (.tup [.int a, .ref ut]) := ⟨_, rfl, same_new n10, upd_same⟩
    replace e10 := e10.symm
    first | rw [e10] | (erw [e10])
    clear e10
    refine ⟨_, rfl, _, rfl, by show 2 ≤ sizeLine; decide, fun t9 n11 => ?_⟩
    obtain ⟨A11, e11, s11, h11⟩ : ∃ B, B = upd A10 t9 (.tup [.ref ut, .ref ut]) ∧ Same A10 B ∧ B t9 = some (.tup [.ref ut, .ref ut]) := ⟨_, rfl, same_new n11, upd_same⟩
    replace e11 := e11.symm
    first | rw [e11] | (erw [e11])
    clear e11
    refine ⟨_, rfl, by show 2 ≤ sizeLine; decide, fun t10 n12 => ?_⟩
    obtain ⟨A12, e12, s12, h12⟩ : ∃ B, B = upd A11 t10 (.tup [.int a, .int 0]) ∧ Same A11 B ∧ B t10 = some (.tup [.int a, .int 0]) := ⟨_, rfl, same_new n12, upd_same⟩
    replace e12 := e12.symm
    first | rw [e12] | (erw [e12])
    clear e12
    refine ⟨_, rfl, _, rfl, _, _, rfl, rfl, by show 2 ≤ sizeLine; decide, fun t11 n13 => ?_⟩
    obtain ⟨A13, e13, s13, h13⟩ : ∃ B, B = upd A12 t11 (.tup [.int a, .int (0 - b)]) ∧ Same A12 B ∧ B t11 = some (.tup [.int a, .int (0 - b)]) := ⟨_, rfl, same_new n13, upd_same⟩
    replace e13 := e13.symm
    first | rw [e13] | (erw [e13])
    clear e13
    refine ⟨_, rfl, by show 1 ≤ sizeLine; decide, fun t12 n14 => ?_⟩
    obtain ⟨A14, e14, s14, h14⟩ : ∃ B, B = upd A13 t12 (.tup [.ref ut]) ∧ Same A13 B ∧ B t12 = some (.tup [.ref ut]) := ⟨_, rfl, same_new n14, upd_same⟩
    replace e14 := e14.symm
    first | rw [e14] | (erw [e14])
    clear e14
    refine ⟨by show 7 ≤ sizeLine; decide, fun L2 n15 => ?_⟩
    obtain ⟨A15, e15, s15, h15⟩ : ∃ B, B = upd A14 L2 (.lst [.ref l1, .ref t7, .ref t8, .ref t9, .ref t10, .ref t11, .ref t12]) ∧ Same A14 B ∧ B L2 = some (.lst [.ref l1, .ref t7, .ref t8, .ref t9, .ref t10, .ref t11, .ref t12]) := ⟨_, rfl, same_new n15, upd_same⟩
    replace e15 := e15.symm
    first | rw [e15] | (erw [e15])
    clear e15
    have c15 := Same.refl A15
    have c14 := s15.trans c15
    have c13 := s14.trans c14
    have c12 := s13.trans c13
    have c11 := s12.trans c12
    have c10 := s11.trans c11
    have c9 := s10.trans c10
    have c8 := s9.trans c9
    have c7 := s8.trans c8
    have c6 := s7.trans c7
    have c5 := s6.trans c6
    have c4 := s5.trans c5
    have c3 := s4.trans c4
    have c2 := s3.trans c3
    have c1 := s2.trans c2
    have c0 := s1.trans c1
    refine ⟨L1, L2, _, _, rfl, rfl, c7 _ _ h7, h15, by show 14 ≤ sizeLine; decide, fun L nL => ?_⟩
    have fL := same_new (o := .lst [v, .ref t1, .ref t2, .ref t3, .ref t4, .ref t5, .ref t6, .ref l1, .ref t7, .ref t8, .ref t9, .ref t10, .ref t11, .ref t12]) nL
    have hodd := hv.x (Same.x c0) hp
    have ww : WholeIs K A15 v false := hodd.odd.whole
    have hu := Same.tup c0 ht
    have tu : ∀ t xs, A15 t = some (.tup xs) → SqT K A15 t xs := fun t xs e => .inl (.inl e)
    have all : ∀ x ∈ ([v, .ref t1, .ref t2, .ref t3, .ref t4, .ref t5, .ref t6, .ref l1, .ref t7, .ref t8, .ref t9, .ref t10, .ref t11, .ref t12] : List V), PairIs K A15 x false := by
      intro x hx
      simp only [List.mem_cons, List.not_mem_nil, or_false] at hx
      rcases hx with rfl | rfl | rfl | rfl | rfl | rfl | rfl | rfl | rfl | rfl | rfl | rfl | rfl | rfl
      · exact hodd.pair
      · exact pair_snd (tu _ _ (c1 _ _ h1)) ww
      · exact pair_fst (tu _ _ (c2 _ _ h2)) ww
      · exact pair_fst (tu _ _ (c3 _ _ h3)) ww
      · exact pair_len (tu _ _ (c4 _ _ h4)) (by show 3 ≠ 2; decide)
      · exact pair_len (tu _ _ (c5 _ _ h5)) (by show 3 ≠ 2; decide)
      · exact pair_len (tu _ _ (c6 _ _ h6)) (by show 1 ≠ 2; decide)
      · exact .inl ⟨rfl, _, .base (.lst (c8 _ _ h8)), kit_ty (by decide +kernel)⟩
      · exact pair_fst (tu _ _ (c9 _ _ h9)) (whole_tup hu)
      · exact pair_snd (tu _ _ (c10 _ _ h10)) (whole_tup hu)
      · exact pair_fst (tu _ _ (c11 _ _ h11)) (whole_tup hu)
      · exact pair_of ⟨_, rfl, tu _ _ (c12 _ _ h12)⟩
      · have z := pair_of (K := K) ⟨_, rfl, tu _ _ (c13 _ _ h13)⟩
        rw [decide_eq_false (show ¬ 0 < 0 - b by have := lw.1; omega), Bool.false_and] at z
        exact z
      · exact pair_len (tu _ _ (c14 _ _ h14)) (by show 1 ≠ 2; decide)
    refine ⟨_, rfl, L, rfl, ⟨_, .inl (.inl upd_same)⟩, fun D nD => ?_⟩
    have fD := same_new (o := .lst []) nD
    obtain ⟨B, eB⟩ : ∃ B, B = upd (upd A15 L (.lst [v, .ref t1, .ref t2, .ref t3, .ref t4, .ref t5, .ref t6, .ref l1, .ref t7, .ref t8, .ref t9, .ref t10, .ref t11, .ref t12])) D (.lst []) := ⟨_, rfl⟩
    have sB : Same A15 B := by rw [eB]; exact fL.trans fD
    have bL : B L = some (.lst [v, .ref t1, .ref t2, .ref t3, .ref t4, .ref t5, .ref t6, .ref l1, .ref t7, .ref t8, .ref t9, .ref t10, .ref t11, .ref t12]) := by rw [eB]; exact fD _ _ upd_same
    have bD : B D = some (.lst []) := by rw [eB]; exact upd_same
    refine lc_list (K := K) (a := L) (xs := [v, .ref t1, .ref t2, .ref t3, .ref t4, .ref t5, .ref t6, .ref l1, .ref t7, .ref t8, .ref t9, .ref t10, .ref t11, .ref t12]) (fun i H' => H' = B) eB.symm (fun i H' _ e => by rw [e]; exact .inl (.inl bL)) ?_ ?_
    · rintro i x H' hx rfl
      refine ⟨rfl, ?_⟩
      exact ⟨_, rfl, _, false, rfl, (all x (List.mem_of_getElem? hx)).same sB, false, false, rfl, rfl, _, rfl, iteF rfl⟩
    · rintro H' rfl
      refine ⟨Nat.zero_le _, fun F nF => ?_⟩
      have fF := same_new (o := .lst []) nF
      refine ⟨.list [], .list [], .lst (.inl (.inl (fF _ _ bD))) .nil, .lst (.inl (.inl upd_same)) .nil, rfl, rfl, ?_⟩
      exact q _ (c0.trans (sB.trans fF))
end
end WS

set_option Elab.async false
set_option linter.all false
set_option maxRecDepth 100000
set_option maxHeartbeats 4000000
namespace WS
open PySem PySem.Spec PyProof.Rows L2
structure R16 (K : PySem.W.Frag) (H : Hp) (p W O : Addr) (w0 w1 w2 w3 : Int) (o0 o1 o2 g : V) (x y : Int) (H' : Hp) : Prop where
  pot : PotAt H' p
  sx : SameX p H H'
  ww : H' W = some (.lst [.int w0, .int w1, .int w2, .int w3])
  oo : H' O = some (.lst [o0, o1, o2])
  d0 : Odd2 p K H' o0
  d1 : Odd2 p K H' o1
  d2 : Odd2 p K H' o2
  gd : TupI K H' g x y
section
variable {K : PySem.W.Frag} {H H1 H2 : Hp} {p W O : Addr} {w0 w1 w2 w3 : Int} {o0 o1 o2 g : V} {x y : Int}
theorem R16.sX (r : R16 K H p W O w0 w1 w2 w3 o0 o1 o2 g x y H1) (nw : W ≠ p) (no : O ≠ p) (s : SameX p H1 H2) (hp : PotAt H2 p) : R16 K H p W O w0 w1 w2 w3 o0 o1 o2 g x y H2 :=
  ⟨hp, r.sx.trans s, s _ _ nw r.ww, s _ _ no r.oo, r.d0.x s r.pot, r.d1.x s r.pot, r.d2.x s r.pot, r.gd.x s r.pot⟩
theorem R16.same (r : R16 K H p W O w0 w1 w2 w3 o0 o1 o2 g x y H1) (s : Same H1 H2) : R16 K H p W O w0 w1 w2 w3 o0 o1 o2 g x y H2 :=
  ⟨r.pot.same s, r.sx.trans (Same.x s), s _ _ r.ww, s _ _ r.oo, r.d0.x (Same.x s) r.pot, r.d1.x (Same.x s) r.pot, r.d2.x (Same.x s) r.pot, r.gd.same s⟩
theorem odd2_set {v : V} {D : Addr} {xs ys : List V} (h : Odd2 p K H v) (e : H D = some (.lst xs)) : Odd2 p K (upd H D (.lst ys)) v := by
  rcases h with h | h | h | ⟨a, ev, ⟨zs, h, r⟩ | ⟨n, zs, h⟩ | ⟨n, kvs, h⟩⟩
  · exact .inl h
  · exact .inr (.inl h)
  · exact .inr (.inr (.inl h))
  · exact .inr (.inr (.inr ⟨a, ev, .inl ⟨zs, (kt_set e).sqt h, r⟩⟩))
  · refine .inr (.inr (.inr ⟨a, ev, .inr (.inl ⟨n, ?_⟩)⟩))
    by_cases z : a = D
    · exact ⟨ys, by rw [z]; exact upd_same⟩
    · exact ⟨zs, by rw [upd_ne z]; exact h⟩
  · exact .inr (.inr (.inr ⟨a, ev, .inr (.inr ⟨n, kvs, by rw [upd_ne (ne_of h e (by intro z; cases z))]; exact h⟩)⟩))
theorem R16.set {D : Addr} {xs ys : List V} (r : R16 K H p W O w0 w1 w2 w3 o0 o1 o2 g x y H1) (e : H1 D = some (.lst xs)) (hD : H D = none) (np : p ≠ D) (nw : W ≠ D) (no : O ≠ D) : R16 K H p W O w0 w1 w2 w3 o0 o1 o2 g x y (upd H1 D (.lst ys)) := by
  refine ⟨?_, fun b o nb eb => ?_, ?_, ?_, odd2_set r.d0 e, odd2_set r.d1 e, odd2_set r.d2 e, r.gd.k (kt_set e)⟩
  · obtain ⟨a, b, e1, r1⟩ := r.pot
    exact ⟨a, b, by rw [upd_ne np]; exact e1, r1⟩
  · rw [upd_ne (ne_of_none eb hD)]
    exact r.sx b o nb eb
  · rw [upd_ne nw]; exact r.ww
  · rw [upd_ne no]; exact r.oo
theorem due_bad {u v : V} {Q : VK} (h : NoPartOf K H u v) (q : ∀ H', Same H H' → Q (.str "alone") H') : DueOf K H u v Q := .inr ⟨h, q⟩
theorem alone_show : (PyData.str "alone").shown.length ≤ sizeLine := by decide +kernel
theorem sg_of {a b : Int} (h : Lowest a b) : sg a b = (a, b) := by
  unfold sg
  rw [if_neg (by have := h.1; omega)]
  exact lo_of h
end
section
variable {P : Program} {w : World} {K : PySem.W.Frag} {mg : Str → Option Value} {base : Heap}
theorem ok_lright (T : Tx K mg) {A : Around} (hg : Calm A) : FnAt A P w K mg base CX0 6 T.f_lright T.d_lright ["_law_pot_here"] spOne := by
  refine fun_at T.F_lright sc_lright (fun vs H Q E h => ?_) (fun cdv outer s H vs Q E hr h => ?_)
  · obtain ⟨p, rfl, _⟩ := h
    rfl
  · obtain ⟨p, rfl, hp, q⟩ := h
    refine ⟨_, PSs.nox (pss_cons (ps_set (i := 1) sc_lright.nd rfl (.inl rfl) (pe_lst (pa_cons (pe_call (ok_ldigit T) (hr.mono (by decide)) (by rfl) T.g_ldigit T.F_ldigit.kp T.b_ldigit .nil pass0 (pa_cons (pv 0) (pa_cons pe_int pa_nil))) (pa_cons (pe_call (ok_ldigit T) (hr.mono (by decide)) (by rfl) T.g_ldigit T.F_ldigit.kp T.b_ldigit .nil pass0 (pa_cons (pv 0) (pa_cons pe_int pa_nil))) (pa_cons (pe_call (ok_ldigit T) (hr.mono (by decide)) (by rfl) T.g_ldigit T.F_ldigit.kp T.b_ldigit .nil pass0 (pa_cons (pv 0) (pa_cons pe_int pa_nil))) (pa_cons (pe_call (ok_ldigit T) (hr.mono (by decide)) (by rfl) T.g_ldigit T.F_ldigit.kp T.b_ldigit .nil pass0 (pa_cons (pv 0) (pa_cons pe_int pa_nil))) pa_nil))))))
        (pss_cons (ps_set (i := 2) sc_lright.nd rfl (.inl rfl) (pe_lst (pa_cons (pe_call (ok_lodd T) (hr.mono (by decide)) (by rfl) T.g_lodd T.F_lodd.kp T.b_lodd .nil pass0 (pa_cons (pv 0) pa_nil)) (pa_cons (pe_call (ok_lodd T) (hr.mono (by decide)) (by rfl) T.g_lodd T.F_lodd.kp T.b_lodd .nil pass0 (pa_cons (pv 0) pa_nil)) (pa_cons (pe_call (ok_lodd T) (hr.mono (by decide)) (by rfl) T.g_lodd T.F_lodd.kp T.b_lodd .nil pass0 (pa_cons (pv 0) pa_nil)) pa_nil)))))
        (pss_cons (ps_par (i := 3) (j := 4) (by rfl) sc_lright.nd rfl rfl (by decide) rfl rfl (pa_cons (pe_call (ok_lnumber T) (hr.mono (by decide)) (by rfl) T.g_lnumber T.F_lnumber.kp T.b_lnumber .nil pass0 (pa_cons (pv 0) pa_nil)) (pa_cons (pe_call (ok_lnumber T) (hr.mono (by decide)) (by rfl) T.g_lnumber T.F_lnumber.kp T.b_lnumber .nil pass0 (pa_cons (pv 0) pa_nil)) pa_nil)) (by rfl))
        (C8.pss_cut (ps_set (i := 5) sc_lright.nd rfl (.inl rfl) (pe_call (ok_ldue T) (hr.mono (by decide)) (by rfl) T.g_ldue T.F_ldue.kp T.b_ldue .nil pass0 (pa_cons (pv 3) (pa_cons (pe_ifExp (pt_cmpR op_ne (pv 4) pe_int (nomark _)) (pv 4) pe_int) pa_nil))))
        (pss_cons (ps_set (i := 6) sc_lright.nd rfl (.inl rfl) (pe_lst (pa_cons (pe_ix ix_list (pe_lst (pa_cons (pv 3) (pa_cons (pe_ix ix_list (pv 2) pe_int (fun _ _ => rfl)) pa_nil))) (pe_ix ix_list (pv 1) pe_int (fun _ _ => rfl)) (fun _ _ => rfl)) (pa_cons (pe_ix ix_list (pe_lst (pa_cons (pv 4) (pa_cons (pe_ix ix_list (pv 2) pe_int (fun _ _ => rfl)) pa_nil))) (pe_ix ix_list (pv 1) pe_int (fun _ _ => rfl)) (fun _ _ => rfl)) pa_nil))))
        (C8.pss_cut (ps_if (pt_cmpR op_eq (pe_ix ix_list (pv 1) pe_int (fun _ _ => rfl)) pe_int (nomark _)) (pss_one (ps_asg pe_int (pg_sub (pv 6) pe_int set_list))) pss_nil)
        (C8.pss_cut (ps_if (pt_cmpR op_ne (pe_callB (call_reprD (Calm.down hg _) hr.units) (by rfl) T.n_repr (by decide +kernel) (pa_cons (pe_call (ok_lmade T) (hr.mono (by decide)) (by rfl) T.g_lmade T.F_lmade.kp T.b_lmade .nil pass0 (pa_cons (pe_ix ix_list (pv 6) pe_int (fun _ _ => rfl)) (pa_cons (pe_ix ix_list (pv 6) pe_int (fun _ _ => rfl)) (pa_cons (pe_ix ix_list (pv 1) pe_int (fun _ _ => rfl)) pa_nil)))) pa_nil)) (pe_callB (call_reprD (Calm.down hg _) hr.units) (by rfl) T.n_repr (by decide +kernel) (pa_cons (pe_call (ok_ldue T) (hr.mono (by decide)) (by rfl) T.g_ldue T.F_ldue.kp T.b_ldue .nil pass0 (pa_cons (pe_ix ix_list (pv 6) pe_int (fun _ _ => rfl)) (pa_cons (pe_ix ix_list (pv 6) pe_int (fun _ _ => rfl)) pa_nil))) pa_nil)) (nomark _)) (pss_one (ps_ret pe_bl)) pss_nil)
        (pss_cons (ps_set (i := 7) sc_lright.nd rfl (.inl rfl) (pe_ix ix_list (pe_lst (pa_cons (pe_op op_add pe_int (pe_callB call_abs (by rfl) T.n_abs (by decide +kernel) (pa_cons (pe_call (ok_lnumber T) (hr.mono (by decide)) (by rfl) T.g_lnumber T.F_lnumber.kp T.b_lnumber .nil pass0 (pa_cons (pv 0) pa_nil)) pa_nil))) (pa_cons (pe_op op_sub pe_int (pe_callB call_abs (by rfl) T.n_abs (by decide +kernel) (pa_cons (pe_call (ok_lnumber T) (hr.mono (by decide)) (by rfl) T.g_lnumber T.F_lnumber.kp T.b_lnumber .nil pass0 (pa_cons (pv 0) pa_nil)) pa_nil))) (pa_cons (pe_ix ix_list (pv 2) pe_int (fun _ _ => rfl)) (pa_cons pe_int pa_nil))))) (pe_ix ix_list (pv 1) pe_int (fun _ _ => rfl)) (fun _ _ => rfl)))
        (C8.pss_cut (ps_if (pt_cmpR op_ne (pe_callB (call_reprD (Calm.down hg _) hr.units) (by rfl) T.n_repr (by decide +kernel) (pa_cons (pe_call (ok_lparted_by T) (hr.mono (by decide)) (by rfl) T.g_lparted_by T.F_lparted_by.kp T.b_lparted_by .nil pass0 (pa_cons (pv 5) (pa_cons (pv 7) pa_nil))) pa_nil)) (pe_callB (call_reprD (Calm.down hg _) hr.units) (by rfl) T.n_repr (by decide +kernel) (pa_cons (pe_call (ok_ldue_shared T) (hr.mono (by decide)) (by rfl) T.g_ldue_shared T.F_ldue_shared.kp T.b_ldue_shared .nil pass0 (pa_cons (pv 5) (pa_cons (pv 7) pa_nil))) pa_nil)) (nomark _)) (pss_one (ps_ret pe_bl)) pss_nil)
        (pss_cons (ps_if (PW.pt (pw_or (pt_cmpR op_ne (pe_call (ok_lmade T) (hr.mono (by decide)) (by rfl) T.g_lmade T.F_lmade.kp T.b_lmade .nil pass0 (pa_cons (pv 3) (pa_cons pe_int (pa_cons pe_int pa_nil)))) pe_str (nomark _)) (pw_or (pt_cmpR op_ne (pe_call (ok_lmade T) (hr.mono (by decide)) (by rfl) T.g_lmade T.F_lmade.kp T.b_lmade .nil pass0 (pa_cons pe_int (pa_cons (pe_ix ix_list (pv 2) pe_int (fun _ _ => rfl)) (pa_cons pe_int pa_nil)))) pe_str (nomark _)) (pw_or1 (pt_cmpR op_ne (pe_call (ok_lparted_by T) (hr.mono (by decide)) (by rfl) T.g_lparted_by T.F_lparted_by.kp T.b_lparted_by .nil pass0 (pa_cons (pv 5) (pa_cons pe_int pa_nil))) pe_str (nomark _)))))) (pss_one (ps_ret pe_bl)) pss_nil)
        (pss_cons (ps_if (PW.pt (pw_or (pt_not (pt_val (pe_call (ok_lnone_is T) (hr.mono (by decide)) (by rfl) T.g_lnone_is T.F_lnone_is.kp T.b_lnone_is .nil pass0 (pa_cons (pv 5) (pa_cons (pe_ix ix_list (pv 2) pe_int (fun _ _ => rfl)) pa_nil))))) (pw_or1 (pt_cmpR op_notBl (pe_call (ok_is_part T) (hr.mono (by decide)) (by rfl) T.g_is_part T.F_is_part.kp T.b_is_part .nil pass0 (pa_cons (pv 5) pa_nil)) pe_bl (nomark _))))) (pss_one (ps_ret pe_bl)) pss_nil)
        (pss_one (ps_ret (pe_and (pe_cmpR op_eq (pe_callB (call_reprD (Calm.down hg _) hr.units) (by rfl) T.n_repr (by decide +kernel) (pa_cons (pe_call (ok_lmade T) (hr.mono (by decide)) (by rfl) T.g_lmade T.F_lmade.kp T.b_lmade .nil pass0 (pa_cons (pe_ix ix_tup (pv 5) pe_int (fun _ _ => rfl)) (pa_cons (pe_ix ix_tup (pv 5) pe_int (fun _ _ => rfl)) (pa_cons pe_int pa_nil)))) pa_nil)) (pe_callB (call_reprD (Calm.down hg _) hr.units) (by rfl) T.n_repr (by decide +kernel) (pa_cons (pv 5) pa_nil)) (nomark _)) (pe_one (pe_cmpR op_eq (pe_callB (call_reprD (Calm.down hg _) hr.units) (by rfl) T.n_repr (by decide +kernel) (pa_cons (pe_call (ok_lparted_by T) (hr.mono (by decide)) (by rfl) T.g_lparted_by T.F_lparted_by.kp T.b_lparted_by .nil pass0 (pa_cons (pv 5) (pa_cons pe_int pa_nil))) pa_nil)) (pe_callB (call_reprD (Calm.down hg _) hr.units) (by rfl) T.n_repr (by decide +kernel) (pa_cons (pv 5) pa_nil)) (nomark _))))))))))))))))), ?_⟩
    refine ⟨_, rfl, p, _, rfl, hp, by decide, by unfold Bt; decide +kernel, fun w0 H1 a0 b0 s1 p1 => ?_⟩
    refine ⟨_, rfl, p, _, rfl, p1, by decide, by unfold Bt; decide +kernel, fun w1 H2 a1 b1 s2 p2 => ?_⟩
    refine ⟨_, rfl, p, _, rfl, p2, by decide, by unfold Bt; decide +kernel, fun w2 H3 a2 b2 s3 p3 => ?_⟩
    refine ⟨_, rfl, p, _, rfl, p3, by decide, by unfold Bt; decide +kernel, fun w3 H4 a3 b3 s4 p4 => ?_⟩
    refine ⟨by show 4 ≤ sizeLine; decide, fun W nW => ?_⟩
    have sx4 := s1.trans (s2.trans (s3.trans s4))
    have nWp := p4.ne nW
    have p5 := p4.same (same_new (o := .lst [.int w0, .int w1, .int w2, .int w3]) nW)
    refine ⟨_, rfl, p, rfl, p5, fun o0 H5 d0 s5 p6 => ⟨_, rfl, p, rfl, p6, fun o1 H6 d1 s6 p7 => ⟨_, rfl, p, rfl, p7, fun o2 H7 d2 s7 p8 => ⟨by show 3 ≤ sizeLine; decide, fun O nO => ?_⟩⟩⟩⟩
    have nOp := p8.ne nO
    have fO := same_new (o := .lst [o0, o1, o2]) nO
    have hW7 : H7 W = some (.lst [.int w0, .int w1, .int w2, .int w3]) := s7 _ _ nWp (s6 _ _ nWp (s5 _ _ nWp upd_same))
    have sx7 : SameX p H H7 := sx4.trans ((Same.x (same_new nW)).trans (s5.trans (s6.trans s7)))
    refine ⟨_, rfl, p, rfl, p8.same fO, fun a H8 ba s8 p9 => ⟨_, rfl, p, rfl, p9, fun b H9 bb s9 p10 => ⟨_, _, rfl, ?_⟩⟩⟩
    have s89 := s8.trans s9
    have pO := p8.same fO
    have base9 : ∀ H' g x y, Same H9 H' → TupI K H' g x y → R16 K H p W O w0 w1 w2 w3 o0 o1 o2 g x y H' := fun H' g x y st hg =>
      ⟨p10.same st, sx7.trans ((Same.x fO).trans (s89.trans (Same.x st))), st _ _ (s89 _ _ nWp (fO _ _ hW7)), st _ _ (s89 _ _ nOp upd_same),
        ((((d0.x s6 p6).x s7 p7).x (Same.x fO) p8).x s89 pO).x (Same.x st) p10, (((d1.x s7 p7).x (Same.x fO) p8).x s89 pO).x (Same.x st) p10, ((d2.x (Same.x fO) p8).x s89 pO).x (Same.x st) p10, hg⟩
    refine ⟨fun σ' H' => ∃ g x y, σ' = [some (.ref p), some (.ref W), some (.ref O), some (.int a), some (.int b), some g, none, none] ∧ R16 K H p W O w0 w1 w2 w3 o0 o1 o2 g x y H' ∧ Lowest x y ∧ Bt 400 x ∧ Bt 400 y, ?_, ?_⟩
    · refine ⟨_, rfl, _, rfl, rfl, _, rfl, ?_⟩
      by_cases hb : b = 0
      · subst hb
        refine iteNS rfl ?_
        have b7 : Bt 400 (7 : Int) := by unfold Bt; decide +kernel
        obtain ⟨e1, e2⟩ := sg_bt (ba.mono (show 150 ≤ 400 by decide)) b7
        exact ⟨_, _, rfl, .inl ⟨a, 7, rfl, rfl, by decide, ba.mono (by decide), b7, fun g H' st hg => ⟨g, _, _, rfl, base9 H' g _ _ st hg, sg_low (by decide), e1, e2⟩⟩⟩
      · rw [show decide (V.int b = V.int 0) = false from decide_eq_false (fun z => hb (V.int.inj z))]
        refine iteT ?_
        obtain ⟨e1, e2⟩ := sg_bt (ba.mono (show 150 ≤ 400 by decide)) (bb.mono (show 150 ≤ 400 by decide))
        exact ⟨_, rfl, _, _, rfl, .inl ⟨a, b, rfl, rfl, hb, ba.mono (by decide), bb.mono (by decide), fun g H' st hg => ⟨g, _, _, rfl, base9 H' g _ _ st hg, sg_low hb, e1, e2⟩⟩⟩
    rintro σ' I ⟨g, x, y, rfl, r, lw, bx, b_y⟩
    have nWn : H W = none := by
      cases z : H W with
      | none => rfl
      | some u => exact absurd (sx4 W u nWp z) (by rw [nW]; simp)
    -- things
    have q1 : SqL K I O [o0, o1, o2] := .inl (.inl r.oo)
    refine ⟨_, rfl, _, rfl, O, _, 0, _, rfl, rfl, q1, atI_nat (j := 0) rfl, by show 2 ≤ sizeLine; decide, fun l1 n1 => ?_⟩
    have f1 := same_new (o := .lst [.int a, o0]) n1
    have r1 := r.same f1
    obtain ⟨z0, hz0, hm0⟩ := pick (xs := [V.int a, o0]) a0 (by simpa using b0)
    refine ⟨_, rfl, W, _, 0, _, rfl, rfl, .inl (.inl r1.ww), atI_nat (j := 0) rfl, l1, _, w0, z0, rfl, rfl, .inl (.inl upd_same), hz0, ?_⟩
    refine ⟨_, rfl, _, rfl, O, _, 1, _, rfl, rfl, .inl (.inl r1.oo), atI_nat (j := 1) rfl, by show 2 ≤ sizeLine; decide, fun l2 n2 => ?_⟩
    have f2 := same_new (o := .lst [.int b, o1]) n2
    have r2 := r1.same f2
    obtain ⟨z1, hz1, hm1⟩ := pick (xs := [V.int b, o1]) a1 (by simpa using b1)
    refine ⟨_, rfl, W, _, 1, _, rfl, rfl, .inl (.inl r2.ww), atI_nat (j := 1) rfl, l2, _, w1, z1, rfl, rfl, .inl (.inl upd_same), hz1, ?_⟩
    refine ⟨by show 2 ≤ sizeLine; decide, fun D nD => ?_⟩
    have f3 := same_new (o := .lst [z0, z1]) nD
    have r3 := r2.same f3
    have hDn : H D = none := by
      cases z : H D with
      | none => rfl
      | some u =>
        by_cases e : D = p
        · rw [e] at nD
          obtain ⟨_, _, e2, _⟩ := r2.pot
          rw [e2] at nD
          cases nD
        · exact absurd (r2.sx D u e z) (by rw [nD]; simp)
    simp only [List.mem_cons, List.not_mem_nil, or_false] at hm0 hm1
    refine ⟨fun σ' H' => ∃ z1, σ' = [some (.ref p), some (.ref W), some (.ref O), some (.int a), some (.int b), some g, some (.ref D), none] ∧ R16 K H p W O w0 w1 w2 w3 o0 o1 o2 g x y H' ∧ H' D = some (.lst [z0, z1]) ∧ ((∃ i : Int, z1 = .int i ∧ Bt 400 i) ∨ z1 = o1) ∧ (w2 = 2 → z1 = .int 1), ?_, ?_⟩
    · refine ⟨_, rfl, W, _, 2, _, rfl, rfl, .inl (.inl r3.ww), atI_nat (j := 2) rfl, rfl, _, rfl, ite2 (fun z => ?_) (fun z => ?_)⟩
      · have npD : p ≠ D := (r2.pot.ne nD).symm
        have nWD : W ≠ D := ne_of_none r2.ww nD
        have nOD : O ≠ D := ne_of_none r2.oo nD
        refine ⟨_, rfl, D, _, _, 1, rfl, rfl, upd_same, rfl, ?_⟩
        exact ⟨_, rfl, r3.set upd_same hDn npD nWD nOD, upd_same, .inl ⟨1, rfl, by unfold Bt; decide +kernel⟩, fun _ => rfl⟩
      · refine ⟨z1, rfl, r3, upd_same, ?_, fun e => absurd (decide_eq_true (congrArg V.int e)) z⟩
        rcases hm1 with rfl | rfl
        · exact .inl ⟨b, rfl, bb.mono (by decide)⟩
        · exact .inr rfl
    rintro σ' I ⟨z1, rfl, r, hD, hz1, hw2⟩
    have q6 : SqL K I D [z0, z1] := .inl (.inl hD)
    have k0 : (∃ i : Int, z0 = .int i ∧ Bt 400 i) ∨ Odd2 p K I z0 := by
      rcases hm0 with rfl | rfl
      · exact .inl ⟨a, rfl, ba.mono (by decide)⟩
      · exact .inr r.d0
    have k1 : (∃ i : Int, z1 = .int i ∧ Bt 400 i) ∨ Odd2 p K I z1 := hz1.elim .inl fun e => .inr (by rw [e]; exact r.d1)
    refine ⟨fun σ' H' => σ' = [some (.ref p), some (.ref W), some (.ref O), some (.int a), some (.int b), some g, some (.ref D), none] ∧ R16 K H p W O w0 w1 w2 w3 o0 o1 o2 g x y H', ?_, ?_⟩
    · refine ⟨_, rfl, D, _, 0, _, rfl, rfl, q6, atI_nat (j := 0) rfl, _, rfl, D, _, 1, _, rfl, rfl, q6, atI_nat (j := 1) rfl, _, rfl, W, _, 2, _, rfl, rfl, .inl (.inl r.ww), atI_nat (j := 2) rfl, ?_⟩
      by_cases good : ∃ i j : Int, z0 = .int i ∧ z1 = .int j ∧ j ≠ 0 ∧ Bt 400 i ∧ Bt 400 j
      · obtain ⟨i, j, rfl, rfl, hj, bi, bj⟩ := good
        obtain ⟨e1, e2⟩ := sg_bt bi bj
        have sh := pd_show (e1.mono (show 400 ≤ 1900 by decide)) (e2.mono (show 400 ≤ 1900 by decide))
        have ln : (pd (sg i j).1 (sg i j).2).shown.length ≤ sizeLine := Nat.le_trans (pd_len (by decide) e1 e2) (by decide)
        refine ⟨_, _, _, rfl, a2, by omega, hw2, .inl ⟨i, j, rfl, rfl, hj, bi, bj, fun v1 I1 t1 h1 => ?_⟩⟩
        refine ⟨_, pd _ _, rfl, pd_dp h1, sh, rfl, by show 1 ≤ 60; decide, ln, ?_⟩
        have q6 := Same.seq t1 q6
        refine ⟨_, rfl, D, _, 0, _, rfl, rfl, q6, atI_nat (j := 0) rfl, _, rfl, D, _, 1, _, rfl, rfl, q6, atI_nat (j := 1) rfl, _, _, rfl, .inl ⟨i, j, rfl, rfl, hj, bi, bj, fun v2 I2 t2 h2 => ?_⟩⟩
        refine ⟨_, pd _ _, rfl, pd_dp h2, sh, rfl, by show 1 ≤ 60; decide, ln, rfl, _, rfl, ?_⟩
        rw [decide_eq_true rfl]
        exact iteF ⟨rfl, r.same (t1.trans t2)⟩
      · have bad : NoPartOf K I z0 z1 := by
          rcases k0 with ⟨i, rfl, bi⟩ | h
          · refine .inr ⟨i, rfl, ?_⟩
            rcases k1 with ⟨j, rfl, bj⟩ | h
            · right
              apply Decidable.byContradiction
              intro nb
              exact good ⟨i, j, rfl, rfl, fun z => nb (by rw [z]), bi, bj⟩
            · exact .inl h.odd.whole
          · exact .inl h.odd.whole
        have bad2 : ∀ I1, Same I I1 → NoPartOf K I1 z0 z1 := fun I1 st => bad.elim (fun h => .inl (h.same st)) fun ⟨i, e, h⟩ => .inr ⟨i, e, h.elim (fun h => .inl (h.same st)) .inr⟩
        refine ⟨_, _, _, rfl, a2, by omega, hw2, .inr ⟨bad, fun I1 t1 => ?_⟩⟩
        refine ⟨_, .str "alone", rfl, .str _, rfl, rfl, by show 0 ≤ 60; decide, alone_show, ?_⟩
        have q6 := Same.seq t1 q6
        refine ⟨_, rfl, D, _, 0, _, rfl, rfl, q6, atI_nat (j := 0) rfl, _, rfl, D, _, 1, _, rfl, rfl, q6, atI_nat (j := 1) rfl, _, _, rfl, .inr ⟨bad2 I1 t1, fun I2 t2 => ?_⟩⟩
        refine ⟨_, .str "alone", rfl, .str _, rfl, rfl, by show 0 ≤ 60; decide, alone_show, rfl, _, rfl, ?_⟩
        rw [decide_eq_true rfl]
        exact iteF ⟨rfl, r.same (t1.trans t2)⟩
    rintro σ' I ⟨rfl, r⟩
    -- many
    refine ⟨_, rfl, p, rfl, r.pot, fun c1 J1 bc1 s1 p1 => ⟨_, rfl, _, _, rfl, rfl, ?_⟩⟩
    refine ⟨_, rfl, p, rfl, p1, fun c2 J2 bc2 s2 p2 => ⟨_, rfl, _, _, rfl, rfl, ?_⟩⟩
    have r := (r.sX nWp nOp s1 p1).sX nWp nOp s2 p2
    refine ⟨_, rfl, O, _, 2, _, rfl, rfl, .inl (.inl r.oo), atI_nat (j := 2) rfl, by show 4 ≤ sizeLine; decide, fun l3 n3 => ?_⟩
    have f3 := same_new (o := .lst [.int (1 + (if c1 < 0 then -c1 else c1)), .int (0 - (if c2 < 0 then -c2 else c2)), o2, .int 1]) n3
    have r3 := r.same f3
    obtain ⟨m, hm, hmm⟩ := pick (xs := [V.int (1 + (if c1 < 0 then -c1 else c1)), .int (0 - (if c2 < 0 then -c2 else c2)), o2, .int 1]) a3 (by simpa using b3)
    refine ⟨_, rfl, W, _, 3, _, rfl, rfl, .inl (.inl r3.ww), atI_nat (j := 3) rfl, l3, _, w3, m, rfl, rfl, .inl (.inl upd_same), hm, ?_⟩
    have km : (∃ i : Int, m = .int i ∧ Bt 400 i) ∨ m = o2 := by
      have abs : ∀ c : Int, Bt 150 c → Bt 399 (if c < 0 then -c else c) := fun c h => by
        split
        · exact h.neg.mono (by decide)
        · exact h.mono (by decide)
      simp only [List.mem_cons, List.not_mem_nil, or_false] at hmm
      rcases hmm with rfl | rfl | rfl | rfl
      · exact .inl ⟨_, rfl, (show Bt 399 (1 : Int) by unfold Bt; decide +kernel).add (abs c1 bc1)⟩
      · exact .inl ⟨_, rfl, (show Bt 399 (0 : Int) by unfold Bt; decide +kernel).sub (abs c2 bc2)⟩
      · exact .inr rfl
      · exact .inl ⟨1, rfl, by unfold Bt; decide +kernel⟩
    clear hmm
    refine ⟨fun σ' H' => σ' = [some (.ref p), some (.ref W), some (.ref O), some (.int a), some (.int b), some g, some (.ref D), some m] ∧ R16 K H p W O w0 w1 w2 w3 o0 o1 o2 g x y H', ?_, ?_⟩
    · by_cases good : ∃ i : Int, m = .int i ∧ 1 ≤ i ∧ Bt 400 i
      · obtain ⟨i, rfl, hi, bi⟩ := good
        have e1 : Bt 900 (lo x (y * i)).1 := (Bt.lo1 bx).mono (by decide)
        have e2 : Bt 900 (lo x (y * i)).2 := (Bt.lo2 (b_y.mul bi)).mono (by decide)
        have sh := pd_show (e1.mono (show 900 ≤ 1900 by decide)) (e2.mono (show 900 ≤ 1900 by decide))
        have ln : (pd (lo x (y * i)).1 (lo x (y * i)).2).shown.length ≤ sizeLine := Nat.le_trans (pd_len (by decide) e1 e2) (by decide)
        refine ⟨_, rfl, _, rfl, g, x, y, _, rfl, r3.gd, lw, bx, b_y, .inl ⟨i, rfl, hi, bi, fun v1 I1 t1 h1 => ?_⟩⟩
        refine ⟨_, pd _ _, rfl, pd_dp h1, sh, rfl, by show 1 ≤ 60; decide, ln, ?_⟩
        refine ⟨_, rfl, _, rfl, g, x, y, _, rfl, r3.gd.same t1, lw, bx, b_y, .inl ⟨i, rfl, hi, bi, fun v2 I2 t2 h2 => ?_⟩⟩
        refine ⟨_, pd _ _, rfl, pd_dp h2, sh, rfl, by show 1 ≤ 60; decide, ln, rfl, _, rfl, ?_⟩
        rw [decide_eq_true rfl]
        exact iteF ⟨rfl, r3.same (t1.trans t2)⟩
      · have bad : ∀ I1, R16 K H p W O w0 w1 w2 w3 o0 o1 o2 g x y I1 → Bad K I1 m := fun I1 rr => by
          rcases km with ⟨i, rfl, bi⟩ | rfl
          · refine .inr ⟨i, rfl, ?_⟩
            apply Decidable.byContradiction
            intro nb
            exact good ⟨i, rfl, by omega, bi⟩
          · exact .inl rr.d2.odd.whole
        refine ⟨_, rfl, _, rfl, g, x, y, _, rfl, r3.gd, lw, bx, b_y, .inr ⟨bad _ r3, fun I1 t1 => ?_⟩⟩
        refine ⟨_, .str "alone", rfl, .str _, rfl, rfl, by show 0 ≤ 60; decide, alone_show, ?_⟩
        refine ⟨_, rfl, _, rfl, g, x, y, _, rfl, r3.gd.same t1, lw, bx, b_y, .inr ⟨bad _ (r3.same t1), fun I2 t2 => ?_⟩⟩
        refine ⟨_, .str "alone", rfl, .str _, rfl, rfl, by show 0 ≤ 60; decide, alone_show, rfl, _, rfl, ?_⟩
        rw [decide_eq_true rfl]
        exact iteF ⟨rfl, r3.same (t1.trans t2)⟩
    rintro σ' I ⟨rfl, r⟩
    -- refused
    refine ⟨_, rfl, _, _, _, rfl, by decide, by decide, (fun z => nomatch z), .inr ⟨.inr ⟨a, rfl, .inr rfl⟩, fun I1 t1 => ?_⟩⟩
    refine ⟨rfl, _, rfl, iteF ?_⟩
    have r1 := r.same t1
    refine ⟨_, rfl, O, _, 0, _, rfl, rfl, .inl (.inl r1.oo), atI_nat (j := 0) rfl, _, _, _, rfl, by decide, by decide, (fun z => nomatch z), .inr ⟨.inr ⟨0, rfl, .inl r1.d0.odd.whole⟩, fun I2 t2 => ?_⟩⟩
    refine ⟨rfl, _, rfl, iteF ?_⟩
    have r2 := r1.same t2
    refine ⟨_, rfl, g, x, y, _, rfl, r2.gd, lw, bx, b_y, .inr ⟨.inr ⟨0, rfl, by decide⟩, fun I3 t3 => ?_⟩⟩
    refine ⟨rfl, _, rfl, iteF ?_⟩
    have r3 := r2.same t3
    refine ⟨_, rfl, _, rfl, O, _, 2, _, rfl, rfl, .inl (.inl r3.oo), atI_nat (j := 2) rfl, p, g, o2, x, y, rfl, r3.pot, r3.gd, lw, r3.d2, fun I4 t4 => ⟨true, rfl, iteF ?_⟩⟩
    have r4 := r3.same t4
    have pr : PairIs K I4 g true := by
      have z := pair_of r4.gd
      rw [decide_eq_true lw.1, lw.2] at z
      exact z
    refine ⟨_, rfl, _, _, rfl, pr, true, true, rfl, rfl, _, rfl, iteF ?_⟩
    -- the end
    have sh := pd_show (bx.mono (show 400 ≤ 1900 by decide)) (b_y.mono (show 400 ≤ 1900 by decide))
    have ln : (pd x y).shown.length ≤ sizeLine := Nat.le_trans (pd_len (by decide) bx b_y) (by decide)
    obtain ⟨gt, rfl, hgt⟩ := r4.gd
    refine ⟨_, rfl, gt, _, 0, _, rfl, rfl, hgt, atI_nat (j := 0) rfl, _, rfl, gt, _, 1, _, rfl, rfl, hgt, atI_nat (j := 1) rfl, _, _, _, rfl, by decide, by decide, (fun z => nomatch z), .inl ⟨x, y, rfl, rfl, by have := lw.1; omega, bx, b_y, fun v5 I5 t5 h5 => ?_⟩⟩
    rw [sg_of lw] at h5
    refine ⟨_, pd x y, rfl, pd_dp h5, sh, rfl, by show 1 ≤ 60; decide, ln, ?_⟩
    have r5 := r4.same t5
    refine ⟨_, rfl, _, pd x y, rfl, pd_dp r5.gd, sh, rfl, by show 1 ≤ 60; decide, ln, rfl, _, rfl, ?_⟩
    rw [decide_eq_true rfl]
    refine iteT ⟨_, rfl, _, x, y, _, rfl, r5.gd, lw, bx, b_y, .inl ⟨1, rfl, by decide, by unfold Bt; decide +kernel, fun v6 I6 t6 h6 => ?_⟩⟩
    rw [Int.mul_one, lo_of lw] at h6
    refine ⟨_, pd x y, rfl, pd_dp h6, sh, rfl, by show 1 ≤ 60; decide, ln, ?_⟩
    have r6 := r5.same t6
    refine ⟨_, rfl, _, pd x y, rfl, pd_dp r6.gd, sh, rfl, by show 1 ≤ 60; decide, ln, rfl, ?_⟩
    rw [decide_eq_true rfl]
    exact q _ r6.sx
theorem ok_law (T : Tx K mg) {A : Around} (hg : Calm A) : FnAt A P w K mg base CX0 7 T.f_law T.d_law ["_law_script"] (spLaw K) := by
  refine fun_at T.F_law sc_law (fun vs H Q E h => ?_) (fun cdv outer s H vs Q E hr h => ?_)
  · obtain ⟨a, ns, rfl, _⟩ := h
    rfl
  · obtain ⟨a, ns, rfl, hS, hlen, q⟩ := h
    refine ⟨_, PSs.nox (pss_one (ps_ret (pe_callB (cr_all (by rfl)) (by rfl) T.n_all (by decide +kernel) (pa_cons (pe_lc (own := [("_law_k", 1)]) (g := gName 1) (tt := tYes) (by rfl) sc_law.nd (pi_range1 (by rfl) T.n_range (pa_cons (pe_callB (call_max2 (by rfl)) (by rfl) T.n_max (by decide +kernel) (pa_cons pe_int (pa_cons (pe_callB (call_min2 (by rfl)) (by rfl) T.n_min (by decide +kernel) (pa_cons (pe_callB call_len_seq (by rfl) T.n_len (by decide +kernel) (pa_cons (pv 0) pa_nil)) (pa_cons pe_int pa_nil))) pa_nil))) pa_nil)) (blkOk_by (own := [("_law_k", 1)]) (N := ["_law_script", "_law_k"]) (sc := defScope s_law) (by decide +kernel)) (fun _ _ _ _ _ => (pg_name (i := 1) sc_law.nd rfl (.inl rfl))) (fun _ _ _ _ _ => pts_nil) (fun _ _ _ _ _ => (pe_callA (ok_lright T (Calm.down hg _)) (hr.mono (by decide)) (by rfl) T.g_lright T.F_lright.kp T.b_lright .nil pass0 (pa_cons (pe_call (ok_lpot T) (hr.mono (by decide)) (by rfl) T.g_lpot T.F_lpot.kp T.b_lpot .nil pass0 (pa_cons (pv 0) (pa_cons (pv 1) pa_nil))) pa_nil)))) pa_nil)))), ?_⟩
    refine ⟨_, rfl, a, _, rfl, .inl hS, _, _, rfl, _, _, rfl, ?_⟩
    rw [List.length_map]
    refine ⟨_, rfl, ?_, ?_, fun D nD => ?_⟩
    · split <;> omega
    · show (if (if (10 : Int) < ns.length then (10 : Int) else ns.length) > 1 then (if (10 : Int) < ns.length then (10 : Int) else ns.length) else 1) < 2 ^ 62
      split <;> split <;> omega
    · generalize hN : (if (if (10 : Int) < ns.length then (10 : Int) else ns.length) > 1 then (if (10 : Int) < ns.length then (10 : Int) else ns.length) else 1).toNat = N
      have hN2 : N ≤ 10 := by rw [← hN]; split <;> split <;> omega
      refine lc_range (lo := 0) (n := N) (fun i H' => H' D = some (.lst ((List.replicate i true).map V.bl)) ∧ ∀ o, H a = some o → H' a = some o) ⟨upd_same, same_new nD a⟩ ?_ ?_
      · rintro i H' hi ⟨hD, hS'⟩
        refine ⟨rfl, tyes ?_⟩
        refine iteT ?_
        refine ⟨_, rfl, _, rfl, a, ns, _, rfl, seq_keep hS hS', by omega, by omega, fun p H2 s2 np hp => ?_⟩
        refine ⟨p, rfl, hp, fun H3 s3 => ?_⟩
        have nDp : D ≠ p := ne_of_none hD np
        have hD3 : H3 D = some (.lst ((List.replicate i true).map V.bl)) := s3 D _ nDp (s2 _ _ hD)
        refine ⟨_, hD3, ?_, ?_, ?_⟩
        · rw [List.length_map, List.length_replicate]
          exact small1000 (by omega)
        · rw [upd_same, List.replicate_succ', List.map_append]
          rfl
        · intro o e
          rw [upd_ne (ne_of_none e nD)]
          exact s3 a o (ne_of_none (hS' o e) np) (s2 a o (hS' o e))
      · rintro H' ⟨hD, hS'⟩
        refine ⟨D, _, rfl, .inl (.inl hD), ?_⟩
        rw [all_true]
        exact q _

end
end WS

set_option Elab.async false
set_option linter.all false
set_option maxRecDepth 100000
set_option maxHeartbeats 4000000
namespace WS
open PySem PySem.Spec PyProof.Rows L2
theorem all_mk {l : PySem.W.OpenLaw} {w : World} {K : PySem.W.Frag} {h : Heap} {mg : Str → Option Value} {fa : Addr} (X : K.In h) (G : h.Ns mainGlobals mg) (hfa : mg "law" = some (.ref fa))
    {f_is_whole : Addr} {od_is_whole an_is_whole : Option Addr} {sl_is_whole : Array (Option Value)} {oc_is_whole dc_is_whole pm_is_whole cd_is_whole ct_is_whole : Value} {kV_is_whole : Value}
    {f_greatest_common : Addr} {od_greatest_common an_greatest_common : Option Addr} {sl_greatest_common : Array (Option Value)} {oc_greatest_common dc_greatest_common pm_greatest_common cd_greatest_common ct_greatest_common : Value} {kV_greatest_common : Value}
    {f_is_part : Addr} {od_is_part an_is_part : Option Addr} {sl_is_part : Array (Option Value)} {oc_is_part dc_is_part pm_is_part cd_is_part ct_is_part : Value} {kV_is_part : Value}
    {f_part : Addr} {od_part an_part : Option Addr} {sl_part : Array (Option Value)} {oc_part dc_part pm_part cd_part ct_part : Value} {kV_part : Value}
    {dT_part : Addr} {do_part : Option Addr} {dn_part : Nat} {ds_part : Array (Option Value)} {dt_part : Tok}
    {f_shared : Addr} {od_shared an_shared : Option Addr} {sl_shared : Array (Option Value)} {oc_shared dc_shared pm_shared cd_shared ct_shared : Value} {kV_shared : Value}
    {f_lpot : Addr} {od_lpot an_lpot : Option Addr} {sl_lpot : Array (Option Value)} {oc_lpot dc_lpot pm_lpot cd_lpot ct_lpot : Value} {kV_lpot : Value}
    {f_ldigit : Addr} {od_ldigit an_ldigit : Option Addr} {sl_ldigit : Array (Option Value)} {oc_ldigit dc_ldigit pm_ldigit cd_ldigit ct_ldigit : Value} {kV_ldigit : Value}
    {f_llow : Addr} {od_llow an_llow : Option Addr} {sl_llow : Array (Option Value)} {oc_llow dc_llow pm_llow cd_llow ct_llow : Value} {kV_llow : Value}
    {f_lnumber : Addr} {od_lnumber an_lnumber : Option Addr} {sl_lnumber : Array (Option Value)} {oc_lnumber dc_lnumber pm_lnumber cd_lnumber ct_lnumber : Value} {kV_lnumber : Value}
    {f_lodd : Addr} {od_lodd an_lodd : Option Addr} {sl_lodd : Array (Option Value)} {oc_lodd dc_lodd pm_lodd cd_lodd ct_lodd : Value} {kV_lodd : Value}
    {f_lis_whole : Addr} {od_lis_whole an_lis_whole : Option Addr} {sl_lis_whole : Array (Option Value)} {oc_lis_whole dc_lis_whole pm_lis_whole cd_lis_whole ct_lis_whole : Value} {kV_lis_whole : Value}
    {f_lis_alone : Addr} {od_lis_alone an_lis_alone : Option Addr} {sl_lis_alone : Array (Option Value)} {oc_lis_alone dc_lis_alone pm_lis_alone cd_lis_alone ct_lis_alone : Value} {kV_lis_alone : Value}
    {f_lmade : Addr} {od_lmade an_lmade : Option Addr} {sl_lmade : Array (Option Value)} {oc_lmade dc_lmade pm_lmade cd_lmade ct_lmade : Value} {kV_lmade : Value}
    {f_lparted_by : Addr} {od_lparted_by an_lparted_by : Option Addr} {sl_lparted_by : Array (Option Value)} {oc_lparted_by dc_lparted_by pm_lparted_by cd_lparted_by ct_lparted_by : Value} {kV_lparted_by : Value}
    {f_ldue : Addr} {od_ldue an_ldue : Option Addr} {sl_ldue : Array (Option Value)} {oc_ldue dc_ldue pm_ldue cd_ldue ct_ldue : Value} {kV_ldue : Value}
    {f_ldue_shared : Addr} {od_ldue_shared an_ldue_shared : Option Addr} {sl_ldue_shared : Array (Option Value)} {oc_ldue_shared dc_ldue_shared pm_ldue_shared cd_ldue_shared ct_ldue_shared : Value} {kV_ldue_shared : Value}
    {f_lnone_is : Addr} {od_lnone_is an_lnone_is : Option Addr} {sl_lnone_is : Array (Option Value)} {oc_lnone_is dc_lnone_is pm_lnone_is cd_lnone_is ct_lnone_is : Value} {kV_lnone_is : Value}
    {f_lright : Addr} {od_lright an_lright : Option Addr} {sl_lright : Array (Option Value)} {oc_lright dc_lright pm_lright cd_lright ct_lright : Value} {kV_lright : Value}
    {f_law : Addr} {od_law an_law : Option Addr} {sl_law : Array (Option Value)} {oc_law dc_law pm_law cd_law ct_law : Value} {kV_law : Value}
    {c_NoPart : Addr}
    {c_NoName : Addr}
    {c_NoWeight : Addr}
    {c_NoPerson : Addr}
    {c_NoSeat : Addr}
    {c_NoEvening : Addr}
    {c_NoDuty : Addr}
    {c_NoGift : Addr}
    {c_Unlike : Addr}
    {c_NoFact : Addr}
    {c_NoBack : Addr}
    {c_NoDeed : Addr}
    {c_NoText : Addr}
    {c_NoRow : Addr}
    {c_Taken : Addr}
    {c_Beyond : Addr}
    {c_Unbalanced : Addr}
    {c_Astray : Addr}
    {c_ClubError : Addr}
    (a_is_whole : PySem.W.nsIn K mainGlobals "is_whole" = some (some (.ref f_is_whole)))
    (l_is_whole : K.lookup f_is_whole = some ⟨oc_is_whole, od_is_whole, .func (PySem.W.fnOf "is_whole" "is_whole" (defArgs s_is_whole) (defBody s_is_whole) (defScope s_is_whole) .none kV_is_whole dc_is_whole pm_is_whole an_is_whole cd_is_whole ct_is_whole), sl_is_whole⟩)
    (c_is_whole : PySem.W.codeIn K cd_is_whole "is_whole" = true) (k_is_whole : PySem.W.keepIn K (.ref f_is_whole) = true)
    (a_greatest_common : PySem.W.nsIn K mainGlobals "greatest_common" = some (some (.ref f_greatest_common)))
    (l_greatest_common : K.lookup f_greatest_common = some ⟨oc_greatest_common, od_greatest_common, .func (PySem.W.fnOf "greatest_common" "greatest_common" (defArgs s_greatest_common) (defBody s_greatest_common) (defScope s_greatest_common) .none kV_greatest_common dc_greatest_common pm_greatest_common an_greatest_common cd_greatest_common ct_greatest_common), sl_greatest_common⟩)
    (c_greatest_common : PySem.W.codeIn K cd_greatest_common "greatest_common" = true) (k_greatest_common : PySem.W.keepIn K (.ref f_greatest_common) = true)
    (a_is_part : PySem.W.nsIn K mainGlobals "is_part" = some (some (.ref f_is_part)))
    (l_is_part : K.lookup f_is_part = some ⟨oc_is_part, od_is_part, .func (PySem.W.fnOf "is_part" "is_part" (defArgs s_is_part) (defBody s_is_part) (defScope s_is_part) .none kV_is_part dc_is_part pm_is_part an_is_part cd_is_part ct_is_part), sl_is_part⟩)
    (c_is_part : PySem.W.codeIn K cd_is_part "is_part" = true) (k_is_part : PySem.W.keepIn K (.ref f_is_part) = true)
    (a_part : PySem.W.nsIn K mainGlobals "part" = some (some (.ref f_part)))
    (l_part : K.lookup f_part = some ⟨oc_part, od_part, .func (PySem.W.fnOf "part" "part" (defArgs s_part) (defBody s_part) (defScope s_part) (.ref dT_part) kV_part dc_part pm_part an_part cd_part ct_part), sl_part⟩)
    (c_part : PySem.W.codeIn K cd_part "part" = true) (k_part : PySem.W.keepIn K (.ref f_part) = true)
    (q_part : K.lookup dT_part = some ⟨.type "tuple", do_part, .seq #[.int 1 dt_part] dn_part, ds_part⟩)
    (a_shared : PySem.W.nsIn K mainGlobals "shared" = some (some (.ref f_shared)))
    (l_shared : K.lookup f_shared = some ⟨oc_shared, od_shared, .func (PySem.W.fnOf "shared" "shared" (defArgs s_shared) (defBody s_shared) (defScope s_shared) .none kV_shared dc_shared pm_shared an_shared cd_shared ct_shared), sl_shared⟩)
    (c_shared : PySem.W.codeIn K cd_shared "shared" = true) (k_shared : PySem.W.keepIn K (.ref f_shared) = true)
    (a_lpot : PySem.W.nsIn K mainGlobals "_law_pot" = some (some (.ref f_lpot)))
    (l_lpot : K.lookup f_lpot = some ⟨oc_lpot, od_lpot, .func (PySem.W.fnOf "_law_pot" "_law_pot" (defArgs s_lpot) (defBody s_lpot) (defScope s_lpot) .none kV_lpot dc_lpot pm_lpot an_lpot cd_lpot ct_lpot), sl_lpot⟩)
    (c_lpot : PySem.W.codeIn K cd_lpot "_law_pot" = true) (k_lpot : PySem.W.keepIn K (.ref f_lpot) = true)
    (a_ldigit : PySem.W.nsIn K mainGlobals "_law_digit" = some (some (.ref f_ldigit)))
    (l_ldigit : K.lookup f_ldigit = some ⟨oc_ldigit, od_ldigit, .func (PySem.W.fnOf "_law_digit" "_law_digit" (defArgs s_ldigit) (defBody s_ldigit) (defScope s_ldigit) .none kV_ldigit dc_ldigit pm_ldigit an_ldigit cd_ldigit ct_ldigit), sl_ldigit⟩)
    (c_ldigit : PySem.W.codeIn K cd_ldigit "_law_digit" = true) (k_ldigit : PySem.W.keepIn K (.ref f_ldigit) = true)
    (a_llow : PySem.W.nsIn K mainGlobals "_law_low" = some (some (.ref f_llow)))
    (l_llow : K.lookup f_llow = some ⟨oc_llow, od_llow, .func (PySem.W.fnOf "_law_low" "_law_low" (defArgs s_llow) (defBody s_llow) (defScope s_llow) .none kV_llow dc_llow pm_llow an_llow cd_llow ct_llow), sl_llow⟩)
    (c_llow : PySem.W.codeIn K cd_llow "_law_low" = true) (k_llow : PySem.W.keepIn K (.ref f_llow) = true)
    (a_lnumber : PySem.W.nsIn K mainGlobals "_law_number" = some (some (.ref f_lnumber)))
    (l_lnumber : K.lookup f_lnumber = some ⟨oc_lnumber, od_lnumber, .func (PySem.W.fnOf "_law_number" "_law_number" (defArgs s_lnumber) (defBody s_lnumber) (defScope s_lnumber) .none kV_lnumber dc_lnumber pm_lnumber an_lnumber cd_lnumber ct_lnumber), sl_lnumber⟩)
    (c_lnumber : PySem.W.codeIn K cd_lnumber "_law_number" = true) (k_lnumber : PySem.W.keepIn K (.ref f_lnumber) = true)
    (a_lodd : PySem.W.nsIn K mainGlobals "_law_odd" = some (some (.ref f_lodd)))
    (l_lodd : K.lookup f_lodd = some ⟨oc_lodd, od_lodd, .func (PySem.W.fnOf "_law_odd" "_law_odd" (defArgs s_lodd) (defBody s_lodd) (defScope s_lodd) .none kV_lodd dc_lodd pm_lodd an_lodd cd_lodd ct_lodd), sl_lodd⟩)
    (c_lodd : PySem.W.codeIn K cd_lodd "_law_odd" = true) (k_lodd : PySem.W.keepIn K (.ref f_lodd) = true)
    (a_lis_whole : PySem.W.nsIn K mainGlobals "_law_is_whole" = some (some (.ref f_lis_whole)))
    (l_lis_whole : K.lookup f_lis_whole = some ⟨oc_lis_whole, od_lis_whole, .func (PySem.W.fnOf "_law_is_whole" "_law_is_whole" (defArgs s_lis_whole) (defBody s_lis_whole) (defScope s_lis_whole) .none kV_lis_whole dc_lis_whole pm_lis_whole an_lis_whole cd_lis_whole ct_lis_whole), sl_lis_whole⟩)
    (c_lis_whole : PySem.W.codeIn K cd_lis_whole "_law_is_whole" = true) (k_lis_whole : PySem.W.keepIn K (.ref f_lis_whole) = true)
    (a_lis_alone : PySem.W.nsIn K mainGlobals "_law_is_alone" = some (some (.ref f_lis_alone)))
    (l_lis_alone : K.lookup f_lis_alone = some ⟨oc_lis_alone, od_lis_alone, .func (PySem.W.fnOf "_law_is_alone" "_law_is_alone" (defArgs s_lis_alone) (defBody s_lis_alone) (defScope s_lis_alone) .none kV_lis_alone dc_lis_alone pm_lis_alone an_lis_alone cd_lis_alone ct_lis_alone), sl_lis_alone⟩)
    (c_lis_alone : PySem.W.codeIn K cd_lis_alone "_law_is_alone" = true) (k_lis_alone : PySem.W.keepIn K (.ref f_lis_alone) = true)
    (a_lmade : PySem.W.nsIn K mainGlobals "_law_made" = some (some (.ref f_lmade)))
    (l_lmade : K.lookup f_lmade = some ⟨oc_lmade, od_lmade, .func (PySem.W.fnOf "_law_made" "_law_made" (defArgs s_lmade) (defBody s_lmade) (defScope s_lmade) .none kV_lmade dc_lmade pm_lmade an_lmade cd_lmade ct_lmade), sl_lmade⟩)
    (c_lmade : PySem.W.codeIn K cd_lmade "_law_made" = true) (k_lmade : PySem.W.keepIn K (.ref f_lmade) = true)
    (a_lparted_by : PySem.W.nsIn K mainGlobals "_law_parted_by" = some (some (.ref f_lparted_by)))
    (l_lparted_by : K.lookup f_lparted_by = some ⟨oc_lparted_by, od_lparted_by, .func (PySem.W.fnOf "_law_parted_by" "_law_parted_by" (defArgs s_lparted_by) (defBody s_lparted_by) (defScope s_lparted_by) .none kV_lparted_by dc_lparted_by pm_lparted_by an_lparted_by cd_lparted_by ct_lparted_by), sl_lparted_by⟩)
    (c_lparted_by : PySem.W.codeIn K cd_lparted_by "_law_parted_by" = true) (k_lparted_by : PySem.W.keepIn K (.ref f_lparted_by) = true)
    (a_ldue : PySem.W.nsIn K mainGlobals "_law_due" = some (some (.ref f_ldue)))
    (l_ldue : K.lookup f_ldue = some ⟨oc_ldue, od_ldue, .func (PySem.W.fnOf "_law_due" "_law_due" (defArgs s_ldue) (defBody s_ldue) (defScope s_ldue) .none kV_ldue dc_ldue pm_ldue an_ldue cd_ldue ct_ldue), sl_ldue⟩)
    (c_ldue : PySem.W.codeIn K cd_ldue "_law_due" = true) (k_ldue : PySem.W.keepIn K (.ref f_ldue) = true)
    (a_ldue_shared : PySem.W.nsIn K mainGlobals "_law_due_shared" = some (some (.ref f_ldue_shared)))
    (l_ldue_shared : K.lookup f_ldue_shared = some ⟨oc_ldue_shared, od_ldue_shared, .func (PySem.W.fnOf "_law_due_shared" "_law_due_shared" (defArgs s_ldue_shared) (defBody s_ldue_shared) (defScope s_ldue_shared) .none kV_ldue_shared dc_ldue_shared pm_ldue_shared an_ldue_shared cd_ldue_shared ct_ldue_shared), sl_ldue_shared⟩)
    (c_ldue_shared : PySem.W.codeIn K cd_ldue_shared "_law_due_shared" = true) (k_ldue_shared : PySem.W.keepIn K (.ref f_ldue_shared) = true)
    (a_lnone_is : PySem.W.nsIn K mainGlobals "_law_none_is" = some (some (.ref f_lnone_is)))
    (l_lnone_is : K.lookup f_lnone_is = some ⟨oc_lnone_is, od_lnone_is, .func (PySem.W.fnOf "_law_none_is" "_law_none_is" (defArgs s_lnone_is) (defBody s_lnone_is) (defScope s_lnone_is) .none kV_lnone_is dc_lnone_is pm_lnone_is an_lnone_is cd_lnone_is ct_lnone_is), sl_lnone_is⟩)
    (c_lnone_is : PySem.W.codeIn K cd_lnone_is "_law_none_is" = true) (k_lnone_is : PySem.W.keepIn K (.ref f_lnone_is) = true)
    (a_lright : PySem.W.nsIn K mainGlobals "_law_right" = some (some (.ref f_lright)))
    (l_lright : K.lookup f_lright = some ⟨oc_lright, od_lright, .func (PySem.W.fnOf "_law_right" "_law_right" (defArgs s_lright) (defBody s_lright) (defScope s_lright) .none kV_lright dc_lright pm_lright an_lright cd_lright ct_lright), sl_lright⟩)
    (c_lright : PySem.W.codeIn K cd_lright "_law_right" = true) (k_lright : PySem.W.keepIn K (.ref f_lright) = true)
    (a_law : PySem.W.nsIn K mainGlobals "law" = some (some (.ref f_law)))
    (l_law : K.lookup f_law = some ⟨oc_law, od_law, .func (PySem.W.fnOf "law" "law" (defArgs s_law) (defBody s_law) (defScope s_law) .none kV_law dc_law pm_law an_law cd_law ct_law), sl_law⟩)
    (c_law : PySem.W.codeIn K cd_law "law" = true) (k_law : PySem.W.keepIn K (.ref f_law) = true)
    (gc_NoPart : PySem.W.nsIn K mainGlobals "NoPart" = some (some (.ref c_NoPart))) (x_NoPart : PySem.W.excIn K c_NoPart [.type "ValueError", .type "Exception", .type "BaseException", .type "object"] "ValueError.__new__" = true) (kc_NoPart : PySem.W.keepIn K (.ref c_NoPart) = true) (bc_NoPart : PySem.W.subIn K (.ref c_NoPart) (.type "BaseException") = some true) (tc_NoPart : PySem.W.typeIn K (.ref c_NoPart) = some (.type "type")) (hc_NoPart : PySem.W.hasDictIn K c_NoPart = true) (sc_NoPart : PySem.W.subIn K (.ref c_NoPart) (.ref c_NoPart) = some true)
    (gc_NoName : PySem.W.nsIn K mainGlobals "NoName" = some (some (.ref c_NoName))) (i_NoName : PySem.W.isClsIn K c_NoName = true) (t_NoName : PySem.W.typeIn K (.ref c_NoName) = some (.type "type")) (z_NoName : PySem.W.subIn K (.ref c_NoPart) (.ref c_NoName) = some false)
    (gc_NoWeight : PySem.W.nsIn K mainGlobals "NoWeight" = some (some (.ref c_NoWeight))) (i_NoWeight : PySem.W.isClsIn K c_NoWeight = true) (t_NoWeight : PySem.W.typeIn K (.ref c_NoWeight) = some (.type "type")) (z_NoWeight : PySem.W.subIn K (.ref c_NoPart) (.ref c_NoWeight) = some false)
    (gc_NoPerson : PySem.W.nsIn K mainGlobals "NoPerson" = some (some (.ref c_NoPerson))) (i_NoPerson : PySem.W.isClsIn K c_NoPerson = true) (t_NoPerson : PySem.W.typeIn K (.ref c_NoPerson) = some (.type "type")) (z_NoPerson : PySem.W.subIn K (.ref c_NoPart) (.ref c_NoPerson) = some false)
    (gc_NoSeat : PySem.W.nsIn K mainGlobals "NoSeat" = some (some (.ref c_NoSeat))) (i_NoSeat : PySem.W.isClsIn K c_NoSeat = true) (t_NoSeat : PySem.W.typeIn K (.ref c_NoSeat) = some (.type "type")) (z_NoSeat : PySem.W.subIn K (.ref c_NoPart) (.ref c_NoSeat) = some false)
    (gc_NoEvening : PySem.W.nsIn K mainGlobals "NoEvening" = some (some (.ref c_NoEvening))) (i_NoEvening : PySem.W.isClsIn K c_NoEvening = true) (t_NoEvening : PySem.W.typeIn K (.ref c_NoEvening) = some (.type "type")) (z_NoEvening : PySem.W.subIn K (.ref c_NoPart) (.ref c_NoEvening) = some false)
    (gc_NoDuty : PySem.W.nsIn K mainGlobals "NoDuty" = some (some (.ref c_NoDuty))) (i_NoDuty : PySem.W.isClsIn K c_NoDuty = true) (t_NoDuty : PySem.W.typeIn K (.ref c_NoDuty) = some (.type "type")) (z_NoDuty : PySem.W.subIn K (.ref c_NoPart) (.ref c_NoDuty) = some false)
    (gc_NoGift : PySem.W.nsIn K mainGlobals "NoGift" = some (some (.ref c_NoGift))) (i_NoGift : PySem.W.isClsIn K c_NoGift = true) (t_NoGift : PySem.W.typeIn K (.ref c_NoGift) = some (.type "type")) (z_NoGift : PySem.W.subIn K (.ref c_NoPart) (.ref c_NoGift) = some false)
    (gc_Unlike : PySem.W.nsIn K mainGlobals "Unlike" = some (some (.ref c_Unlike))) (i_Unlike : PySem.W.isClsIn K c_Unlike = true) (t_Unlike : PySem.W.typeIn K (.ref c_Unlike) = some (.type "type")) (z_Unlike : PySem.W.subIn K (.ref c_NoPart) (.ref c_Unlike) = some false)
    (gc_NoFact : PySem.W.nsIn K mainGlobals "NoFact" = some (some (.ref c_NoFact))) (i_NoFact : PySem.W.isClsIn K c_NoFact = true) (t_NoFact : PySem.W.typeIn K (.ref c_NoFact) = some (.type "type")) (z_NoFact : PySem.W.subIn K (.ref c_NoPart) (.ref c_NoFact) = some false)
    (gc_NoBack : PySem.W.nsIn K mainGlobals "NoBack" = some (some (.ref c_NoBack))) (i_NoBack : PySem.W.isClsIn K c_NoBack = true) (t_NoBack : PySem.W.typeIn K (.ref c_NoBack) = some (.type "type")) (z_NoBack : PySem.W.subIn K (.ref c_NoPart) (.ref c_NoBack) = some false)
    (gc_NoDeed : PySem.W.nsIn K mainGlobals "NoDeed" = some (some (.ref c_NoDeed))) (i_NoDeed : PySem.W.isClsIn K c_NoDeed = true) (t_NoDeed : PySem.W.typeIn K (.ref c_NoDeed) = some (.type "type")) (z_NoDeed : PySem.W.subIn K (.ref c_NoPart) (.ref c_NoDeed) = some false)
    (gc_NoText : PySem.W.nsIn K mainGlobals "NoText" = some (some (.ref c_NoText))) (i_NoText : PySem.W.isClsIn K c_NoText = true) (t_NoText : PySem.W.typeIn K (.ref c_NoText) = some (.type "type")) (z_NoText : PySem.W.subIn K (.ref c_NoPart) (.ref c_NoText) = some false)
    (gc_NoRow : PySem.W.nsIn K mainGlobals "NoRow" = some (some (.ref c_NoRow))) (i_NoRow : PySem.W.isClsIn K c_NoRow = true) (t_NoRow : PySem.W.typeIn K (.ref c_NoRow) = some (.type "type")) (z_NoRow : PySem.W.subIn K (.ref c_NoPart) (.ref c_NoRow) = some false)
    (gc_Taken : PySem.W.nsIn K mainGlobals "Taken" = some (some (.ref c_Taken))) (i_Taken : PySem.W.isClsIn K c_Taken = true) (t_Taken : PySem.W.typeIn K (.ref c_Taken) = some (.type "type")) (z_Taken : PySem.W.subIn K (.ref c_NoPart) (.ref c_Taken) = some false)
    (gc_Beyond : PySem.W.nsIn K mainGlobals "Beyond" = some (some (.ref c_Beyond))) (i_Beyond : PySem.W.isClsIn K c_Beyond = true) (t_Beyond : PySem.W.typeIn K (.ref c_Beyond) = some (.type "type")) (z_Beyond : PySem.W.subIn K (.ref c_NoPart) (.ref c_Beyond) = some false)
    (gc_Unbalanced : PySem.W.nsIn K mainGlobals "Unbalanced" = some (some (.ref c_Unbalanced))) (i_Unbalanced : PySem.W.isClsIn K c_Unbalanced = true) (t_Unbalanced : PySem.W.typeIn K (.ref c_Unbalanced) = some (.type "type")) (z_Unbalanced : PySem.W.subIn K (.ref c_NoPart) (.ref c_Unbalanced) = some false)
    (gc_Astray : PySem.W.nsIn K mainGlobals "Astray" = some (some (.ref c_Astray))) (i_Astray : PySem.W.isClsIn K c_Astray = true) (t_Astray : PySem.W.typeIn K (.ref c_Astray) = some (.type "type")) (z_Astray : PySem.W.subIn K (.ref c_NoPart) (.ref c_Astray) = some false)
    (gc_ClubError : PySem.W.nsIn K mainGlobals "ClubError" = some (some (.ref c_ClubError))) (b_CE : PySem.W.subIn K (.ref c_ClubError) (.type "BaseException") = some true) (h_CE : PySem.W.hasDictIn K c_ClubError = true) (t_CE : PySem.W.typeIn K (.ref c_ClubError) = some (.type "type")) (s_CE : PySem.W.subIn K (.ref c_NoPart) (.ref c_ClubError) = some true)
    (e1 : PySem.W.findIn K (.ref c_NoPart) "__getattribute__" = some (some (.builtin "BaseException.__getattribute__"))) (e2 : PySem.W.findIn K (.ref c_NoPart) "__getattr__" = some none) (e3 : PySem.W.findIn K (.ref c_NoPart) "__class__" = some (some (.builtin "object.__class__"))) (e4 : PySem.W.specialIn K (.builtin "object.__class__") "__get__" = some (some (.builtin "getset_descriptor.__get__"))) (e5 : PySem.W.takesIn K (.builtin "object.__class__") = some true) (e6 : PySem.W.mroIn K c_NoPart (.type "object") = some true) (e7 : PySem.W.subIn K (.ref c_NoPart) (.type "ValueError") = some true)
    (n_ValueError : PySem.W.nsIn K mainGlobals "ValueError" = some none)
    (n_abs : PySem.W.nsIn K mainGlobals "abs" = some none)
    (n_all : PySem.W.nsIn K mainGlobals "all" = some none)
    (n_any : PySem.W.nsIn K mainGlobals "any" = some none)
    (n_bool : PySem.W.nsIn K mainGlobals "bool" = some none)
    (n_divmod : PySem.W.nsIn K mainGlobals "divmod" = some none)
    (n_int : PySem.W.nsIn K mainGlobals "int" = some none)
    (n_isinstance : PySem.W.nsIn K mainGlobals "isinstance" = some none)
    (n_len : PySem.W.nsIn K mainGlobals "len" = some none)
    (n_max : PySem.W.nsIn K mainGlobals "max" = some none)
    (n_min : PySem.W.nsIn K mainGlobals "min" = some none)
    (n_range : PySem.W.nsIn K mainGlobals "range" = some none)
    (n_repr : PySem.W.nsIn K mainGlobals "repr" = some none)
    (n_tuple : PySem.W.nsIn K mainGlobals "tuple" = some none)
    : ∃ fd : FuncData, (∀ (s : Shared) (v : Value), BindsTo s fd ⟨[v], []⟩ [("_law_script", v)]) ∧ ∀ base : Heap, K.In base → base.Ns mainGlobals mg → FnAt callerA l.prog w K mg base CX0 7 fa fd ["_law_script"] (spLaw K) := by
  have e := hfa.symm.trans (PySem.W.mg_of X G a_law)
  cases e
  have F_is_whole := fun_mk (st := s_is_whole) l_is_whole c_is_whole k_is_whole
  have F_greatest_common := fun_mk (st := s_greatest_common) l_greatest_common c_greatest_common k_greatest_common
  have F_is_part := fun_mk (st := s_is_part) l_is_part c_is_part k_is_part
  have F_part : FunD K "part" "part" (defArgs s_part) (defBody s_part) (defScope s_part) [.int 1] [] f_part _ := ⟨⟨_, _, _, _, _, _, _, _, _, _, rfl, l_part, c_part, .inr ⟨by simp, dT_part, _, [.int 1 dt_part], _, rfl, q_part, rfl, .cons ⟨_, rfl⟩ .nil⟩, .inl rfl⟩, k_part⟩
  obtain ⟨ds_part2, vd_part2, b_part⟩ := F_part.binds1 (ps := ["above", "below"]) 2 1 (by simp) rfl (fun T kV doc pm an cdv ct us its h1 h2 => match us, its, h1, h2 with | [_, _], [_], _, _ => ⟨_, rfl, rfl⟩)
  cases vd_part2
  obtain ⟨ds_part1, vd_part1, b1_part⟩ := F_part.binds1 (ps := ["above", "below"]) 1 0 (by simp) rfl (fun T kV doc pm an cdv ct us its h1 h2 => match us, its, h1, h2 with | [_], [_], _, _ => ⟨_, rfl, rfl⟩)
  have F_shared := fun_mk (st := s_shared) l_shared c_shared k_shared
  have F_lpot := fun_mk (st := s_lpot) l_lpot c_lpot k_lpot
  have F_ldigit := fun_mk (st := s_ldigit) l_ldigit c_ldigit k_ldigit
  have F_llow := fun_mk (st := s_llow) l_llow c_llow k_llow
  have F_lnumber := fun_mk (st := s_lnumber) l_lnumber c_lnumber k_lnumber
  have F_lodd := fun_mk (st := s_lodd) l_lodd c_lodd k_lodd
  have F_lis_whole := fun_mk (st := s_lis_whole) l_lis_whole c_lis_whole k_lis_whole
  have F_lis_alone := fun_mk (st := s_lis_alone) l_lis_alone c_lis_alone k_lis_alone
  have F_lmade := fun_mk (st := s_lmade) l_lmade c_lmade k_lmade
  have F_lparted_by := fun_mk (st := s_lparted_by) l_lparted_by c_lparted_by k_lparted_by
  have F_ldue := fun_mk (st := s_ldue) l_ldue c_ldue k_ldue
  have F_ldue_shared := fun_mk (st := s_ldue_shared) l_ldue_shared c_ldue_shared k_ldue_shared
  have F_lnone_is := fun_mk (st := s_lnone_is) l_lnone_is c_lnone_is k_lnone_is
  have F_lright := fun_mk (st := s_lright) l_lright c_lright k_lright
  have F_law := fun_mk (st := s_law) l_law c_law k_law
  exact ⟨_, fun s v => .of_eq rfl, fun base _ _ => ok_law (P := l.prog) (w := w) (base := base) ({
      f_is_whole := f_is_whole, d_is_whole := _, g_is_whole := PySem.W.mg_of X G a_is_whole, F_is_whole := F_is_whole, b_is_whole := F_is_whole.binds (ps := ["thing"]) (fun _ _ _ _ _ _ us hl => match us, hl with | [_], _ => rfl),
      f_greatest_common := f_greatest_common, d_greatest_common := _, g_greatest_common := PySem.W.mg_of X G a_greatest_common, F_greatest_common := F_greatest_common, b_greatest_common := F_greatest_common.binds (ps := ["one", "other"]) (fun _ _ _ _ _ _ us hl => match us, hl with | [_, _], _ => rfl),
      f_is_part := f_is_part, d_is_part := _, g_is_part := PySem.W.mg_of X G a_is_part, F_is_part := F_is_part, b_is_part := F_is_part.binds (ps := ["thing"]) (fun _ _ _ _ _ _ us hl => match us, hl with | [_], _ => rfl),
      f_part := f_part, d_part := _, g_part := PySem.W.mg_of X G a_part, F_part := F_part, b_part := b_part, v_part := ds_part1, vb_part := vd_part1, b1_part := b1_part, kb_part := kbn_one F_part 1 ["below"] (by simp) (fun T kV doc pm an cdv ct us its ws h1 h2 h3 => match us, its, ws, h1, h2, h3 with | [_], [_], [_], _, _, _ => ⟨_, rfl, rfl⟩),
      f_shared := f_shared, d_shared := _, g_shared := PySem.W.mg_of X G a_shared, F_shared := F_shared, b_shared := F_shared.binds (ps := ["one", "many"]) (fun _ _ _ _ _ _ us hl => match us, hl with | [_, _], _ => rfl),
      f_lpot := f_lpot, d_lpot := _, g_lpot := PySem.W.mg_of X G a_lpot, F_lpot := F_lpot, b_lpot := F_lpot.binds (ps := ["_law_script", "_law_k"]) (fun _ _ _ _ _ _ us hl => match us, hl with | [_, _], _ => rfl),
      f_ldigit := f_ldigit, d_ldigit := _, g_ldigit := PySem.W.mg_of X G a_ldigit, F_ldigit := F_ldigit, b_ldigit := F_ldigit.binds (ps := ["_law_pot_here", "_law_many"]) (fun _ _ _ _ _ _ us hl => match us, hl with | [_, _], _ => rfl),
      f_llow := f_llow, d_llow := _, g_llow := PySem.W.mg_of X G a_llow, F_llow := F_llow, b_llow := F_llow.binds (ps := ["_law_above", "_law_under"]) (fun _ _ _ _ _ _ us hl => match us, hl with | [_, _], _ => rfl),
      f_lnumber := f_lnumber, d_lnumber := _, g_lnumber := PySem.W.mg_of X G a_lnumber, F_lnumber := F_lnumber, b_lnumber := F_lnumber.binds (ps := ["_law_pot_here"]) (fun _ _ _ _ _ _ us hl => match us, hl with | [_], _ => rfl),
      f_lodd := f_lodd, d_lodd := _, g_lodd := PySem.W.mg_of X G a_lodd, F_lodd := F_lodd, b_lodd := F_lodd.binds (ps := ["_law_pot_here"]) (fun _ _ _ _ _ _ us hl => match us, hl with | [_], _ => rfl),
      f_lis_whole := f_lis_whole, d_lis_whole := _, g_lis_whole := PySem.W.mg_of X G a_lis_whole, F_lis_whole := F_lis_whole, b_lis_whole := F_lis_whole.binds (ps := ["_law_thing"]) (fun _ _ _ _ _ _ us hl => match us, hl with | [_], _ => rfl),
      f_lis_alone := f_lis_alone, d_lis_alone := _, g_lis_alone := PySem.W.mg_of X G a_lis_alone, F_lis_alone := F_lis_alone, b_lis_alone := F_lis_alone.binds (ps := ["_law_e"]) (fun _ _ _ _ _ _ us hl => match us, hl with | [_], _ => rfl),
      f_lmade := f_lmade, d_lmade := _, g_lmade := PySem.W.mg_of X G a_lmade, F_lmade := F_lmade, b_lmade := F_lmade.binds (ps := ["_law_above", "_law_under", "_law_way"]) (fun _ _ _ _ _ _ us hl => match us, hl with | [_, _, _], _ => rfl),
      f_lparted_by := f_lparted_by, d_lparted_by := _, g_lparted_by := PySem.W.mg_of X G a_lparted_by, F_lparted_by := F_lparted_by, b_lparted_by := F_lparted_by.binds (ps := ["_law_one", "_law_many"]) (fun _ _ _ _ _ _ us hl => match us, hl with | [_, _], _ => rfl),
      f_ldue := f_ldue, d_ldue := _, g_ldue := PySem.W.mg_of X G a_ldue, F_ldue := F_ldue, b_ldue := F_ldue.binds (ps := ["_law_above", "_law_under"]) (fun _ _ _ _ _ _ us hl => match us, hl with | [_, _], _ => rfl),
      f_ldue_shared := f_ldue_shared, d_ldue_shared := _, g_ldue_shared := PySem.W.mg_of X G a_ldue_shared, F_ldue_shared := F_ldue_shared, b_ldue_shared := F_ldue_shared.binds (ps := ["_law_one", "_law_many"]) (fun _ _ _ _ _ _ us hl => match us, hl with | [_, _], _ => rfl),
      f_lnone_is := f_lnone_is, d_lnone_is := _, g_lnone_is := PySem.W.mg_of X G a_lnone_is, F_lnone_is := F_lnone_is, b_lnone_is := F_lnone_is.binds (ps := ["_law_one", "_law_thing"]) (fun _ _ _ _ _ _ us hl => match us, hl with | [_, _], _ => rfl),
      f_lright := f_lright, d_lright := _, g_lright := PySem.W.mg_of X G a_lright, F_lright := F_lright, b_lright := F_lright.binds (ps := ["_law_pot_here"]) (fun _ _ _ _ _ _ us hl => match us, hl with | [_], _ => rfl),
      f_law := _, d_law := _, g_law := PySem.W.mg_of X G a_law, F_law := F_law, b_law := F_law.binds (ps := ["_law_script"]) (fun _ _ _ _ _ _ us hl => match us, hl with | [_], _ => rfl),
      c_NoPart := c_NoPart, gc_NoPart := PySem.W.mg_of X G gc_NoPart, x_NoPart := x_NoPart, kc_NoPart := kc_NoPart, bc_NoPart := bc_NoPart, tc_NoPart := tc_NoPart, hc_NoPart := hc_NoPart, sc_NoPart := sc_NoPart,
      c_NoName := c_NoName, gc_NoName := PySem.W.mg_of X G gc_NoName, o_NoName := ⟨i_NoName, t_NoName, z_NoName⟩,
      c_NoWeight := c_NoWeight, gc_NoWeight := PySem.W.mg_of X G gc_NoWeight, o_NoWeight := ⟨i_NoWeight, t_NoWeight, z_NoWeight⟩,
      c_NoPerson := c_NoPerson, gc_NoPerson := PySem.W.mg_of X G gc_NoPerson, o_NoPerson := ⟨i_NoPerson, t_NoPerson, z_NoPerson⟩,
      c_NoSeat := c_NoSeat, gc_NoSeat := PySem.W.mg_of X G gc_NoSeat, o_NoSeat := ⟨i_NoSeat, t_NoSeat, z_NoSeat⟩,
      c_NoEvening := c_NoEvening, gc_NoEvening := PySem.W.mg_of X G gc_NoEvening, o_NoEvening := ⟨i_NoEvening, t_NoEvening, z_NoEvening⟩,
      c_NoDuty := c_NoDuty, gc_NoDuty := PySem.W.mg_of X G gc_NoDuty, o_NoDuty := ⟨i_NoDuty, t_NoDuty, z_NoDuty⟩,
      c_NoGift := c_NoGift, gc_NoGift := PySem.W.mg_of X G gc_NoGift, o_NoGift := ⟨i_NoGift, t_NoGift, z_NoGift⟩,
      c_Unlike := c_Unlike, gc_Unlike := PySem.W.mg_of X G gc_Unlike, o_Unlike := ⟨i_Unlike, t_Unlike, z_Unlike⟩,
      c_NoFact := c_NoFact, gc_NoFact := PySem.W.mg_of X G gc_NoFact, o_NoFact := ⟨i_NoFact, t_NoFact, z_NoFact⟩,
      c_NoBack := c_NoBack, gc_NoBack := PySem.W.mg_of X G gc_NoBack, o_NoBack := ⟨i_NoBack, t_NoBack, z_NoBack⟩,
      c_NoDeed := c_NoDeed, gc_NoDeed := PySem.W.mg_of X G gc_NoDeed, o_NoDeed := ⟨i_NoDeed, t_NoDeed, z_NoDeed⟩,
      c_NoText := c_NoText, gc_NoText := PySem.W.mg_of X G gc_NoText, o_NoText := ⟨i_NoText, t_NoText, z_NoText⟩,
      c_NoRow := c_NoRow, gc_NoRow := PySem.W.mg_of X G gc_NoRow, o_NoRow := ⟨i_NoRow, t_NoRow, z_NoRow⟩,
      c_Taken := c_Taken, gc_Taken := PySem.W.mg_of X G gc_Taken, o_Taken := ⟨i_Taken, t_Taken, z_Taken⟩,
      c_Beyond := c_Beyond, gc_Beyond := PySem.W.mg_of X G gc_Beyond, o_Beyond := ⟨i_Beyond, t_Beyond, z_Beyond⟩,
      c_Unbalanced := c_Unbalanced, gc_Unbalanced := PySem.W.mg_of X G gc_Unbalanced, o_Unbalanced := ⟨i_Unbalanced, t_Unbalanced, z_Unbalanced⟩,
      c_Astray := c_Astray, gc_Astray := PySem.W.mg_of X G gc_Astray, o_Astray := ⟨i_Astray, t_Astray, z_Astray⟩,
      c_ClubError := c_ClubError, gc_ClubError := PySem.W.mg_of X G gc_ClubError, em := PySem.W.exm_ref b_CE h_CE t_CE s_CE,
      xc := ⟨e1, e2, bc_NoPart, hc_NoPart, e3, e4, e5, e6⟩, sv := e7,
      n_ValueError := PySem.W.mg_none_of X G n_ValueError,
      n_abs := PySem.W.mg_none_of X G n_abs,
      n_all := PySem.W.mg_none_of X G n_all,
      n_any := PySem.W.mg_none_of X G n_any,
      n_bool := PySem.W.mg_none_of X G n_bool,
      n_divmod := PySem.W.mg_none_of X G n_divmod,
      n_int := PySem.W.mg_none_of X G n_int,
      n_isinstance := PySem.W.mg_none_of X G n_isinstance,
      n_len := PySem.W.mg_none_of X G n_len,
      n_max := PySem.W.mg_none_of X G n_max,
      n_min := PySem.W.mg_none_of X G n_min,
      n_range := PySem.W.mg_none_of X G n_range,
      n_repr := PySem.W.mg_none_of X G n_repr,
      n_tuple := PySem.W.mg_none_of X G n_tuple } : Tx K mg) rfl⟩
end WS
open PySem PySem.W PyProof.Rows
set_option maxHeartbeats 0 in
theorem PySem.Challenge.cw_whoserves_k16_what_makes_no_part_holds : PySem.Challenge.rw_whoserves_k16_what_makes_no_part.Holds := by
  w_on; o_law; k_head; (case hw => w_witness2)
  k_fill
  refine WS.walk_G (l := PySem.Challenge.rw_whoserves_k16_what_makes_no_part) (n := 63) (k := 7) (x := "_law_script") (sp := fun w => WS.spLaw _) rfl (by decide) rfl ⟨rfl, by decide, by decide⟩ (fun w h Y => PySem.W.kIn_of Y) ?F (fun _ _ a ns hl hS => ⟨a, ns, rfl, hS, hl, fun _ => rfl⟩)
  case F =>
    intro w mg fa h KX G hmg
    refine' WS.all_mk KX G hmg ?a_is_whole ?l_is_whole ?c_is_whole ?k_is_whole ?a_greatest_common ?l_greatest_common ?c_greatest_common ?k_greatest_common ?a_is_part ?l_is_part ?c_is_part ?k_is_part ?a_part ?l_part ?c_part ?k_part ?q_part ?a_shared ?l_shared ?c_shared ?k_shared ?a_lpot ?l_lpot ?c_lpot ?k_lpot ?a_ldigit ?l_ldigit ?c_ldigit ?k_ldigit ?a_llow ?l_llow ?c_llow ?k_llow ?a_lnumber ?l_lnumber ?c_lnumber ?k_lnumber ?a_lodd ?l_lodd ?c_lodd ?k_lodd ?a_lis_whole ?l_lis_whole ?c_lis_whole ?k_lis_whole ?a_lis_alone ?l_lis_alone ?c_lis_alone ?k_lis_alone ?a_lmade ?l_lmade ?c_lmade ?k_lmade ?a_lparted_by ?l_lparted_by ?c_lparted_by ?k_lparted_by ?a_ldue ?l_ldue ?c_ldue ?k_ldue ?a_ldue_shared ?l_ldue_shared ?c_ldue_shared ?k_ldue_shared ?a_lnone_is ?l_lnone_is ?c_lnone_is ?k_lnone_is ?a_lright ?l_lright ?c_lright ?k_lright ?a_law ?l_law ?c_law ?k_law ?gc_NoPart ?x_NoPart ?kc_NoPart ?bc_NoPart ?tc_NoPart ?hc_NoPart ?sc_NoPart ?gc_NoName ?i_NoName ?t_NoName ?z_NoName ?gc_NoWeight ?i_NoWeight ?t_NoWeight ?z_NoWeight ?gc_NoPerson ?i_NoPerson ?t_NoPerson ?z_NoPerson ?gc_NoSeat ?i_NoSeat ?t_NoSeat ?z_NoSeat ?gc_NoEvening ?i_NoEvening ?t_NoEvening ?z_NoEvening ?gc_NoDuty ?i_NoDuty ?t_NoDuty ?z_NoDuty ?gc_NoGift ?i_NoGift ?t_NoGift ?z_NoGift ?gc_Unlike ?i_Unlike ?t_Unlike ?z_Unlike ?gc_NoFact ?i_NoFact ?t_NoFact ?z_NoFact ?gc_NoBack ?i_NoBack ?t_NoBack ?z_NoBack ?gc_NoDeed ?i_NoDeed ?t_NoDeed ?z_NoDeed ?gc_NoText ?i_NoText ?t_NoText ?z_NoText ?gc_NoRow ?i_NoRow ?t_NoRow ?z_NoRow ?gc_Taken ?i_Taken ?t_Taken ?z_Taken ?gc_Beyond ?i_Beyond ?t_Beyond ?z_Beyond ?gc_Unbalanced ?i_Unbalanced ?t_Unbalanced ?z_Unbalanced ?gc_Astray ?i_Astray ?t_Astray ?z_Astray ?gc_ClubError ?b_CE ?h_CE ?t_CE ?s_CE ?e1 ?e2 ?e3 ?e4 ?e5 ?e6 ?e7 ?n_ValueError ?n_abs ?n_all ?n_any ?n_bool ?n_divmod ?n_int ?n_isinstance ?n_len ?n_max ?n_min ?n_range ?n_repr ?n_tuple
    (case a_is_whole => k_is)
    (case l_is_whole => k_is)
    (case c_is_whole => k_is)
    (case k_is_whole => k_is)
    (case a_greatest_common => k_is)
    (case l_greatest_common => k_is)
    (case c_greatest_common => k_is)
    (case k_greatest_common => k_is)
    (case a_is_part => k_is)
    (case l_is_part => k_is)
    (case c_is_part => k_is)
    (case k_is_part => k_is)
    (case a_part => k_is)
    (case l_part => k_is)
    (case c_part => k_is)
    (case k_part => k_is)
    (case q_part => k_is)
    (case a_shared => k_is)
    (case l_shared => k_is)
    (case c_shared => k_is)
    (case k_shared => k_is)
    (case a_lpot => k_is)
    (case l_lpot => k_is)
    (case c_lpot => k_is)
    (case k_lpot => k_is)
    (case a_ldigit => k_is)
    (case l_ldigit => k_is)
    (case c_ldigit => k_is)
    (case k_ldigit => k_is)
    (case a_llow => k_is)
    (case l_llow => k_is)
    (case c_llow => k_is)
    (case k_llow => k_is)
    (case a_lnumber => k_is)
    (case l_lnumber => k_is)
    (case c_lnumber => k_is)
    (case k_lnumber => k_is)
    (case a_lodd => k_is)
    (case l_lodd => k_is)
    (case c_lodd => k_is)
    (case k_lodd => k_is)
    (case a_lis_whole => k_is)
    (case l_lis_whole => k_is)
    (case c_lis_whole => k_is)
    (case k_lis_whole => k_is)
    (case a_lis_alone => k_is)
    (case l_lis_alone => k_is)
    (case c_lis_alone => k_is)
    (case k_lis_alone => k_is)
    (case a_lmade => k_is)
    (case l_lmade => k_is)
    (case c_lmade => k_is)
    (case k_lmade => k_is)
    (case a_lparted_by => k_is)
    (case l_lparted_by => k_is)
    (case c_lparted_by => k_is)
    (case k_lparted_by => k_is)
    (case a_ldue => k_is)
    (case l_ldue => k_is)
    (case c_ldue => k_is)
    (case k_ldue => k_is)
    (case a_ldue_shared => k_is)
    (case l_ldue_shared => k_is)
    (case c_ldue_shared => k_is)
    (case k_ldue_shared => k_is)
    (case a_lnone_is => k_is)
    (case l_lnone_is => k_is)
    (case c_lnone_is => k_is)
    (case k_lnone_is => k_is)
    (case a_lright => k_is)
    (case l_lright => k_is)
    (case c_lright => k_is)
    (case k_lright => k_is)
    (case a_law => k_is)
    (case l_law => k_is)
    (case c_law => k_is)
    (case k_law => k_is)
    (case gc_NoPart => k_is)
    (case x_NoPart => k_exc)
    (case kc_NoPart => k_is)
    (case bc_NoPart => k_is)
    (case tc_NoPart => k_is)
    (case hc_NoPart => k_is)
    (case sc_NoPart => k_is)
    (case gc_NoName => k_is)
    (case i_NoName => k_is)
    (case t_NoName => k_is)
    (case z_NoName => k_is)
    (case gc_NoWeight => k_is)
    (case i_NoWeight => k_is)
    (case t_NoWeight => k_is)
    (case z_NoWeight => k_is)
    (case gc_NoPerson => k_is)
    (case i_NoPerson => k_is)
    (case t_NoPerson => k_is)
    (case z_NoPerson => k_is)
    (case gc_NoSeat => k_is)
    (case i_NoSeat => k_is)
    (case t_NoSeat => k_is)
    (case z_NoSeat => k_is)
    (case gc_NoEvening => k_is)
    (case i_NoEvening => k_is)
    (case t_NoEvening => k_is)
    (case z_NoEvening => k_is)
    (case gc_NoDuty => k_is)
    (case i_NoDuty => k_is)
    (case t_NoDuty => k_is)
    (case z_NoDuty => k_is)
    (case gc_NoGift => k_is)
    (case i_NoGift => k_is)
    (case t_NoGift => k_is)
    (case z_NoGift => k_is)
    (case gc_Unlike => k_is)
    (case i_Unlike => k_is)
    (case t_Unlike => k_is)
    (case z_Unlike => k_is)
    (case gc_NoFact => k_is)
    (case i_NoFact => k_is)
    (case t_NoFact => k_is)
    (case z_NoFact => k_is)
    (case gc_NoBack => k_is)
    (case i_NoBack => k_is)
    (case t_NoBack => k_is)
    (case z_NoBack => k_is)
    (case gc_NoDeed => k_is)
    (case i_NoDeed => k_is)
    (case t_NoDeed => k_is)
    (case z_NoDeed => k_is)
    (case gc_NoText => k_is)
    (case i_NoText => k_is)
    (case t_NoText => k_is)
    (case z_NoText => k_is)
    (case gc_NoRow => k_is)
    (case i_NoRow => k_is)
    (case t_NoRow => k_is)
    (case z_NoRow => k_is)
    (case gc_Taken => k_is)
    (case i_Taken => k_is)
    (case t_Taken => k_is)
    (case z_Taken => k_is)
    (case gc_Beyond => k_is)
    (case i_Beyond => k_is)
    (case t_Beyond => k_is)
    (case z_Beyond => k_is)
    (case gc_Unbalanced => k_is)
    (case i_Unbalanced => k_is)
    (case t_Unbalanced => k_is)
    (case z_Unbalanced => k_is)
    (case gc_Astray => k_is)
    (case i_Astray => k_is)
    (case t_Astray => k_is)
    (case z_Astray => k_is)
    (case gc_ClubError => k_is)
    (case b_CE => k_is)
    (case h_CE => k_is)
    (case t_CE => k_is)
    (case s_CE => k_is)
    (case e1 => k_is)
    (case e2 => k_is)
    (case e3 => k_is)
    (case e4 => k_is)
    (case e5 => k_is)
    (case e6 => k_is)
    (case e7 => k_is)
    (case n_ValueError => k_is)
    (case n_abs => k_is)
    (case n_all => k_is)
    (case n_any => k_is)
    (case n_bool => k_is)
    (case n_divmod => k_is)
    (case n_int => k_is)
    (case n_isinstance => k_is)
    (case n_len => k_is)
    (case n_max => k_is)
    (case n_min => k_is)
    (case n_range => k_is)
    (case n_repr => k_is)
    (case n_tuple => k_is)

