import PyProof.Rows.All
import Wide.All
import OpenK.AllK
import Wide.FinOn
import HandS.ForMost
import HandS.ForExc
import HandS.Wide
import HandS.WideBits
import HandS.Defaults
import HandS.IsInst
import HandS.TryOnly
import HandS.ExcIs
import HandS.Codes
import PySem.Challenge.RW_whoserves_k12_sums_and_shares
namespace WS
/-! lowest terms -/
def lo (a b : Int) : Int × Int := (a / (Int.gcd a b : Int), b / (Int.gcd a b : Int))
def Lowest (a b : Int) : Prop := 0 < b ∧ Int.gcd a b = 1
theorem gcd_pos {a b : Int} (h : b ≠ 0) : 0 < Int.gcd a b := by
  have := (Int.gcd_pos_iff (a := a) (b := b)).mpr (Or.inr h)
  exact this
theorem lo_fst (a b : Int) : (lo a b).1 * (Int.gcd a b : Int) = a := Int.ediv_mul_cancel (Int.gcd_dvd_left a b)
theorem lo_snd (a b : Int) : (lo a b).2 * (Int.gcd a b : Int) = b := Int.ediv_mul_cancel (Int.gcd_dvd_right a b)
theorem lo_lowest {a b : Int} (h : 0 < b) : Lowest (lo a b).1 (lo a b).2 := by
  have g : 0 < Int.gcd a b := gcd_pos (by omega)
  refine ⟨?_, Int.gcd_ediv_gcd_ediv_gcd g⟩
  have e := lo_snd a b
  apply Decidable.byContradiction
  intro n
  have : (lo a b).2 * (Int.gcd a b : Int) ≤ 0 := Int.mul_nonpos_of_nonpos_of_nonneg (by omega) (by omega)
  omega
theorem lo_cross (a b : Int) : (lo a b).1 * b = a * (lo a b).2 := by
  have e1 := lo_fst a b
  have e2 := lo_snd a b
  have h1 : (lo a b).1 * b = (lo a b).1 * ((lo a b).2 * (Int.gcd a b : Int)) := by rw [e2]
  have h2 : a * (lo a b).2 = ((lo a b).1 * (Int.gcd a b : Int)) * (lo a b).2 := by rw [e1]
  rw [h1, h2]
  simp only [Int.mul_assoc, Int.mul_comm, Int.mul_left_comm]
theorem dvd_cop {a b y : Int} (hg : Int.gcd a b = 1) (h : b ∣ a * y) : b ∣ y := by
  have h1 : b.natAbs ∣ a.natAbs * y.natAbs := by
    rw [← Int.natAbs_mul]
    exact Int.natAbs_dvd_natAbs.mpr h
  have c : Nat.Coprime b.natAbs a.natAbs := by
    have : Nat.gcd a.natAbs b.natAbs = 1 := hg
    exact (Nat.gcd_comm _ _).trans this
  exact Int.natAbs_dvd_natAbs.mp (c.dvd_of_dvd_mul_left h1)
theorem lowest_unique {a b x y : Int} (h : Lowest a b) (k : Lowest x y) (e : x * b = a * y) : x = a ∧ y = b := by
  have d1 : b ∣ y := dvd_cop h.2 (by rw [← e]; exact Int.dvd_mul_left _ _)
  have d2 : y ∣ b := dvd_cop k.2 (by rw [e]; exact Int.dvd_mul_left _ _)
  have hb := h.1
  have hy := k.1
  have l1 : b ≤ y := Int.le_of_dvd hy d1
  have l2 : y ≤ b := Int.le_of_dvd hb d2
  have ey : y = b := by omega
  refine ⟨?_, ey⟩
  rw [ey] at e
  exact Int.eq_of_mul_eq_mul_right (by omega) e
theorem lo_eq {a b x y : Int} (h : Lowest a b) (hy : 0 < y) (e : x * b = a * y) : lo x y = (a, b) := by
  have k := lo_lowest (a := x) hy
  have c := lo_cross x y
  have g : (lo x y).1 * b = a * (lo x y).2 := by
    have : ((lo x y).1 * b) * y = (a * (lo x y).2) * y := by
      calc ((lo x y).1 * b) * y = ((lo x y).1 * y) * b := by simp only [Int.mul_assoc, Int.mul_comm, Int.mul_left_comm]
        _ = (x * (lo x y).2) * b := by rw [c]
        _ = (x * b) * (lo x y).2 := by simp only [Int.mul_assoc, Int.mul_comm, Int.mul_left_comm]
        _ = (a * y) * (lo x y).2 := by rw [e]
        _ = (a * (lo x y).2) * y := by simp only [Int.mul_assoc, Int.mul_comm, Int.mul_left_comm]
    exact Int.eq_of_mul_eq_mul_right (by omega) this
  have u := lowest_unique h k g
  exact Prod.ext u.1 u.2
theorem lo_of {a b : Int} (h : Lowest a b) : lo a b = (a, b) := lo_eq h h.1 rfl
theorem ediv_natAbs_le (a : Int) (g : Nat) : (a / (g : Int)).natAbs ≤ a.natAbs := by
  cases g with
  | zero => simp
  | succ g => exact Int.natAbs_ediv_le_natAbs _ _
theorem lo_fst_le (a b : Int) : (lo a b).1.natAbs ≤ a.natAbs := ediv_natAbs_le a _
theorem lo_snd_le (a b : Int) : (lo a b).2.natAbs ≤ b.natAbs := ediv_natAbs_le b _
/-! bits -/
def Bt (n : Nat) (a : Int) : Prop := a.natAbs < 2 ^ n
theorem Bt.mono {n m : Nat} {a : Int} (h : Bt n a) (k : n ≤ m) : Bt m a := Nat.lt_of_lt_of_le h (Nat.pow_le_pow_right (by decide) k)
theorem Bt.of_le {n : Nat} {a b : Int} (h : Bt n b) (k : a.natAbs ≤ b.natAbs) : Bt n a := Nat.lt_of_le_of_lt k h
theorem Bt.mul {n m : Nat} {a b : Int} (h : Bt n a) (k : Bt m b) : Bt (n + m) (a * b) := by
  unfold Bt
  rw [Int.natAbs_mul, Nat.pow_add]
  exact Nat.mul_lt_mul'' h k
theorem Bt.add {n : Nat} {a b : Int} (h : Bt n a) (k : Bt n b) : Bt (n + 1) (a + b) := by
  unfold Bt at *
  have := Int.natAbs_add_le a b
  rw [Nat.pow_succ]
  omega
theorem Bt.sub {n : Nat} {a b : Int} (h : Bt n a) (k : Bt n b) : Bt (n + 1) (a - b) := by
  unfold Bt at *
  have : (a - b).natAbs ≤ a.natAbs + b.natAbs := Int.natAbs_sub_le a b
  rw [Nat.pow_succ]
  omega
theorem Bt.neg {n : Nat} {a : Int} (h : Bt n a) : Bt n (-a) := by
  unfold Bt at *
  rw [Int.natAbs_neg]
  exact h
theorem Bt.lo1 {n : Nat} {a b : Int} (h : Bt n a) : Bt n (lo a b).1 := h.of_le (lo_fst_le a b)
theorem Bt.lo2 {n : Nat} {a b : Int} (h : Bt n b) : Bt n (lo a b).2 := h.of_le (lo_snd_le a b)
theorem Bt.of_lt {n : Nat} {a : Int} (h0 : -(2 ^ n) < a) (h : a < 2 ^ n) : Bt n a := by
  unfold Bt
  have e : ((2 ^ n : Nat) : Int) = 2 ^ n := by simp
  omega
/-! the loop of the greatest number that goes into both -/
theorem gcd_step {x y : Int} (hx : 0 ≤ x) (hy : 0 < y) : Int.gcd y (x % y) = Int.gcd x y := by
  show Nat.gcd y.natAbs (x % y).natAbs = Nat.gcd x.natAbs y.natAbs
  have e : (x % y).natAbs = x.natAbs % y.natAbs := by
    have : x % y = ((x.natAbs % y.natAbs : Nat) : Int) := by
      rw [Int.natCast_emod]
      rw [Int.natAbs_of_nonneg hx, Int.natAbs_of_nonneg (by omega)]
    rw [this]
    rfl
  rw [e, Nat.gcd_comm y.natAbs, ← Nat.gcd_rec, Nat.gcd_comm]
theorem gcd_zero {x : Int} (hx : 0 ≤ x) : (Int.gcd x 0 : Int) = x := by
  have : Int.gcd x 0 = x.natAbs := Int.gcd_zero_right x
  rw [this]
  exact Int.natAbs_of_nonneg hx
theorem gcd_abs (a b : Int) : Int.gcd (if a < 0 then -a else a) b = Int.gcd a b := by
  split
  · exact Int.neg_gcd
  · rfl
/-! sums of parts -/
def pl (p q : Int × Int) : Int × Int := lo (p.1 * q.2 + q.1 * p.2) (p.2 * q.2)
theorem lo_neg_den {a b : Int} : lo a b = lo a b := rfl
end WS
set_option Elab.async false
set_option linter.all false
set_option maxRecDepth 100000
set_option maxHeartbeats 4000000
namespace WS
open PySem PySem.Spec PyProof.Rows L2
/-! heaps: what is new beside what stood; a pot that changes -/
theorem same_new {H : Hp} {p : Addr} {o : HO} (h : H p = none) : Same H (upd H p o) := fun b x e => by
  rw [upd_ne (ne_of_none e h)]
  exact e
theorem Same.tup {K : PySem.W.Frag} {H H' : Hp} {a : Addr} {xs : List V} (e : Same H H') (h : SqT K H a xs) : SqT K H' a xs := by
  rcases h with (h | ⟨o, h⟩) | h
  · exact .inl (.inl (e _ _ h))
  · exact .inl (.inr ⟨o, e _ _ h⟩)
  · exact .inr h
def SameX (p : Addr) (H H' : Hp) : Prop := ∀ b o, b ≠ p → H b = some o → H' b = some o
theorem SameX.refl (p : Addr) (H : Hp) : SameX p H H := fun _ _ _ h => h
theorem SameX.trans {p : Addr} {H H1 H2 : Hp} (a : SameX p H H1) (b : SameX p H1 H2) : SameX p H H2 := fun c o n h => b c o n (a c o n h)
theorem Same.x {p : Addr} {H H1 : Hp} (a : Same H H1) : SameX p H H1 := fun c o _ h => a c o h
theorem samex_set {p : Addr} {H : Hp} {o : HO} : SameX p H (upd H p o) := fun b x n e => by
  rw [upd_ne n]
  exact e
/-- a pot: two numbers, from which digits are drawn -/
def PotAt (H : Hp) (p : Addr) : Prop := ∃ x y : Int, H p = some (.lst [.int x, .int y]) ∧ 0 ≤ x ∧ 0 ≤ y ∧ y < 2147483648
theorem SameX.tup {K : PySem.W.Frag} {p : Addr} {H H' : Hp} {a : Addr} {xs : List V} (e : SameX p H H') (hp : PotAt H p) (h : SqT K H a xs) : SqT K H' a xs := by
  obtain ⟨x, y, hp, _⟩ := hp
  rcases h with (h | ⟨o, h⟩) | h
  · exact .inl (.inl (e _ _ (ne_of h hp (by intro z; cases z)) h))
  · exact .inl (.inr ⟨o, e _ _ (ne_of h hp (by intro z; cases z)) h⟩)
  · exact .inr h
theorem SameX.lst {K : PySem.W.Frag} {p : Addr} {H H' : Hp} {a : Addr} {xs : List V} (e : SameX p H H') (n : a ≠ p) (h : SqL K H a xs) : SqL K H' a xs := by
  rcases h with (h | ⟨o, h⟩) | h
  · exact .inl (.inl (e _ _ n h))
  · exact .inl (.inr ⟨o, e _ _ n h⟩)
  · exact .inr h
theorem PotAt.same {H H' : Hp} {p : Addr} (h : PotAt H p) (s : Same H H') : PotAt H' p := by
  obtain ⟨x, y, e, r⟩ := h
  exact ⟨x, y, s _ _ e, r⟩
/-! pairs of numbers -/
def TupI (K : PySem.W.Frag) (H : Hp) (v : V) (a b : Int) : Prop := ∃ t, v = .ref t ∧ SqT K H t [.int a, .int b]
theorem TupI.same {K : PySem.W.Frag} {H H' : Hp} {v : V} {a b : Int} (h : TupI K H v a b) (s : Same H H') : TupI K H' v a b := by
  obtain ⟨t, e, h⟩ := h
  exact ⟨t, e, Same.tup s h⟩
theorem TupI.x {K : PySem.W.Frag} {H H' : Hp} {p : Addr} {v : V} {a b : Int} (h : TupI K H v a b) (s : SameX p H H') (hp : PotAt H p) : TupI K H' v a b := by
  obtain ⟨t, e, h⟩ := h
  exact ⟨t, e, SameX.tup s hp h⟩
theorem TupI.new {K : PySem.W.Frag} {H : Hp} {p : Addr} {a b : Int} : TupI K (upd H p (.tup [.int a, .int b])) (.ref p) a b := ⟨p, rfl, .inl (.inl upd_same)⟩
def NewT (K : PySem.W.Frag) (H : Hp) (x y : Int) (Q : VK) : Prop := ∀ v H', Same H H' → TupI K H' v x y → Q v H'
/-! kinds -/
theorem sqt_ty {K : PySem.W.Frag} {H : Hp} {a : Addr} {xs : List V} (h : SqT K H a xs) : TyX K H (.ref a) (.type "tuple") := by
  rcases h with (h | ⟨o, h⟩) | ⟨o, its, n, h1, h2, _⟩
  · exact .base (.tup h)
  · exact .fTuple h
  · exact .kTuple h1 h2
/-- whether a thing is a whole number -/
def WholeIs (K : PySem.W.Frag) (H : Hp) (v : V) (b : Bool) : Prop := ∃ t b1 b2, TyX K H v t ∧ PySem.W.kitOne K t (.type "int") = some b1 ∧ PySem.W.kitOne K t (.type "bool") = some b2 ∧ b = (b1 && !b2)
theorem whole_int {K : PySem.W.Frag} {H : Hp} {i : Int} : WholeIs K H (.int i) true := ⟨_, true, false, .base (.int i), kit_ty (by decide +kernel), kit_ty (by decide +kernel), rfl⟩
theorem whole_non {K : PySem.W.Frag} {H : Hp} : WholeIs K H .non false := ⟨_, false, false, .base .non, kit_ty (by decide +kernel), kit_ty (by decide +kernel), rfl⟩
theorem whole_bl {K : PySem.W.Frag} {H : Hp} {b : Bool} : WholeIs K H (.bl b) false := ⟨_, true, true, .base (.bl b), kit_ty (by decide +kernel), kit_ty (by decide +kernel), rfl⟩
theorem whole_str {K : PySem.W.Frag} {H : Hp} {z : Str} : WholeIs K H (.str z) false := ⟨_, false, false, .base (.str z), kit_ty (by decide +kernel), kit_ty (by decide +kernel), rfl⟩
theorem whole_tup {K : PySem.W.Frag} {H : Hp} {a : Addr} {xs : List V} (h : SqT K H a xs) : WholeIs K H (.ref a) false := ⟨_, false, false, sqt_ty h, kit_ty (by decide +kernel), kit_ty (by decide +kernel), rfl⟩
theorem whole_lst {K : PySem.W.Frag} {H : Hp} {a : Addr} {xs : List V} (h : H a = some (.lst xs)) : WholeIs K H (.ref a) false := ⟨_, false, false, .base (.lst h), kit_ty (by decide +kernel), kit_ty (by decide +kernel), rfl⟩
/-! sizes -/
theorem Bt.cdiv {n : Nat} {i j : Int} (h : 0 < j) (hb : Bt n j) (h9 : n ≤ 8999) : CDivW i j := wide_div (b := n + 1) h (hb.mono (Nat.le_succ n)) (Nat.succ_pos n) (by omega)
theorem Bt.cmul {n m : Nat} {i j : Int} (ha : Bt n i) (hb : Bt m j) (h : n + m ≤ 900000) : CMulW i j := wide_mul (a := n + 1) (b := m + 1) (ha.mono (Nat.le_succ n)) (hb.mono (Nat.le_succ m)) (Nat.succ_pos n) (Nat.succ_pos m) (by omega)
theorem gcd_bt {n : Nat} {a b : Int} (h : 0 < b) (hb : Bt n b) : Bt n (Int.gcd a b : Int) := by
  refine hb.of_le ?_
  have : Int.gcd a b ≤ b.natAbs := Nat.le_of_dvd (by omega) (Nat.gcd_dvd_right a.natAbs b.natAbs)
  simpa using this
/-! promises -/
def spWhole (K : PySem.W.Frag) : Sp := fun vs H Q _ => ∃ v b, vs = [v] ∧ WholeIs K H v b ∧ Q (.bl b) H
def spGcd : Sp := fun vs H Q _ => ∃ x y : Int, vs = [.int x, .int y] ∧ 0 ≤ x ∧ 0 ≤ y ∧ Q (.int (Int.gcd x y)) H
def spLow (K : PySem.W.Frag) : Sp := fun vs H Q _ => ∃ a b : Int, vs = [.int a, .int b] ∧ 0 < b ∧ Bt 8999 b ∧ NewT K H (lo a b).1 (lo a b).2 Q
/-- two pairs and what is made of them -/
def spTwo (K : PySem.W.Frag) (f : Int → Int → Int → Int → Int × Int) : Sp := fun vs H Q _ => ∃ u v a b c d, vs = [u, v] ∧ TupI K H u a b ∧ TupI K H v c d ∧ 0 < b ∧ 0 < d ∧ Bt 4400 a ∧ Bt 4400 b ∧ Bt 4400 c ∧ Bt 4400 d ∧ NewT K H (f a b c d).1 (f a b c d).2 Q
def spTimes (K : PySem.W.Frag) : Sp := fun vs H Q _ => ∃ u a b m, vs = [u, .int m] ∧ TupI K H u a b ∧ 0 < b ∧ Bt 4400 a ∧ Bt 4400 b ∧ Bt 4400 m ∧ NewT K H (lo (a * m) b).1 (lo (a * m) b).2 Q
def Bad (K : PySem.W.Frag) (H : Hp) (m : V) : Prop := WholeIs K H m false ∨ ∃ i : Int, m = .int i ∧ i < 1
def spShared (K : PySem.W.Frag) (C : Addr) : Sp := fun vs H Q E => ∃ u a b m, vs = [u, m] ∧ TupI K H u a b ∧ ((Bad K H m ∧ E (.ref C) none H) ∨ ∃ i : Int, m = .int i ∧ 1 ≤ i ∧ 0 < b ∧ Bt 4400 a ∧ Bt 4400 b ∧ Bt 4400 i ∧ NewT K H (lo a (b * i)).1 (lo a (b * i)).2 Q)
def spDigit : Sp := fun vs H Q _ => ∃ p m, vs = [.ref p, .int m] ∧ PotAt H p ∧ 0 < m ∧ Bt 8999 m ∧ ∀ d H', 0 ≤ d → d < m → SameX p H H' → PotAt H' p → Q (.int d) H'
def spPot (K : PySem.W.Frag) : Sp := fun vs H Q _ => ∃ (a : Addr) (ns : List Int) (k : Int), vs = [.ref a, .int k] ∧ SqL K H a (ns.map V.int) ∧ 0 ≤ k ∧ k < 100 ∧ ∀ p H', Same H H' → H p = none → PotAt H' p → Q (.ref p) H'
end WS
set_option Elab.async false
set_option linter.all false
set_option maxRecDepth 100000
set_option maxHeartbeats 4000000
namespace WS
open PySem PySem.Spec PyProof.Rows L2
def topS (i : Nat) : Stmt := PySem.Challenge.pw_whoserves_k12_sums_and_shares.main.body.getD i (.Pass ⟨0, 0, 0, 0⟩)
abbrev s_is_whole : Stmt := topS 5
theorem sc_is_whole : FnScope ["thing"] ["thing"] (defScope s_is_whole) := ⟨rfl, rfl, rfl, by decide +kernel, rfl, by decide +kernel, by decide +kernel⟩
abbrev s_greatest_common : Stmt := topS 6
theorem sc_greatest_common : FnScope ["one", "other"] ["one", "other"] (defScope s_greatest_common) := ⟨rfl, rfl, rfl, by decide +kernel, rfl, by decide +kernel, by decide +kernel⟩
abbrev s_part : Stmt := topS 7
theorem sc_part : FnScope ["above", "below", "common"] ["above", "below"] (defScope s_part) := ⟨rfl, rfl, rfl, by decide +kernel, rfl, by decide +kernel, by decide +kernel⟩
abbrev s_plus : Stmt := topS 8
theorem sc_plus : FnScope ["one", "other"] ["one", "other"] (defScope s_plus) := ⟨rfl, rfl, rfl, by decide +kernel, rfl, by decide +kernel, by decide +kernel⟩
abbrev s_minus : Stmt := topS 9
theorem sc_minus : FnScope ["one", "other"] ["one", "other"] (defScope s_minus) := ⟨rfl, rfl, rfl, by decide +kernel, rfl, by decide +kernel, by decide +kernel⟩
abbrev s_times : Stmt := topS 10
theorem sc_times : FnScope ["one", "many"] ["one", "many"] (defScope s_times) := ⟨rfl, rfl, rfl, by decide +kernel, rfl, by decide +kernel, by decide +kernel⟩
abbrev s_shared : Stmt := topS 11
theorem sc_shared : FnScope ["one", "many"] ["one", "many"] (defScope s_shared) := ⟨rfl, rfl, rfl, by decide +kernel, rfl, by decide +kernel, by decide +kernel⟩
abbrev s_total : Stmt := topS 12
theorem sc_total : FnScope ["row", "start", "found", "one"] ["row", "start"] (defScope s_total) := ⟨rfl, rfl, rfl, by decide +kernel, rfl, by decide +kernel, by decide +kernel⟩
abbrev s_lpot : Stmt := topS 14
theorem sc_lpot : FnScope ["_law_script", "_law_k", "_law_cell"] ["_law_script", "_law_k"] (defScope s_lpot) := ⟨rfl, rfl, rfl, by decide +kernel, rfl, by decide +kernel, by decide +kernel⟩
abbrev s_ldigit : Stmt := topS 15
theorem sc_ldigit : FnScope ["_law_pot_here", "_law_many", "_law_digit_here"] ["_law_pot_here", "_law_many"] (defScope s_ldigit) := ⟨rfl, rfl, rfl, by decide +kernel, rfl, by decide +kernel, by decide +kernel⟩
abbrev s_llow : Stmt := topS 16
theorem sc_llow : FnScope ["_law_above", "_law_below", "_law_one_here", "_law_other"] ["_law_above", "_law_below"] (defScope s_llow) := ⟨rfl, rfl, rfl, by decide +kernel, rfl, by decide +kernel, by decide +kernel⟩
abbrev s_lplus : Stmt := topS 17
theorem sc_lplus : FnScope ["_law_one_here", "_law_other"] ["_law_one_here", "_law_other"] (defScope s_lplus) := ⟨rfl, rfl, rfl, by decide +kernel, rfl, by decide +kernel, by decide +kernel⟩
abbrev s_lsum : Stmt := topS 18
theorem sc_lsum : FnScope ["_law_parts", "_law_found", "_law_one_here"] ["_law_parts"] (defScope s_lsum) := ⟨rfl, rfl, rfl, by decide +kernel, rfl, by decide +kernel, by decide +kernel⟩
abbrev s_lnumber : Stmt := topS 19
theorem sc_lnumber : FnScope ["_law_pot_here", "_law_far"] ["_law_pot_here"] (defScope s_lnumber) := ⟨rfl, rfl, rfl, by decide +kernel, rfl, by decide +kernel, by decide +kernel⟩
abbrev s_lpart : Stmt := topS 20
theorem sc_lpart : FnScope ["_law_pot_here", "_law_below"] ["_law_pot_here"] (defScope s_lpart) := ⟨rfl, rfl, rfl, by decide +kernel, rfl, by decide +kernel, by decide +kernel⟩
abbrev s_lis_whole : Stmt := topS 21
theorem sc_lis_whole : FnScope ["_law_thing"] ["_law_thing"] (defScope s_lis_whole) := ⟨rfl, rfl, rfl, by decide +kernel, rfl, by decide +kernel, by decide +kernel⟩
abbrev s_lis : Stmt := topS 22
theorem sc_lis : FnScope ["_law_told", "_law_due"] ["_law_told", "_law_due"] (defScope s_lis) := ⟨rfl, rfl, rfl, by decide +kernel, rfl, by decide +kernel, by decide +kernel⟩
abbrev s_lrefused : Stmt := topS 23
theorem sc_lrefused : FnScope ["_law_one_here", "_law_many"] ["_law_one_here", "_law_many"] (defScope s_lrefused) := ⟨rfl, rfl, rfl, by decide +kernel, rfl, by decide +kernel, by decide +kernel⟩
abbrev s_lshared_right : Stmt := topS 24
theorem sc_lshared_right : FnScope ["_law_pot_here", "_law_one_here", "_law_many", "_law_odd", "_law_told"] ["_law_pot_here", "_law_one_here", "_law_many"] (defScope s_lshared_right) := ⟨rfl, rfl, rfl, by decide +kernel, rfl, by decide +kernel, by decide +kernel⟩
abbrev s_ltotal_right : Stmt := topS 25
theorem sc_ltotal_right : FnScope ["_law_row", "_law_begin", "_law_handed"] ["_law_row", "_law_begin"] (defScope s_ltotal_right) := ⟨rfl, rfl, rfl, by decide +kernel, rfl, by decide +kernel, by decide +kernel⟩
abbrev s_lone : Stmt := topS 26
theorem sc_lone : FnScope ["_law_pot_here", "_law_row", "_law_one_here", "_law_other", "_law_many", "_law_k"] ["_law_pot_here"] (defScope s_lone) := ⟨rfl, rfl, rfl, by decide +kernel, rfl, by decide +kernel, by decide +kernel⟩
abbrev s_law : Stmt := topS 27
theorem sc_law : FnScope ["_law_script", "_law_k"] ["_law_script"] (defScope s_law) := ⟨rfl, rfl, rfl, by decide +kernel, rfl, by decide +kernel, by decide +kernel⟩
structure Tx (K : PySem.W.Frag) (mg : Str → Option Value) where
  f_is_whole : Addr
  d_is_whole : FuncData
  g_is_whole : mg "is_whole" = some (.ref f_is_whole)
  F_is_whole : Fun K "is_whole" "is_whole" s_is_whole f_is_whole d_is_whole
  b_is_whole : Binds K d_is_whole ["thing"] []
  f_greatest_common : Addr
  d_greatest_common : FuncData
  g_greatest_common : mg "greatest_common" = some (.ref f_greatest_common)
  F_greatest_common : Fun K "greatest_common" "greatest_common" s_greatest_common f_greatest_common d_greatest_common
  b_greatest_common : Binds K d_greatest_common ["one", "other"] []
  f_part : Addr
  d_part : FuncData
  g_part : mg "part" = some (.ref f_part)
  F_part : FunD K "part" "part" (defArgs s_part) (defBody s_part) (defScope s_part) [.int 1] [] f_part d_part
  b_part : Binds K d_part ["above", "below"] []
  f_plus : Addr
  d_plus : FuncData
  g_plus : mg "plus" = some (.ref f_plus)
  F_plus : Fun K "plus" "plus" s_plus f_plus d_plus
  b_plus : Binds K d_plus ["one", "other"] []
  f_minus : Addr
  d_minus : FuncData
  g_minus : mg "minus" = some (.ref f_minus)
  F_minus : Fun K "minus" "minus" s_minus f_minus d_minus
  b_minus : Binds K d_minus ["one", "other"] []
  f_times : Addr
  d_times : FuncData
  g_times : mg "times" = some (.ref f_times)
  F_times : Fun K "times" "times" s_times f_times d_times
  b_times : Binds K d_times ["one", "many"] []
  f_shared : Addr
  d_shared : FuncData
  g_shared : mg "shared" = some (.ref f_shared)
  F_shared : Fun K "shared" "shared" s_shared f_shared d_shared
  b_shared : Binds K d_shared ["one", "many"] []
  f_total : Addr
  d_total : FuncData
  g_total : mg "total" = some (.ref f_total)
  a0 : Addr
  F_total : FunD K "total" "total" (defArgs s_total) (defBody s_total) (defScope s_total) [] [("start", .ref a0)] f_total d_total
  t0 : ∀ H : Hp, SqT K H a0 [.int 0, .int 1]
  v_total : List Value
  vb_total : Vals [.ref a0] v_total
  b_total : Binds K d_total ["row", "start"] v_total
  kb_total : KBn K d_total ["row", "start"] 1 ["start"] (fun us ws => us ++ ws) (fun us ws => us ++ ws)
  f_lpot : Addr
  d_lpot : FuncData
  g_lpot : mg "_law_pot" = some (.ref f_lpot)
  F_lpot : Fun K "_law_pot" "_law_pot" s_lpot f_lpot d_lpot
  b_lpot : Binds K d_lpot ["_law_script", "_law_k"] []
  f_ldigit : Addr
  d_ldigit : FuncData
  g_ldigit : mg "_law_digit" = some (.ref f_ldigit)
  F_ldigit : Fun K "_law_digit" "_law_digit" s_ldigit f_ldigit d_ldigit
  b_ldigit : Binds K d_ldigit ["_law_pot_here", "_law_many"] []
  f_llow : Addr
  d_llow : FuncData
  g_llow : mg "_law_low" = some (.ref f_llow)
  F_llow : Fun K "_law_low" "_law_low" s_llow f_llow d_llow
  b_llow : Binds K d_llow ["_law_above", "_law_below"] []
  f_lplus : Addr
  d_lplus : FuncData
  g_lplus : mg "_law_plus" = some (.ref f_lplus)
  F_lplus : Fun K "_law_plus" "_law_plus" s_lplus f_lplus d_lplus
  b_lplus : Binds K d_lplus ["_law_one_here", "_law_other"] []
  f_lsum : Addr
  d_lsum : FuncData
  g_lsum : mg "_law_sum" = some (.ref f_lsum)
  F_lsum : Fun K "_law_sum" "_law_sum" s_lsum f_lsum d_lsum
  b_lsum : Binds K d_lsum ["_law_parts"] []
  f_lnumber : Addr
  d_lnumber : FuncData
  g_lnumber : mg "_law_number" = some (.ref f_lnumber)
  F_lnumber : Fun K "_law_number" "_law_number" s_lnumber f_lnumber d_lnumber
  b_lnumber : Binds K d_lnumber ["_law_pot_here"] []
  f_lpart : Addr
  d_lpart : FuncData
  g_lpart : mg "_law_part" = some (.ref f_lpart)
  F_lpart : Fun K "_law_part" "_law_part" s_lpart f_lpart d_lpart
  b_lpart : Binds K d_lpart ["_law_pot_here"] []
  f_lis_whole : Addr
  d_lis_whole : FuncData
  g_lis_whole : mg "_law_is_whole" = some (.ref f_lis_whole)
  F_lis_whole : Fun K "_law_is_whole" "_law_is_whole" s_lis_whole f_lis_whole d_lis_whole
  b_lis_whole : Binds K d_lis_whole ["_law_thing"] []
  f_lis : Addr
  d_lis : FuncData
  g_lis : mg "_law_is" = some (.ref f_lis)
  F_lis : Fun K "_law_is" "_law_is" s_lis f_lis d_lis
  b_lis : Binds K d_lis ["_law_told", "_law_due"] []
  f_lrefused : Addr
  d_lrefused : FuncData
  g_lrefused : mg "_law_refused" = some (.ref f_lrefused)
  F_lrefused : Fun K "_law_refused" "_law_refused" s_lrefused f_lrefused d_lrefused
  b_lrefused : Binds K d_lrefused ["_law_one_here", "_law_many"] []
  f_lshared_right : Addr
  d_lshared_right : FuncData
  g_lshared_right : mg "_law_shared_right" = some (.ref f_lshared_right)
  F_lshared_right : Fun K "_law_shared_right" "_law_shared_right" s_lshared_right f_lshared_right d_lshared_right
  b_lshared_right : Binds K d_lshared_right ["_law_pot_here", "_law_one_here", "_law_many"] []
  f_ltotal_right : Addr
  d_ltotal_right : FuncData
  g_ltotal_right : mg "_law_total_right" = some (.ref f_ltotal_right)
  F_ltotal_right : Fun K "_law_total_right" "_law_total_right" s_ltotal_right f_ltotal_right d_ltotal_right
  b_ltotal_right : Binds K d_ltotal_right ["_law_row", "_law_begin"] []
  f_lone : Addr
  d_lone : FuncData
  g_lone : mg "_law_one" = some (.ref f_lone)
  F_lone : Fun K "_law_one" "_law_one" s_lone f_lone d_lone
  b_lone : Binds K d_lone ["_law_pot_here"] []
  f_law : Addr
  d_law : FuncData
  g_law : mg "law" = some (.ref f_law)
  F_law : Fun K "law" "law" s_law f_law d_law
  b_law : Binds K d_law ["_law_script"] []
  c_NoPart : Addr
  gc_NoPart : mg "NoPart" = some (.ref c_NoPart)
  x_NoPart : PySem.W.excIn K c_NoPart [.type "ValueError", .type "Exception", .type "BaseException", .type "object"] "ValueError.__new__" = true
  kc_NoPart : PySem.W.keepIn K (.ref c_NoPart) = true
  bc_NoPart : PySem.W.subIn K (.ref c_NoPart) (.type "BaseException") = some true
  tc_NoPart : PySem.W.typeIn K (.ref c_NoPart) = some (.type "type")
  hc_NoPart : PySem.W.hasDictIn K c_NoPart = true
  sc_NoPart : PySem.W.subIn K (.ref c_NoPart) (.ref c_NoPart) = some true
  a_NOUGHT : Addr
  g_NOUGHT : mg "NOUGHT" = some (.ref a_NOUGHT)
  t_NOUGHT : ∀ H : Hp, SqT K H a_NOUGHT [.int 0, .int 1]
  n_abs : mg "abs" = none
  n_all : mg "all" = none
  n_bool : mg "bool" = none
  n_divmod : mg "divmod" = none
  n_int : mg "int" = none
  n_isinstance : mg "isinstance" = none
  n_len : mg "len" = none
  n_max : mg "max" = none
  n_min : mg "min" = none
  n_range : mg "range" = none
  n_tuple : mg "tuple" = none
section
variable {P : Program} {w : World} {K : PySem.W.Frag} {mg : Str → Option Value} {base : Heap}
theorem ok_is_whole (T : Tx K mg) : FnOk P w K mg base CX0 1 T.f_is_whole T.d_is_whole ["thing"] (spWhole K) := by
  refine T.F_is_whole.ok sc_is_whole (fun vs H Q E h => ?_) (fun cdv A outer s H vs Q E hr h => ?_)
  · obtain ⟨v, b, rfl, _⟩ := h
    rfl
  · obtain ⟨v, b, rfl, ⟨t, b1, b2, ht, k1, k2, rfl⟩, q⟩ := h
    refine ⟨_, (pss_one (ps_ret (pe_and (pe_callB call_isi (by rfl) T.n_isinstance (by decide +kernel) (pa_cons (pv 0) (pa_cons (pe_bltn (v := .ty "int") (by rfl) T.n_int (by decide +kernel) rfl) pa_nil))) (pe_one (pe_not (pe_callB call_isi (by rfl) T.n_isinstance (by decide +kernel) (pa_cons (pv 0) (pa_cons (pe_bltn (v := .ty "bool") (by rfl) T.n_bool (by decide +kernel) rfl) pa_nil)))))))), ?_⟩
    refine ⟨v, rfl, v, _, t, _, b1, rfl, .ty "int", ht, k1, b1, rfl, ?_⟩
    cases b1 with
    | false => exact iteF q
    | true => exact iteT ⟨v, rfl, v, _, t, _, b2, rfl, .ty "bool", ht, k2, b2, rfl, q⟩
theorem ok_greatest_common (T : Tx K mg) : FnOk P w K mg base CX0 1 T.f_greatest_common T.d_greatest_common ["one", "other"] spGcd := by
  refine T.F_greatest_common.ok sc_greatest_common (fun vs H Q E h => ?_) (fun cdv A outer s H vs Q E hr h => ?_)
  · obtain ⟨x, y, rfl, _⟩ := h
    rfl
  · obtain ⟨x, y, rfl, hx, hy, q⟩ := h
    refine ⟨_, (pss_cons (ps_while PassesOwn.never (pt_cmpR op_ne (pv 1) pe_int (nomark _)) (pss_one (ps_par (i := 0) (j := 1) (by rfl) sc_greatest_common.nd rfl rfl (by decide) rfl rfl (pa_cons (pv 1) (pa_cons (pe_op op_mod (pv 0) (pv 1)) pa_nil)) (by rfl))))
        (pss_one (ps_ret (pv 0)))), ?_⟩
    refine while_by (fun σ H' => ∃ a b : Int, σ = [some (.int a), some (.int b)] ∧ 0 ≤ a ∧ 0 ≤ b ∧ Int.gcd a b = Int.gcd x y ∧ H' = H)
      (fun σ _ => match σ with | [_, some (.int b)] => b.toNat | _ => 0) ⟨x, y, rfl, hx, hy, rfl, rfl⟩ ?_ ?_
    · rintro σ H' ⟨a, b, rfl, ha, hb, eg, rfl⟩
      refine ⟨_, rfl, rfl, _, rfl, ?_⟩
      by_cases c : b = 0
      · subst c
        refine iteNS rfl ?_
        refine ⟨_, rfl, ?_⟩
        have e := gcd_zero ha
        rw [eg] at e
        rw [← e]
        exact q
      · have hb' : 0 < b := by omega
        have d : decide (V.int b = V.int 0) = false := decide_eq_false (fun z => c (V.int.inj z))
        rw [d]
        refine iteT ?_
        refine ⟨_, rfl, _, rfl, _, rfl, _, _, rfl, rfl, hb', _, _, rfl, ?_, ?_⟩
        · exact ⟨b, a % b, rfl, hb, Int.emod_nonneg a c, (gcd_step ha hb').trans eg, rfl⟩
        · show (a % b).toNat < b.toNat
          have := Int.emod_lt_of_pos a hb'
          omega
    · rintro σ H Q Q' k ⟨v, h1, h2, c, h3, q⟩
      exact ⟨v, h1, h2, c, h3, k _ _ q⟩
theorem ok_part (T : Tx K mg) : FnOk P w K mg base CX0 3 T.f_part T.d_part ["above", "below"] (spLow K) := by
  refine T.F_part.ok sc_part (fun vs H Q E h => ?_) (fun cdv A outer s H vs Q E hr h => ?_)
  · obtain ⟨a, b, rfl, _⟩ := h
    rfl
  · obtain ⟨a, b, rfl, hb, h9, q⟩ := h
    refine ⟨_, PSs.nox (pss_cons (ps_if (PW.pt (pw_or (pt_not (pt_val (pe_call (ok_is_whole T) (hr.mono (by decide)) (by rfl) T.g_is_whole T.F_is_whole.kp T.b_is_whole .nil pass0 (pa_cons (pv 0) pa_nil)))) (pw_or1 (pt_not (pt_val (pe_call (ok_is_whole T) (hr.mono (by decide)) (by rfl) T.g_is_whole T.F_is_whole.kp T.b_is_whole .nil pass0 (pa_cons (pv 1) pa_nil))))))) (pss_one ps_never) pss_nil)
        (pss_cons (ps_if (pt_cmpR op_eq (pv 1) pe_int (nomark _)) (pss_one ps_never) pss_nil)
        (pss_cons (ps_if (pt_cmpR op_lt (pv 1) pe_int (nomark _)) (pss_one (ps_par (i := 0) (j := 1) (by rfl) sc_part.nd rfl rfl (by decide) rfl rfl (pa_cons (pe_un un_neg (pv 0)) (pa_cons (pe_un un_neg (pv 1)) pa_nil)) (by rfl))) pss_nil)
        (pss_cons (ps_set (i := 2) sc_part.nd rfl (.inl rfl) (pe_call (ok_greatest_common T) (hr.mono (by decide)) (by rfl) T.g_greatest_common T.F_greatest_common.kp T.b_greatest_common .nil pass0 (pa_cons (pe_callB call_abs (by rfl) T.n_abs (by decide +kernel) (pa_cons (pv 0) pa_nil)) (pa_cons (pv 1) pa_nil))))
        (pss_one (ps_ret (pe_tup (pa_cons (pe_op op_fdivW (pv 0) (pv 2)) (pa_cons (pe_op op_fdivW (pv 1) (pv 2)) pa_nil))))))))), ?_⟩
    refine ⟨_, rfl, _, _, rfl, whole_int, true, rfl, iteF ⟨_, rfl, _, _, rfl, whole_int, true, rfl, iteF ?_⟩⟩
    refine ⟨_, rfl, rfl, _, rfl, ?_⟩
    rw [show decide (V.int b = V.int 0) = false from decide_eq_false (fun z => by have := V.int.inj z; omega)]
    refine iteF ?_
    refine ⟨_, rfl, _, _, rfl, rfl, _, rfl, ?_⟩
    rw [show decide (b < 0) = false from decide_eq_false (by omega)]
    refine iteF ?_
    refine ⟨_, rfl, _, rfl, _, rfl, _, _, rfl, by split <;> omega, by omega, ?_⟩
    rw [gcd_abs]
    have g0 : 0 < (Int.gcd a b : Int) := by have := gcd_pos (a := a) (b := b) (by omega); omega
    have g9 : Bt 8999 (Int.gcd a b : Int) := gcd_bt hb h9
    refine ⟨_, rfl, _, rfl, _, _, rfl, rfl, g9.cdiv g0 (by decide), _, rfl, _, rfl, _, _, rfl, rfl, g9.cdiv g0 (by decide), by show 2 ≤ sizeLine; decide, fun p np => q _ _ (same_new np) TupI.new⟩
end
end WS

set_option Elab.async false
set_option linter.all false
set_option maxRecDepth 100000
set_option maxHeartbeats 4000000
namespace WS
open PySem PySem.Spec PyProof.Rows L2
section
variable {P : Program} {w : World} {K : PySem.W.Frag} {mg : Str → Option Value} {base : Heap}
theorem ok_plus (T : Tx K mg) : FnOk P w K mg base CX0 4 T.f_plus T.d_plus ["one", "other"] (spTwo K fun a b c d => lo (a * d + c * b) (b * d)) := by
  refine T.F_plus.ok sc_plus (fun vs H Q E h => ?_) (fun cdv A outer s H vs Q E hr h => ?_)
  · obtain ⟨u, v, a, b, c, d, rfl, _⟩ := h
    rfl
  · obtain ⟨u, v, a, b, c, d, rfl, ⟨t, rfl, ht⟩, ⟨r, rfl, hv⟩, hb, hd, ba, bb, bc, bd, q⟩ := h
    refine ⟨_, (pss_one (ps_ret (pe_call (ok_part T) (hr.mono (by decide)) (by rfl) T.g_part T.F_part.kp T.b_part .nil pass0 (pa_cons (pe_op op_add (pe_op op_mulW (pe_ix ix_tup (pv 0) pe_int (fun _ _ => rfl)) (pe_ix ix_tup (pv 1) pe_int (fun _ _ => rfl))) (pe_op op_mulW (pe_ix ix_tup (pv 1) pe_int (fun _ _ => rfl)) (pe_ix ix_tup (pv 0) pe_int (fun _ _ => rfl)))) (pa_cons (pe_op op_mulW (pe_ix ix_tup (pv 0) pe_int (fun _ _ => rfl)) (pe_ix ix_tup (pv 1) pe_int (fun _ _ => rfl))) pa_nil))))), ?_⟩
    refine ⟨_, rfl, t, _, 0, _, rfl, rfl, ht, atI_nat (j := 0) rfl, _, rfl, r, _, 1, _, rfl, rfl, hv, atI_nat (j := 1) rfl, _, _, rfl, rfl, ba.cmul bd (by decide), ?_⟩
    refine ⟨_, rfl, r, _, 0, _, rfl, rfl, hv, atI_nat (j := 0) rfl, _, rfl, t, _, 1, _, rfl, rfl, ht, atI_nat (j := 1) rfl, _, _, rfl, rfl, bc.cmul bb (by decide), ?_⟩
    refine ⟨_, _, rfl, rfl, ?_⟩
    refine ⟨_, rfl, t, _, 1, _, rfl, rfl, ht, atI_nat (j := 1) rfl, _, rfl, r, _, 1, _, rfl, rfl, hv, atI_nat (j := 1) rfl, _, _, rfl, rfl, bb.cmul bd (by decide), ?_⟩
    exact ⟨_, _, rfl, Int.mul_pos hb hd, (bb.mul bd).mono (by decide), q⟩
theorem ok_minus (T : Tx K mg) : FnOk P w K mg base CX0 4 T.f_minus T.d_minus ["one", "other"] (spTwo K fun a b c d => lo (a * d - c * b) (b * d)) := by
  refine T.F_minus.ok sc_minus (fun vs H Q E h => ?_) (fun cdv A outer s H vs Q E hr h => ?_)
  · obtain ⟨u, v, a, b, c, d, rfl, _⟩ := h
    rfl
  · obtain ⟨u, v, a, b, c, d, rfl, ⟨t, rfl, ht⟩, ⟨r, rfl, hv⟩, hb, hd, ba, bb, bc, bd, q⟩ := h
    refine ⟨_, (pss_one (ps_ret (pe_call (ok_part T) (hr.mono (by decide)) (by rfl) T.g_part T.F_part.kp T.b_part .nil pass0 (pa_cons (pe_op op_sub (pe_op op_mulW (pe_ix ix_tup (pv 0) pe_int (fun _ _ => rfl)) (pe_ix ix_tup (pv 1) pe_int (fun _ _ => rfl))) (pe_op op_mulW (pe_ix ix_tup (pv 1) pe_int (fun _ _ => rfl)) (pe_ix ix_tup (pv 0) pe_int (fun _ _ => rfl)))) (pa_cons (pe_op op_mulW (pe_ix ix_tup (pv 0) pe_int (fun _ _ => rfl)) (pe_ix ix_tup (pv 1) pe_int (fun _ _ => rfl))) pa_nil))))), ?_⟩
    refine ⟨_, rfl, t, _, 0, _, rfl, rfl, ht, atI_nat (j := 0) rfl, _, rfl, r, _, 1, _, rfl, rfl, hv, atI_nat (j := 1) rfl, _, _, rfl, rfl, ba.cmul bd (by decide), ?_⟩
    refine ⟨_, rfl, r, _, 0, _, rfl, rfl, hv, atI_nat (j := 0) rfl, _, rfl, t, _, 1, _, rfl, rfl, ht, atI_nat (j := 1) rfl, _, _, rfl, rfl, bc.cmul bb (by decide), ?_⟩
    refine ⟨_, _, rfl, rfl, ?_⟩
    refine ⟨_, rfl, t, _, 1, _, rfl, rfl, ht, atI_nat (j := 1) rfl, _, rfl, r, _, 1, _, rfl, rfl, hv, atI_nat (j := 1) rfl, _, _, rfl, rfl, bb.cmul bd (by decide), ?_⟩
    exact ⟨_, _, rfl, Int.mul_pos hb hd, (bb.mul bd).mono (by decide), q⟩
theorem ok_times (T : Tx K mg) : FnOk P w K mg base CX0 4 T.f_times T.d_times ["one", "many"] (spTimes K) := by
  refine T.F_times.ok sc_times (fun vs H Q E h => ?_) (fun cdv A outer s H vs Q E hr h => ?_)
  · obtain ⟨u, a, b, m, rfl, _⟩ := h
    rfl
  · obtain ⟨u, a, b, m, rfl, ⟨t, rfl, ht⟩, hb, ba, bb, bm, q⟩ := h
    refine ⟨_, (pss_one (ps_ret (pe_call (ok_part T) (hr.mono (by decide)) (by rfl) T.g_part T.F_part.kp T.b_part .nil pass0 (pa_cons (pe_op op_mulW (pe_ix ix_tup (pv 0) pe_int (fun _ _ => rfl)) (pv 1)) (pa_cons (pe_ix ix_tup (pv 0) pe_int (fun _ _ => rfl)) pa_nil))))), ?_⟩
    refine ⟨_, rfl, t, _, 0, _, rfl, rfl, ht, atI_nat (j := 0) rfl, _, rfl, _, _, rfl, rfl, ba.cmul bm (by decide), ?_⟩
    refine ⟨_, rfl, t, _, 1, _, rfl, rfl, ht, atI_nat (j := 1) rfl, ?_⟩
    exact ⟨_, _, rfl, hb, bb.mono (by decide), q⟩
theorem ok_shared (T : Tx K mg) : FnOk P w K mg base (L2.CX P w) 4 T.f_shared T.d_shared ["one", "many"] (spShared K T.c_NoPart) := by
  refine T.F_shared.okX sc_shared (fun vs H Q E h => ?_) (fun cdv A outer s H vs Q E hr h => ?_)
  · obtain ⟨u, a, b, m, rfl, _⟩ := h
    rfl
  · obtain ⟨u, a, b, m, rfl, ⟨t, rfl, ht⟩, h⟩ := h
    refine ⟨_, (pss_cons (ps_if (PW.pt (pw_or (pt_not (pt_val (pe_call (ok_is_whole T) (hr.mono (by decide)) (by rfl) T.g_is_whole T.F_is_whole.kp T.b_is_whole .nil pass0 (pa_cons (pv 1) pa_nil)))) (pw_or1 (pt_cmpR op_lt (pv 1) pe_int (nomark _))))) (pss_one (ps_raise rfl (takes_of rfl rfl rfl rfl) (pmk_own PySem.F.excBase_ValueError T.x_NoPart T.gc_NoPart T.kc_NoPart (raises_own T.bc_NoPart T.tc_NoPart) (by rfl)))) pss_nil)
        (pss_one (ps_ret (pe_call (ok_part T) (hr.mono (by decide)) (by rfl) T.g_part T.F_part.kp T.b_part .nil pass0 (pa_cons (pe_ix ix_tup (pv 0) pe_int (fun _ _ => rfl)) (pa_cons (pe_op op_mulW (pe_ix ix_tup (pv 0) pe_int (fun _ _ => rfl)) (pv 1)) pa_nil)))))), ?_⟩
    rcases h with ⟨hbad, q⟩ | ⟨i, rfl, hi, hb, ba, bb, bi, q⟩
    · rcases hbad with hw | ⟨i, rfl, hi⟩
      · exact ⟨_, rfl, _, _, rfl, hw, false, rfl, iteT (iteT q)⟩
      · refine ⟨_, rfl, _, _, rfl, whole_int, true, rfl, iteF ?_⟩
        refine ⟨_, rfl, _, _, rfl, rfl, _, rfl, ?_⟩
        rw [show decide (i < 1) = true from decide_eq_true hi]
        exact iteT q
    · refine ⟨_, rfl, _, _, rfl, whole_int, true, rfl, iteF ?_⟩
      refine ⟨_, rfl, _, _, rfl, rfl, _, rfl, ?_⟩
      rw [show decide (i < 1) = false from decide_eq_false (by omega)]
      refine iteF ?_
      refine ⟨_, rfl, t, _, 0, _, rfl, rfl, ht, atI_nat (j := 0) rfl, _, rfl, t, _, 1, _, rfl, rfl, ht, atI_nat (j := 1) rfl, _, rfl, _, _, rfl, rfl, bb.cmul bi (by decide), ?_⟩
      exact ⟨_, _, rfl, Int.mul_pos hb (by omega), (bb.mul bi).mono (by decide), q⟩
theorem ok_llow (T : Tx K mg) : FnOk P w K mg base CX0 1 T.f_llow T.d_llow ["_law_above", "_law_below"] (spLow K) := by
  refine T.F_llow.ok sc_llow (fun vs H Q E h => ?_) (fun cdv A outer s H vs Q E hr h => ?_)
  · obtain ⟨a, b, rfl, _⟩ := h
    rfl
  · obtain ⟨x, y, rfl, hy, h9, q⟩ := h
    refine ⟨_, (pss_cons (ps_par (i := 2) (j := 3) (by rfl) sc_llow.nd rfl rfl (by decide) rfl rfl (pa_cons (pe_callB call_abs (by rfl) T.n_abs (by decide +kernel) (pa_cons (pv 0) pa_nil)) (pa_cons (pv 1) pa_nil)) (by rfl))
        (pss_cons (ps_while PassesOwn.never (pt_cmpR op_gt (pv 3) pe_int (nomark _)) (pss_one (ps_par (i := 2) (j := 3) (by rfl) sc_llow.nd rfl rfl (by decide) rfl rfl (pa_cons (pv 3) (pa_cons (pe_op op_mod (pv 2) (pv 3)) pa_nil)) (by rfl))))
        (pss_one (ps_ret (pe_tup (pa_cons (pe_op op_fdivW (pv 0) (pv 2)) (pa_cons (pe_op op_fdivW (pv 1) (pv 2)) pa_nil))))))), ?_⟩
    refine ⟨_, rfl, _, rfl, _, rfl, _, _, rfl, ?_⟩
    refine while_by (fun σ H' => ∃ a b : Int, σ = [some (.int x), some (.int y), some (.int a), some (.int b)] ∧ 0 ≤ a ∧ 0 ≤ b ∧ Int.gcd a b = Int.gcd x y ∧ H' = H)
      (fun σ _ => match σ with | [_, _, _, some (.int b)] => b.toNat | _ => 0) ⟨_, _, rfl, by split <;> omega, by omega, gcd_abs x y, rfl⟩ ?_ ?_
    · rintro σ H' ⟨a, b, rfl, ha, hb, eg, rfl⟩
      refine ⟨_, rfl, _, _, rfl, rfl, _, rfl, ?_⟩
      by_cases c : b = 0
      · subst c
        rw [show decide ((0 : Int) < 0) = false from rfl]
        refine iteF ?_
        have e := gcd_zero ha
        rw [eg] at e
        have g0 : 0 < (Int.gcd x y : Int) := by have := gcd_pos (a := x) (b := y) (by omega); omega
        have g9 : Bt 8999 (Int.gcd x y : Int) := gcd_bt hy h9
        rw [← e]
        refine ⟨_, rfl, _, rfl, _, _, rfl, rfl, g9.cdiv g0 (by decide), _, rfl, _, rfl, _, _, rfl, rfl, g9.cdiv g0 (by decide), by show 2 ≤ sizeLine; decide, fun p np => q _ _ (same_new np) TupI.new⟩
      · have hb' : 0 < b := by omega
        rw [show decide (0 < b) = true from decide_eq_true hb']
        refine iteT ?_
        refine ⟨_, rfl, _, rfl, _, rfl, _, _, rfl, rfl, hb', _, _, rfl, ?_, ?_⟩
        · exact ⟨b, a % b, rfl, hb, Int.emod_nonneg a c, (gcd_step ha hb').trans eg, rfl⟩
        · show (a % b).toNat < b.toNat
          have := Int.emod_lt_of_pos a hb'
          omega
    · rintro σ H Q Q' k ⟨v, h1, i, j, h2, h3, c, h4, q⟩
      exact ⟨v, h1, i, j, h2, h3, c, h4, k _ _ q⟩
theorem ok_lplus (T : Tx K mg) : FnOk P w K mg base CX0 2 T.f_lplus T.d_lplus ["_law_one_here", "_law_other"] (spTwo K fun a b c d => lo (a * d + c * b) (b * d)) := by
  refine T.F_lplus.ok sc_lplus (fun vs H Q E h => ?_) (fun cdv A outer s H vs Q E hr h => ?_)
  · obtain ⟨u, v, a, b, c, d, rfl, _⟩ := h
    rfl
  · obtain ⟨u, v, a, b, c, d, rfl, ⟨t, rfl, ht⟩, ⟨r, rfl, hv⟩, hb, hd, ba, bb, bc, bd, q⟩ := h
    refine ⟨_, (pss_one (ps_ret (pe_call (ok_llow T) (hr.mono (by decide)) (by rfl) T.g_llow T.F_llow.kp T.b_llow .nil pass0 (pa_cons (pe_op op_add (pe_op op_mulW (pe_ix ix_tup (pv 0) pe_int (fun _ _ => rfl)) (pe_ix ix_tup (pv 1) pe_int (fun _ _ => rfl))) (pe_op op_mulW (pe_ix ix_tup (pv 1) pe_int (fun _ _ => rfl)) (pe_ix ix_tup (pv 0) pe_int (fun _ _ => rfl)))) (pa_cons (pe_op op_mulW (pe_ix ix_tup (pv 0) pe_int (fun _ _ => rfl)) (pe_ix ix_tup (pv 1) pe_int (fun _ _ => rfl))) pa_nil))))), ?_⟩
    refine ⟨_, rfl, t, _, 0, _, rfl, rfl, ht, atI_nat (j := 0) rfl, _, rfl, r, _, 1, _, rfl, rfl, hv, atI_nat (j := 1) rfl, _, _, rfl, rfl, ba.cmul bd (by decide), ?_⟩
    refine ⟨_, rfl, r, _, 0, _, rfl, rfl, hv, atI_nat (j := 0) rfl, _, rfl, t, _, 1, _, rfl, rfl, ht, atI_nat (j := 1) rfl, _, _, rfl, rfl, bc.cmul bb (by decide), ?_⟩
    refine ⟨_, _, rfl, rfl, ?_⟩
    refine ⟨_, rfl, t, _, 1, _, rfl, rfl, ht, atI_nat (j := 1) rfl, _, rfl, r, _, 1, _, rfl, rfl, hv, atI_nat (j := 1) rfl, _, _, rfl, rfl, bb.cmul bd (by decide), ?_⟩
    exact ⟨_, _, rfl, Int.mul_pos hb hd, (bb.mul bd).mono (by decide), q⟩
theorem ok_lpot (T : Tx K mg) : FnOk P w K mg base CX0 1 T.f_lpot T.d_lpot ["_law_script", "_law_k"] (spPot K) := by
  refine T.F_lpot.ok sc_lpot (fun vs H Q E h => ?_) (fun cdv A outer s H vs Q E hr h => ?_)
  · obtain ⟨a, ns, k, rfl, _⟩ := h
    rfl
  · obtain ⟨a, ns, k, rfl, hS, k0, k1, q⟩ := h
    refine ⟨_, (pss_cons (ps_set (i := 2) sc_lpot.nd rfl (.inl rfl) pe_int)
        (pss_cons (ps_if (pt_cmpR op_lt (pv 1) (pe_callB call_len_seq (by rfl) T.n_len (by decide +kernel) (pa_cons (pv 0) pa_nil)) (nomark _)) (pss_one (ps_set (i := 2) sc_lpot.nd rfl (.inl rfl) (pe_callB call_abs (by rfl) T.n_abs (by decide +kernel) (pa_cons (pe_ix ix_list (pv 0) (pv 1) (fun _ _ => rfl)) pa_nil)))) pss_nil)
        (pss_one (ps_ret (pe_lst (pa_cons (pe_callB (call_max2 (by rfl)) (by rfl) T.n_max (by decide +kernel) (pa_cons pe_int (pa_cons (pe_op op_sub (pv 2) (pe_op op_pow pe_int pe_int)) pa_nil))) (pa_cons (pe_op op_add (pe_op op_mod (pe_op op_pow (pe_op op_add (pe_op op_add (pe_op op_mod (pv 2) pe_int) (pe_op op_mulW pe_int (pv 1))) pe_int) pe_int) pe_int) pe_int) pa_nil))))))), ?_⟩
    have fin : ∀ c : Int, 0 ≤ c → (tRet (tLst (tCons (tCB (fun xs H Q => ∃ i j, xs = [.int i, .int j] ∧ Q (.int (if j > i then j else i)) H) (tCons (tC (.int 0)) (tCons (tOp (rI0 fun i j => .int (i - j)) (tVar 2) (tOp (rI CPow fun i j => .int (i ^ j.toNat)) (tC (.int 10)) (tC (.int 18)))) tNil))) (tCons (tOp (rI0 fun i j => .int (i + j)) (tOp (rI (fun _ j => 0 < j) fun i j => .int (i % j)) (tOp (rI CPow fun i j => .int (i ^ j.toNat)) (tOp (rI0 fun i j => .int (i + j)) (tOp (rI0 fun i j => .int (i + j)) (tOp (rI (fun _ j => 0 < j) fun i j => .int (i % j)) (tVar 2) (tC (.int 2147483423))) (tOp (rI CMulW fun i j => .int (i * j)) (tC (.int 89)) (tVar 1))) (tC (.int 7))) (tC (.int 2))) (tC (.int 2147483399))) (tC (.int 1))) tNil)))) { nx := fun _ H' => Q .non H', rt := Q } [some (.ref a), some (.int k), some (.int c)] H := by
      intro c hc
      refine ⟨_, rfl, _, _, rfl, rfl, ⟨by decide, by decide, by decide⟩, _, _, rfl, rfl, _, _, rfl, ?_⟩
      have m0 : 0 ≤ c % 2147483423 := Int.emod_nonneg _ (by decide)
      have m1 : c % 2147483423 < 2147483423 := Int.emod_lt_of_pos _ (by decide)
      refine ⟨_, rfl, _, _, rfl, rfl, by show (0 : Int) < 2147483423; decide, _, rfl, _, _, rfl, rfl, ?_, _, _, rfl, rfl, _, _, rfl, rfl, _, _, rfl, rfl, ⟨by decide, by decide, ?_⟩, _, _, rfl, rfl, by show (0 : Int) < 2147483399; decide, _, _, rfl, rfl, by show 2 ≤ sizeLine; decide, fun p np => ?_⟩
      · exact Bt.cmul (n := 10) (m := 10) (Bt.of_lt (by decide) (by decide)) (Bt.of_lt (by omega) (by omega)) (by decide)
      · show (c % 2147483423 + 89 * k + 7).natAbs < 2 ^ 64
        omega
      · refine q p _ (same_new np) np ⟨_, _, upd_same, by split <;> omega, ?_, ?_⟩
        · have := Int.emod_nonneg ((c % 2147483423 + 89 * k + 7) ^ (2 : Int).toNat) (b := 2147483399) (by decide)
          omega
        · have := Int.emod_lt_of_pos ((c % 2147483423 + 89 * k + 7) ^ (2 : Int).toNat) (b := 2147483399) (by decide)
          omega
    refine ⟨_, rfl, _, rfl, a, _, rfl, .inl hS, _, _, rfl, rfl, _, rfl, ?_⟩
    refine ite2 (fun c => ?_) (fun c => ?_)
    · have c := of_decide_eq_true c
      rw [List.length_map] at c
      have hk : k.toNat < ns.length := by omega
      have g : (ns.map V.int)[k.toNat]? = some (.int ns[k.toNat]) := by
        rw [List.getElem?_map, List.getElem?_eq_getElem hk]
        rfl
      refine ⟨_, rfl, _, rfl, a, _, k, _, rfl, rfl, hS, at_of (j := k.toNat) (by omega) g, _, rfl, ?_⟩
      exact fin _ (by split <;> omega)
    · exact fin 0 (by decide)
theorem ok_ldigit (T : Tx K mg) : FnOk P w K mg base CX0 1 T.f_ldigit T.d_ldigit ["_law_pot_here", "_law_many"] spDigit := by
  refine T.F_ldigit.ok sc_ldigit (fun vs H Q E h => ?_) (fun cdv A outer s H vs Q E hr h => ?_)
  · obtain ⟨p, m, rfl, _⟩ := h
    rfl
  · obtain ⟨p, m, rfl, ⟨x, y, hp, hx, hy, hy2⟩, hm, bm, q⟩ := h
    refine ⟨_, (pss_cons (ps_if (pt_cmpR op_gt (pe_ix ix_list (pv 0) pe_int (fun _ _ => rfl)) pe_int (nomark _)) (pss_cons (ps_asg (pe_callB call_divmodW (by rfl) T.n_divmod (by decide +kernel) (pa_cons (pe_ix ix_list (pv 0) pe_int (fun _ _ => rfl)) (pa_cons (pv 1) pa_nil))) (pg_tup (by rfl) (pgs_cons (pg_sub (pv 0) pe_int set_list) (pgs_cons (pg_name (i := 2) sc_ldigit.nd rfl (.inl rfl)) pgs_nil))))
        (pss_one (ps_ret (pv 2)))) pss_nil)
        (pss_cons (ps_asg (pe_op op_mod (pe_op op_add (pe_op op_mulW (pe_ix ix_list (pv 0) pe_int (fun _ _ => rfl)) pe_int) pe_int) pe_int) (pg_sub (pv 0) pe_int set_list))
        (pss_one (ps_ret (pe_op op_mod (pe_op op_fdivW (pe_op op_mod (pe_op op_mulW (pe_ix ix_list (pv 0) pe_int (fun _ _ => rfl)) (pe_ix ix_list (pv 0) pe_int (fun _ _ => rfl))) pe_int) pe_int) (pv 1)))))), ?_⟩
    have hL : SqL K H p [.int x, .int y] := .inl (.inl hp)
    refine ⟨_, rfl, p, _, 0, _, rfl, rfl, hL, atI_nat (j := 0) rfl, _, _, rfl, rfl, _, rfl, ?_⟩
    refine ite2 (fun c => ?_) (fun c => ?_)
    · have c := of_decide_eq_true c
      refine ⟨_, rfl, p, _, 0, _, rfl, rfl, hL, atI_nat (j := 0) rfl, _, rfl, _, _, rfl, ⟨hm, PyProof.noPylong_of_log2 (Nat.lt_of_lt_of_le (PySem.Flt.log2_lt_of (by decide) bm) (by decide))⟩, fun t nt => ?_⟩
      have npt : p ≠ t := ne_of_none hp nt
      have hp' : (upd H t (.tup [.int (x / m), .int (x % m)])) p = some (.lst [.int x, .int y]) := by rw [upd_ne npt]; exact hp
      refine ⟨t, _, rfl, .inl (.inl upd_same), rfl, _, _, rfl, _, rfl, p, _, _, 0, rfl, rfl, hp', rfl, _, _, rfl, rfl, ?_⟩
      refine ⟨_, rfl, ?_⟩
      refine q _ _ (Int.emod_nonneg x (by omega)) (Int.emod_lt_of_pos x hm) ((Same.x (same_new nt)).trans samex_set) ⟨x / m, y, upd_same, Int.ediv_nonneg (by omega) (by omega), hy, hy2⟩
    · refine ⟨_, rfl, p, _, 1, _, rfl, rfl, hL, atI_nat (j := 1) rfl, _, _, rfl, rfl, ?_, _, _, rfl, rfl, _, _, rfl, rfl, by show (0 : Int) < 2147483563; decide, ?_⟩
      · exact Bt.cmul (n := 32) (m := 32) (Bt.of_lt (by omega) (by omega)) (Bt.of_lt (by decide) (by decide)) (by decide)
      · refine ⟨_, rfl, p, _, _, 1, rfl, rfl, hp, rfl, ?_⟩
        have z0 : 0 ≤ (y * 45763 + 10061) % 2147483563 := Int.emod_nonneg _ (by decide)
        have z1 : (y * 45763 + 10061) % 2147483563 < 2147483563 := Int.emod_lt_of_pos _ (by decide)
        have hL2 : SqL K (upd H p (.lst [.int x, .int ((y * 45763 + 10061) % 2147483563)])) p [.int x, .int ((y * 45763 + 10061) % 2147483563)] := .inl (.inl upd_same)
        refine ⟨_, rfl, p, _, 1, _, rfl, rfl, hL2, atI_nat (j := 1) rfl, _, rfl, p, _, 1, _, rfl, rfl, hL2, atI_nat (j := 1) rfl, _, _, rfl, rfl, ?_, _, _, rfl, rfl, by show (0 : Int) < 2147483477; decide, _, _, rfl, rfl, ?_, _, rfl, _, _, rfl, rfl, hm, ?_⟩
        · exact Bt.cmul (n := 32) (m := 32) (Bt.of_lt (by omega) (by omega)) (Bt.of_lt (by omega) (by omega)) (by decide)
        · exact Bt.cdiv (n := 10) (by decide) (Bt.of_lt (by decide) (by decide)) (by decide)
        · exact q _ _ (Int.emod_nonneg _ (by omega)) (Int.emod_lt_of_pos _ hm) samex_set ⟨x, _, upd_same, hx, z0, by omega⟩
end
end WS

set_option Elab.async false
set_option linter.all false
set_option maxRecDepth 100000
set_option maxHeartbeats 4000000
namespace WS
open PySem PySem.Spec PyProof.Rows L2
/-! all tuples stay -/
def KT (H H' : Hp) : Prop := (∀ a xs, H a = some (.tup xs) → H' a = some (.tup xs)) ∧ (∀ a o xs, H a = some (.frz o (.tup xs)) → H' a = some (.frz o (.tup xs)))
theorem KT.refl (H : Hp) : KT H H := ⟨fun _ _ h => h, fun _ _ _ h => h⟩
theorem KT.trans {H H1 H2 : Hp} (a : KT H H1) (b : KT H1 H2) : KT H H2 := ⟨fun c o h => b.1 c o (a.1 c o h), fun c o x h => b.2 c o x (a.2 c o x h)⟩
theorem kt_same {H H' : Hp} (s : Same H H') : KT H H' := ⟨fun _ _ h => s _ _ h, fun _ _ _ h => s _ _ h⟩
theorem kt_x {p : Addr} {H H' : Hp} (s : SameX p H H') (hp : PotAt H p) : KT H H' := by
  obtain ⟨x, y, hp, _⟩ := hp
  exact ⟨fun a xs h => s _ _ (ne_of h hp (by intro z; cases z)) h, fun a o xs h => s _ _ (ne_of h hp (by intro z; cases z)) h⟩
theorem kt_set {H : Hp} {D : Addr} {xs ys : List V} (h : H D = some (.lst xs)) : KT H (upd H D (.lst ys)) :=
  ⟨fun a zs e => by rw [upd_ne (ne_of e h (by intro z; cases z))]; exact e, fun a o zs e => by rw [upd_ne (ne_of e h (by intro z; cases z))]; exact e⟩
theorem kt_new {H : Hp} {D : Addr} {o : HO} (h : H D = none) : KT H (upd H D o) := kt_same (same_new h)
theorem KT.sqt {K : PySem.W.Frag} {H H' : Hp} {a : Addr} {xs : List V} (e : KT H H') (h : SqT K H a xs) : SqT K H' a xs := by
  rcases h with (h | ⟨o, h⟩) | h
  · exact .inl (.inl (e.1 _ _ h))
  · exact .inl (.inr ⟨o, e.2 _ _ _ h⟩)
  · exact .inr h
theorem TupI.k {K : PySem.W.Frag} {H H' : Hp} {v : V} {a b : Int} (h : TupI K H v a b) (s : KT H H') : TupI K H' v a b := by
  obtain ⟨t, e, h⟩ := h
  exact ⟨t, e, s.sqt h⟩
/-- values that are pairs -/
def Parts (K : PySem.W.Frag) (H : Hp) (rs : List V) (ps : List (Int × Int)) : Prop := rs.length = ps.length ∧ ∀ (i : Nat) v, rs[i]? = some v → ∃ p, ps[i]? = some p ∧ TupI K H v p.1 p.2
theorem Parts.k {K : PySem.W.Frag} {H H' : Hp} {rs : List V} {ps : List (Int × Int)} (h : Parts K H rs ps) (s : KT H H') : Parts K H' rs ps :=
  ⟨h.1, fun i v e => by obtain ⟨p, e1, e2⟩ := h.2 i v e; exact ⟨p, e1, e2.k s⟩⟩
theorem Parts.nil {K : PySem.W.Frag} {H : Hp} : Parts K H [] [] := ⟨rfl, fun i v e => by simp at e⟩
theorem Parts.cons {K : PySem.W.Frag} {H : Hp} {v : V} {rs : List V} {p : Int × Int} {ps : List (Int × Int)} (h : TupI K H v p.1 p.2) (k : Parts K H rs ps) : Parts K H (v :: rs) (p :: ps) :=
  ⟨by simp [k.1], fun i x e => by
    cases i with
    | zero => exact ⟨p, rfl, by have e : v = x := Option.some.inj e; rw [← e]; exact h⟩
    | succ i => exact k.2 i x e⟩
theorem Parts.add {K : PySem.W.Frag} {H : Hp} {v : V} {rs : List V} {p : Int × Int} {ps : List (Int × Int)} (k : Parts K H rs ps) (h : TupI K H v p.1 p.2) : Parts K H (rs ++ [v]) (ps ++ [p]) :=
  ⟨by simp [k.1], fun i x e => by
    by_cases hi : i < rs.length
    · rw [List.getElem?_append_left hi] at e
      obtain ⟨q, e1, e2⟩ := k.2 i x e
      exact ⟨q, by rw [List.getElem?_append_left (by rw [← k.1]; exact hi)]; exact e1, e2⟩
    · rw [List.getElem?_append_right (by omega)] at e
      have hl := k.1
      have z : i - rs.length = 0 := by
        cases hz : i - rs.length with
        | zero => rfl
        | succ n => rw [hz] at e; simp at e
      rw [z] at e
      have e : v = x := Option.some.inj e
      refine ⟨p, ?_, by rw [← e]; exact h⟩
      rw [List.getElem?_append_right (by omega), show i - ps.length = 0 by omega]
      rfl⟩
/-- a number with a below, of at most n bits -/
def Okp (n : Nat) (p : Int × Int) : Prop := 0 < p.2 ∧ Bt n p.1 ∧ Bt n p.2
theorem Okp.mono {n m : Nat} {p : Int × Int} (h : Okp n p) (k : n ≤ m) : Okp m p := ⟨h.1, h.2.1.mono k, h.2.2.mono k⟩
theorem Okp.pl {n m : Nat} {p q : Int × Int} (h : Okp n p) (k : Okp m q) : Okp (n + m + 1) (pl p q) := by
  have hy : 0 < p.2 * q.2 := Int.mul_pos h.1 k.1
  refine ⟨(lo_lowest hy).1, Bt.lo1 ?_, Bt.lo2 ?_⟩
  · have a := h.2.1.mul k.2.2
    have b := (k.2.1.mul h.2.2).mono (show m + n ≤ n + m by omega)
    exact a.add b
  · exact (h.2.2.mul k.2.2).mono (by omega)
theorem fold_okp {n m : Nat} : ∀ (ps : List (Int × Int)) (p : Int × Int), Okp n p → (∀ q ∈ ps, Okp m q) → Okp (n + ps.length * (m + 1)) (ps.foldl pl p)
  | [], p, h, _ => by simpa using h
  | q :: r, p, h, k => by
    have h1 := h.pl (k q (by simp))
    have := fold_okp r (pl p q) h1 (fun x hx => k x (by simp [hx]))
    refine this.mono ?_
    simp only [List.length_cons, Nat.add_mul, Nat.one_mul]
    omega
theorem take_fold {i : Nat} {ps : List (Int × Int)} {p q : Int × Int} (h : ps[i]? = some q) : (ps.take (i + 1)).foldl pl p = pl ((ps.take i).foldl pl p) q := by
  rw [List.take_add_one, h, List.foldl_append]
  rfl
theorem pick {xs : List V} {d : Int} (h0 : 0 ≤ d) (h : d < xs.length) : ∃ v, atI xs d = some v ∧ v ∈ xs :=
  ⟨xs[d.toNat]'(by omega), at_of (j := d.toNat) (by omega) (List.getElem?_eq_getElem _), List.getElem_mem _⟩
def spSum (K : PySem.W.Frag) (n : Nat) : Sp := fun vs H Q _ => ∃ (l : Addr) (rs : List V) (ps : List (Int × Int)), vs = [.ref l] ∧ SqL K H l rs ∧ Parts K H rs ps ∧ (∀ q ∈ ps, Okp n q) ∧ (ps.length + 1) * (n + 1) ≤ 4400 ∧ ∀ v H', Same H H' → TupI K H' v (ps.foldl pl (0, 1)).1 (ps.foldl pl (0, 1)).2 → Q v H'
def spTotal (K : PySem.W.Frag) (n : Nat) : Sp := fun vs H Q _ => ∃ (l : Addr) (u : V) (a b : Int) (rs : List V) (ps : List (Int × Int)), vs = [.ref l, u] ∧ SqT K H l rs ∧ TupI K H u a b ∧ Okp n (a, b) ∧ Parts K H rs ps ∧ (∀ q ∈ ps, Okp n q) ∧ (ps.length + 1) * (n + 1) ≤ 4400 ∧ ∀ v H', Same H H' → TupI K H' v (ps.foldl pl (a, b)).1 (ps.foldl pl (a, b)).2 → Q v H'
def spNum (n : Nat) : Sp := fun vs H Q _ => ∃ p, vs = [.ref p] ∧ PotAt H p ∧ ∀ i H', Bt n i → SameX p H H' → PotAt H' p → Q (.int i) H'
def spDraw (K : PySem.W.Frag) (n : Nat) : Sp := fun vs H Q _ => ∃ p, vs = [.ref p] ∧ PotAt H p ∧ ∀ v a b H', Lowest a b → Bt n a → Bt n b → TupI K H' v a b → SameX p H H' → PotAt H' p → Q v H'
def spIs (K : PySem.W.Frag) : Sp := fun vs H Q _ => ∃ u v a b, vs = [u, v] ∧ TupI K H u a b ∧ TupI K H v a b ∧ Q (.bl true) H
theorem PotAt.ne {H : Hp} {p z : Addr} (h : PotAt H p) (n : H z = none) : z ≠ p := by
  obtain ⟨x, y, e, _⟩ := h
  intro q
  rw [q, e] at n
  cases n
theorem eqv_pair (a b : Int) : PyData.eqv (.tuple [.int a, .int b]) (.tuple [.int a, .int b]) = true := by simp [PyData.eqv, PyData.eqvAll]
theorem share_back {a b i : Int} (h : Lowest a b) (hi : 1 ≤ i) : lo ((lo a (b * i)).1 * i) (lo a (b * i)).2 = (a, b) := by
  have hy : 0 < b * i := Int.mul_pos h.1 (by omega)
  refine lo_eq h (lo_lowest hy).1 ?_
  have c := lo_cross a (b * i)
  calc (lo a (b * i)).1 * i * b = (lo a (b * i)).1 * (b * i) := by simp only [Int.mul_assoc, Int.mul_comm, Int.mul_left_comm]
    _ = a * (lo a (b * i)).2 := c
end WS
set_option Elab.async false
set_option linter.all false
set_option maxRecDepth 100000
set_option maxHeartbeats 4000000
namespace WS
open PySem PySem.Spec PyProof.Rows L2
section
variable {P : Program} {w : World} {K : PySem.W.Frag} {mg : Str → Option Value} {base : Heap}
theorem ok_total (T : Tx K mg) : FnOk P w K mg base CX0 5 T.f_total T.d_total ["row", "start"] (spTotal K 200) := by
  refine T.F_total.ok sc_total (fun vs H Q E h => ?_) (fun cdv A outer s H vs Q E hr h => ?_)
  · obtain ⟨l, u, a, b, rs, ps, rfl, _⟩ := h
    rfl
  · obtain ⟨l, u, a, b, rs, ps, rfl, hR, hu, ha, hP, hk, hn, q⟩ := h
    refine ⟨_, PSs.nox (pss_cons (ps_set (i := 2) sc_total.nd rfl (.inl rfl) (pv 1))
        (pss_cons (ps_for PassesOwn.never rfl (pi_tup (pv 0)) (pg_name (i := 3) sc_total.nd rfl (.inl rfl)) (pss_one (ps_set (i := 2) sc_total.nd rfl (.inl rfl) (pe_call (ok_plus T) (hr.mono (by decide)) (by rfl) T.g_plus T.F_plus.kp T.b_plus .nil pass0 (pa_cons (pv 2) (pa_cons (pv 3) pa_nil))))))
        (pss_one (ps_ret (pv 2))))), ?_⟩
    refine ⟨_, rfl, _, rfl, l, rfl, ⟨_, hR⟩, for_tup (K := K) (a := l) (xs := rs) (fun i σ H' => ∃ v y, σ = [some (.ref l), some u, some v, y] ∧ Same H H' ∧ TupI K H' v ((ps.take i).foldl pl (a, b)).1 ((ps.take i).foldl pl (a, b)).2)
      ⟨u, none, rfl, Same.refl H, hu⟩ (fun i σ H' _ ⟨_, _, _, s, _⟩ => Same.tup s hR) ?_ ?_⟩
    · rintro i x σ H' hx ⟨v, y, rfl, s, hv⟩
      obtain ⟨p, hp, ht⟩ := hP.2 i x hx
      have hi : i < ps.length := by
        rcases Nat.lt_or_ge i ps.length with h | h
        · exact h
        · rw [List.getElem?_eq_none h] at hp; cases hp
      have o1 := fold_okp (ps.take i) (a, b) ha (fun z hz => hk z (List.mem_of_mem_take hz))
      have o2 := hk p (List.mem_of_getElem? hp)
      have o1' : Okp 4400 ((ps.take i).foldl pl (a, b)) := o1.mono (by rw [List.length_take]; have : min i ps.length ≤ ps.length := Nat.min_le_right _ _; have := Nat.mul_le_mul_right 201 this; omega)
      have o2' : Okp 4400 p := o2.mono (by decide)
      refine ⟨_, rfl, _, rfl, _, _, _, _, _, _, rfl, hv, ht.same s, o1'.1, o2'.1, o1'.2.1, o1'.2.2, o2'.2.1, o2'.2.2, fun t H2 st ht2 => ?_⟩
      refine ⟨t, some x, rfl, s.trans st, ?_⟩
      rw [take_fold hp]
      exact ht2
    · rintro σ H' ⟨v, y, rfl, s, hv⟩
      rw [hP.1, List.take_length] at hv
      exact ⟨_, rfl, q v H' s hv⟩
theorem ok_lsum (T : Tx K mg) : FnOk P w K mg base CX0 3 T.f_lsum T.d_lsum ["_law_parts"] (spSum K 200) := by
  refine T.F_lsum.ok sc_lsum (fun vs H Q E h => ?_) (fun cdv A outer s H vs Q E hr h => ?_)
  · obtain ⟨l, rs, ps, rfl, _⟩ := h
    rfl
  · obtain ⟨l, rs, ps, rfl, hR, hP, hk, hn, q⟩ := h
    refine ⟨_, (pss_cons (ps_set (i := 1) sc_lsum.nd rfl (.inl rfl) (pe_tup (pa_cons pe_int (pa_cons pe_int pa_nil))))
        (pss_cons (ps_for PassesOwn.never rfl (pi_list (pv 0)) (pg_name (i := 2) sc_lsum.nd rfl (.inl rfl)) (pss_one (ps_set (i := 1) sc_lsum.nd rfl (.inl rfl) (pe_call (ok_lplus T) (hr.mono (by decide)) (by rfl) T.g_lplus T.F_lplus.kp T.b_lplus .nil pass0 (pa_cons (pv 1) (pa_cons (pv 2) pa_nil))))))
        (pss_one (ps_ret (pv 1))))), ?_⟩
    refine ⟨by show 2 ≤ sizeLine; decide, fun t0 n0 => ?_⟩
    refine ⟨_, rfl, l, rfl, ⟨_, Same.seq (same_new n0) hR⟩, for_list (K := K) (a := l) (xs := rs) (fun i σ H' => ∃ v y, σ = [some (.ref l), some v, y] ∧ Same H H' ∧ TupI K H' v ((ps.take i).foldl pl (0, 1)).1 ((ps.take i).foldl pl (0, 1)).2)
      ⟨_, none, rfl, same_new n0, TupI.new⟩ (fun i σ H' _ ⟨_, _, _, s, _⟩ => s.seq hR) ?_ ?_⟩
    · rintro i x σ H' hx ⟨v, y, rfl, s, hv⟩
      obtain ⟨p, hp, ht⟩ := hP.2 i x hx
      have o1 := fold_okp (n := 200) (ps.take i) (0, 1) ⟨by decide, by unfold Bt; decide +kernel, by unfold Bt; decide +kernel⟩ (fun z hz => hk z (List.mem_of_mem_take hz))
      have o2 := hk p (List.mem_of_getElem? hp)
      have o1' : Okp 4400 ((ps.take i).foldl pl (0, 1)) := o1.mono (by rw [List.length_take]; have : min i ps.length ≤ ps.length := Nat.min_le_right _ _; have := Nat.mul_le_mul_right 201 this; omega)
      have o2' : Okp 4400 p := o2.mono (by decide)
      refine ⟨_, rfl, _, rfl, _, _, _, _, _, _, rfl, hv, ht.same s, o1'.1, o2'.1, o1'.2.1, o1'.2.2, o2'.2.1, o2'.2.2, fun t H2 st ht2 => ?_⟩
      refine ⟨t, some x, rfl, s.trans st, ?_⟩
      rw [take_fold hp]
      exact ht2
    · rintro σ H' ⟨v, y, rfl, s, hv⟩
      rw [hP.1, List.take_length] at hv
      exact ⟨_, rfl, q v H' s hv⟩
theorem ok_lnumber (T : Tx K mg) : FnOk P w K mg base CX0 2 T.f_lnumber T.d_lnumber ["_law_pot_here"] (spNum 170) := by
  refine T.F_lnumber.ok sc_lnumber (fun vs H Q E h => ?_) (fun cdv A outer s H vs Q E hr h => ?_)
  · obtain ⟨p, rfl, _⟩ := h
    rfl
  · obtain ⟨p, rfl, hp, q⟩ := h
    refine ⟨_, (pss_cons (ps_set (i := 1) sc_lnumber.nd rfl (.inl rfl) (pe_op op_add (pe_op op_sub (pe_call (ok_ldigit T) (hr.mono (by decide)) (by rfl) T.g_ldigit T.F_ldigit.kp T.b_ldigit .nil pass0 (pa_cons (pv 0) (pa_cons (pe_op op_sub (pe_op op_mulW pe_int (pe_op op_pow pe_int pe_int)) pe_int) pa_nil))) (pe_op op_pow pe_int pe_int)) pe_int))
        (pss_one (ps_ret (pe_ix ix_list (pe_lst (pa_cons pe_int (pa_cons (pe_op op_sub (pe_call (ok_ldigit T) (hr.mono (by decide)) (by rfl) T.g_ldigit T.F_ldigit.kp T.b_ldigit .nil pass0 (pa_cons (pv 0) (pa_cons pe_int pa_nil))) pe_int) (pa_cons (pe_op op_sub (pe_call (ok_ldigit T) (hr.mono (by decide)) (by rfl) T.g_ldigit T.F_ldigit.kp T.b_ldigit .nil pass0 (pa_cons (pv 0) (pa_cons pe_int pa_nil))) pe_int) (pa_cons (pv 1) pa_nil))))) (pe_call (ok_ldigit T) (hr.mono (by decide)) (by rfl) T.g_ldigit T.F_ldigit.kp T.b_ldigit .nil pass0 (pa_cons (pv 0) (pa_cons pe_int pa_nil))) (fun _ _ => rfl))))), ?_⟩
    have hP : (10 : Int) ^ (50 : Int).toNat < 2 ^ 169 := by decide +kernel
    refine ⟨_, rfl, _, _, rfl, rfl, ⟨by decide, by decide, by decide⟩, _, _, rfl, rfl, ?_, _, _, rfl, rfl, p, _, rfl, hp, by decide +kernel, by unfold Bt; decide +kernel, fun d H1 d0 d1 s1 p1 => ?_⟩
    · exact Bt.cmul (n := 10) (m := 169) (Bt.of_lt (by decide) (by decide)) (by unfold Bt; decide +kernel) (by decide)
    refine ⟨_, _, rfl, rfl, ⟨by decide, by decide, by decide⟩, _, _, rfl, rfl, _, _, rfl, rfl, ?_⟩
    refine ⟨_, rfl, p, _, rfl, p1, by decide, by unfold Bt; decide +kernel, fun e H2 e0 e1 s2 p2 => ?_⟩
    refine ⟨_, _, rfl, rfl, _, rfl, p, _, rfl, p2, by decide, by unfold Bt; decide +kernel, fun f H3 f0 f1 s3 p3 => ?_⟩
    refine ⟨_, _, rfl, rfl, _, rfl, by show 4 ≤ sizeLine; decide, fun l nl => ?_⟩
    have p4 : PotAt (upd H3 l (.lst [.int 0, .int (e - 6), .int (f - 1000), .int (d - 10 ^ (50 : Int).toNat + 1)])) p := p3.same (same_new nl)
    refine ⟨_, rfl, p, _, rfl, p4, by decide, by unfold Bt; decide +kernel, fun g H4 g0 g1 s4 p5 => ?_⟩
    have nlp : l ≠ p := by
      obtain ⟨x, y, hp3, _⟩ := p3
      exact fun z => by rw [z, hp3] at nl; cases nl
    have hL := s4.lst (K := K) nlp (.inl (.inl upd_same))
    obtain ⟨v, hv, hm⟩ := pick (xs := [V.int 0, V.int (e - 6), V.int (f - 1000), V.int (d - 10 ^ (50 : Int).toNat + 1)]) g0 (by simpa using g1)
    refine ⟨l, _, g, v, rfl, rfl, hL, hv, ?_⟩
    have sx : SameX p H H4 := s1.trans (s2.trans (s3.trans ((Same.x (same_new nl)).trans s4)))
    generalize (10 : Int) ^ (50 : Int).toNat = P at *
    simp only [List.mem_cons, List.not_mem_nil, or_false] at hm
    rcases hm with rfl | rfl | rfl | rfl
    · exact q _ _ (Bt.of_lt (by decide) (by decide)) sx p5
    · exact q _ _ (Bt.of_lt (by omega) (by omega)) sx p5
    · exact q _ _ (Bt.of_lt (by omega) (by omega)) sx p5
    · exact q _ _ (Bt.of_lt (by omega) (by omega)) sx p5
theorem ok_lpart (T : Tx K mg) : FnOk P w K mg base CX0 3 T.f_lpart T.d_lpart ["_law_pot_here"] (spDraw K 170) := by
  refine T.F_lpart.ok sc_lpart (fun vs H Q E h => ?_) (fun cdv A outer s H vs Q E hr h => ?_)
  · obtain ⟨p, rfl, _⟩ := h
    rfl
  · obtain ⟨p, rfl, hp, q⟩ := h
    refine ⟨_, (pss_cons (ps_set (i := 1) sc_lpart.nd rfl (.inl rfl) (pe_ix ix_list (pe_lst (pa_cons pe_int (pa_cons (pe_op op_add pe_int (pe_call (ok_ldigit T) (hr.mono (by decide)) (by rfl) T.g_ldigit T.F_ldigit.kp T.b_ldigit .nil pass0 (pa_cons (pv 0) (pa_cons pe_int pa_nil)))) (pa_cons pe_int (pa_cons (pe_op op_add pe_int (pe_call (ok_ldigit T) (hr.mono (by decide)) (by rfl) T.g_ldigit T.F_ldigit.kp T.b_ldigit .nil pass0 (pa_cons (pv 0) (pa_cons (pe_op op_pow pe_int pe_int) pa_nil)))) pa_nil))))) (pe_call (ok_ldigit T) (hr.mono (by decide)) (by rfl) T.g_ldigit T.F_ldigit.kp T.b_ldigit .nil pass0 (pa_cons (pv 0) (pa_cons pe_int pa_nil))) (fun _ _ => rfl)))
        (pss_one (ps_ret (pe_call (ok_llow T) (hr.mono (by decide)) (by rfl) T.g_llow T.F_llow.kp T.b_llow .nil pass0 (pa_cons (pe_call (ok_lnumber T) (hr.mono (by decide)) (by rfl) T.g_lnumber T.F_lnumber.kp T.b_lnumber .nil pass0 (pa_cons (pv 0) pa_nil)) (pa_cons (pv 1) pa_nil)))))), ?_⟩
    have hP : (10 : Int) ^ (30 : Int).toNat < 2 ^ 169 := by decide +kernel
    refine ⟨_, rfl, p, _, rfl, hp, by decide, by unfold Bt; decide +kernel, fun d H1 d0 d1 s1 p1 => ?_⟩
    refine ⟨_, _, rfl, rfl, _, rfl, _, _, rfl, rfl, ⟨by decide, by decide, by decide⟩, p, _, rfl, p1, by decide +kernel, by unfold Bt; decide +kernel, fun e H2 e0 e1 s2 p2 => ?_⟩
    refine ⟨_, _, rfl, rfl, by show 4 ≤ sizeLine; decide, fun l nl => ?_⟩
    have p3 : PotAt (upd H2 l (.lst [.int 1, .int (1 + d), .int 60, .int (1 + e)])) p := p2.same (same_new nl)
    refine ⟨_, rfl, p, _, rfl, p3, by decide, by unfold Bt; decide +kernel, fun g H3 g0 g1 s3 p4 => ?_⟩
    have nlp : l ≠ p := by
      obtain ⟨x, y, hp3, _⟩ := p2
      exact fun z => by rw [z, hp3] at nl; cases nl
    have hL := s3.lst (K := K) nlp (.inl (.inl upd_same))
    obtain ⟨v, hv, hm⟩ := pick (xs := [V.int 1, V.int (1 + d), V.int 60, V.int (1 + e)]) g0 (by simpa using g1)
    refine ⟨l, _, g, v, rfl, rfl, hL, hv, ?_⟩
    have sx : SameX p H H3 := s1.trans (s2.trans ((Same.x (same_new nl)).trans s3))
    have hb : ∃ b : Int, v = .int b ∧ 0 < b ∧ Bt 170 b := by
      generalize (10 : Int) ^ (30 : Int).toNat = P at *
      simp only [List.mem_cons, List.not_mem_nil, or_false] at hm
      rcases hm with rfl | rfl | rfl | rfl
      · exact ⟨_, rfl, by omega, Bt.of_lt (by omega) (by omega)⟩
      · exact ⟨_, rfl, by omega, Bt.of_lt (by omega) (by omega)⟩
      · exact ⟨_, rfl, by omega, Bt.of_lt (by omega) (by omega)⟩
      · exact ⟨_, rfl, by omega, Bt.of_lt (by omega) (by omega)⟩
    obtain ⟨b, rfl, b0, b1⟩ := hb
    refine ⟨_, rfl, p, rfl, p4, fun n H4 hn s4 p5 => ?_⟩
    refine ⟨_, rfl, _, _, rfl, b0, b1.mono (by decide), fun t H5 st ht => ?_⟩
    have lw := lo_lowest (a := n) b0
    exact q _ _ _ _ lw (Bt.lo1 hn) (Bt.lo2 b1) ht (sx.trans (s4.trans (Same.x st))) (p5.same st)
theorem ok_lis_whole (T : Tx K mg) : FnOk P w K mg base CX0 1 T.f_lis_whole T.d_lis_whole ["_law_thing"] (spWhole K) := by
  refine T.F_lis_whole.ok sc_lis_whole (fun vs H Q E h => ?_) (fun cdv A outer s H vs Q E hr h => ?_)
  · obtain ⟨v, b, rfl, _⟩ := h
    rfl
  · obtain ⟨v, b, rfl, ⟨t, b1, b2, ht, k1, k2, rfl⟩, q⟩ := h
    refine ⟨_, (pss_one (ps_ret (pe_and (pe_callB call_isi (by rfl) T.n_isinstance (by decide +kernel) (pa_cons (pv 0) (pa_cons (pe_bltn (v := .ty "int") (by rfl) T.n_int (by decide +kernel) rfl) pa_nil))) (pe_one (pe_not (pe_callB call_isi (by rfl) T.n_isinstance (by decide +kernel) (pa_cons (pv 0) (pa_cons (pe_bltn (v := .ty "bool") (by rfl) T.n_bool (by decide +kernel) rfl) pa_nil)))))))), ?_⟩
    refine ⟨v, rfl, v, _, t, _, b1, rfl, .ty "int", ht, k1, b1, rfl, ?_⟩
    cases b1 with
    | false => exact iteF q
    | true => exact iteT ⟨v, rfl, v, _, t, _, b2, rfl, .ty "bool", ht, k2, b2, rfl, q⟩
theorem ok_lis (T : Tx K mg) : FnOk P w K mg base CX0 2 T.f_lis T.d_lis ["_law_told", "_law_due"] (spIs K) := by
  refine T.F_lis.ok sc_lis (fun vs H Q E h => ?_) (fun cdv A outer s H vs Q E hr h => ?_)
  · obtain ⟨u, v, a, b, rfl, _⟩ := h
    rfl
  · obtain ⟨u, v, a, b, rfl, ⟨t, rfl, ht⟩, ⟨r, rfl, hv⟩, q⟩ := h
    refine ⟨_, (pss_cons (ps_if (PW.pt (pw_or (pt_not (pt_val (pe_callB call_isi (by rfl) T.n_isinstance (by decide +kernel) (pa_cons (pv 0) (pa_cons (pe_bltn (v := .ty "tuple") (by rfl) T.n_tuple (by decide +kernel) rfl) pa_nil))))) (pw_or (pt_cmpR op_ne (pe_callB call_len_seq (by rfl) T.n_len (by decide +kernel) (pa_cons (pv 0) pa_nil)) pe_int (nomark _)) (pw_or (pt_not (pt_val (pe_call (ok_lis_whole T) (hr.mono (by decide)) (by rfl) T.g_lis_whole T.F_lis_whole.kp T.b_lis_whole .nil pass0 (pa_cons (pe_ix ix_tup (pv 0) pe_int (fun _ _ => rfl)) pa_nil)))) (pw_or1 (pt_not (pt_val (pe_call (ok_lis_whole T) (hr.mono (by decide)) (by rfl) T.g_lis_whole T.F_lis_whole.kp T.b_lis_whole .nil pass0 (pa_cons (pe_ix ix_tup (pv 0) pe_int (fun _ _ => rfl)) pa_nil))))))))) (pss_one (ps_ret pe_bl)) pss_nil)
        (pss_one (ps_ret (pe_cmpR (op_eqD hr.units) (pv 0) (pv 1) (nomark _))))), ?_⟩
    refine ⟨_, rfl, _, _, _, _, true, rfl, .ty "tuple", sqt_ty ht, kit_ty (by decide +kernel), true, rfl, iteF ?_⟩
    refine ⟨_, rfl, t, _, rfl, .inr ht, rfl, _, rfl, ?_⟩
    refine iteF ?_
    refine ⟨_, rfl, t, _, 0, _, rfl, rfl, ht, atI_nat (j := 0) rfl, _, _, rfl, whole_int, true, rfl, iteF ?_⟩
    refine ⟨_, rfl, t, _, 1, _, rfl, rfl, ht, atI_nat (j := 1) rfl, _, _, rfl, whole_int, true, rfl, iteF ?_⟩
    refine ⟨_, rfl, _, rfl, .tuple [.int a, .int b], .tuple [.int a, .int b], .tup ht (.cons (.int a) (.cons (.int b) .nil)), .tup hv (.cons (.int a) (.cons (.int b) .nil)), rfl, rfl, ?_⟩
    rw [eqv_pair]
    exact q
end
end WS

set_option Elab.async false
set_option linter.all false
set_option maxRecDepth 100000
set_option maxHeartbeats 4000000
namespace WS
open PySem PySem.Spec PyProof.Rows L2
section
variable {P : Program} {w : World} {K : PySem.W.Frag} {mg : Str → Option Value} {base : Heap}
def spRefused (K : PySem.W.Frag) : Sp := fun vs H Q _ => ∃ u a b m, vs = [u, m] ∧ TupI K H u a b ∧ Bad K H m ∧ Q (.bl true) H
theorem ok_lrefused (T : Tx K mg) : FnOk P w K mg base CX0 5 T.f_lrefused T.d_lrefused ["_law_one_here", "_law_many"] (spRefused K) := by
  refine T.F_lrefused.ok sc_lrefused (fun vs H Q E h => ?_) (fun cdv A outer s H vs Q E hr h => ?_)
  · obtain ⟨u, a, b, m, rfl, _⟩ := h
    rfl
  · obtain ⟨u, a, b, m, rfl, hu, hb, q⟩ := h
    refine ⟨_, pss_cons (ps_try_only rfl rfl ⟨rfl, by decide, .inl T.gc_NoPart⟩ takes0
      (fun W pn xe tk _ => pss_one (ps_expr (pe_callS (ok_shared T) (hr.mono (by decide)) (by rfl) T.g_shared T.F_shared.kp T.b_shared (fun σ => passAt tk σ) (pa_cons (pv 0) (pa_cons (pv 1) pa_nil)))))
      (fun a oe cls d pn _ _ => pss_one (ps_ret pe_bl))) (pss_one (ps_ret pe_bl)), ?_⟩
    refine ⟨_, rfl, _, rfl, u, a, b, m, rfl, hu, .inl ⟨hb, true, PySem.W.exm_ref T.bc_NoPart T.hc_NoPart T.tc_NoPart T.sc_NoPart, fun _ x hx => q, fun z => nomatch z⟩⟩
def spSharedR (K : PySem.W.Frag) : Sp := fun vs H Q _ => ∃ p u a b m, vs = [.ref p, u, .int m] ∧ PotAt H p ∧ TupI K H u a b ∧ Lowest a b ∧ Bt 200 a ∧ Bt 200 b ∧ Bt 200 m ∧ ∀ H', SameX p H H' → PotAt H' p → Q (.bl true) H'
theorem ok_lshared_right (T : Tx K mg) : FnOk P w K mg base CX0 6 T.f_lshared_right T.d_lshared_right ["_law_pot_here", "_law_one_here", "_law_many"] (spSharedR K) := by
  refine T.F_lshared_right.ok sc_lshared_right (fun vs H Q E h => ?_) (fun cdv A outer s H vs Q E hr h => ?_)
  · obtain ⟨p, u, a, b, m, rfl, _⟩ := h
    rfl
  · obtain ⟨p, u, a, b, m, rfl, hp, hu, hl, ba, bb, bm, q⟩ := h
    refine ⟨_, (pss_cons (ps_set (i := 3) sc_lshared_right.nd rfl (.inl rfl) (pe_ix ix_list (pe_lst (pa_cons pe_non (pa_cons pe_bl (pa_cons pe_bl (pa_cons pe_str (pa_cons (pe_tup (pa_cons pe_int (pa_cons pe_int pa_nil))) (pa_cons (pe_lst pa_nil) (pa_cons pe_int (pa_cons (pe_un un_neg pe_int) (pa_cons (pe_op op_sub pe_int (pe_op op_pow pe_int pe_int)) pa_nil)))))))))) (pe_call (ok_ldigit T) (hr.mono (by decide)) (by rfl) T.g_ldigit T.F_ldigit.kp T.b_ldigit .nil pass0 (pa_cons (pv 0) (pa_cons pe_int pa_nil))) (fun _ _ => rfl)))
        (pss_cons (ps_if (pt_not (pt_val (pe_call (ok_lrefused T) (hr.mono (by decide)) (by rfl) T.g_lrefused T.F_lrefused.kp T.b_lrefused .nil pass0 (pa_cons (pv 1) (pa_cons (pv 3) pa_nil))))) (pss_one (ps_ret pe_bl)) pss_nil)
        (pss_cons (ps_if (pt_cmpR op_lt (pv 2) pe_int (nomark _)) (pss_one (ps_ret (pe_call (ok_lrefused T) (hr.mono (by decide)) (by rfl) T.g_lrefused T.F_lrefused.kp T.b_lrefused .nil pass0 (pa_cons (pv 1) (pa_cons (pv 2) pa_nil))))) pss_nil)
        (pss_cons (ps_set (i := 4) sc_lshared_right.nd rfl (.inl rfl) (pe_call (ok_shared T) (hr.mono (by decide)) (by rfl) T.g_shared T.F_shared.kp T.b_shared .nil passL (pa_cons (pv 1) (pa_cons (pv 2) pa_nil))))
        (pss_one (ps_ret (pe_and (pe_call (ok_lis T) (hr.mono (by decide)) (by rfl) T.g_lis T.F_lis.kp T.b_lis .nil pass0 (pa_cons (pv 4) (pa_cons (pe_call (ok_llow T) (hr.mono (by decide)) (by rfl) T.g_llow T.F_llow.kp T.b_llow .nil pass0 (pa_cons (pe_ix ix_tup (pv 1) pe_int (fun _ _ => rfl)) (pa_cons (pe_op op_mulW (pe_ix ix_tup (pv 1) pe_int (fun _ _ => rfl)) (pv 2)) pa_nil))) pa_nil))) (pe_one (pe_call (ok_lis T) (hr.mono (by decide)) (by rfl) T.g_lis T.F_lis.kp T.b_lis .nil pass0 (pa_cons (pe_call (ok_times T) (hr.mono (by decide)) (by rfl) T.g_times T.F_times.kp T.b_times .nil pass0 (pa_cons (pv 4) (pa_cons (pv 2) pa_nil))) (pa_cons (pv 1) pa_nil))))))))))), ?_⟩
    refine ⟨by show 2 ≤ sizeLine; decide, fun t nt => ⟨Nat.zero_le _, fun l nl => ?_⟩⟩
    refine ⟨_, rfl, _, _, rfl, rfl, ⟨by decide, by decide, by decide⟩, _, _, rfl, rfl, by show 9 ≤ sizeLine; decide, fun z nz => ?_⟩
    have pa := hp.same (same_new (o := .tup [.int 2, .int 1]) nt)
    have pb := pa.same (same_new (o := .lst []) nl)
    have pc := pb.same (same_new (o := .lst [.non, .bl true, .bl false, .str "2", .ref t, .ref l, .int 0, .int (-1), .int (0 - 10 ^ (30 : Int).toNat)]) nz)
    refine ⟨_, rfl, p, _, rfl, pc, by decide, by unfold Bt; decide +kernel, fun d H1 d0 d1 s2 p2 => ?_⟩
    have hz := s2.lst (K := K) (pb.ne nz) (.inl (.inl upd_same))
    have sx : SameX p H H1 := (Same.x (same_new nt)).trans ((Same.x (same_new nl)).trans ((Same.x (same_new nz)).trans s2))
    have hu1 := hu.x sx hp
    have ht : SqT K H1 t [.int 2, .int 1] := s2.tup pc (Same.tup (same_new nz) (Same.tup (same_new nl) (.inl (.inl upd_same))))
    have hll : H1 l = some (.lst []) := s2 l _ (pa.ne nl) (same_new nz _ _ upd_same)
    obtain ⟨v, hv, hm⟩ := pick (xs := [V.non, .bl true, .bl false, .str "2", .ref t, .ref l, .int 0, .int (-1), .int (0 - 10 ^ (30 : Int).toNat)]) d0 (by simpa using d1)
    refine ⟨z, _, d, v, rfl, rfl, hz, hv, ?_⟩
    have bad : Bad K H1 v := by
      have hP : 0 < (10 : Int) ^ (30 : Int).toNat := by decide +kernel
      generalize (10 : Int) ^ (30 : Int).toNat = P at *
      simp only [List.mem_cons, List.not_mem_nil, or_false] at hm
      rcases hm with rfl | rfl | rfl | rfl | rfl | rfl | rfl | rfl | rfl
      · exact .inl whole_non
      · exact .inl whole_bl
      · exact .inl whole_bl
      · exact .inl whole_str
      · exact .inl (whole_tup ht)
      · exact .inl (whole_lst hll)
      · exact .inr ⟨_, rfl, by omega⟩
      · exact .inr ⟨_, rfl, by omega⟩
      · exact .inr ⟨_, rfl, by omega⟩
    refine ⟨_, rfl, _, rfl, u, a, b, v, rfl, hu1, bad, true, rfl, iteF ?_⟩
    refine ⟨_, rfl, _, _, rfl, rfl, _, rfl, ?_⟩
    refine ite2 (fun c => ?_) (fun c => ?_)
    · have c := of_decide_eq_true c
      exact ⟨_, rfl, _, rfl, u, a, b, _, rfl, hu1, .inr ⟨m, rfl, c⟩, q _ sx p2⟩
    · have c : ¬ m < 1 := fun z => c (decide_eq_true z)
      obtain ⟨ut, rfl, hut⟩ := hu1
      have hmul : 0 < b * m := Int.mul_pos hl.1 (by omega)
      refine ⟨_, rfl, _, rfl, _, a, b, _, rfl, ⟨ut, rfl, hut⟩, .inr ⟨m, rfl, by omega, hl.1, ba.mono (by decide), bb.mono (by decide), bm.mono (by decide), fun r H2 sr hr2 => ?_⟩⟩
      have k1 : SqT K H2 ut [.int a, .int b] := Same.tup sr hut
      refine ⟨_, rfl, _, rfl, ut, _, 0, _, rfl, rfl, k1, atI_nat (j := 0) rfl, _, rfl, ut, _, 1, _, rfl, rfl, k1, atI_nat (j := 1) rfl, _, rfl, _, _, rfl, rfl, bb.cmul bm (by decide), _, _, rfl, hmul, (bb.mul bm).mono (by decide), fun r2 H3 sr2 hr3 => ?_⟩
      have k2 := hr2.same sr2
      refine ⟨_, _, _, _, rfl, k2, hr3, true, rfl, iteT ?_⟩
      refine ⟨_, rfl, _, rfl, _, _, _, m, rfl, k2, (lo_lowest hmul).1, (Bt.lo1 ba).mono (by decide), (Bt.lo2 (bb.mul bm)).mono (by decide), bm.mono (by decide), fun r3 H4 sr3 hr4 => ?_⟩
      rw [share_back hl (by omega)] at hr4
      refine ⟨_, rfl, _, _, _, _, rfl, hr4, ⟨ut, rfl, Same.tup sr3 (Same.tup sr2 k1)⟩, ?_⟩
      exact q _ (sx.trans (Same.x (sr.trans (sr2.trans sr3)))) (p2.same (sr.trans (sr2.trans sr3)))
def spTotalR (K : PySem.W.Frag) : Sp := fun vs H Q _ => ∃ (l : Addr) (u : V) (a b : Int) (rs : List V) (ps : List (Int × Int)), vs = [.ref l, u] ∧ H l = some (.lst rs) ∧ TupI K H u a b ∧ Lowest a b ∧ Okp 200 (a, b) ∧ Parts K H rs ps ∧ (∀ q ∈ ps, Okp 200 q) ∧ ps.length ≤ 9 ∧ ∀ H', Same H H' → Q (.bl true) H'
theorem pl_zero {a b : Int} (h : Lowest a b) : pl (0, 1) (a, b) = (a, b) := by
  show lo (0 * b + a * 1) (1 * b) = (a, b)
  rw [Int.zero_mul, Int.zero_add, Int.mul_one, Int.one_mul]
  exact lo_of h
theorem ok_ltotal_right (T : Tx K mg) : FnOk P w K mg base CX0 6 T.f_ltotal_right T.d_ltotal_right ["_law_row", "_law_begin"] (spTotalR K) := by
  refine T.F_ltotal_right.ok sc_ltotal_right (fun vs H Q E h => ?_) (fun cdv A outer s H vs Q E hr h => ?_)
  · obtain ⟨l, u, a, b, rs, ps, rfl, _⟩ := h
    rfl
  · obtain ⟨l, u, a, b, rs, ps, rfl, hR, hu, hl, ha, hP, hk, hn, q⟩ := h
    refine ⟨_, (pss_cons (ps_set (i := 2) sc_ltotal_right.nd rfl (.inl rfl) (pe_callTy call_tuple_of (by rfl) T.n_tuple (by decide +kernel) (pa_cons (pv 0) pa_nil)))
        (pss_cons (ps_if (PW.pt (pw_or (pt_not (pt_val (pe_call (ok_lis T) (hr.mono (by decide)) (by rfl) T.g_lis T.F_lis.kp T.b_lis .nil pass0 (pa_cons (pe_call (ok_total T) (hr.mono (by decide)) (by rfl) T.g_total T.F_total.kp T.b_total T.vb_total pass0 (pa_cons (pv 2) pa_nil)) (pa_cons (pe_call (ok_lsum T) (hr.mono (by decide)) (by rfl) T.g_lsum T.F_lsum.kp T.b_lsum .nil pass0 (pa_cons (pv 0) pa_nil)) pa_nil))))) (pw_or1 (pt_not (pt_val (pe_call (ok_lis T) (hr.mono (by decide)) (by rfl) T.g_lis T.F_lis.kp T.b_lis .nil pass0 (pa_cons (pe_callN (ok_total T) (hr.mono (by decide)) (by rfl) T.g_total T.F_total.kp T.kb_total pass0 (pa_cons (pv 2) pa_nil) (pk_cons (pv 1) pk_nil)) (pa_cons (pe_call (ok_lsum T) (hr.mono (by decide)) (by rfl) T.g_lsum T.F_lsum.kp T.b_lsum .nil pass0 (pa_cons (pe_op op_cat (pe_lst (pa_cons (pv 1) pa_nil)) (pv 0)) pa_nil)) pa_nil)))))))) (pss_one (ps_ret pe_bl)) pss_nil)
        (pss_one (ps_ret (pe_and (pe_call (ok_lis T) (hr.mono (by decide)) (by rfl) T.g_lis T.F_lis.kp T.b_lis .nil pass0 (pa_cons (pe_call (ok_total T) (hr.mono (by decide)) (by rfl) T.g_total T.F_total.kp T.b_total T.vb_total pass0 (pa_cons (pe_tup pa_nil) pa_nil)) (pa_cons (pe_tup (pa_cons pe_int (pa_cons pe_int pa_nil))) pa_nil))) (pe_one (pe_call (ok_lis T) (hr.mono (by decide)) (by rfl) T.g_lis T.F_lis.kp T.b_lis .nil pass0 (pa_cons (pe_callN (ok_total T) (hr.mono (by decide)) (by rfl) T.g_total T.F_total.kp T.kb_total pass0 (pa_cons (pe_tup pa_nil) pa_nil) (pk_cons (pv 1) pk_nil)) (pa_cons (pv 1) pa_nil))))))))), ?_⟩
    have z0 : Okp 200 (0, 1) := ⟨by decide, by unfold Bt; decide +kernel, by unfold Bt; decide +kernel⟩
    refine ⟨_, rfl, l, rs, rfl, .inl ⟨.inl (.inl hR), fun t nt => ?_⟩⟩
    have s1 : Same H (upd H t (.tup rs)) := same_new nt
    refine ⟨_, rfl, t, _, 0, 1, rs, ps, rfl, .inl (.inl upd_same), ⟨T.a0, rfl, T.t0 _⟩, z0, hP.k (kt_same s1), hk, by omega, fun v H2 s2 hv => ?_⟩
    refine ⟨_, rfl, l, rs, ps, rfl, .inl (.inl (s2 _ _ (s1 _ _ hR))), hP.k (kt_same (s1.trans s2)), hk, by omega, fun v3 H3 s3 hv3 => ?_⟩
    refine ⟨_, _, _, _, rfl, hv.same s3, hv3, true, rfl, iteF ?_⟩
    have s13 : Same H H3 := s1.trans (s2.trans s3)
    refine ⟨_, rfl, _, rfl, rfl, rfl, t, u, a, b, rs, ps, rfl, .inl (.inl (s3 _ _ (s2 _ _ upd_same))), hu.same s13, ha, hP.k (kt_same s13), hk, by omega, fun v4 H4 s4 hv4 => ?_⟩
    refine ⟨_, rfl, by show 1 ≤ sizeLine; decide, fun m nm => ?_⟩
    have s14 : Same H (upd H4 m (.lst [u])) := s13.trans (s4.trans (same_new nm))
    refine ⟨_, rfl, m, l, [u], rs, rfl, rfl, upd_same, s14 _ _ hR, ?_, fun m2 nm2 => ?_⟩
    · rw [hP.1]
      exact Nat.le_of_lt (small1000 (by show 1 + ps.length ≤ 1000; omega))
    have s15 := s14.trans (same_new (o := .lst ([u] ++ rs)) nm2)
    refine ⟨m2, u :: rs, (a, b) :: ps, rfl, .inl (.inl upd_same), Parts.cons (hu.same s15) (hP.k (kt_same s15)), ?_, by simp only [List.length_cons]; omega, fun v5 H5 s5 hv5 => ?_⟩
    · intro q hq
      rcases List.mem_cons.mp hq with e | hq
      · rw [e]; exact ha
      · exact hk q hq
    have e5 : List.foldl pl (0, 1) ((a, b) :: ps) = List.foldl pl (a, b) ps := by rw [List.foldl_cons, pl_zero hl]
    rw [e5] at hv5
    refine ⟨_, _, _, _, rfl, hv4.same ((same_new nm).trans ((same_new nm2).trans s5)), hv5, true, rfl, iteF ?_⟩
    have s16 := s15.trans s5
    refine ⟨Nat.zero_le _, fun e ne => ?_⟩
    have s17 := s16.trans (same_new (o := .tup []) ne)
    refine ⟨e, _, 0, 1, [], [], rfl, .inl (.inl upd_same), ⟨T.a0, rfl, T.t0 _⟩, z0, Parts.nil, fun q hq => by simp at hq, by decide, fun v6 H6 s6 hv6 => ?_⟩
    refine ⟨by show 2 ≤ sizeLine; decide, fun r nr => ?_⟩
    refine ⟨_, _, _, _, rfl, hv6.same (same_new nr), TupI.new, true, rfl, iteT ?_⟩
    refine ⟨Nat.zero_le _, fun e2 ne2 => ⟨_, rfl, rfl, rfl, ?_⟩⟩
    have s18 := s17.trans (s6.trans ((same_new (o := .tup [.int 0, .int 1]) nr).trans (same_new (o := .tup []) ne2)))
    refine ⟨e2, u, a, b, [], [], rfl, .inl (.inl upd_same), hu.same s18, ha, Parts.nil, fun q hq => by simp at hq, by decide, fun v7 H7 s7 hv7 => ?_⟩
    refine ⟨_, rfl, _, _, _, _, rfl, hv7, hu.same (s18.trans s7), ?_⟩
    exact q _ (s18.trans s7)
end
end WS

set_option Elab.async false
set_option linter.all false
set_option maxRecDepth 100000
set_option maxHeartbeats 4000000
namespace WS
open PySem PySem.Spec PyProof.Rows L2
section
variable {P : Program} {w : World} {K : PySem.W.Frag} {mg : Str → Option Value} {base : Heap}
theorem tyes {σ : L2.St} {H : Hp} {F : Bool → Hp → Prop} (h : F true H) : tYes σ H F := h
def spOne : Sp := fun vs H Q _ => ∃ p, vs = [.ref p] ∧ PotAt H p ∧ ∀ H', SameX p H H' → Q (.bl true) H'
theorem ok_lone (T : Tx K mg) : FnOk P w K mg base CX0 7 T.f_lone T.d_lone ["_law_pot_here"] spOne := by
  refine T.F_lone.ok sc_lone (fun vs H Q E h => ?_) (fun cdv A outer s H vs Q E hr h => ?_)
  · obtain ⟨p, rfl, _⟩ := h
    rfl
  · obtain ⟨p, rfl, hp, q⟩ := h
    refine ⟨_, (pss_cons (ps_setLc (i := 1) (own := [("_law_k", 5)]) (g := gName 5) (tt := tYes) (by rfl) sc_lone.nd rfl rfl (sw_true rfl rfl rfl (by decide +kernel)) (pi_range1 (by rfl) T.n_range (pa_cons (pe_call (ok_ldigit T) (hr.mono (by decide)) (by rfl) T.g_ldigit T.F_ldigit.kp T.b_ldigit .nil pass0 (pa_cons (pv 0) (pa_cons pe_int pa_nil))) pa_nil)) (blkOk_by (own := [("_law_k", 5)]) (N := ["_law_pot_here", "_law_row", "_law_one_here", "_law_other", "_law_many", "_law_k"]) (sc := defScope s_lone) (by decide +kernel)) (fun _ _ _ _ _ => (pg_name (i := 5) sc_lone.nd rfl (.inl rfl))) (fun _ _ _ _ _ => pts_nil) (fun _ _ _ _ _ => (pe_call (ok_lpart T) (hr.mono (by decide)) (by rfl) T.g_lpart T.F_lpart.kp T.b_lpart .nil pass0 (pa_cons (pv 0) pa_nil))))
        (pss_cons (ps_par (i := 2) (j := 3) (by rfl) sc_lone.nd rfl rfl (by decide) rfl rfl (pa_cons (pe_call (ok_lpart T) (hr.mono (by decide)) (by rfl) T.g_lpart T.F_lpart.kp T.b_lpart .nil pass0 (pa_cons (pv 0) pa_nil)) (pa_cons (pe_call (ok_lpart T) (hr.mono (by decide)) (by rfl) T.g_lpart T.F_lpart.kp T.b_lpart .nil pass0 (pa_cons (pv 0) pa_nil)) pa_nil)) (by rfl))
        (C8.pss_cut (ps_if (pt_cmpR op_eq (pe_call (ok_ldigit T) (hr.mono (by decide)) (by rfl) T.g_ldigit T.F_ldigit.kp T.b_ldigit .nil pass0 (pa_cons (pv 0) (pa_cons pe_int pa_nil))) pe_int (nomark _)) (pss_one (ps_set (i := 3) sc_lone.nd rfl (.inl rfl) (pe_ix ix_list (pe_lst (pa_cons (pv 2) (pa_cons (pe_tup (pa_cons (pe_op op_sub pe_int (pe_ix ix_tup (pv 2) pe_int (fun _ _ => rfl))) (pa_cons (pe_ix ix_tup (pv 2) pe_int (fun _ _ => rfl)) pa_nil))) pa_nil))) (pe_call (ok_ldigit T) (hr.mono (by decide)) (by rfl) T.g_ldigit T.F_ldigit.kp T.b_ldigit .nil pass0 (pa_cons (pv 0) (pa_cons pe_int pa_nil))) (fun _ _ => rfl)))) pss_nil)
        (pss_cons (ps_set (i := 4) sc_lone.nd rfl (.inl rfl) (pe_ix ix_list (pe_lst (pa_cons (pe_call (ok_ldigit T) (hr.mono (by decide)) (by rfl) T.g_ldigit T.F_ldigit.kp T.b_ldigit .nil pass0 (pa_cons (pv 0) (pa_cons pe_int pa_nil))) (pa_cons (pe_op op_sub pe_int (pe_call (ok_ldigit T) (hr.mono (by decide)) (by rfl) T.g_ldigit T.F_ldigit.kp T.b_ldigit .nil pass0 (pa_cons (pv 0) (pa_cons pe_int pa_nil)))) (pa_cons (pe_call (ok_ldigit T) (hr.mono (by decide)) (by rfl) T.g_ldigit T.F_ldigit.kp T.b_ldigit .nil pass0 (pa_cons (pv 0) (pa_cons (pe_op op_pow pe_int pe_int) pa_nil))) pa_nil)))) (pe_call (ok_ldigit T) (hr.mono (by decide)) (by rfl) T.g_ldigit T.F_ldigit.kp T.b_ldigit .nil pass0 (pa_cons (pv 0) (pa_cons pe_int pa_nil))) (fun _ _ => rfl)))
        (pss_cons (ps_if (PW.pt (pw_or (pt_not (pt_val (pe_call (ok_lis T) (hr.mono (by decide)) (by rfl) T.g_lis T.F_lis.kp T.b_lis .nil pass0 (pa_cons (pe_call (ok_plus T) (hr.mono (by decide)) (by rfl) T.g_plus T.F_plus.kp T.b_plus .nil pass0 (pa_cons (pv 2) (pa_cons (pv 3) pa_nil))) (pa_cons (pe_call (ok_lplus T) (hr.mono (by decide)) (by rfl) T.g_lplus T.F_lplus.kp T.b_lplus .nil pass0 (pa_cons (pv 2) (pa_cons (pv 3) pa_nil))) pa_nil))))) (pw_or1 (pt_not (pt_val (pe_call (ok_lis T) (hr.mono (by decide)) (by rfl) T.g_lis T.F_lis.kp T.b_lis .nil pass0 (pa_cons (pe_call (ok_plus T) (hr.mono (by decide)) (by rfl) T.g_plus T.F_plus.kp T.b_plus .nil pass0 (pa_cons (pv 3) (pa_cons (pv 2) pa_nil))) (pa_cons (pe_call (ok_lplus T) (hr.mono (by decide)) (by rfl) T.g_lplus T.F_lplus.kp T.b_lplus .nil pass0 (pa_cons (pv 2) (pa_cons (pv 3) pa_nil))) pa_nil)))))))) (pss_one (ps_ret pe_bl)) pss_nil)
        (pss_cons (ps_if (pt_not (pt_val (pe_call (ok_lis T) (hr.mono (by decide)) (by rfl) T.g_lis T.F_lis.kp T.b_lis .nil pass0 (pa_cons (pe_call (ok_minus T) (hr.mono (by decide)) (by rfl) T.g_minus T.F_minus.kp T.b_minus .nil pass0 (pa_cons (pv 2) (pa_cons (pv 3) pa_nil))) (pa_cons (pe_call (ok_lplus T) (hr.mono (by decide)) (by rfl) T.g_lplus T.F_lplus.kp T.b_lplus .nil pass0 (pa_cons (pv 2) (pa_cons (pe_tup (pa_cons (pe_op op_sub pe_int (pe_ix ix_tup (pv 3) pe_int (fun _ _ => rfl))) (pa_cons (pe_ix ix_tup (pv 3) pe_int (fun _ _ => rfl)) pa_nil))) pa_nil))) pa_nil))))) (pss_one (ps_ret pe_bl)) pss_nil)
        (pss_cons (ps_if (pt_not (pt_val (pe_call (ok_lis T) (hr.mono (by decide)) (by rfl) T.g_lis T.F_lis.kp T.b_lis .nil pass0 (pa_cons (pe_call (ok_times T) (hr.mono (by decide)) (by rfl) T.g_times T.F_times.kp T.b_times .nil pass0 (pa_cons (pv 2) (pa_cons (pv 4) pa_nil))) (pa_cons (pe_call (ok_llow T) (hr.mono (by decide)) (by rfl) T.g_llow T.F_llow.kp T.b_llow .nil pass0 (pa_cons (pe_op op_mulW (pe_ix ix_tup (pv 2) pe_int (fun _ _ => rfl)) (pv 4)) (pa_cons (pe_ix ix_tup (pv 2) pe_int (fun _ _ => rfl)) pa_nil))) pa_nil))))) (pss_one (ps_ret pe_bl)) pss_nil)
        (pss_one (ps_ret (pe_and (pe_call (ok_lshared_right T) (hr.mono (by decide)) (by rfl) T.g_lshared_right T.F_lshared_right.kp T.b_lshared_right .nil pass0 (pa_cons (pv 0) (pa_cons (pv 2) (pa_cons (pv 4) pa_nil)))) (pe_one (pe_call (ok_ltotal_right T) (hr.mono (by decide)) (by rfl) T.g_ltotal_right T.F_ltotal_right.kp T.b_ltotal_right .nil pass0 (pa_cons (pv 1) (pa_cons (pv 2) pa_nil)))))))))))))), ?_⟩
    refine ⟨_, rfl, p, _, rfl, hp, by decide, by unfold Bt; decide +kernel, fun n H1 n0 n1 s1 p1 => ?_⟩
    refine ⟨n, rfl, by omega, by omega, fun D nD => ?_⟩
    have nDp := p1.ne nD
    refine lc_range (lo := 0) (n := n.toNat) (fun i H' => ∃ rs ps, H' D = some (.lst rs) ∧ rs.length = i ∧ Parts K H' rs ps ∧ (∀ q ∈ ps, Okp 200 q) ∧ SameX p H H' ∧ PotAt H' p)
      ⟨[], [], upd_same, rfl, Parts.nil, fun q hq => by simp at hq, s1.trans (Same.x (same_new nD)), p1.same (same_new nD)⟩ ?_ ?_
    · rintro i H' hi ⟨rs, ps, hD, hl, hP, hk, sx, pp⟩
      refine ⟨rfl, tyes ?_⟩
      refine iteT ?_
      refine ⟨_, rfl, p, rfl, pp, fun v a b H2 lw ba bb tv s2 p2 => ?_⟩
      have hD2 : H2 D = some (.lst rs) := s2 D _ nDp hD
      refine ⟨rs, hD2, small1000 (by omega), ?_⟩
      refine ⟨rs ++ [v], ps ++ [(a, b)], upd_same, by simp [hl], ((hP.k (kt_x s2 pp)).add tv).k (kt_set hD2), ?_, fun c o nc e => ?_, ?_⟩
      · intro q hq
        rcases List.mem_append.mp hq with hq | hq
        · exact hk q hq
        · rw [List.mem_singleton.mp hq]
          exact ⟨lw.1, ba.mono (by decide), bb.mono (by decide)⟩
      · by_cases hc : c = D
        · subst hc
          exact absurd (s1 _ _ nc e) (by rw [nD]; simp)
        · rw [upd_ne hc]
          exact s2 _ _ nc (sx _ _ nc e)
      · obtain ⟨x, y, e, r⟩ := p2
        exact ⟨x, y, by rw [upd_ne nDp.symm]; exact e, r⟩
    · rintro H' ⟨rs, ps, hD, hl, hP, hk, sx, pp⟩
      have hlen : ps.length ≤ 9 := by rw [← hP.1, hl]; omega
      refine ⟨_, rfl, p, rfl, pp, fun v a b H2 lw ba bb tv s2 p2 => ?_⟩
      refine ⟨_, rfl, p, rfl, p2, fun v' c d H3 lw' bc bd tv' s3 p3 => ⟨_, _, rfl, ?_⟩⟩
      have hD3 : H3 D = some (.lst rs) := s3 D _ nDp (s2 D _ nDp hD)
      have k3 : KT H' H3 := (kt_x s2 pp).trans (kt_x s3 p2)
      have sx3 := sx.trans (s2.trans s3)
      refine ⟨fun σ' H'' => ∃ o c d, σ' = [some (.ref p), some (.ref D), some v, some o, none, none] ∧ KT H3 H'' ∧ SameX p H H'' ∧ PotAt H'' p ∧ H'' D = some (.lst rs) ∧ TupI K H'' o c d ∧ Okp 170 (c, d), ?_, ?_⟩
      · refine ⟨_, rfl, p, _, rfl, p3, by decide, by unfold Bt; decide +kernel, fun e H4 e0 e1 s4 p4 => ?_⟩
        refine ⟨rfl, _, rfl, ite2 (fun z => ?_) (fun z => ?_)⟩
        · obtain ⟨vt, rfl, hvt⟩ := (tv.x s3 p2).x s4 p3
          refine ⟨_, rfl, _, rfl, vt, _, 0, _, rfl, rfl, hvt, atI_nat (j := 0) rfl, _, _, rfl, rfl, _, rfl, vt, _, 1, _, rfl, rfl, hvt, atI_nat (j := 1) rfl, by show 2 ≤ sizeLine; decide, fun t nt => ?_⟩
          refine ⟨by show 2 ≤ sizeLine; decide, fun l nl => ?_⟩
          have p5 := p4.same (same_new (o := .tup [.int (0 - a), .int b]) nt)
          have p6 := p5.same (same_new (o := .lst [.ref vt, .ref t]) nl)
          refine ⟨_, rfl, p, _, rfl, p6, by decide, by unfold Bt; decide +kernel, fun g H5 g0 g1 s5 p7 => ?_⟩
          have hL := s5.lst (K := K) (p5.ne nl) (.inl (.inl upd_same))
          obtain ⟨x, hx, hm⟩ := pick (xs := [V.ref vt, V.ref t]) g0 (by simpa using g1)
          refine ⟨l, _, g, x, rfl, rfl, hL, hx, ?_⟩
          have k5 : KT H4 H5 := (kt_new nt).trans ((kt_new nl).trans (kt_x s5 p6))
          have hD5 : H5 D = some (.lst rs) := s5 D _ nDp (same_new nl _ _ (same_new nt _ _ (s4 D _ nDp hD3)))
          have sx5 : SameX p H H5 := sx3.trans (s4.trans ((Same.x (same_new nt)).trans ((Same.x (same_new nl)).trans s5)))
          simp only [List.mem_cons, List.not_mem_nil, or_false] at hm
          rcases hm with rfl | rfl
          · exact ⟨_, a, b, rfl, (kt_x s4 p3).trans k5, sx5, p7, hD5, ⟨vt, rfl, k5.sqt hvt⟩, lw.1, ba, bb⟩
          · refine ⟨_, 0 - a, b, rfl, (kt_x s4 p3).trans k5, sx5, p7, hD5, ⟨t, rfl, (kt_x s5 p6).sqt ((kt_new nl).sqt (.inl (.inl upd_same)))⟩, lw.1, ?_, bb⟩
            show (0 - a).natAbs < 2 ^ 170
            rw [Int.zero_sub, Int.natAbs_neg]
            exact ba
        · exact ⟨v', c, d, rfl, kt_x s4 p3, sx3.trans s4, p4, s4 D _ nDp hD3, tv'.x s4 p3, lw'.1, bc, bd⟩
      · rintro σ' H4 ⟨o, c, d, rfl, k4, sx4, p4, hD4, ho, okc⟩
        have hv4 : TupI K H4 v a b := (tv.x s3 p2).k k4
        have hP : Parts K H4 rs ps := hP.k (k3.trans k4)
        -- many
        refine ⟨_, rfl, p, _, rfl, p4, by decide, by unfold Bt; decide +kernel, fun e H5 e0 e1 s5 p5 => ?_⟩
        refine ⟨_, rfl, p, _, rfl, p5, by decide, by unfold Bt; decide +kernel, fun f H6 f0 f1 s6 p6 => ⟨_, _, rfl, rfl, ?_⟩⟩
        have h40 : (10 : Int) ^ (40 : Int).toNat < 2 ^ 170 := by decide +kernel
        refine ⟨_, rfl, _, _, rfl, rfl, ⟨by decide, by decide, by decide⟩, p, _, rfl, p6, by decide +kernel, by unfold Bt; decide +kernel, fun g H7 g0 g1 s7 p7 => ?_⟩
        refine ⟨by show 3 ≤ sizeLine; decide, fun l nl => ?_⟩
        have p8 := p7.same (same_new (o := .lst [.int e, .int (0 - f), .int g]) nl)
        refine ⟨_, rfl, p, _, rfl, p8, by decide, by unfold Bt; decide +kernel, fun j H8 j0 j1 s8 p9 => ?_⟩
        have hL := s8.lst (K := K) (p7.ne nl) (.inl (.inl upd_same))
        obtain ⟨x, hx, hm⟩ := pick (xs := [V.int e, V.int (0 - f), V.int g]) j0 (by simpa using j1)
        refine ⟨l, _, j, x, rfl, rfl, hL, hx, ?_⟩
        have s48 : SameX p H4 H8 := s5.trans (s6.trans (s7.trans ((Same.x (same_new nl)).trans s8)))
        have hm : ∃ m : Int, x = .int m ∧ Bt 200 m := by
          generalize (10 : Int) ^ (40 : Int).toNat = P at *
          simp only [List.mem_cons, List.not_mem_nil, or_false] at hm
          rcases hm with rfl | rfl | rfl
          · exact ⟨_, rfl, Bt.of_lt (by omega) (by omega)⟩
          · exact ⟨_, rfl, Bt.of_lt (by omega) (by omega)⟩
          · exact ⟨_, rfl, Bt.of_lt (by omega) (by omega)⟩
        obtain ⟨m, rfl, bm⟩ := hm
        have hv := hv4.x s48 p4
        have ho := ho.x s48 p4
        have hP := hP.k (kt_x s48 p4)
        have hD := s48 D _ nDp hD4
        have sx := sx4.trans s48
        have ba' : Bt 4400 a := ba.mono (by decide)
        have bb' : Bt 4400 b := bb.mono (by decide)
        have bc' : Bt 4400 c := okc.2.1.mono (by decide)
        have bd' : Bt 4400 d := okc.2.2.mono (by decide)
        have hb : 0 < b := lw.1
        have hd : 0 < d := okc.1
        -- plus
        refine ⟨_, rfl, _, rfl, _, _, _, _, _, _, rfl, hv, ho, hb, hd, ba', bb', bc', bd', fun t1 I1 n1 h1 => ?_⟩
        refine ⟨_, rfl, _, rfl, _, _, _, _, _, _, rfl, hv.same n1, ho.same n1, hb, hd, ba', bb', bc', bd', fun t2 I2 n2 h2 => ?_⟩
        refine ⟨_, _, _, _, rfl, h1.same n2, h2, true, rfl, iteF ?_⟩
        have n12 := n1.trans n2
        refine ⟨_, rfl, _, rfl, _, _, _, _, _, _, rfl, ho.same n12, hv.same n12, hd, hb, bc', bd', ba', bb', fun t3 I3 n3 h3 => ?_⟩
        have n13 := n12.trans n3
        refine ⟨_, rfl, _, rfl, _, _, _, _, _, _, rfl, hv.same n13, ho.same n13, hb, hd, ba', bb', bc', bd', fun t4 I4 n4 h4 => ?_⟩
        have n14 := n13.trans n4
        replace h3 : TupI K I3 t3 (lo (c * b + a * d) (d * b)).1 (lo (c * b + a * d) (d * b)).2 := h3
        rw [show lo (c * b + a * d) (d * b) = lo (a * d + c * b) (b * d) by rw [Int.add_comm, Int.mul_comm d b]] at h3
        refine ⟨_, _, _, _, rfl, h3.same n4, h4, true, rfl, iteF ?_⟩
        -- minus
        refine ⟨_, rfl, _, rfl, _, _, _, _, _, _, rfl, hv.same n14, ho.same n14, hb, hd, ba', bb', bc', bd', fun t5 I5 n5 h5 => ?_⟩
        have n15 := n14.trans n5
        obtain ⟨ot, rfl, hot⟩ := ho.same n15
        refine ⟨_, rfl, _, rfl, ot, _, 0, _, rfl, rfl, hot, atI_nat (j := 0) rfl, _, _, rfl, rfl, _, rfl, ot, _, 1, _, rfl, rfl, hot, atI_nat (j := 1) rfl, by show 2 ≤ sizeLine; decide, fun t6 n6 => ?_⟩
        have s6 := n15.trans (same_new (o := .tup [.int (0 - c), .int d]) n6)
        have bnc : Bt 4400 (0 - c) := by rw [Int.zero_sub]; exact bc'.neg
        refine ⟨_, _, _, _, _, _, rfl, hv.same s6, TupI.new, hb, hd, ba', bb', bnc, bd', fun t7 I7 n7 h7 => ?_⟩
        have s7 := s6.trans n7
        replace h7 : TupI K I7 t7 (lo (a * d + (0 - c) * b) (b * d)).1 (lo (a * d + (0 - c) * b) (b * d)).2 := h7
        rw [show lo (a * d + (0 - c) * b) (b * d) = lo (a * d - c * b) (b * d) by rw [Int.zero_sub, Int.neg_mul]; rfl] at h7
        refine ⟨_, _, _, _, rfl, (h5.same (same_new n6)).same n7, h7, true, rfl, iteF ?_⟩
        -- times
        refine ⟨_, rfl, _, rfl, _, _, _, _, rfl, hv.same s7, hb, ba', bb', bm.mono (by decide), fun t8 I8 n8 h8 => ?_⟩
        have s8 := s7.trans n8
        obtain ⟨vt, rfl, hvt⟩ := hv.same s8
        refine ⟨_, rfl, vt, _, 0, _, rfl, rfl, hvt, atI_nat (j := 0) rfl, _, rfl, _, _, rfl, rfl, ba.cmul bm (by decide), _, rfl, vt, _, 1, _, rfl, rfl, hvt, atI_nat (j := 1) rfl, _, _, rfl, hb, bb.mono (by decide), fun t9 I9 n9 h9 => ?_⟩
        have s9 := s8.trans n9
        refine ⟨_, _, _, _, rfl, h8.same n9, h9, true, rfl, iteF ?_⟩
        -- shared, total
        refine ⟨_, rfl, _, rfl, _, rfl, p, _, a, b, m, rfl, p9.same s9, ⟨vt, rfl, Same.tup n9 hvt⟩, lw, ba.mono (by decide), bb.mono (by decide), bm, fun H10 s10 p10 => ⟨true, rfl, iteT ?_⟩⟩
        have k10 : KT H8 H10 := (kt_same s9).trans (kt_x s10 (p9.same s9))
        refine ⟨_, rfl, _, rfl, D, _, a, b, rs, ps, rfl, s10 D _ nDp (s9 _ _ hD), ?_, lw, ⟨lw.1, ba.mono (by decide), bb.mono (by decide)⟩, hP.k k10, hk, hlen, fun H11 s11 => ?_⟩
        · exact (kt_x s10 (p9.same s9)).sqt (Same.tup n9 hvt) |> fun h => ⟨vt, rfl, h⟩
        · exact q _ (sx.trans ((Same.x s9).trans (s10.trans (Same.x s11))))
def spLaw (K : PySem.W.Frag) : Sp := fun vs H Q _ => ∃ (a : Addr) (ns : List Int), vs = [.ref a] ∧ SqL K H a (ns.map V.int) ∧ ns.length ≤ 63 ∧ ∀ H', Q (.bl true) H'
theorem SqL.up {K : PySem.W.Frag} {H : Hp} {a D : Addr} {xs : List V} {o : HO} (h : SqL K H a xs) (n : a ≠ D) : SqL K (upd H D o) a xs := by
  rcases h with (h | ⟨o', h⟩) | h
  · exact .inl (.inl (by rw [upd_ne n]; exact h))
  · exact .inl (.inr ⟨o', by rw [upd_ne n]; exact h⟩)
  · exact .inr h
/-- the script can be read, whatever the heap, where what it was stays -/
theorem seq_keep {K : PySem.W.Frag} {H H' : Hp} {a : Addr} {xs : List V} (h : SqL K H a xs) (s : ∀ o, H a = some o → H' a = some o) : SqL K H' a xs := by
  rcases h with (h | ⟨o, h⟩) | h
  · exact .inl (.inl (s _ h))
  · exact .inl (.inr ⟨o, s _ h⟩)
  · exact .inr h
theorem all_true : ∀ n : Nat, (List.replicate n true).all id = true
  | 0 => rfl
  | n + 1 => by simp [List.replicate_succ]
theorem ok_law (T : Tx K mg) : FnOk P w K mg base CX0 8 T.f_law T.d_law ["_law_script"] (spLaw K) := by
  refine T.F_law.ok sc_law (fun vs H Q E h => ?_) (fun cdv A outer s H vs Q E hr h => ?_)
  · obtain ⟨a, ns, rfl, _⟩ := h
    rfl
  · obtain ⟨a, ns, rfl, hS, hlen, q⟩ := h
    refine ⟨_, (pss_one (ps_ret (pe_callB (cr_all (by rfl)) (by rfl) T.n_all (by decide +kernel) (pa_cons (pe_lc (own := [("_law_k", 1)]) (g := gName 1) (tt := tYes) (by rfl) sc_law.nd (pi_range1 (by rfl) T.n_range (pa_cons (pe_callB (call_max2 (by rfl)) (by rfl) T.n_max (by decide +kernel) (pa_cons pe_int (pa_cons (pe_callB (call_min2 (by rfl)) (by rfl) T.n_min (by decide +kernel) (pa_cons (pe_callB call_len_seq (by rfl) T.n_len (by decide +kernel) (pa_cons (pv 0) pa_nil)) (pa_cons pe_int pa_nil))) pa_nil))) pa_nil)) (blkOk_by (own := [("_law_k", 1)]) (N := ["_law_script", "_law_k"]) (sc := defScope s_law) (by decide +kernel)) (fun _ _ _ _ _ => (pg_name (i := 1) sc_law.nd rfl (.inl rfl))) (fun _ _ _ _ _ => pts_nil) (fun _ _ _ _ _ => (pe_call (ok_lone T) (hr.mono (by decide)) (by rfl) T.g_lone T.F_lone.kp T.b_lone .nil pass0 (pa_cons (pe_call (ok_lpot T) (hr.mono (by decide)) (by rfl) T.g_lpot T.F_lpot.kp T.b_lpot .nil pass0 (pa_cons (pv 0) (pa_cons (pv 1) pa_nil))) pa_nil)))) pa_nil)))), ?_⟩
    refine ⟨_, rfl, a, _, rfl, .inl hS, _, _, rfl, _, _, rfl, ?_⟩
    rw [List.length_map]
    refine ⟨_, rfl, ?_, ?_, fun D nD => ?_⟩
    · split <;> omega
    · show (if (if (10 : Int) < ns.length then (10 : Int) else ns.length) > 1 then (if (10 : Int) < ns.length then (10 : Int) else ns.length) else 1) < 2 ^ 62
      split <;> split <;> omega
    · generalize hN : (if (if (10 : Int) < ns.length then (10 : Int) else ns.length) > 1 then (if (10 : Int) < ns.length then (10 : Int) else ns.length) else 1).toNat = N
      have hN2 : N ≤ 10 := by rw [← hN]; split <;> split <;> omega
      refine lc_range (lo := 0) (n := N) (fun i H' => H' D = some (.lst ((List.replicate i true).map V.bl)) ∧ ∀ o, H a = some o → H' a = some o) ⟨upd_same, same_new nD a⟩ ?_ ?_
      · rintro i H' hi ⟨hD, hS'⟩
        refine ⟨rfl, tyes ?_⟩
        refine iteT ?_
        refine ⟨_, rfl, _, rfl, a, ns, _, rfl, seq_keep hS hS', by omega, by omega, fun p H2 s2 np hp => ?_⟩
        refine ⟨p, rfl, hp, fun H3 s3 => ?_⟩
        have nDp : D ≠ p := ne_of_none hD np
        have hD3 : H3 D = some (.lst ((List.replicate i true).map V.bl)) := s3 D _ nDp (s2 _ _ hD)
        refine ⟨_, hD3, ?_, ?_, ?_⟩
        · rw [List.length_map, List.length_replicate]
          exact small1000 (by omega)
        · rw [upd_same, List.replicate_succ', List.map_append]
          rfl
        · intro o e
          rw [upd_ne (ne_of_none e nD)]
          exact s3 a o (ne_of_none (hS' o e) np) (s2 a o (hS' o e))
      · rintro H' ⟨hD, hS'⟩
        refine ⟨D, _, rfl, .inl (.inl hD), ?_⟩
        rw [all_true]
        exact q _
end
end WS

set_option Elab.async false
set_option linter.all false
set_option maxRecDepth 100000
set_option maxHeartbeats 4000000
namespace WS
open PySem PySem.Spec PyProof.Rows L2
theorem all_mk {l : PySem.W.OpenLaw} {w : World} {K : PySem.W.Frag} {h : Heap} {mg : Str → Option Value} {fa : Addr} (X : K.In h) (G : h.Ns mainGlobals mg) (hfa : mg "law" = some (.ref fa))
    {f_is_whole : Addr} {od_is_whole an_is_whole : Option Addr} {sl_is_whole : Array (Option Value)} {oc_is_whole dc_is_whole pm_is_whole cd_is_whole ct_is_whole : Value} {kV_is_whole : Value}
    {f_greatest_common : Addr} {od_greatest_common an_greatest_common : Option Addr} {sl_greatest_common : Array (Option Value)} {oc_greatest_common dc_greatest_common pm_greatest_common cd_greatest_common ct_greatest_common : Value} {kV_greatest_common : Value}
    {f_part : Addr} {od_part an_part : Option Addr} {sl_part : Array (Option Value)} {oc_part dc_part pm_part cd_part ct_part : Value} {kV_part : Value}
    {dT_part : Addr} {do_part : Option Addr} {dn_part : Nat} {ds_part : Array (Option Value)} {dt_part : Tok}
    {f_plus : Addr} {od_plus an_plus : Option Addr} {sl_plus : Array (Option Value)} {oc_plus dc_plus pm_plus cd_plus ct_plus : Value} {kV_plus : Value}
    {f_minus : Addr} {od_minus an_minus : Option Addr} {sl_minus : Array (Option Value)} {oc_minus dc_minus pm_minus cd_minus ct_minus : Value} {kV_minus : Value}
    {f_times : Addr} {od_times an_times : Option Addr} {sl_times : Array (Option Value)} {oc_times dc_times pm_times cd_times ct_times : Value} {kV_times : Value}
    {f_shared : Addr} {od_shared an_shared : Option Addr} {sl_shared : Array (Option Value)} {oc_shared dc_shared pm_shared cd_shared ct_shared : Value} {kV_shared : Value}
    {f_total : Addr} {od_total an_total : Option Addr} {sl_total : Array (Option Value)} {oc_total dc_total pm_total cd_total ct_total : Value}
    {kD_total : Addr}
    {f_lpot : Addr} {od_lpot an_lpot : Option Addr} {sl_lpot : Array (Option Value)} {oc_lpot dc_lpot pm_lpot cd_lpot ct_lpot : Value} {kV_lpot : Value}
    {f_ldigit : Addr} {od_ldigit an_ldigit : Option Addr} {sl_ldigit : Array (Option Value)} {oc_ldigit dc_ldigit pm_ldigit cd_ldigit ct_ldigit : Value} {kV_ldigit : Value}
    {f_llow : Addr} {od_llow an_llow : Option Addr} {sl_llow : Array (Option Value)} {oc_llow dc_llow pm_llow cd_llow ct_llow : Value} {kV_llow : Value}
    {f_lplus : Addr} {od_lplus an_lplus : Option Addr} {sl_lplus : Array (Option Value)} {oc_lplus dc_lplus pm_lplus cd_lplus ct_lplus : Value} {kV_lplus : Value}
    {f_lsum : Addr} {od_lsum an_lsum : Option Addr} {sl_lsum : Array (Option Value)} {oc_lsum dc_lsum pm_lsum cd_lsum ct_lsum : Value} {kV_lsum : Value}
    {f_lnumber : Addr} {od_lnumber an_lnumber : Option Addr} {sl_lnumber : Array (Option Value)} {oc_lnumber dc_lnumber pm_lnumber cd_lnumber ct_lnumber : Value} {kV_lnumber : Value}
    {f_lpart : Addr} {od_lpart an_lpart : Option Addr} {sl_lpart : Array (Option Value)} {oc_lpart dc_lpart pm_lpart cd_lpart ct_lpart : Value} {kV_lpart : Value}
    {f_lis_whole : Addr} {od_lis_whole an_lis_whole : Option Addr} {sl_lis_whole : Array (Option Value)} {oc_lis_whole dc_lis_whole pm_lis_whole cd_lis_whole ct_lis_whole : Value} {kV_lis_whole : Value}
    {f_lis : Addr} {od_lis an_lis : Option Addr} {sl_lis : Array (Option Value)} {oc_lis dc_lis pm_lis cd_lis ct_lis : Value} {kV_lis : Value}
    {f_lrefused : Addr} {od_lrefused an_lrefused : Option Addr} {sl_lrefused : Array (Option Value)} {oc_lrefused dc_lrefused pm_lrefused cd_lrefused ct_lrefused : Value} {kV_lrefused : Value}
    {f_lshared_right : Addr} {od_lshared_right an_lshared_right : Option Addr} {sl_lshared_right : Array (Option Value)} {oc_lshared_right dc_lshared_right pm_lshared_right cd_lshared_right ct_lshared_right : Value} {kV_lshared_right : Value}
    {f_ltotal_right : Addr} {od_ltotal_right an_ltotal_right : Option Addr} {sl_ltotal_right : Array (Option Value)} {oc_ltotal_right dc_ltotal_right pm_ltotal_right cd_ltotal_right ct_ltotal_right : Value} {kV_ltotal_right : Value}
    {f_lone : Addr} {od_lone an_lone : Option Addr} {sl_lone : Array (Option Value)} {oc_lone dc_lone pm_lone cd_lone ct_lone : Value} {kV_lone : Value}
    {f_law : Addr} {od_law an_law : Option Addr} {sl_law : Array (Option Value)} {oc_law dc_law pm_law cd_law ct_law : Value} {kV_law : Value}
    {c_NoPart : Addr}
    {a_NOUGHT : Addr} {ao_NOUGHT : Option Addr} {an_NOUGHT : Nat} {as_NOUGHT : Array (Option Value)} {at0_NOUGHT at1_NOUGHT : Tok}
    (a_is_whole : PySem.W.nsIn K mainGlobals "is_whole" = some (some (.ref f_is_whole)))
    (l_is_whole : K.lookup f_is_whole = some ⟨oc_is_whole, od_is_whole, .func (PySem.W.fnOf "is_whole" "is_whole" (defArgs s_is_whole) (defBody s_is_whole) (defScope s_is_whole) .none kV_is_whole dc_is_whole pm_is_whole an_is_whole cd_is_whole ct_is_whole), sl_is_whole⟩)
    (c_is_whole : PySem.W.codeIn K cd_is_whole "is_whole" = true) (k_is_whole : PySem.W.keepIn K (.ref f_is_whole) = true)
    (a_greatest_common : PySem.W.nsIn K mainGlobals "greatest_common" = some (some (.ref f_greatest_common)))
    (l_greatest_common : K.lookup f_greatest_common = some ⟨oc_greatest_common, od_greatest_common, .func (PySem.W.fnOf "greatest_common" "greatest_common" (defArgs s_greatest_common) (defBody s_greatest_common) (defScope s_greatest_common) .none kV_greatest_common dc_greatest_common pm_greatest_common an_greatest_common cd_greatest_common ct_greatest_common), sl_greatest_common⟩)
    (c_greatest_common : PySem.W.codeIn K cd_greatest_common "greatest_common" = true) (k_greatest_common : PySem.W.keepIn K (.ref f_greatest_common) = true)
    (a_part : PySem.W.nsIn K mainGlobals "part" = some (some (.ref f_part)))
    (l_part : K.lookup f_part = some ⟨oc_part, od_part, .func (PySem.W.fnOf "part" "part" (defArgs s_part) (defBody s_part) (defScope s_part) (.ref dT_part) kV_part dc_part pm_part an_part cd_part ct_part), sl_part⟩)
    (c_part : PySem.W.codeIn K cd_part "part" = true) (k_part : PySem.W.keepIn K (.ref f_part) = true)
    (q_part : K.lookup dT_part = some ⟨.type "tuple", do_part, .seq #[.int 1 dt_part] dn_part, ds_part⟩)
    (a_plus : PySem.W.nsIn K mainGlobals "plus" = some (some (.ref f_plus)))
    (l_plus : K.lookup f_plus = some ⟨oc_plus, od_plus, .func (PySem.W.fnOf "plus" "plus" (defArgs s_plus) (defBody s_plus) (defScope s_plus) .none kV_plus dc_plus pm_plus an_plus cd_plus ct_plus), sl_plus⟩)
    (c_plus : PySem.W.codeIn K cd_plus "plus" = true) (k_plus : PySem.W.keepIn K (.ref f_plus) = true)
    (a_minus : PySem.W.nsIn K mainGlobals "minus" = some (some (.ref f_minus)))
    (l_minus : K.lookup f_minus = some ⟨oc_minus, od_minus, .func (PySem.W.fnOf "minus" "minus" (defArgs s_minus) (defBody s_minus) (defScope s_minus) .none kV_minus dc_minus pm_minus an_minus cd_minus ct_minus), sl_minus⟩)
    (c_minus : PySem.W.codeIn K cd_minus "minus" = true) (k_minus : PySem.W.keepIn K (.ref f_minus) = true)
    (a_times : PySem.W.nsIn K mainGlobals "times" = some (some (.ref f_times)))
    (l_times : K.lookup f_times = some ⟨oc_times, od_times, .func (PySem.W.fnOf "times" "times" (defArgs s_times) (defBody s_times) (defScope s_times) .none kV_times dc_times pm_times an_times cd_times ct_times), sl_times⟩)
    (c_times : PySem.W.codeIn K cd_times "times" = true) (k_times : PySem.W.keepIn K (.ref f_times) = true)
    (a_shared : PySem.W.nsIn K mainGlobals "shared" = some (some (.ref f_shared)))
    (l_shared : K.lookup f_shared = some ⟨oc_shared, od_shared, .func (PySem.W.fnOf "shared" "shared" (defArgs s_shared) (defBody s_shared) (defScope s_shared) .none kV_shared dc_shared pm_shared an_shared cd_shared ct_shared), sl_shared⟩)
    (c_shared : PySem.W.codeIn K cd_shared "shared" = true) (k_shared : PySem.W.keepIn K (.ref f_shared) = true)
    (a_total : PySem.W.nsIn K mainGlobals "total" = some (some (.ref f_total)))
    (l_total : K.lookup f_total = some ⟨oc_total, od_total, .func (PySem.W.fnOf "total" "total" (defArgs s_total) (defBody s_total) (defScope s_total) .none (.ref kD_total) dc_total pm_total an_total cd_total ct_total), sl_total⟩)
    (c_total : PySem.W.codeIn K cd_total "total" = true) (k_total : PySem.W.keepIn K (.ref f_total) = true)
    (kd_total : PySem.W.nsIn K kD_total "start" = some (some (.ref a_NOUGHT)))
    (a_lpot : PySem.W.nsIn K mainGlobals "_law_pot" = some (some (.ref f_lpot)))
    (l_lpot : K.lookup f_lpot = some ⟨oc_lpot, od_lpot, .func (PySem.W.fnOf "_law_pot" "_law_pot" (defArgs s_lpot) (defBody s_lpot) (defScope s_lpot) .none kV_lpot dc_lpot pm_lpot an_lpot cd_lpot ct_lpot), sl_lpot⟩)
    (c_lpot : PySem.W.codeIn K cd_lpot "_law_pot" = true) (k_lpot : PySem.W.keepIn K (.ref f_lpot) = true)
    (a_ldigit : PySem.W.nsIn K mainGlobals "_law_digit" = some (some (.ref f_ldigit)))
    (l_ldigit : K.lookup f_ldigit = some ⟨oc_ldigit, od_ldigit, .func (PySem.W.fnOf "_law_digit" "_law_digit" (defArgs s_ldigit) (defBody s_ldigit) (defScope s_ldigit) .none kV_ldigit dc_ldigit pm_ldigit an_ldigit cd_ldigit ct_ldigit), sl_ldigit⟩)
    (c_ldigit : PySem.W.codeIn K cd_ldigit "_law_digit" = true) (k_ldigit : PySem.W.keepIn K (.ref f_ldigit) = true)
    (a_llow : PySem.W.nsIn K mainGlobals "_law_low" = some (some (.ref f_llow)))
    (l_llow : K.lookup f_llow = some ⟨oc_llow, od_llow, .func (PySem.W.fnOf "_law_low" "_law_low" (defArgs s_llow) (defBody s_llow) (defScope s_llow) .none kV_llow dc_llow pm_llow an_llow cd_llow ct_llow), sl_llow⟩)
    (c_llow : PySem.W.codeIn K cd_llow "_law_low" = true) (k_llow : PySem.W.keepIn K (.ref f_llow) = true)
    (a_lplus : PySem.W.nsIn K mainGlobals "_law_plus" = some (some (.ref f_lplus)))
    (l_lplus : K.lookup f_lplus = some ⟨oc_lplus, od_lplus, .func (PySem.W.fnOf "_law_plus" "_law_plus" (defArgs s_lplus) (defBody s_lplus) (defScope s_lplus) .none kV_lplus dc_lplus pm_lplus an_lplus cd_lplus ct_lplus), sl_lplus⟩)
    (c_lplus : PySem.W.codeIn K cd_lplus "_law_plus" = true) (k_lplus : PySem.W.keepIn K (.ref f_lplus) = true)
    (a_lsum : PySem.W.nsIn K mainGlobals "_law_sum" = some (some (.ref f_lsum)))
    (l_lsum : K.lookup f_lsum = some ⟨oc_lsum, od_lsum, .func (PySem.W.fnOf "_law_sum" "_law_sum" (defArgs s_lsum) (defBody s_lsum) (defScope s_lsum) .none kV_lsum dc_lsum pm_lsum an_lsum cd_lsum ct_lsum), sl_lsum⟩)
    (c_lsum : PySem.W.codeIn K cd_lsum "_law_sum" = true) (k_lsum : PySem.W.keepIn K (.ref f_lsum) = true)
    (a_lnumber : PySem.W.nsIn K mainGlobals "_law_number" = some (some (.ref f_lnumber)))
    (l_lnumber : K.lookup f_lnumber = some ⟨oc_lnumber, od_lnumber, .func (PySem.W.fnOf "_law_number" "_law_number" (defArgs s_lnumber) (defBody s_lnumber) (defScope s_lnumber) .none kV_lnumber dc_lnumber pm_lnumber an_lnumber cd_lnumber ct_lnumber), sl_lnumber⟩)
    (c_lnumber : PySem.W.codeIn K cd_lnumber "_law_number" = true) (k_lnumber : PySem.W.keepIn K (.ref f_lnumber) = true)
    (a_lpart : PySem.W.nsIn K mainGlobals "_law_part" = some (some (.ref f_lpart)))
    (l_lpart : K.lookup f_lpart = some ⟨oc_lpart, od_lpart, .func (PySem.W.fnOf "_law_part" "_law_part" (defArgs s_lpart) (defBody s_lpart) (defScope s_lpart) .none kV_lpart dc_lpart pm_lpart an_lpart cd_lpart ct_lpart), sl_lpart⟩)
    (c_lpart : PySem.W.codeIn K cd_lpart "_law_part" = true) (k_lpart : PySem.W.keepIn K (.ref f_lpart) = true)
    (a_lis_whole : PySem.W.nsIn K mainGlobals "_law_is_whole" = some (some (.ref f_lis_whole)))
    (l_lis_whole : K.lookup f_lis_whole = some ⟨oc_lis_whole, od_lis_whole, .func (PySem.W.fnOf "_law_is_whole" "_law_is_whole" (defArgs s_lis_whole) (defBody s_lis_whole) (defScope s_lis_whole) .none kV_lis_whole dc_lis_whole pm_lis_whole an_lis_whole cd_lis_whole ct_lis_whole), sl_lis_whole⟩)
    (c_lis_whole : PySem.W.codeIn K cd_lis_whole "_law_is_whole" = true) (k_lis_whole : PySem.W.keepIn K (.ref f_lis_whole) = true)
    (a_lis : PySem.W.nsIn K mainGlobals "_law_is" = some (some (.ref f_lis)))
    (l_lis : K.lookup f_lis = some ⟨oc_lis, od_lis, .func (PySem.W.fnOf "_law_is" "_law_is" (defArgs s_lis) (defBody s_lis) (defScope s_lis) .none kV_lis dc_lis pm_lis an_lis cd_lis ct_lis), sl_lis⟩)
    (c_lis : PySem.W.codeIn K cd_lis "_law_is" = true) (k_lis : PySem.W.keepIn K (.ref f_lis) = true)
    (a_lrefused : PySem.W.nsIn K mainGlobals "_law_refused" = some (some (.ref f_lrefused)))
    (l_lrefused : K.lookup f_lrefused = some ⟨oc_lrefused, od_lrefused, .func (PySem.W.fnOf "_law_refused" "_law_refused" (defArgs s_lrefused) (defBody s_lrefused) (defScope s_lrefused) .none kV_lrefused dc_lrefused pm_lrefused an_lrefused cd_lrefused ct_lrefused), sl_lrefused⟩)
    (c_lrefused : PySem.W.codeIn K cd_lrefused "_law_refused" = true) (k_lrefused : PySem.W.keepIn K (.ref f_lrefused) = true)
    (a_lshared_right : PySem.W.nsIn K mainGlobals "_law_shared_right" = some (some (.ref f_lshared_right)))
    (l_lshared_right : K.lookup f_lshared_right = some ⟨oc_lshared_right, od_lshared_right, .func (PySem.W.fnOf "_law_shared_right" "_law_shared_right" (defArgs s_lshared_right) (defBody s_lshared_right) (defScope s_lshared_right) .none kV_lshared_right dc_lshared_right pm_lshared_right an_lshared_right cd_lshared_right ct_lshared_right), sl_lshared_right⟩)
    (c_lshared_right : PySem.W.codeIn K cd_lshared_right "_law_shared_right" = true) (k_lshared_right : PySem.W.keepIn K (.ref f_lshared_right) = true)
    (a_ltotal_right : PySem.W.nsIn K mainGlobals "_law_total_right" = some (some (.ref f_ltotal_right)))
    (l_ltotal_right : K.lookup f_ltotal_right = some ⟨oc_ltotal_right, od_ltotal_right, .func (PySem.W.fnOf "_law_total_right" "_law_total_right" (defArgs s_ltotal_right) (defBody s_ltotal_right) (defScope s_ltotal_right) .none kV_ltotal_right dc_ltotal_right pm_ltotal_right an_ltotal_right cd_ltotal_right ct_ltotal_right), sl_ltotal_right⟩)
    (c_ltotal_right : PySem.W.codeIn K cd_ltotal_right "_law_total_right" = true) (k_ltotal_right : PySem.W.keepIn K (.ref f_ltotal_right) = true)
    (a_lone : PySem.W.nsIn K mainGlobals "_law_one" = some (some (.ref f_lone)))
    (l_lone : K.lookup f_lone = some ⟨oc_lone, od_lone, .func (PySem.W.fnOf "_law_one" "_law_one" (defArgs s_lone) (defBody s_lone) (defScope s_lone) .none kV_lone dc_lone pm_lone an_lone cd_lone ct_lone), sl_lone⟩)
    (c_lone : PySem.W.codeIn K cd_lone "_law_one" = true) (k_lone : PySem.W.keepIn K (.ref f_lone) = true)
    (a_law : PySem.W.nsIn K mainGlobals "law" = some (some (.ref f_law)))
    (l_law : K.lookup f_law = some ⟨oc_law, od_law, .func (PySem.W.fnOf "law" "law" (defArgs s_law) (defBody s_law) (defScope s_law) .none kV_law dc_law pm_law an_law cd_law ct_law), sl_law⟩)
    (c_law : PySem.W.codeIn K cd_law "law" = true) (k_law : PySem.W.keepIn K (.ref f_law) = true)
    (gc_NoPart : PySem.W.nsIn K mainGlobals "NoPart" = some (some (.ref c_NoPart))) (x_NoPart : PySem.W.excIn K c_NoPart [.type "ValueError", .type "Exception", .type "BaseException", .type "object"] "ValueError.__new__" = true) (kc_NoPart : PySem.W.keepIn K (.ref c_NoPart) = true) (bc_NoPart : PySem.W.subIn K (.ref c_NoPart) (.type "BaseException") = some true) (tc_NoPart : PySem.W.typeIn K (.ref c_NoPart) = some (.type "type")) (hc_NoPart : PySem.W.hasDictIn K c_NoPart = true) (sc_NoPart : PySem.W.subIn K (.ref c_NoPart) (.ref c_NoPart) = some true)
    (g_NOUGHT : PySem.W.nsIn K mainGlobals "NOUGHT" = some (some (.ref a_NOUGHT))) (t_NOUGHT : K.lookup a_NOUGHT = some ⟨.type "tuple", ao_NOUGHT, .seq #[.int 0 at0_NOUGHT, .int 1 at1_NOUGHT] an_NOUGHT, as_NOUGHT⟩)
    (n_abs : PySem.W.nsIn K mainGlobals "abs" = some none)
    (n_all : PySem.W.nsIn K mainGlobals "all" = some none)
    (n_bool : PySem.W.nsIn K mainGlobals "bool" = some none)
    (n_divmod : PySem.W.nsIn K mainGlobals "divmod" = some none)
    (n_int : PySem.W.nsIn K mainGlobals "int" = some none)
    (n_isinstance : PySem.W.nsIn K mainGlobals "isinstance" = some none)
    (n_len : PySem.W.nsIn K mainGlobals "len" = some none)
    (n_max : PySem.W.nsIn K mainGlobals "max" = some none)
    (n_min : PySem.W.nsIn K mainGlobals "min" = some none)
    (n_range : PySem.W.nsIn K mainGlobals "range" = some none)
    (n_tuple : PySem.W.nsIn K mainGlobals "tuple" = some none)
    : ∃ fd : FuncData, (∀ (s : Shared) (v : Value), BindsTo s fd ⟨[v], []⟩ [("_law_script", v)]) ∧ ∀ base : Heap, K.In base → base.Ns mainGlobals mg → FnOk l.prog w K mg base CX0 8 fa fd ["_law_script"] (spLaw K) := by
  have e := hfa.symm.trans (PySem.W.mg_of X G a_law)
  cases e
  have F_is_whole := fun_mk (st := s_is_whole) l_is_whole c_is_whole k_is_whole
  have F_greatest_common := fun_mk (st := s_greatest_common) l_greatest_common c_greatest_common k_greatest_common
  have F_part : FunD K "part" "part" (defArgs s_part) (defBody s_part) (defScope s_part) [.int 1] [] f_part _ := ⟨⟨_, _, _, _, _, _, _, _, _, _, rfl, l_part, c_part, .inr ⟨by simp, dT_part, _, [.int 1 dt_part], _, rfl, q_part, rfl, .cons ⟨_, rfl⟩ .nil⟩, .inl rfl⟩, k_part⟩
  obtain ⟨ds_part2, vd_part2, b_part⟩ := F_part.binds1 (ps := ["above", "below"]) 2 1 (by simp) rfl (fun T kV doc pm an cdv ct us its h1 h2 => match us, its, h1, h2 with | [_, _], [_], _, _ => ⟨_, rfl, rfl⟩)
  cases vd_part2
  have F_plus := fun_mk (st := s_plus) l_plus c_plus k_plus
  have F_minus := fun_mk (st := s_minus) l_minus c_minus k_minus
  have F_times := fun_mk (st := s_times) l_times c_times k_times
  have F_shared := fun_mk (st := s_shared) l_shared c_shared k_shared
  have F_total : FunD K "total" "total" (defArgs s_total) (defBody s_total) (defScope s_total) [] [("start", .ref a_NOUGHT)] f_total _ := ⟨⟨_, _, _, _, _, _, _, _, _, _, rfl, l_total, c_total, .inl ⟨rfl, rfl⟩, .inr ⟨kD_total, rfl, fun q hq => by rw [List.mem_singleton.mp hq]; exact ⟨_, kd_total, rfl⟩⟩⟩, k_total⟩
  obtain ⟨v_total, vb_total, b_total⟩ := F_total.binds0 (ps := ["row", "start"]) 1 (by simp) rfl (fun D doc pm an cdv ct us ks h1 h2 => match us, ks, h1, h2 with | [_], [_], _, _ => ⟨_, _, _, _, _, _, rfl, rfl, rfl⟩)
  have F_lpot := fun_mk (st := s_lpot) l_lpot c_lpot k_lpot
  have F_ldigit := fun_mk (st := s_ldigit) l_ldigit c_ldigit k_ldigit
  have F_llow := fun_mk (st := s_llow) l_llow c_llow k_llow
  have F_lplus := fun_mk (st := s_lplus) l_lplus c_lplus k_lplus
  have F_lsum := fun_mk (st := s_lsum) l_lsum c_lsum k_lsum
  have F_lnumber := fun_mk (st := s_lnumber) l_lnumber c_lnumber k_lnumber
  have F_lpart := fun_mk (st := s_lpart) l_lpart c_lpart k_lpart
  have F_lis_whole := fun_mk (st := s_lis_whole) l_lis_whole c_lis_whole k_lis_whole
  have F_lis := fun_mk (st := s_lis) l_lis c_lis k_lis
  have F_lrefused := fun_mk (st := s_lrefused) l_lrefused c_lrefused k_lrefused
  have F_lshared_right := fun_mk (st := s_lshared_right) l_lshared_right c_lshared_right k_lshared_right
  have F_ltotal_right := fun_mk (st := s_ltotal_right) l_ltotal_right c_ltotal_right k_ltotal_right
  have F_lone := fun_mk (st := s_lone) l_lone c_lone k_lone
  have F_law := fun_mk (st := s_law) l_law c_law k_law
  exact ⟨_, fun s v => .of_eq rfl, fun base _ _ => ok_law (P := l.prog) (w := w) (base := base) ({
      f_is_whole := f_is_whole, d_is_whole := _, g_is_whole := PySem.W.mg_of X G a_is_whole, F_is_whole := F_is_whole, b_is_whole := F_is_whole.binds (ps := ["thing"]) (fun _ _ _ _ _ _ us hl => match us, hl with | [_], _ => rfl),
      f_greatest_common := f_greatest_common, d_greatest_common := _, g_greatest_common := PySem.W.mg_of X G a_greatest_common, F_greatest_common := F_greatest_common, b_greatest_common := F_greatest_common.binds (ps := ["one", "other"]) (fun _ _ _ _ _ _ us hl => match us, hl with | [_, _], _ => rfl),
      f_part := f_part, d_part := _, g_part := PySem.W.mg_of X G a_part, F_part := F_part, b_part := b_part,
      f_plus := f_plus, d_plus := _, g_plus := PySem.W.mg_of X G a_plus, F_plus := F_plus, b_plus := F_plus.binds (ps := ["one", "other"]) (fun _ _ _ _ _ _ us hl => match us, hl with | [_, _], _ => rfl),
      f_minus := f_minus, d_minus := _, g_minus := PySem.W.mg_of X G a_minus, F_minus := F_minus, b_minus := F_minus.binds (ps := ["one", "other"]) (fun _ _ _ _ _ _ us hl => match us, hl with | [_, _], _ => rfl),
      f_times := f_times, d_times := _, g_times := PySem.W.mg_of X G a_times, F_times := F_times, b_times := F_times.binds (ps := ["one", "many"]) (fun _ _ _ _ _ _ us hl => match us, hl with | [_, _], _ => rfl),
      f_shared := f_shared, d_shared := _, g_shared := PySem.W.mg_of X G a_shared, F_shared := F_shared, b_shared := F_shared.binds (ps := ["one", "many"]) (fun _ _ _ _ _ _ us hl => match us, hl with | [_, _], _ => rfl),
      f_total := f_total, d_total := _, g_total := PySem.W.mg_of X G a_total, a0 := a_NOUGHT, F_total := F_total, t0 := fun H => .inr ⟨_, _, _, t_NOUGHT, rfl, rfl, by show 2 ≤ sizeLine; decide, (.cons ⟨_, rfl⟩ (.cons ⟨_, rfl⟩ .nil))⟩, v_total := v_total, vb_total := vb_total, b_total := b_total, kb_total := ⟨(fun s us ws _ h1 h2 => match us, ws, h1, h2 with | [_], [_], _, _ => .of_eq rfl), (fun r1 r2 => r1.append r2)⟩,
      f_lpot := f_lpot, d_lpot := _, g_lpot := PySem.W.mg_of X G a_lpot, F_lpot := F_lpot, b_lpot := F_lpot.binds (ps := ["_law_script", "_law_k"]) (fun _ _ _ _ _ _ us hl => match us, hl with | [_, _], _ => rfl),
      f_ldigit := f_ldigit, d_ldigit := _, g_ldigit := PySem.W.mg_of X G a_ldigit, F_ldigit := F_ldigit, b_ldigit := F_ldigit.binds (ps := ["_law_pot_here", "_law_many"]) (fun _ _ _ _ _ _ us hl => match us, hl with | [_, _], _ => rfl),
      f_llow := f_llow, d_llow := _, g_llow := PySem.W.mg_of X G a_llow, F_llow := F_llow, b_llow := F_llow.binds (ps := ["_law_above", "_law_below"]) (fun _ _ _ _ _ _ us hl => match us, hl with | [_, _], _ => rfl),
      f_lplus := f_lplus, d_lplus := _, g_lplus := PySem.W.mg_of X G a_lplus, F_lplus := F_lplus, b_lplus := F_lplus.binds (ps := ["_law_one_here", "_law_other"]) (fun _ _ _ _ _ _ us hl => match us, hl with | [_, _], _ => rfl),
      f_lsum := f_lsum, d_lsum := _, g_lsum := PySem.W.mg_of X G a_lsum, F_lsum := F_lsum, b_lsum := F_lsum.binds (ps := ["_law_parts"]) (fun _ _ _ _ _ _ us hl => match us, hl with | [_], _ => rfl),
      f_lnumber := f_lnumber, d_lnumber := _, g_lnumber := PySem.W.mg_of X G a_lnumber, F_lnumber := F_lnumber, b_lnumber := F_lnumber.binds (ps := ["_law_pot_here"]) (fun _ _ _ _ _ _ us hl => match us, hl with | [_], _ => rfl),
      f_lpart := f_lpart, d_lpart := _, g_lpart := PySem.W.mg_of X G a_lpart, F_lpart := F_lpart, b_lpart := F_lpart.binds (ps := ["_law_pot_here"]) (fun _ _ _ _ _ _ us hl => match us, hl with | [_], _ => rfl),
      f_lis_whole := f_lis_whole, d_lis_whole := _, g_lis_whole := PySem.W.mg_of X G a_lis_whole, F_lis_whole := F_lis_whole, b_lis_whole := F_lis_whole.binds (ps := ["_law_thing"]) (fun _ _ _ _ _ _ us hl => match us, hl with | [_], _ => rfl),
      f_lis := f_lis, d_lis := _, g_lis := PySem.W.mg_of X G a_lis, F_lis := F_lis, b_lis := F_lis.binds (ps := ["_law_told", "_law_due"]) (fun _ _ _ _ _ _ us hl => match us, hl with | [_, _], _ => rfl),
      f_lrefused := f_lrefused, d_lrefused := _, g_lrefused := PySem.W.mg_of X G a_lrefused, F_lrefused := F_lrefused, b_lrefused := F_lrefused.binds (ps := ["_law_one_here", "_law_many"]) (fun _ _ _ _ _ _ us hl => match us, hl with | [_, _], _ => rfl),
      f_lshared_right := f_lshared_right, d_lshared_right := _, g_lshared_right := PySem.W.mg_of X G a_lshared_right, F_lshared_right := F_lshared_right, b_lshared_right := F_lshared_right.binds (ps := ["_law_pot_here", "_law_one_here", "_law_many"]) (fun _ _ _ _ _ _ us hl => match us, hl with | [_, _, _], _ => rfl),
      f_ltotal_right := f_ltotal_right, d_ltotal_right := _, g_ltotal_right := PySem.W.mg_of X G a_ltotal_right, F_ltotal_right := F_ltotal_right, b_ltotal_right := F_ltotal_right.binds (ps := ["_law_row", "_law_begin"]) (fun _ _ _ _ _ _ us hl => match us, hl with | [_, _], _ => rfl),
      f_lone := f_lone, d_lone := _, g_lone := PySem.W.mg_of X G a_lone, F_lone := F_lone, b_lone := F_lone.binds (ps := ["_law_pot_here"]) (fun _ _ _ _ _ _ us hl => match us, hl with | [_], _ => rfl),
      f_law := _, d_law := _, g_law := PySem.W.mg_of X G a_law, F_law := F_law, b_law := F_law.binds (ps := ["_law_script"]) (fun _ _ _ _ _ _ us hl => match us, hl with | [_], _ => rfl),
      c_NoPart := c_NoPart, gc_NoPart := PySem.W.mg_of X G gc_NoPart, x_NoPart := x_NoPart, kc_NoPart := kc_NoPart, bc_NoPart := bc_NoPart, tc_NoPart := tc_NoPart, hc_NoPart := hc_NoPart, sc_NoPart := sc_NoPart,
      a_NOUGHT := a_NOUGHT, g_NOUGHT := PySem.W.mg_of X G g_NOUGHT, t_NOUGHT := fun H => .inr ⟨_, _, _, t_NOUGHT, rfl, rfl, by show 2 ≤ sizeLine; decide, (.cons ⟨_, rfl⟩ (.cons ⟨_, rfl⟩ .nil))⟩,
      n_abs := PySem.W.mg_none_of X G n_abs,
      n_all := PySem.W.mg_none_of X G n_all,
      n_bool := PySem.W.mg_none_of X G n_bool,
      n_divmod := PySem.W.mg_none_of X G n_divmod,
      n_int := PySem.W.mg_none_of X G n_int,
      n_isinstance := PySem.W.mg_none_of X G n_isinstance,
      n_len := PySem.W.mg_none_of X G n_len,
      n_max := PySem.W.mg_none_of X G n_max,
      n_min := PySem.W.mg_none_of X G n_min,
      n_range := PySem.W.mg_none_of X G n_range,
      n_tuple := PySem.W.mg_none_of X G n_tuple } : Tx K mg)⟩
end WS
open PySem PySem.W PyProof.Rows
set_option maxHeartbeats 0 in
theorem PySem.Challenge.cw_whoserves_k12_sums_and_shares_holds : PySem.Challenge.rw_whoserves_k12_sums_and_shares.Holds := by
  w_on; o_law; k_head; (case hw => w_witness2)
  k_fill
  refine L2.walk_of (l := PySem.Challenge.rw_whoserves_k12_sums_and_shares) (n := 63) (k := 8) (x := "_law_script") (CX := fun _ => L2.CX0) (sp := fun w => WS.spLaw _) rfl (by decide) rfl ⟨rfl, by decide, by decide⟩ (fun w h Y => PySem.W.kIn_of Y) ?F (fun _ _ a ns hl _ hS => ⟨a, ns, rfl, hS, hl, fun _ => rfl⟩) (fun _ _ _ _ _ h => h)
  case F =>
    intro w mg fa h KX G hmg
    refine' WS.all_mk KX G hmg ?a_is_whole ?l_is_whole ?c_is_whole ?k_is_whole ?a_greatest_common ?l_greatest_common ?c_greatest_common ?k_greatest_common ?a_part ?l_part ?c_part ?k_part ?q_part ?a_plus ?l_plus ?c_plus ?k_plus ?a_minus ?l_minus ?c_minus ?k_minus ?a_times ?l_times ?c_times ?k_times ?a_shared ?l_shared ?c_shared ?k_shared ?a_total ?l_total ?c_total ?k_total ?kd_total ?a_lpot ?l_lpot ?c_lpot ?k_lpot ?a_ldigit ?l_ldigit ?c_ldigit ?k_ldigit ?a_llow ?l_llow ?c_llow ?k_llow ?a_lplus ?l_lplus ?c_lplus ?k_lplus ?a_lsum ?l_lsum ?c_lsum ?k_lsum ?a_lnumber ?l_lnumber ?c_lnumber ?k_lnumber ?a_lpart ?l_lpart ?c_lpart ?k_lpart ?a_lis_whole ?l_lis_whole ?c_lis_whole ?k_lis_whole ?a_lis ?l_lis ?c_lis ?k_lis ?a_lrefused ?l_lrefused ?c_lrefused ?k_lrefused ?a_lshared_right ?l_lshared_right ?c_lshared_right ?k_lshared_right ?a_ltotal_right ?l_ltotal_right ?c_ltotal_right ?k_ltotal_right ?a_lone ?l_lone ?c_lone ?k_lone ?a_law ?l_law ?c_law ?k_law ?gc_NoPart ?x_NoPart ?kc_NoPart ?bc_NoPart ?tc_NoPart ?hc_NoPart ?sc_NoPart ?g_NOUGHT ?t_NOUGHT ?n_abs ?n_all ?n_bool ?n_divmod ?n_int ?n_isinstance ?n_len ?n_max ?n_min ?n_range ?n_tuple
    (case a_is_whole => k_is)
    (case l_is_whole => k_is)
    (case c_is_whole => k_is)
    (case k_is_whole => k_is)
    (case a_greatest_common => k_is)
    (case l_greatest_common => k_is)
    (case c_greatest_common => k_is)
    (case k_greatest_common => k_is)
    (case a_part => k_is)
    (case l_part => k_is)
    (case c_part => k_is)
    (case k_part => k_is)
    (case q_part => k_is)
    (case a_plus => k_is)
    (case l_plus => k_is)
    (case c_plus => k_is)
    (case k_plus => k_is)
    (case a_minus => k_is)
    (case l_minus => k_is)
    (case c_minus => k_is)
    (case k_minus => k_is)
    (case a_times => k_is)
    (case l_times => k_is)
    (case c_times => k_is)
    (case k_times => k_is)
    (case a_shared => k_is)
    (case l_shared => k_is)
    (case c_shared => k_is)
    (case k_shared => k_is)
    (case a_total => k_is)
    (case l_total => k_is)
    (case c_total => k_is)
    (case k_total => k_is)
    (case kd_total => k_is)
    (case a_lpot => k_is)
    (case l_lpot => k_is)
    (case c_lpot => k_is)
    (case k_lpot => k_is)
    (case a_ldigit => k_is)
    (case l_ldigit => k_is)
    (case c_ldigit => k_is)
    (case k_ldigit => k_is)
    (case a_llow => k_is)
    (case l_llow => k_is)
    (case c_llow => k_is)
    (case k_llow => k_is)
    (case a_lplus => k_is)
    (case l_lplus => k_is)
    (case c_lplus => k_is)
    (case k_lplus => k_is)
    (case a_lsum => k_is)
    (case l_lsum => k_is)
    (case c_lsum => k_is)
    (case k_lsum => k_is)
    (case a_lnumber => k_is)
    (case l_lnumber => k_is)
    (case c_lnumber => k_is)
    (case k_lnumber => k_is)
    (case a_lpart => k_is)
    (case l_lpart => k_is)
    (case c_lpart => k_is)
    (case k_lpart => k_is)
    (case a_lis_whole => k_is)
    (case l_lis_whole => k_is)
    (case c_lis_whole => k_is)
    (case k_lis_whole => k_is)
    (case a_lis => k_is)
    (case l_lis => k_is)
    (case c_lis => k_is)
    (case k_lis => k_is)
    (case a_lrefused => k_is)
    (case l_lrefused => k_is)
    (case c_lrefused => k_is)
    (case k_lrefused => k_is)
    (case a_lshared_right => k_is)
    (case l_lshared_right => k_is)
    (case c_lshared_right => k_is)
    (case k_lshared_right => k_is)
    (case a_ltotal_right => k_is)
    (case l_ltotal_right => k_is)
    (case c_ltotal_right => k_is)
    (case k_ltotal_right => k_is)
    (case a_lone => k_is)
    (case l_lone => k_is)
    (case c_lone => k_is)
    (case k_lone => k_is)
    (case a_law => k_is)
    (case l_law => k_is)
    (case c_law => k_is)
    (case k_law => k_is)
    (case gc_NoPart => k_is)
    (case x_NoPart => k_exc)
    (case kc_NoPart => k_is)
    (case bc_NoPart => k_is)
    (case tc_NoPart => k_is)
    (case hc_NoPart => k_is)
    (case sc_NoPart => k_is)
    (case g_NOUGHT => k_is)
    (case t_NOUGHT => k_is)
    (case n_abs => k_is)
    (case n_all => k_is)
    (case n_bool => k_is)
    (case n_divmod => k_is)
    (case n_int => k_is)
    (case n_isinstance => k_is)
    (case n_len => k_is)
    (case n_max => k_is)
    (case n_min => k_is)
    (case n_range => k_is)
    (case n_tuple => k_is)

