import PyProof.Rows.All
import Wide.All
import OpenK.AllK
import Wide.FinOn
import HandS.ForMost
import HandS.ForExc
import HandS.Wide
import HandS.WideBits
import HandS.Defaults
import HandS.IsInst
import HandS.TryOnly
import HandS.ExcIs
import HandS.Codes
import PyProof.ReprRoads
import HandS.FStrTup
import HandS.HotCalls
import HandS.ExcCtx
import HandS.Style
import HandS.Sort
import HandS.Conv
import HandS.SortKw
import HandS.Lambda
import HandS.EndTab
import HandS.ExcValue
import KE.SortKeyHeap
import HandS.Walk
import HandS.SortInts
import HandS.TupAny
import PySem.Challenge.RW_whoserves_k64_whole_what_holds_vouches
namespace WS
/-! lowest terms -/
def lo (a b : Int) : Int × Int := (a / (Int.gcd a b : Int), b / (Int.gcd a b : Int))
def Lowest (a b : Int) : Prop := 0 < b ∧ Int.gcd a b = 1
theorem gcd_pos {a b : Int} (h : b ≠ 0) : 0 < Int.gcd a b := by
  have := (Int.gcd_pos_iff (a := a) (b := b)).mpr (Or.inr h)
  exact this
theorem lo_fst (a b : Int) : (lo a b).1 * (Int.gcd a b : Int) = a := Int.ediv_mul_cancel (Int.gcd_dvd_left a b)
theorem lo_snd (a b : Int) : (lo a b).2 * (Int.gcd a b : Int) = b := Int.ediv_mul_cancel (Int.gcd_dvd_right a b)
theorem lo_lowest {a b : Int} (h : 0 < b) : Lowest (lo a b).1 (lo a b).2 := by
  have g : 0 < Int.gcd a b := gcd_pos (by omega)
  refine ⟨?_, Int.gcd_ediv_gcd_ediv_gcd g⟩
  have e := lo_snd a b
  apply Decidable.byContradiction
  intro n
  have : (lo a b).2 * (Int.gcd a b : Int) ≤ 0 := Int.mul_nonpos_of_nonpos_of_nonneg (by omega) (by omega)
  omega
theorem lo_cross (a b : Int) : (lo a b).1 * b = a * (lo a b).2 := by
  have e1 := lo_fst a b
  have e2 := lo_snd a b
  have h1 : (lo a b).1 * b = (lo a b).1 * ((lo a b).2 * (Int.gcd a b : Int)) := by rw [e2]
  have h2 : a * (lo a b).2 = ((lo a b).1 * (Int.gcd a b : Int)) * (lo a b).2 := by rw [e1]
  rw [h1, h2]
  simp only [Int.mul_assoc, Int.mul_comm, Int.mul_left_comm]
theorem dvd_cop {a b y : Int} (hg : Int.gcd a b = 1) (h : b ∣ a * y) : b ∣ y := by
  have h1 : b.natAbs ∣ a.natAbs * y.natAbs := by
    rw [← Int.natAbs_mul]
    exact Int.natAbs_dvd_natAbs.mpr h
  have c : Nat.Coprime b.natAbs a.natAbs := by
    have : Nat.gcd a.natAbs b.natAbs = 1 := hg
    exact (Nat.gcd_comm _ _).trans this
  exact Int.natAbs_dvd_natAbs.mp (c.dvd_of_dvd_mul_left h1)
theorem lowest_unique {a b x y : Int} (h : Lowest a b) (k : Lowest x y) (e : x * b = a * y) : x = a ∧ y = b := by
  have d1 : b ∣ y := dvd_cop h.2 (by rw [← e]; exact Int.dvd_mul_left _ _)
  have d2 : y ∣ b := dvd_cop k.2 (by rw [e]; exact Int.dvd_mul_left _ _)
  have hb := h.1
  have hy := k.1
  have l1 : b ≤ y := Int.le_of_dvd hy d1
  have l2 : y ≤ b := Int.le_of_dvd hb d2
  have ey : y = b := by omega
  refine ⟨?_, ey⟩
  rw [ey] at e
  exact Int.eq_of_mul_eq_mul_right (by omega) e
theorem lo_eq {a b x y : Int} (h : Lowest a b) (hy : 0 < y) (e : x * b = a * y) : lo x y = (a, b) := by
  have k := lo_lowest (a := x) hy
  have c := lo_cross x y
  have g : (lo x y).1 * b = a * (lo x y).2 := by
    have : ((lo x y).1 * b) * y = (a * (lo x y).2) * y := by
      calc ((lo x y).1 * b) * y = ((lo x y).1 * y) * b := by simp only [Int.mul_assoc, Int.mul_comm, Int.mul_left_comm]
        _ = (x * (lo x y).2) * b := by rw [c]
        _ = (x * b) * (lo x y).2 := by simp only [Int.mul_assoc, Int.mul_comm, Int.mul_left_comm]
        _ = (a * y) * (lo x y).2 := by rw [e]
        _ = (a * (lo x y).2) * y := by simp only [Int.mul_assoc, Int.mul_comm, Int.mul_left_comm]
    exact Int.eq_of_mul_eq_mul_right (by omega) this
  have u := lowest_unique h k g
  exact Prod.ext u.1 u.2
theorem lo_of {a b : Int} (h : Lowest a b) : lo a b = (a, b) := lo_eq h h.1 rfl
theorem ediv_natAbs_le (a : Int) (g : Nat) : (a / (g : Int)).natAbs ≤ a.natAbs := by
  cases g with
  | zero => simp
  | succ g => exact Int.natAbs_ediv_le_natAbs _ _
theorem lo_fst_le (a b : Int) : (lo a b).1.natAbs ≤ a.natAbs := ediv_natAbs_le a _
theorem lo_snd_le (a b : Int) : (lo a b).2.natAbs ≤ b.natAbs := ediv_natAbs_le b _
/-! bits -/
def Bt (n : Nat) (a : Int) : Prop := a.natAbs < 2 ^ n
theorem Bt.mono {n m : Nat} {a : Int} (h : Bt n a) (k : n ≤ m) : Bt m a := Nat.lt_of_lt_of_le h (Nat.pow_le_pow_right (by decide) k)
theorem Bt.of_le {n : Nat} {a b : Int} (h : Bt n b) (k : a.natAbs ≤ b.natAbs) : Bt n a := Nat.lt_of_le_of_lt k h
theorem Bt.mul {n m : Nat} {a b : Int} (h : Bt n a) (k : Bt m b) : Bt (n + m) (a * b) := by
  unfold Bt
  rw [Int.natAbs_mul, Nat.pow_add]
  exact Nat.mul_lt_mul'' h k
theorem Bt.add {n : Nat} {a b : Int} (h : Bt n a) (k : Bt n b) : Bt (n + 1) (a + b) := by
  unfold Bt at *
  have := Int.natAbs_add_le a b
  rw [Nat.pow_succ]
  omega
theorem Bt.sub {n : Nat} {a b : Int} (h : Bt n a) (k : Bt n b) : Bt (n + 1) (a - b) := by
  unfold Bt at *
  have : (a - b).natAbs ≤ a.natAbs + b.natAbs := Int.natAbs_sub_le a b
  rw [Nat.pow_succ]
  omega
theorem Bt.neg {n : Nat} {a : Int} (h : Bt n a) : Bt n (-a) := by
  unfold Bt at *
  rw [Int.natAbs_neg]
  exact h
theorem Bt.lo1 {n : Nat} {a b : Int} (h : Bt n a) : Bt n (lo a b).1 := h.of_le (lo_fst_le a b)
theorem Bt.lo2 {n : Nat} {a b : Int} (h : Bt n b) : Bt n (lo a b).2 := h.of_le (lo_snd_le a b)
theorem Bt.of_lt {n : Nat} {a : Int} (h0 : -(2 ^ n) < a) (h : a < 2 ^ n) : Bt n a := by
  unfold Bt
  have e : ((2 ^ n : Nat) : Int) = 2 ^ n := by simp
  omega
/-! the loop of the greatest number that goes into both -/
theorem gcd_step {x y : Int} (hx : 0 ≤ x) (hy : 0 < y) : Int.gcd y (x % y) = Int.gcd x y := by
  show Nat.gcd y.natAbs (x % y).natAbs = Nat.gcd x.natAbs y.natAbs
  have e : (x % y).natAbs = x.natAbs % y.natAbs := by
    have : x % y = ((x.natAbs % y.natAbs : Nat) : Int) := by
      rw [Int.natCast_emod]
      rw [Int.natAbs_of_nonneg hx, Int.natAbs_of_nonneg (by omega)]
    rw [this]
    rfl
  rw [e, Nat.gcd_comm y.natAbs, ← Nat.gcd_rec, Nat.gcd_comm]
theorem gcd_zero {x : Int} (hx : 0 ≤ x) : (Int.gcd x 0 : Int) = x := by
  have : Int.gcd x 0 = x.natAbs := Int.gcd_zero_right x
  rw [this]
  exact Int.natAbs_of_nonneg hx
theorem gcd_abs (a b : Int) : Int.gcd (if a < 0 then -a else a) b = Int.gcd a b := by
  split
  · exact Int.neg_gcd
  · rfl
/-! sums of parts -/
def pl (p q : Int × Int) : Int × Int := lo (p.1 * q.2 + q.1 * p.2) (p.2 * q.2)
theorem lo_neg_den {a b : Int} : lo a b = lo a b := rfl
end WS
set_option Elab.async false
set_option linter.all false
set_option maxRecDepth 100000
set_option maxHeartbeats 4000000
namespace WS
open PySem PySem.Spec PyProof.Rows L2
/-! heaps: what is new beside what stood; a pot that changes -/
theorem same_new {H : Hp} {p : Addr} {o : HO} (h : H p = none) : Same H (upd H p o) := fun b x e => by
  rw [upd_ne (ne_of_none e h)]
  exact e
theorem Same.tup {K : PySem.W.Frag} {H H' : Hp} {a : Addr} {xs : List V} (e : Same H H') (h : SqT K H a xs) : SqT K H' a xs := by
  rcases h with (h | ⟨o, h⟩) | h
  · exact .inl (.inl (e _ _ h))
  · exact .inl (.inr ⟨o, e _ _ h⟩)
  · exact .inr h
def SameX (p : Addr) (H H' : Hp) : Prop := ∀ b o, b ≠ p → H b = some o → H' b = some o
theorem SameX.refl (p : Addr) (H : Hp) : SameX p H H := fun _ _ _ h => h
theorem SameX.trans {p : Addr} {H H1 H2 : Hp} (a : SameX p H H1) (b : SameX p H1 H2) : SameX p H H2 := fun c o n h => b c o n (a c o n h)
theorem Same.x {p : Addr} {H H1 : Hp} (a : Same H H1) : SameX p H H1 := fun c o _ h => a c o h
theorem samex_set {p : Addr} {H : Hp} {o : HO} : SameX p H (upd H p o) := fun b x n e => by
  rw [upd_ne n]
  exact e
/-- a pot: two numbers, from which digits are drawn -/
def PotAt (H : Hp) (p : Addr) : Prop := ∃ x y : Int, H p = some (.lst [.int x, .int y]) ∧ 0 ≤ x ∧ 0 ≤ y ∧ y < 2147483648
theorem SameX.tup {K : PySem.W.Frag} {p : Addr} {H H' : Hp} {a : Addr} {xs : List V} (e : SameX p H H') (hp : PotAt H p) (h : SqT K H a xs) : SqT K H' a xs := by
  obtain ⟨x, y, hp, _⟩ := hp
  rcases h with (h | ⟨o, h⟩) | h
  · exact .inl (.inl (e _ _ (ne_of h hp (by intro z; cases z)) h))
  · exact .inl (.inr ⟨o, e _ _ (ne_of h hp (by intro z; cases z)) h⟩)
  · exact .inr h
theorem SameX.lst {K : PySem.W.Frag} {p : Addr} {H H' : Hp} {a : Addr} {xs : List V} (e : SameX p H H') (n : a ≠ p) (h : SqL K H a xs) : SqL K H' a xs := by
  rcases h with (h | ⟨o, h⟩) | h
  · exact .inl (.inl (e _ _ n h))
  · exact .inl (.inr ⟨o, e _ _ n h⟩)
  · exact .inr h
theorem PotAt.same {H H' : Hp} {p : Addr} (h : PotAt H p) (s : Same H H') : PotAt H' p := by
  obtain ⟨x, y, e, r⟩ := h
  exact ⟨x, y, s _ _ e, r⟩
/-! pairs of numbers -/
def TupI (K : PySem.W.Frag) (H : Hp) (v : V) (a b : Int) : Prop := ∃ t, v = .ref t ∧ SqT K H t [.int a, .int b]
theorem TupI.same {K : PySem.W.Frag} {H H' : Hp} {v : V} {a b : Int} (h : TupI K H v a b) (s : Same H H') : TupI K H' v a b := by
  obtain ⟨t, e, h⟩ := h
  exact ⟨t, e, Same.tup s h⟩
theorem TupI.x {K : PySem.W.Frag} {H H' : Hp} {p : Addr} {v : V} {a b : Int} (h : TupI K H v a b) (s : SameX p H H') (hp : PotAt H p) : TupI K H' v a b := by
  obtain ⟨t, e, h⟩ := h
  exact ⟨t, e, SameX.tup s hp h⟩
theorem TupI.new {K : PySem.W.Frag} {H : Hp} {p : Addr} {a b : Int} : TupI K (upd H p (.tup [.int a, .int b])) (.ref p) a b := ⟨p, rfl, .inl (.inl upd_same)⟩
def NewT (K : PySem.W.Frag) (H : Hp) (x y : Int) (Q : VK) : Prop := ∀ v H', Same H H' → TupI K H' v x y → Q v H'
/-! kinds -/
theorem sqt_ty {K : PySem.W.Frag} {H : Hp} {a : Addr} {xs : List V} (h : SqT K H a xs) : TyX K H (.ref a) (.type "tuple") := by
  rcases h with (h | ⟨o, h⟩) | ⟨o, its, n, h1, h2, _⟩
  · exact .base (.tup h)
  · exact .fTuple h
  · exact .kTuple h1 h2
/-- whether a thing is a whole number -/
def WholeIs (K : PySem.W.Frag) (H : Hp) (v : V) (b : Bool) : Prop := ∃ t b1 b2, TyX K H v t ∧ PySem.W.kitOne K t (.type "int") = some b1 ∧ PySem.W.kitOne K t (.type "bool") = some b2 ∧ b = (b1 && !b2)
theorem whole_int {K : PySem.W.Frag} {H : Hp} {i : Int} : WholeIs K H (.int i) true := ⟨_, true, false, .base (.int i), kit_ty (by decide +kernel), kit_ty (by decide +kernel), rfl⟩
theorem whole_non {K : PySem.W.Frag} {H : Hp} : WholeIs K H .non false := ⟨_, false, false, .base .non, kit_ty (by decide +kernel), kit_ty (by decide +kernel), rfl⟩
theorem whole_bl {K : PySem.W.Frag} {H : Hp} {b : Bool} : WholeIs K H (.bl b) false := ⟨_, true, true, .base (.bl b), kit_ty (by decide +kernel), kit_ty (by decide +kernel), rfl⟩
theorem whole_str {K : PySem.W.Frag} {H : Hp} {z : Str} : WholeIs K H (.str z) false := ⟨_, false, false, .base (.str z), kit_ty (by decide +kernel), kit_ty (by decide +kernel), rfl⟩
theorem whole_tup {K : PySem.W.Frag} {H : Hp} {a : Addr} {xs : List V} (h : SqT K H a xs) : WholeIs K H (.ref a) false := ⟨_, false, false, sqt_ty h, kit_ty (by decide +kernel), kit_ty (by decide +kernel), rfl⟩
theorem whole_lst {K : PySem.W.Frag} {H : Hp} {a : Addr} {xs : List V} (h : H a = some (.lst xs)) : WholeIs K H (.ref a) false := ⟨_, false, false, .base (.lst h), kit_ty (by decide +kernel), kit_ty (by decide +kernel), rfl⟩
/-! sizes -/
theorem Bt.cdiv {n : Nat} {i j : Int} (h : 0 < j) (hb : Bt n j) (h9 : n ≤ 8999) : CDivW i j := wide_div (b := n + 1) h (hb.mono (Nat.le_succ n)) (Nat.succ_pos n) (by omega)
theorem Bt.cmul {n m : Nat} {i j : Int} (ha : Bt n i) (hb : Bt m j) (h : n + m ≤ 900000) : CMulW i j := wide_mul (a := n + 1) (b := m + 1) (ha.mono (Nat.le_succ n)) (hb.mono (Nat.le_succ m)) (Nat.succ_pos n) (Nat.succ_pos m) (by omega)
theorem gcd_bt {n : Nat} {a b : Int} (h : 0 < b) (hb : Bt n b) : Bt n (Int.gcd a b : Int) := by
  refine hb.of_le ?_
  have : Int.gcd a b ≤ b.natAbs := Nat.le_of_dvd (by omega) (Nat.gcd_dvd_right a.natAbs b.natAbs)
  simpa using this
/-! promises -/
def spWhole (K : PySem.W.Frag) : Sp := fun vs H Q _ => ∃ v b, vs = [v] ∧ WholeIs K H v b ∧ Q (.bl b) H
def spGcd : Sp := fun vs H Q _ => ∃ x y : Int, vs = [.int x, .int y] ∧ 0 ≤ x ∧ 0 ≤ y ∧ Q (.int (Int.gcd x y)) H
def spLow (K : PySem.W.Frag) : Sp := fun vs H Q _ => ∃ a b : Int, vs = [.int a, .int b] ∧ 0 < b ∧ Bt 8999 b ∧ NewT K H (lo a b).1 (lo a b).2 Q
/-- two pairs and what is made of them -/
def spTwo (K : PySem.W.Frag) (f : Int → Int → Int → Int → Int × Int) : Sp := fun vs H Q _ => ∃ u v a b c d, vs = [u, v] ∧ TupI K H u a b ∧ TupI K H v c d ∧ 0 < b ∧ 0 < d ∧ Bt 4400 a ∧ Bt 4400 b ∧ Bt 4400 c ∧ Bt 4400 d ∧ NewT K H (f a b c d).1 (f a b c d).2 Q
def spTimes (K : PySem.W.Frag) : Sp := fun vs H Q _ => ∃ u a b m, vs = [u, .int m] ∧ TupI K H u a b ∧ 0 < b ∧ Bt 4400 a ∧ Bt 4400 b ∧ Bt 4400 m ∧ NewT K H (lo (a * m) b).1 (lo (a * m) b).2 Q
def Bad (K : PySem.W.Frag) (H : Hp) (m : V) : Prop := WholeIs K H m false ∨ ∃ i : Int, m = .int i ∧ i < 1
def spShared (K : PySem.W.Frag) (C : Addr) : Sp := fun vs H Q E => ∃ u a b m, vs = [u, m] ∧ TupI K H u a b ∧ ((Bad K H m ∧ E (.ref C) none H) ∨ ∃ i : Int, m = .int i ∧ 1 ≤ i ∧ 0 < b ∧ Bt 4400 a ∧ Bt 4400 b ∧ Bt 4400 i ∧ NewT K H (lo a (b * i)).1 (lo a (b * i)).2 Q)
def spDigit : Sp := fun vs H Q _ => ∃ p m, vs = [.ref p, .int m] ∧ PotAt H p ∧ 0 < m ∧ Bt 8999 m ∧ ∀ d H', 0 ≤ d → d < m → SameX p H H' → PotAt H' p → Q (.int d) H'
def spPot (K : PySem.W.Frag) : Sp := fun vs H Q _ => ∃ (a : Addr) (ns : List Int) (k : Int), vs = [.ref a, .int k] ∧ SqL K H a (ns.map V.int) ∧ 0 ≤ k ∧ k < 100 ∧ ∀ p H', Same H H' → H p = none → PotAt H' p → Q (.ref p) H'
/-! all tuples stay -/
def KT (H H' : Hp) : Prop := (∀ a xs, H a = some (.tup xs) → H' a = some (.tup xs)) ∧ (∀ a o xs, H a = some (.frz o (.tup xs)) → H' a = some (.frz o (.tup xs)))
theorem KT.refl (H : Hp) : KT H H := ⟨fun _ _ h => h, fun _ _ _ h => h⟩
theorem KT.trans {H H1 H2 : Hp} (a : KT H H1) (b : KT H1 H2) : KT H H2 := ⟨fun c o h => b.1 c o (a.1 c o h), fun c o x h => b.2 c o x (a.2 c o x h)⟩
theorem kt_same {H H' : Hp} (s : Same H H') : KT H H' := ⟨fun _ _ h => s _ _ h, fun _ _ _ h => s _ _ h⟩
theorem kt_x {p : Addr} {H H' : Hp} (s : SameX p H H') (hp : PotAt H p) : KT H H' := by
  obtain ⟨x, y, hp, _⟩ := hp
  exact ⟨fun a xs h => s _ _ (ne_of h hp (by intro z; cases z)) h, fun a o xs h => s _ _ (ne_of h hp (by intro z; cases z)) h⟩
theorem kt_set {H : Hp} {D : Addr} {xs ys : List V} (h : H D = some (.lst xs)) : KT H (upd H D (.lst ys)) :=
  ⟨fun a zs e => by rw [upd_ne (ne_of e h (by intro z; cases z))]; exact e, fun a o zs e => by rw [upd_ne (ne_of e h (by intro z; cases z))]; exact e⟩
theorem kt_new {H : Hp} {D : Addr} {o : HO} (h : H D = none) : KT H (upd H D o) := kt_same (same_new h)
theorem KT.sqt {K : PySem.W.Frag} {H H' : Hp} {a : Addr} {xs : List V} (e : KT H H') (h : SqT K H a xs) : SqT K H' a xs := by
  rcases h with (h | ⟨o, h⟩) | h
  · exact .inl (.inl (e.1 _ _ h))
  · exact .inl (.inr ⟨o, e.2 _ _ _ h⟩)
  · exact .inr h
theorem TupI.k {K : PySem.W.Frag} {H H' : Hp} {v : V} {a b : Int} (h : TupI K H v a b) (s : KT H H') : TupI K H' v a b := by
  obtain ⟨t, e, h⟩ := h
  exact ⟨t, e, s.sqt h⟩
/-- values that are pairs -/
def Parts (K : PySem.W.Frag) (H : Hp) (rs : List V) (ps : List (Int × Int)) : Prop := rs.length = ps.length ∧ ∀ (i : Nat) v, rs[i]? = some v → ∃ p, ps[i]? = some p ∧ TupI K H v p.1 p.2
theorem Parts.k {K : PySem.W.Frag} {H H' : Hp} {rs : List V} {ps : List (Int × Int)} (h : Parts K H rs ps) (s : KT H H') : Parts K H' rs ps :=
  ⟨h.1, fun i v e => by obtain ⟨p, e1, e2⟩ := h.2 i v e; exact ⟨p, e1, e2.k s⟩⟩
theorem Parts.nil {K : PySem.W.Frag} {H : Hp} : Parts K H [] [] := ⟨rfl, fun i v e => by simp at e⟩
theorem Parts.cons {K : PySem.W.Frag} {H : Hp} {v : V} {rs : List V} {p : Int × Int} {ps : List (Int × Int)} (h : TupI K H v p.1 p.2) (k : Parts K H rs ps) : Parts K H (v :: rs) (p :: ps) :=
  ⟨by simp [k.1], fun i x e => by
    cases i with
    | zero => exact ⟨p, rfl, by have e : v = x := Option.some.inj e; rw [← e]; exact h⟩
    | succ i => exact k.2 i x e⟩
theorem Parts.add {K : PySem.W.Frag} {H : Hp} {v : V} {rs : List V} {p : Int × Int} {ps : List (Int × Int)} (k : Parts K H rs ps) (h : TupI K H v p.1 p.2) : Parts K H (rs ++ [v]) (ps ++ [p]) :=
  ⟨by simp [k.1], fun i x e => by
    by_cases hi : i < rs.length
    · rw [List.getElem?_append_left hi] at e
      obtain ⟨q, e1, e2⟩ := k.2 i x e
      exact ⟨q, by rw [List.getElem?_append_left (by rw [← k.1]; exact hi)]; exact e1, e2⟩
    · rw [List.getElem?_append_right (by omega)] at e
      have hl := k.1
      have z : i - rs.length = 0 := by
        cases hz : i - rs.length with
        | zero => rfl
        | succ n => rw [hz] at e; simp at e
      rw [z] at e
      have e : v = x := Option.some.inj e
      refine ⟨p, ?_, by rw [← e]; exact h⟩
      rw [List.getElem?_append_right (by omega), show i - ps.length = 0 by omega]
      rfl⟩
/-- a number with a below, of at most n bits -/
def Okp (n : Nat) (p : Int × Int) : Prop := 0 < p.2 ∧ Bt n p.1 ∧ Bt n p.2
theorem Okp.mono {n m : Nat} {p : Int × Int} (h : Okp n p) (k : n ≤ m) : Okp m p := ⟨h.1, h.2.1.mono k, h.2.2.mono k⟩
theorem Okp.pl {n m : Nat} {p q : Int × Int} (h : Okp n p) (k : Okp m q) : Okp (n + m + 1) (pl p q) := by
  have hy : 0 < p.2 * q.2 := Int.mul_pos h.1 k.1
  refine ⟨(lo_lowest hy).1, Bt.lo1 ?_, Bt.lo2 ?_⟩
  · have a := h.2.1.mul k.2.2
    have b := (k.2.1.mul h.2.2).mono (show m + n ≤ n + m by omega)
    exact a.add b
  · exact (h.2.2.mul k.2.2).mono (by omega)
theorem fold_okp {n m : Nat} : ∀ (ps : List (Int × Int)) (p : Int × Int), Okp n p → (∀ q ∈ ps, Okp m q) → Okp (n + ps.length * (m + 1)) (ps.foldl pl p)
  | [], p, h, _ => by simpa using h
  | q :: r, p, h, k => by
    have h1 := h.pl (k q (by simp))
    have := fold_okp r (pl p q) h1 (fun x hx => k x (by simp [hx]))
    refine this.mono ?_
    simp only [List.length_cons, Nat.add_mul, Nat.one_mul]
    omega
theorem take_fold {i : Nat} {ps : List (Int × Int)} {p q : Int × Int} (h : ps[i]? = some q) : (ps.take (i + 1)).foldl pl p = pl ((ps.take i).foldl pl p) q := by
  rw [List.take_add_one, h, List.foldl_append]
  rfl
theorem pick {xs : List V} {d : Int} (h0 : 0 ≤ d) (h : d < xs.length) : ∃ v, atI xs d = some v ∧ v ∈ xs :=
  ⟨xs[d.toNat]'(by omega), at_of (j := d.toNat) (by omega) (List.getElem?_eq_getElem _), List.getElem_mem _⟩
def spSum (K : PySem.W.Frag) (n : Nat) : Sp := fun vs H Q _ => ∃ (l : Addr) (rs : List V) (ps : List (Int × Int)), vs = [.ref l] ∧ SqL K H l rs ∧ Parts K H rs ps ∧ (∀ q ∈ ps, Okp n q) ∧ (ps.length + 1) * (n + 1) ≤ 4400 ∧ ∀ v H', Same H H' → TupI K H' v (ps.foldl pl (0, 1)).1 (ps.foldl pl (0, 1)).2 → Q v H'
def spTotal (K : PySem.W.Frag) (n : Nat) : Sp := fun vs H Q _ => ∃ (l : Addr) (u : V) (a b : Int) (rs : List V) (ps : List (Int × Int)), vs = [.ref l, u] ∧ SqT K H l rs ∧ TupI K H u a b ∧ Okp n (a, b) ∧ Parts K H rs ps ∧ (∀ q ∈ ps, Okp n q) ∧ (ps.length + 1) * (n + 1) ≤ 4400 ∧ ∀ v H', Same H H' → TupI K H' v (ps.foldl pl (a, b)).1 (ps.foldl pl (a, b)).2 → Q v H'
def spNum (n : Nat) : Sp := fun vs H Q _ => ∃ p, vs = [.ref p] ∧ PotAt H p ∧ ∀ i H', Bt n i → SameX p H H' → PotAt H' p → Q (.int i) H'
def spDraw (K : PySem.W.Frag) (n : Nat) : Sp := fun vs H Q _ => ∃ p, vs = [.ref p] ∧ PotAt H p ∧ ∀ v a b H', Lowest a b → Bt n a → Bt n b → TupI K H' v a b → SameX p H H' → PotAt H' p → Q v H'
def spIs (K : PySem.W.Frag) : Sp := fun vs H Q _ => ∃ u v a b, vs = [u, v] ∧ TupI K H u a b ∧ TupI K H v a b ∧ Q (.bl true) H
theorem PotAt.ne {H : Hp} {p z : Addr} (h : PotAt H p) (n : H z = none) : z ≠ p := by
  obtain ⟨x, y, e, _⟩ := h
  intro q
  rw [q, e] at n
  cases n
theorem eqv_pair (a b : Int) : PyData.eqv (.tuple [.int a, .int b]) (.tuple [.int a, .int b]) = true := by simp [PyData.eqv, PyData.eqvAll]
theorem share_back {a b i : Int} (h : Lowest a b) (hi : 1 ≤ i) : lo ((lo a (b * i)).1 * i) (lo a (b * i)).2 = (a, b) := by
  have hy : 0 < b * i := Int.mul_pos h.1 (by omega)
  refine lo_eq h (lo_lowest hy).1 ?_
  have c := lo_cross a (b * i)
  calc (lo a (b * i)).1 * i * b = (lo a (b * i)).1 * (b * i) := by simp only [Int.mul_assoc, Int.mul_comm, Int.mul_left_comm]
    _ = a * (lo a (b * i)).2 := c
/-! promises that are kept where no repr is under way -/
def Calm (A : Around) : Prop := A.guards = some []
theorem Calm.down {A : Around} (h : Calm A) (env : Env) : Calm (A.deeper env) := h
structure FnAt (A : Around) (P : Program) (w : World) (K : PySem.W.Frag) (mg : Str → Option Value) (base : Heap) (CX : CXT) (k : Nat) (f : Addr) (fd : FuncData) (ps : List Str) (sp : Sp) : Prop where
  len : ∀ vs H Q E, sp vs H Q E → vs.length = ps.length
  go : ∀ (outer : List Env) (s : Shared) (H : Hp) (args : Args) (us : List Value) (vs : List V) (Q : VK) (E : XK),
    Room k A → Env0 P w K mg base A outer s H → BindsTo s fd args (ps.zip us) → Vals vs us → sp vs H Q E →
    codeAny (model P w) A (.call (.ref f) args) (CR CX outer P w H s Q E) s
theorem fnat_of {A : Around} {P : Program} {w : World} {K : PySem.W.Frag} {mg : Str → Option Value} {base : Heap} {CX : CXT} {k : Nat} {f : Addr} {fd : FuncData} {ps : List Str} {sp : Sp}
    (F : FnOk P w K mg base CX k f fd ps sp) : FnAt A P w K mg base CX k f fd ps sp := ⟨F.len, F.run A⟩
/-- a def by its body, at one place -/
theorem fun_at {A : Around} {P : Program} {w : World} {K : PySem.W.Frag} {mg : Str → Option Value} {base : Heap} {CX : CXT} {x qual : Str} {st : Stmt} {f : Addr} {fd : FuncData} {N ps : List Str} {k : Nat} {sp : Sp}
    (F : Fun K x qual st f fd) (S : FnScope N ps (defScope st)) (len : ∀ vs H Q E, sp vs H Q E → vs.length = ps.length)
    (B : ∀ (cdv : Value) (outer : List Env) (s : Shared) (H : Hp) (vs : List V) (Q : VK) (E : XK),
      Room k (A.deeper (envOfC qual (defScope st) s.heap.objs.size f cdv)) → sp vs H Q E →
      ∃ t, PSs (cxOf CX P w K mg base N qual (defScope st) f cdv A outer s H E) (defBody st) t ∧ t ⟨fun _ H' => Q .non H', Q, fun _ _ => False, fun _ _ => False⟩ (start N vs) H) :
    FnAt A P w K mg base CX (k + 1) f fd ps sp := by
  obtain ⟨oc, od, kV, doc, pm, an, cdv, ct, osl, rfl, at_f, code⟩ := F.ex
  refine ⟨len, ?_⟩
  intro outer s H args us vs Q E room env0 bt vals want
  have inK : K.In s.heap := env0.mod.kin.keeps (fun b o e => (env0.bs b o e).1)
  have kinds : ∀ y ∈ ps.zip us, (defScope st).names.lookup y.1 = some .local ∨ ((defScope st).names.lookup y.1 = some .cell ∧ ((cellsFrom (s.heap.objs.size + 1) (defScope st).names []).lookup y.1).isSome = true) := by
    rintro ⟨n, v⟩ hy
    rcases S.par n (List.of_mem_zip hy).1 with l | c
    · exact .inl l
    · exact .inr ⟨c, PySem.W.cellsFrom_some _ _ _ (.inl c)⟩
  refine codeAny_call_function room.depth (inK _ _ at_f) rfl S.co S.gen rfl (PySem.W.codeRec_of inK code) (bt _ _ _ _ ?_)
  refine wpAny_newFunctionEnv_cells S.kind kinds ?_
  rintro env rfl s1 ic
  refine ⟨(env0.mod.nolimit.keeps fun b o e => (env0.bs b o e).1).keeps ic.toInCall.keep, codeAny_func ?_⟩
  obtain ⟨t, pss, reading⟩ := B cdv outer s H vs Q E (room.deeper _) want
  have inv := inv_start (CX := CX) (E := E) S room.hd env0 (len _ _ _ _ want) vals ic
  refine wpAny_mono (pss.run [] s1 (start N vs) H _ inv reading) ?_ (fun _ _ z => z)
  intro fl s' z
  match fl, z with
  | .ret u, ⟨v, σ', H', J, rv, q⟩ => exact ⟨v, H', J.os, J.bare, J.base, J.hok, rv, q⟩
  | .next, ⟨σ', H', J, q⟩ => exact ⟨.non, H', J.os, J.bare, J.base, J.hok, rfl, q⟩
  | .brk, ⟨_, _, _, q⟩ => exact q.elim
  | .cont, ⟨_, _, _, q⟩ => exact q.elim
/-- f(e, ..) where f keeps its promise at this place -/
theorem pe_callA {X : Cx} {CX : CXT} {k : Nat} {f : Addr} {fd : FuncData} {ps : List Str} {sp : Sp} {dvs : List V} {ds : List Value} {E : XK} {x : Str} {p pos : Pos} {e : Expr} {es : List Expr} {t : TA}
    (F : FnAt X.A X.prog X.w X.K X.mg X.base CX k f fd ps sp) (room : Room k X.A) (gl : Gl X x) (at_x : X.mg x = some (.ref f)) (kp : PySem.W.keepIn X.K (.ref f) = true)
    (bi : Binds X.K fd ps ds) (vd : Vals dvs ds) (ex : Passes CX X E) (args : PA X (e :: es) t)
    (nodbg : (x == ("__debug__" : Str)) = false := by decide) (one : starEach (e :: es) X.env = (false, eval e X.env) :: starEach es X.env := by rfl) (nostar : (backTo pos (starEach es X.env)).any (·.1) = false := by rfl) :
    PE X (.Call (.Name x p) (e :: es) [] pos) (tCall sp dvs E t) := by
  constructor
  intro pins s σ H Q inv want
  refine wpAny_Call_Name_kw (ld_glob inv gl at_x ?_ nodbg)
  refine PySem.W.callWith_K (h₀ := X.base) inv.ok.mod.kin kp (thn (args.run pos pins s σ H _ inv want) ?_) one nostar
  rintro us s1 ⟨vs, H1, inv1, vals, want1⟩
  refine ⟨inv1.kIn, ?_⟩
  have both : Vals (vs ++ dvs) (us ++ ds) := vals.append vd
  have size : (us ++ ds).length = ps.length := both.length.symm.trans (F.len _ _ _ _ want1)
  refine wpAny_call (codeAny_mono (F.go X.stack s1 H1 ⟨us, []⟩ _ _ Q E room inv1.env0 (bi s1 us inv1.kIn size) both want1) ?_)
  intro r s' z
  match r, z with
  | .error er, z => exact ex pins σ H1 s1 er s' inv1 z
  | .ok (.ret u), z => exact inv1.after z
  | .ok .next, z => exact z.elim
  | .ok .brk, z => exact z.elim
  | .ok .cont, z => exact z.elim
/-- repr of data -/
def rRepr (X : Cx) : List V → Hp → VK → Prop := fun xs H Q => ∃ v d, xs = [v] ∧ Dp X.K H v d ∧ d.showable = true ∧ d.hasDict = false ∧ d.depth ≤ 60 ∧ d.shown.length ≤ sizeLine ∧ Q (.str d.shown) H
theorem call_reprD {X : Cx} (g : Calm X.A) (hu : X.A.units + 64 < cLine) : CallR X (.builtin "repr") (rRepr X) := by
  intro pins s σ H xs us Q inv vals want
  obtain ⟨v, d, rfl, dp, sh, nd, dep, len, q⟩ := want
  cases vals with
  | cons rv rest =>
    cases rest
    obtain ⟨as, rd⟩ := Dp.reads inv d v _ dp rv
    have nomod : d.hasDict = true → sysModules ∉ as := fun e => by rw [nd] at e; cases e
    cases dp with
    | non => cases rv; exact PySem.P.repr_of_none ⟨.str _, H, inv.tok _, ⟨_, rfl⟩, q⟩
    | bl b => cases rv; exact PySem.P.repr_of_bool ⟨.str _, H, inv.tok _, ⟨_, rfl⟩, q⟩
    | int i =>
      obtain ⟨t, rfl⟩ := rv
      exact PySem.P.repr_of_int (of_decide_eq_true sh) ⟨.str _, H, inv.tok _, ⟨_, rfl⟩, q⟩
    | str z =>
      obtain ⟨t, rfl⟩ := rv
      exact PySem.P.repr_of_str ⟨.str _, H, inv.tok _, ⟨_, rfl⟩, q⟩ len
    | lst h1 h2 =>
      cases rv
      exact repr_of_reads' rd sh nomod g (by omega) (fun _ _ z => z) (fun h' u tk keep => ⟨.str _, H, inv.kept keep, ⟨_, rfl⟩, q⟩) len
    | tup h1 h2 =>
      cases rv
      exact repr_of_reads' rd sh nomod g (by omega) (fun _ _ z => z) (fun h' u tk keep => ⟨.str _, H, inv.kept keep, ⟨_, rfl⟩, q⟩) len
/-! the end of a law whose def keeps its promise where the law is called -/
theorem begin_at {P : Program} {w : World} {K : PySem.W.Frag} {mg mb : Str → Option Value} {k : Nat} {fa a : Addr} {fd : FuncData} {x : Str} {sp : Sp} {s : Shared} {vs : List Value} {H : Hp}
    (inK : K.In s.heap) (gns : s.heap.Ns mainGlobals mg) (bns : s.heap.Ns builtinsNs mb) (bb : ∀ x : Str, x ≠ "__name__" → mb x = bootBuiltins x) (lim : s.heap.NoLimit) (nogen : s.gens = #[])
    (script : s.heap.get? a = some { cls := .type "list", data := .seq vs.toArray }) (room : Room k callerA)
    (F : ∀ base : Heap, K.In base → base.Ns mainGlobals mg → FnAt callerA P w K mg base CX0 k fa fd [x] sp) (bind1 : ∀ (s : Shared) (u : Value), BindsTo s fd ⟨[u], []⟩ [(x, u)])
    (only : ∀ b u, H b = some u → b = a ∧ K.lookup a = none ∧ ∃ o xs, u = .frz o (.lst xs)) (fits : HOk P w H s.heap)
    (want : sp [.ref a] H (fun v _ => v = .bl true) fun _ _ _ => False) :
    codeAny (model P w) callerA (.call (.ref fa) ⟨[.ref a], []⟩) (fun r s' => r = .ok (.ret (.bool true)) ∧ OldK s.heap s'.heap ∧ s'.os = s.os ∧ AllBare s'.gens) s := by
  have plain : ∀ {b : Addr}, b ≠ a → H b = none := fun {b} nb => by
    cases z : H b with
    | none => rfl
    | some u => exact absurd (only b u z).1 nb
  have noDict : ∀ {b : Addr} {o : Obj} {es : Array DictEntry} {ep : Nat}, s.heap.get? b = some o → o.data = .dict es ep → H b = none := by
    intro b o es ep e de
    refine plain ?_
    rintro rfl
    rw [script] at e
    cases e
    cases de
  have nsb : ∀ {b : Addr} {m : Str → Option Value}, s.heap.Ns b m → (hidT s.heap H).Ns b m := by
    rintro b m ⟨o, es, ep, e, de, rest⟩
    exact ⟨o, es, ep, hidT_get e (noDict e de), de, rest⟩
  have kb : K.In (hidT s.heap H) := by
    intro b o e
    refine hidT_get (inK b o e) ?_
    cases z : H b with
    | none => rfl
    | some u =>
      obtain ⟨rfl, nk, _⟩ := only b u z
      rw [nk] at e
      cases e
  obtain ⟨mc, l1, l2⟩ := lim
  have modu : Mod K mg (hidT s.heap H) := ⟨kb, nsb gns, ⟨mb, nsb bns, bb⟩, ⟨mc, nsb l1, l2⟩⟩
  have noEnv : ∀ b ∈ frs [], H b = none := fun b z => absurd (show b ∈ ([] : List Addr) from z) List.not_mem_nil
  have env0 : Env0 P w K mg (hidT s.heap H) callerA [] s H := ⟨rfl, modu, fun b o e => of_hidT e, Nat.le_of_eq (hidT_size _ _), trivial, noEnv, fits, .of_eq nogen⟩
  refine codeAny_mono ((F _ kb (nsb gns)).go [] s H ⟨[.ref a], []⟩ [.ref a] [.ref a] _ _ room env0 (bind1 s (.ref a)) (.cons rfl .nil) want) ?_
  intro r s' z
  match r, z with
  | .error er, z => exact z.elim
  | .ok .next, z => exact z.elim
  | .ok .brk, z => exact z.elim
  | .ok .cont, z => exact z.elim
  | .ok (.ret u), ⟨v, H', os, bare, un, fits', rel, q⟩ =>
    have q : v = .bl true := q
    subst q
    obtain rfl : u = Value.bool true := rel
    refine ⟨rfl, OldK.of_keep ?_, os, bare⟩
    intro b o e
    cases zb : H b with
    | none => exact un.keep b o e zb (fun z => absurd (show b ∈ ([] : List Addr) from z) List.not_mem_nil) List.not_mem_nil
    | some u =>
      obtain ⟨_, _, ob, xs, rfl⟩ := only b u zb
      have now := (fits' b _ (un.frzs b ob _ zb)).1
      have then_ := (fits b _ zb).1
      rw [e] at then_
      cases then_
      exact now
theorem walk_G {l : PySem.W.OpenLaw} {n k : Nat} {q : Program} {loose : List Str} {XP : (Str → Option Value) → Heap → Prop} {YP : World → Heap → Prop} {d : DefRec} {K : Params → PySem.W.Frag} {sp : World → Sp} {x : Str}
    (most : l.most = some n) (small : n ≤ sizeLine) (nodefault : d.params.defaults = []) (room : Room k callerA)
    (Y : ∀ (w : World) (h : Heap), YP w h → (K w.params).In h)
    (F : ∀ (w : World) (mg : Str → Option Value) (fa : Addr) (h : Heap), (K w.params).In h → h.Ns mainGlobals mg → mg d.name = some (.ref fa) →
      ∃ fd : FuncData, (∀ (s : Shared) (u : Value), BindsTo s fd ⟨[u], []⟩ [(x, u)]) ∧ ∀ base : Heap, (K w.params).In base → base.Ns mainGlobals mg → FnAt callerA l.prog w (K w.params) mg base CX0 k fa fd [x] (sp w))
    (want : ∀ (w : World) (H : Hp) (a : Addr) (ns : List Int), ns.length ≤ n → SqL (K w.params) H a (ns.map V.int) → sp w [.ref a] H (fun v _ => v = .bl true) fun _ _ _ => False) :
    PySem.W.WalkO q loose XP YP l.row.toRowW d [] (fun f vs => PySem.call f vs) := by
  refine Att.attach_call most nodefault ?_
  intro w s0 s mg mb fa o pm cd doc a vs ns G y _ _ _ at_law script hi len nogen
  have inK := Y w _ y
  obtain ⟨fd, b1, f⟩ := F w mg fa _ inK G.T.g at_law
  have rel : Vals (ns.map V.int) vs := vals_ints hi
  have sz : ns.length ≤ sizeLine := Nat.le_trans len small
  cases look : (K w.params).lookup a with
  | some ob =>
    have same := inK a ob look
    rw [script] at same
    cases same
    refine begin_at (H := fun _ => none) inK G.T.g G.T.b G.T.builtins G.T.nolimit nogen script room f b1 (fun b u z => ?_) (fun b u z => ?_) (want w _ a ns len (.inr ⟨_, vs.toArray, _, look, rfl, rfl, rfl, ?_, ?_⟩))
    · have z : (none : Option HO) = some u := z
      cases z
    · have z : (none : Option HO) = some u := z
      cases z
    · rw [List.size_toArray, hi.length]
      exact sz
    · simpa using rel
  | none =>
    have here : ∀ b u, (if b = a then some (HO.frz { cls := .type "list", data := .seq vs.toArray } (.lst (ns.map V.int))) else none) = some u → b = a ∧ u = HO.frz { cls := .type "list", data := .seq vs.toArray } (.lst (ns.map V.int)) := by
      intro b u z
      by_cases hb : b = a
      · rw [if_pos hb] at z
        exact ⟨hb, (Option.some.inj z).symm⟩
      · rw [if_neg hb] at z
        cases z
    refine begin_at (H := fun b => if b = a then some (.frz { cls := .type "list", data := .seq vs.toArray } (.lst (ns.map V.int))) else none) inK G.T.g G.T.b G.T.builtins G.T.nolimit nogen script room f b1 (fun b u z => ?_) (fun b u z => ?_) (want w _ a ns len (.inl (.inr ⟨_, if_pos rfl⟩)))
    · obtain ⟨e1, e2⟩ := here b u z
      exact ⟨e1, look, _, _, e2⟩
    · obtain ⟨rfl, rfl⟩ := here b u z
      exact ⟨script, by rw [List.length_map]; exact sz, vs, _, rel, script⟩
theorem tyes {σ : L2.St} {H : Hp} {F : Bool → Hp → Prop} (h : F true H) : tYes σ H F := h
/-- the script can be read where what it was stays -/
theorem seq_keep {K : PySem.W.Frag} {H H' : Hp} {a : Addr} {xs : List V} (h : SqL K H a xs) (s : ∀ o, H a = some o → H' a = some o) : SqL K H' a xs := by
  rcases h with (h | ⟨o, h⟩) | h
  · exact .inl (.inl (s _ h))
  · exact .inl (.inr ⟨o, s _ h⟩)
  · exact .inr h
theorem all_true : ∀ n : Nat, (List.replicate n true).all id = true
  | 0 => rfl
  | n + 1 => by simp [List.replicate_succ]
theorem pl_zero {a b : Int} (h : Lowest a b) : pl (0, 1) (a, b) = (a, b) := by
  show lo (0 * b + a * 1) (1 * b) = (a, b)
  rw [Int.zero_mul, Int.zero_add, Int.mul_one, Int.one_mul]
  exact lo_of h
def spOne : Sp := fun vs H Q _ => ∃ p, vs = [.ref p] ∧ PotAt H p ∧ ∀ H', SameX p H H' → Q (.bl true) H'
def spLaw (K : PySem.W.Frag) : Sp := fun vs H Q _ => ∃ (a : Addr) (ns : List Int), vs = [.ref a] ∧ SqL K H a (ns.map V.int) ∧ ns.length ≤ 63 ∧ ∀ H', Q (.bl true) H'
/-! parts by what they stand for -/
theorem lo_congr {x y x' y' : Int} (hy : 0 < y) (hy' : 0 < y') (e : x * y' = x' * y) : lo x y = lo x' y' := by
  have c := lo_cross x' y'
  refine (lo_eq (lo_lowest (a := x') hy') hy ?_).trans (Prod.eta _)
  have h : (x * (lo x' y').2) * y' = ((lo x' y').1 * y) * y' := by
    calc (x * (lo x' y').2) * y' = (x * y') * (lo x' y').2 := by simp only [Int.mul_assoc, Int.mul_comm, Int.mul_left_comm]
      _ = (x' * y) * (lo x' y').2 := by rw [e]
      _ = (x' * (lo x' y').2) * y := by simp only [Int.mul_assoc, Int.mul_comm, Int.mul_left_comm]
      _ = ((lo x' y').1 * y') * y := by rw [c]
      _ = ((lo x' y').1 * y) * y' := by simp only [Int.mul_assoc, Int.mul_comm, Int.mul_left_comm]
  exact Int.eq_of_mul_eq_mul_right (by omega) h
theorem lo_pl {a b c d : Int} (hb : 0 < b) (hd : 0 < d) : pl (lo a b) (lo c d) = lo (a * d + c * b) (b * d) := by
  have b' := (lo_lowest (a := a) hb).1
  have d' := (lo_lowest (a := c) hd).1
  have e1 := lo_cross a b
  have e2 := lo_cross c d
  show lo ((lo a b).1 * (lo c d).2 + (lo c d).1 * (lo a b).2) ((lo a b).2 * (lo c d).2) = _
  refine lo_congr (Int.mul_pos b' d') (Int.mul_pos hb hd) ?_
  generalize (lo a b).1 = p at *
  generalize (lo a b).2 = q at *
  generalize (lo c d).1 = r at *
  generalize (lo c d).2 = t at *
  have h1 : p * t * (b * d) = a * q * t * d := by rw [← e1]; simp only [Int.mul_assoc, Int.mul_comm, Int.mul_left_comm]
  have h2 : r * q * (b * d) = c * t * q * b := by rw [← e2]; simp only [Int.mul_assoc, Int.mul_comm, Int.mul_left_comm]
  rw [Int.add_mul, Int.add_mul, h1, h2]
  simp only [Int.mul_assoc, Int.mul_comm, Int.mul_left_comm]
theorem lo_times {a b m : Int} (hb : 0 < b) : lo ((lo a b).1 * m) (lo a b).2 = lo (a * m) b := by
  refine lo_congr (lo_lowest hb).1 hb ?_
  have e := lo_cross a b
  calc (lo a b).1 * m * b = ((lo a b).1 * b) * m := by simp only [Int.mul_assoc, Int.mul_comm, Int.mul_left_comm]
    _ = (a * (lo a b).2) * m := by rw [e]
    _ = a * m * (lo a b).2 := by simp only [Int.mul_assoc, Int.mul_comm, Int.mul_left_comm]
theorem lo_less {a b c d : Int} (hb : 0 < b) (hd : 0 < d) : (lo a b).1 * (lo c d).2 < (lo c d).1 * (lo a b).2 ↔ a * d < c * b := by
  have b' := (lo_lowest (a := a) hb).1
  have d' := (lo_lowest (a := c) hd).1
  have e1 := lo_cross a b
  have e2 := lo_cross c d
  generalize (lo a b).1 = p at *
  generalize (lo a b).2 = q at *
  generalize (lo c d).1 = r at *
  generalize (lo c d).2 = t at *
  have h1 : (p * t) * (b * d) = (a * d) * (q * t) := by
    calc (p * t) * (b * d) = (p * b) * (t * d) := by simp only [Int.mul_assoc, Int.mul_comm, Int.mul_left_comm]
      _ = (a * q) * (t * d) := by rw [e1]
      _ = (a * d) * (q * t) := by simp only [Int.mul_assoc, Int.mul_comm, Int.mul_left_comm]
  have h2 : (r * q) * (b * d) = (c * b) * (q * t) := by
    calc (r * q) * (b * d) = (r * d) * (q * b) := by simp only [Int.mul_assoc, Int.mul_comm, Int.mul_left_comm]
      _ = (c * t) * (q * b) := by rw [e2]
      _ = (c * b) * (q * t) := by simp only [Int.mul_assoc, Int.mul_comm, Int.mul_left_comm]
  have pb : 0 < b * d := Int.mul_pos hb hd
  have pq : 0 < q * t := Int.mul_pos b' d'
  constructor
  · intro h
    have := Int.mul_lt_mul_of_pos_right h pb
    rw [h1, h2] at this
    exact Int.lt_of_mul_lt_mul_right this (Int.le_of_lt pq)
  · intro h
    have := Int.mul_lt_mul_of_pos_right h pq
    rw [← h1, ← h2] at this
    exact Int.lt_of_mul_lt_mul_right this (Int.le_of_lt pb)
def spMost (K : PySem.W.Frag) : Sp := fun vs H Q _ => ∃ a n k : Int, vs = [.int a, .int n, .int k] ∧ Bt 200 a ∧ Bt 200 n ∧ Bt 200 k ∧ NewT K H (lo (a * k * (n - k)) 2).1 (lo (a * k * (n - k)) 2).2 Q
def spLess (K : PySem.W.Frag) : Sp := fun vs H Q _ => ∃ u v a b c d, vs = [u, v] ∧ TupI K H u a b ∧ TupI K H v c d ∧ Bt 4400 a ∧ Bt 4400 b ∧ Bt 4400 c ∧ Bt 4400 d ∧ Q (.bl (decide (a * d < c * b))) H
/-! how long a repr is -/
theorem text_len : ∀ (ts : List Str) (k : Nat) (acc : Str), (textFrom k acc ts).length ≤ acc.length + piled ts
  | [], k, acc => by show acc.length ≤ _; omega
  | t :: r, k, acc => by
    have ih := text_len r (k + 1) (acc ++ (if k > 0 then ", " else "" : String) ++ t)
    have e : ((if k > 0 then ", " else "" : String) : Str).length ≤ 2 := by split <;> decide +kernel
    show (textFrom (k + 1) (acc ++ (if k > 0 then ", " else "" : String) ++ t) r).length ≤ _
    rw [strLen_append, strLen_append] at ih
    rw [piled_cons]
    omega
theorem shown_int_len {n : Nat} {i : Int} (hn : 0 < n) (h : Bt n i) : (PyData.shown (.int i)).length ≤ n + 1 := by
  have e := int_text_length_le (a := i) hn (PySem.Flt.log2_lt_of hn h)
  show (Str.ofString (toString i)).length ≤ n + 1
  rw [PySem.ofString_length]
  exact e
theorem shown_tup_len (ds : List PyData) : (PyData.shown (.tuple ds)).length ≤ piled (PyData.shownAll ds) + 2 := PySem.fmt_text _
theorem shown_lst_len (ds : List PyData) : (PyData.shown (.list ds)).length ≤ piled (PyData.shownAll ds) + 2 := by
  show (textFrom 0 "[" (PyData.shownAll ds) ++ ("]" : Str)).length ≤ _
  have h := text_len (PyData.shownAll ds) 0 "["
  have e1 : (("[" : String) : Str).length = 1 := rfl
  have e2 : (("]" : String) : Str).length = 1 := rfl
  rw [strLen_append]
  omega
/-- the pair as data -/
def pd (a b : Int) : PyData := .tuple [.int a, .int b]
theorem pd_len {n : Nat} {a b : Int} (hn : 0 < n) (h : Bt n a) (k : Bt n b) : (pd a b).shown.length ≤ 2 * n + 8 := by
  have e := shown_tup_len [.int a, .int b]
  have h1 := shown_int_len hn h
  have h2 := shown_int_len hn k
  have e2 : piled (PyData.shownAll [.int a, .int b]) = (PyData.shown (.int a)).length + 2 + ((PyData.shown (.int b)).length + 2 + 0) := by
    show piled [PyData.shown (.int a), PyData.shown (.int b)] = _
    rw [piled_cons, piled_cons, piled_nil]
  show (PyData.shown (.tuple [.int a, .int b])).length ≤ _
  omega
theorem bt_show {i : Int} (h : Bt 1900 i) : (PyData.int i).showable = true := decide_eq_true (Nat.lt_of_lt_of_le (PySem.Flt.log2_lt_of (by decide) h) (by decide))
theorem pd_show {a b : Int} (h : Bt 1900 a) (k : Bt 1900 b) : (pd a b).showable = true := by
  show ((PyData.int a).showable && ((PyData.int b).showable && true)) = true
  rw [bt_show h, bt_show k]
  rfl
theorem pd_dp {K : PySem.W.Frag} {H : Hp} {v : V} {a b : Int} (h : TupI K H v a b) : Dp K H v (pd a b) := by
  obtain ⟨t, rfl, h⟩ := h
  exact .tup h (.cons (.int a) (.cons (.int b) .nil))
def spIsR (K : PySem.W.Frag) : Sp := fun vs H Q _ => ∃ u v a b, vs = [u, v] ∧ TupI K H u a b ∧ TupI K H v a b ∧ Bt 1900 a ∧ Bt 1900 b ∧ Q (.bl true) H
def spNumW (lo_ hi_ : Int) : Sp := fun vs H Q _ => ∃ p, vs = [.ref p] ∧ PotAt H p ∧ ∀ i H', lo_ ≤ i → i < hi_ → SameX p H H' → PotAt H' p → Q (.int i) H'
def spMany : Sp := fun vs H Q _ => ∃ p m, vs = [.ref p, .int m] ∧ PotAt H p ∧ 0 ≤ m ∧ m < 1000 ∧ ∀ i H', 0 ≤ i → i ≤ m → SameX p H H' → PotAt H' p → Q (.int i) H'
/-! behind the last argument -/
theorem nil2 {σ : L2.St} {H : Hp} {F : List V → Hp → Prop} (h : F [] H) : tNil σ H F := h
/-! a value that stands for x / y -/
def Rp (K : PySem.W.Frag) (H : Hp) (v : V) (x y : Int) (n : Nat) : Prop := TupI K H v (lo x y).1 (lo x y).2 ∧ 0 < y ∧ Bt n x ∧ Bt n y
theorem Rp.same {K : PySem.W.Frag} {H H' : Hp} {v : V} {x y : Int} {n : Nat} (h : Rp K H v x y n) (s : Same H H') : Rp K H' v x y n := ⟨h.1.same s, h.2⟩
theorem Rp.k {K : PySem.W.Frag} {H H' : Hp} {v : V} {x y : Int} {n : Nat} (h : Rp K H v x y n) (s : KT H H') : Rp K H' v x y n := ⟨h.1.k s, h.2⟩
theorem Rp.x {K : PySem.W.Frag} {H H' : Hp} {p : Addr} {v : V} {x y : Int} {n : Nat} (h : Rp K H v x y n) (s : SameX p H H') (hp : PotAt H p) : Rp K H' v x y n := ⟨h.1.x s hp, h.2⟩
theorem Rp.mono {K : PySem.W.Frag} {H : Hp} {v : V} {x y : Int} {n m : Nat} (h : Rp K H v x y n) (k : n ≤ m) : Rp K H v x y m := ⟨h.1, h.2.1, h.2.2.1.mono k, h.2.2.2.mono k⟩
theorem Rp.of {K : PySem.W.Frag} {H : Hp} {v : V} {a b : Int} {n : Nat} (h : TupI K H v a b) (l : Lowest a b) (ba : Bt n a) (bb : Bt n b) : Rp K H v a b n := ⟨by rw [lo_of l]; exact h, l.1, ba, bb⟩
theorem Rp.same_as {K : PySem.W.Frag} {H : Hp} {v : V} {x y x' y' : Int} {n m : Nat} (h : Rp K H v x y n) (hy : 0 < y') (bx : Bt m x') (b_y : Bt m y') (e : x * y' = x' * y) : Rp K H v x' y' m :=
  ⟨by rw [← lo_congr h.2.1 hy e]; exact h.1, hy, bx, b_y⟩
section
variable {K : PySem.W.Frag} {H : Hp} {u v : V} {x y x' y' : Int} {n m : Nat} {Q : VK}
theorem plus_rp (h : Rp K H u x y n) (k : Rp K H v x' y' m) (hn : n ≤ 4400) (hm : m ≤ 4400) (q : ∀ w H', Same H H' → Rp K H' w (x * y' + x' * y) (y * y') (n + m + 1) → Q w H') :
    spTwo K (fun a b c d => lo (a * d + c * b) (b * d)) [u, v] H Q E0 := by
  refine ⟨u, v, _, _, _, _, rfl, h.1, k.1, (lo_lowest h.2.1).1, (lo_lowest k.2.1).1, (Bt.lo1 h.2.2.1).mono hn, (Bt.lo2 h.2.2.2).mono hn, (Bt.lo1 k.2.2.1).mono hm, (Bt.lo2 k.2.2.2).mono hm, fun w H' s hw => q w H' s ⟨?_, Int.mul_pos h.2.1 k.2.1, ?_, ?_⟩⟩
  · have e : pl (lo x y) (lo x' y') = lo (x * y' + x' * y) (y * y') := lo_pl h.2.1 k.2.1
    have hw : TupI K H' w (pl (lo x y) (lo x' y')).1 (pl (lo x y) (lo x' y')).2 := hw
    rw [e] at hw
    exact hw
  · exact (h.2.2.1.mul k.2.2.2).add ((k.2.2.1.mul h.2.2.2).mono (by omega))
  · exact (h.2.2.2.mul k.2.2.2).mono (by omega)
theorem times_rp {i : Int} (h : Rp K H u x y n) (bi : Bt m i) (hn : n ≤ 4400) (hm : m ≤ 4400) (q : ∀ w H', Same H H' → Rp K H' w (x * i) y (n + m) → Q w H') : spTimes K [u, .int i] H Q E0 := by
  refine ⟨u, _, _, i, rfl, h.1, (lo_lowest h.2.1).1, (Bt.lo1 h.2.2.1).mono hn, (Bt.lo2 h.2.2.2).mono hn, bi.mono hm, fun w H' s hw => q w H' s ⟨?_, h.2.1, h.2.2.1.mul bi, h.2.2.2.mono (by omega)⟩⟩
  rw [lo_times h.2.1] at hw
  exact hw
theorem less_rp (h : Rp K H u x y n) (k : Rp K H v x' y' m) (hn : n ≤ 4400) (hm : m ≤ 4400) (q : Q (.bl (decide (x * y' < x' * y))) H) : spLess K [u, v] H Q E0 := by
  refine ⟨u, v, _, _, _, _, rfl, h.1, k.1, (Bt.lo1 h.2.2.1).mono hn, (Bt.lo2 h.2.2.2).mono hn, (Bt.lo1 k.2.2.1).mono hm, (Bt.lo2 k.2.2.2).mono hm, ?_⟩
  rw [decide_eq_decide.mpr (lo_less h.2.1 k.2.1)]
  exact q
theorem most_rp {a b c : Int} (ba : Bt 200 a) (bb : Bt 200 b) (bc : Bt 200 c) (q : ∀ w H', Same H H' → Rp K H' w (a * c * (b - c)) 2 700 → Q w H') : spMost K [.int a, .int b, .int c] H Q E0 :=
  ⟨a, b, c, rfl, ba, bb, bc, fun w H' s hw => q w H' s ⟨hw, by decide, ((ba.mul bc).mul (bb.sub bc)).mono (by decide), by unfold Bt; decide +kernel⟩⟩
theorem low_rp {a b : Int} (hb : 0 < b) (ba : Bt n a) (bb : Bt n b) (hn : n ≤ 8999) (q : ∀ w H', Same H H' → Rp K H' w a b n → Q w H') : spLow K [.int a, .int b] H Q E0 :=
  ⟨a, b, rfl, hb, bb.mono hn, fun w H' s hw => q w H' s ⟨hw, hb, ba, bb⟩⟩
theorem is_rp (h : Rp K H u x y n) (k : Rp K H v x' y' m) (hn : n ≤ 1900) (e : x * y' = x' * y) (q : Q (.bl true) H) : spIsR K [u, v] H Q E0 := by
  refine ⟨u, v, _, _, rfl, h.1, ?_, (Bt.lo1 h.2.2.1).mono hn, (Bt.lo2 h.2.2.2).mono hn, q⟩
  rw [lo_congr h.2.1 k.2.1 e]
  exact k.1
theorem eqd_rp (h : Rp K H u x y n) (k : Rp K H v x' y' m) (e : x * y' = x' * y) : ∃ d d', Dp K H u d ∧ Dp K H v d' ∧ SeqAt.shaped d = true ∧ SeqAt.shaped d' = true ∧ PyData.eqv d d' = true := by
  have k1 := k.1
  rw [← lo_congr h.2.1 k.2.1 e] at k1
  exact ⟨_, _, pd_dp h.1, pd_dp k1, rfl, rfl, eqv_pair _ _⟩
end
end WS
set_option Elab.async false
set_option linter.all false
set_option maxRecDepth 100000
set_option maxHeartbeats 4000000
namespace WS
open PySem PySem.Spec PyProof.Rows L2
/-! within an except suite -/
section
variable {prog : Program} {w : World} {A : Around} {E : Value → Shared → Prop} {s : Shared}
theorem list_end_hot {it l x1 : Addr} {i : Nat} {its : Array Value} {Q : Option Value → Shared → Prop} (hot : HotX.HotAt A x1 s.heap) (ni : x1 ≠ it)
    (hit : s.heap.IsListIter it l i) (hl : s.heap.IsList l its) (out : its[i]? = none)
    (fin : ∀ h', (∀ b o, b ≠ it → s.heap.get? b = some o → h'.get? b = some o) → Q none { s with heap := h' }) : wpAny (model prog w) A (pyNext (.ref it)) Q E s := by
  have ty := hit.typeIs
  obtain ⟨oi, gi, ci, di⟩ := hit
  obtain ⟨ol, gl, _, nl, dl⟩ := hl
  obtain ⟨hh, oh, vh, gh, dh, ch⟩ := hot
  unfold pyNext
  refine wpAny_bind (wpAny_attempt (wpAny_callSpecial?_slot (name := Str.ofString "__next__") ty slot_listiter_next (wpAny_call_entry slot_listiter_next ty entry_listiter_next ?_ (args_listiter_next _))))
  show wpAny _ _ (field (.ref it) 0 >>= _) _ _ s
  refine wpAny_bind (wpAny_field gi di (x := .ref l) rfl ?_)
  show wpAny _ _ (ite ((Value.ref l == Value.none) = true) _ _) _ _ s
  rw [if_neg (show ¬ (Value.ref l == Value.none) = true from Bool.false_ne_true)]
  show wpAny _ _ (field (.ref it) 1 >>= _) _ _ s
  refine wpAny_bind (wpAny_field gi di (x := .int i 0) rfl (?_ : wpAny _ _ (seqItems? (.ref l) >>= _) _ _ s))
  refine wpAny_bind (wpAny_seqItems gl dl ?_)
  simp only [Int.toNat_natCast, out]
  refine wpAny_bind (wpAny_rule (wpAny_bind (wpAny_setField gi di (by simp) (?_ : wpAny _ _ (newExc (.type "StopIteration") [] >>= _) _ _ _))))
  refine wpAny_bind ?_
  simp only [newExc, newTuple]
  refine wpAny_bind (wpAny_newObj_type ?_ (by size_fits))
  refine wpAny_bind (m := firstArgMember _ _) (wpAny_of_eq (a := Value.none) (by first | rfl | (simp only [firstArgMember]; rfl)) (wpAny_newObj_type ?_ (by size_fits)))
  have gh1 : (s.heap.update it (Obj.mapFields (·.setIfInBounds 0 .none))).get? x1 = some oh := by
    rw [Heap.get?_update_other _ _ ni.symm]
    exact gh
  refine HotX.raiseNew_hot ⟨hh, oh, vh, Heap.get?_push_of_some _ (Heap.get?_push_of_some _ gh1), dh, ch⟩ (Nat.ne_of_lt (Heap.lt_size (Heap.get?_push_of_some _ gh1))) (Heap.get?_push_size _ rfl) rfl (by first | (simp; done) | (simp; omega)) ?_
  refine wpAny_bind (wpAny_isInstance (T := "StopIteration") (b := true) ⟨_, Heap.get?_update_self _ (Heap.get?_push_size _ rfl) rfl, rfl⟩ isSubtype_stop (wpAny_pure (fin _ fun b o nb e => ?_)))
  have e1 : (s.heap.update it (Obj.mapFields (·.setIfInBounds 0 .none))).get? b = some o := by
    rw [Heap.get?_update_other _ _ nb.symm]
    exact e
  rw [Heap.get?_update_other _ _ (Nat.ne_of_gt (Heap.lt_size (Heap.get?_push_of_some _ e1)))]
  exact Heap.get?_push_of_some _ (Heap.get?_push_of_some _ e1)
end
/-- what the heap says of the exception that is handled -/
def Held (x1 : Addr) (h : Heap) : Prop := ∃ (o : Obj) (vs : Array Value), h.get? x1 = some o ∧ o.data = .fields vs ∧ vs[2]? = some .none
theorem walks_hot {prog : Program} {w : World} {A : Around} {I ax x1 : Addr} (hh : A.handled = some (.ref x1)) (hne : ax ≠ I) (hn1 : x1 ≠ I) (its : Array Value) :
    Walks prog w A I [I, ax, x1] [I] its.size (fun i v => its[i]? = some v) (fun i h => (h.IsListIter I ax i ∧ h.IsList ax its) ∧ Held x1 h) where
  sub := fun b hb => by simp at hb; simp [hb]
  frame := fun i h h' st keep => ⟨⟨st.1.1.at (keep I (by simp)), st.1.2.at (keep ax (by simp))⟩, by
    obtain ⟨o, vs, e, r⟩ := st.2
    exact ⟨o, vs, keep x1 (by simp) _ e, r⟩⟩
  item := fun i s Q E hi st fin => by
    refine wpAny_pyNext_list_item st.1.1 st.1.2 (x := its[i]) (by simp [hi]) fun h' again same => fin _ h' s.toks (by simp [hi]) ⟨⟨again, st.1.2.extBut same.extBut hne⟩, ?_⟩ fun b o hb e => same.extBut b o (fun h => hb (by simp [h])) e
    obtain ⟨o, vs, e, r⟩ := st.2
    exact ⟨o, vs, same.extBut x1 o hn1 e, r⟩
  done := fun s Q E st fin => list_end_hot ⟨hh, st.2⟩ hn1 st.1.1 st.1.2 (by simp) fun h' keep => fin h' s.toks fun b o hb e => keep b o (fun h => hb (by simp [h])) e
  self := fun _ _ _ _ st q => wpAny_pyIter_listiter st.1.1 q
theorem held_of {X : Cx} {pins : List (Addr × Obj)} {σ : L2.St} {H : Hp} {s : Shared} {p : Addr × Obj} (hot : L2H.Hot1 X.A p) (hp : p ∈ X.pn) (inv : Inv X pins σ H s) : Held p.1 s.heap := by
  obtain ⟨_, vs, d, c⟩ := hot
  exact ⟨p.2, vs, (inv.pin p (List.mem_append_left _ hp)).1, d, c⟩
/-- any(list of truths) there -/
theorem cr_anyH {X : Cx} {p : Addr × Obj} (hot : L2H.Hot1 X.A p) (hp : p ∈ X.pn) : CallR X (.builtin "any") (rAny X.K) := by
  intro pins s σ H vs us Q inv vals want
  obtain ⟨a, bs, rfl, at_a, q⟩ := want
  obtain ⟨its, rel, pl, _⟩ := inv.list at_a
  rw [Vals.ref1 vals]
  have tb := rel.bls
  have held := held_of hot hp inv
  refine call_any_walk (iter_any pl.isList fun s2 e2 st ne => ?_)
  subst e2
  have lt : p.1 < s.heap.objs.size := by
    obtain ⟨o, _, e, _⟩ := held
    exact Heap.lt_size e
  have held2 : Held p.1 (s.heap.push { cls := .type "list_iterator", data := .fields #[.ref a, .int 0 0] }) := by
    obtain ⟨o, vs, e, r⟩ := held
    exact ⟨o, vs, Heap.get?_push_of_some _ e, r⟩
  refine ⟨_, _, _, _, _, _, _, rfl, walks_hot (A := X.A.in1) (x1 := p.1) hot.1 ne (Nat.ne_of_lt lt) its.toArray, ⟨st, held2⟩, truth_bools tb, fun h' tk keep => ⟨.bl _, H, inv.kept fun b o eo => keep b o (fun z => ?_) (Heap.get?_push_of_some _ eo), ?_, q⟩⟩
  · have z : b = s.heap.objs.size := by simpa using z
    exact absurd (z ▸ Heap.lt_size eo) (Nat.lt_irrefl _)
  · show Value.bool _ = Value.bool _
    rw [← L2.any_range, tb, List.size_toArray, List.length_map]
/-! isinstance of the exception that is handled -/
theorem inst_of {X : Cx} {pins : List (Addr × Obj)} {σ : L2.St} {H : Hp} {s : Shared} {p : Addr × Obj} {D : Addr} (hp : p ∈ X.pn) (inv : Inv X pins σ H s) (hc : p.2.cls = .ref D) (hd : p.2.dict = none) (hf : ∃ vs, p.2.data = .fields vs) : PySem.W.InstAt s.heap p.1 p.2 D none := by
  obtain ⟨get, _⟩ := inv.pin p (List.mem_append_left _ hp)
  obtain ⟨a, oc, od, oda, osl⟩ := p
  obtain ⟨vs, e⟩ := hf
  dsimp only at hc hd e get ⊢
  subst hc hd e
  exact ⟨get, rfl, rfl, trivial⟩
theorem call_isP {X : Cx} {p : Addr × Obj} {D : Addr} (hp : p ∈ X.pn) (C : ExcC X.K D) (hc : p.2.cls = .ref D) (hd : p.2.dict = none) (hf : ∃ vs, p.2.data = .fields vs) :
    CallR X (.builtin "isinstance") (fun xs H Q => ∃ (c : V) (cv : Value) (b : Bool), xs = [.ref p.1, c] ∧ ClsV c cv ∧ PySem.W.kitOne X.K (.ref D) cv = some b ∧ Q (.bl b) H) := by
  intro pins s σ H xs us Q inv vals want
  obtain ⟨c, cv, b, rfl, cls, kit, q⟩ := want
  obtain ⟨u1, u2, rfl, r1, r2⟩ := vals2 vals
  cases (show u1 = Value.ref p.1 from r1)
  cases cls.eq r2
  exact PySem.W.kia_one (PySem.W.handS_kitx_exc C.hg C.hk C.hs C.hd C.ha C.hn C.ht C.hm) inv.kIn (inst_of hp inv hc hd hf) kit (fun z => nomatch z) fun tk => ⟨.bl b, H, inv.tok tk, rfl, q⟩
theorem call_isPT {X : Cx} {p : Addr × Obj} {D : Addr} (hp : p ∈ X.pn) (C : ExcC X.K D) (hc : p.2.cls = .ref D) (hd : p.2.dict = none) (hf : ∃ vs, p.2.data = .fields vs) :
    CallR X (.builtin "isinstance") (fun xs H Q => ∃ (tp : Addr) (cs : List V) (ws : List Value) (b : Bool), xs = [.ref p.1, .ref tp] ∧ H tp = some (.tup cs) ∧ Paired ClsV cs ws ∧ PySem.W.kitAny X.K (.ref D) ws = some b ∧ Q (.bl b) H) := by
  intro pins s σ H xs us Q inv vals want
  obtain ⟨tp, cs, ws, b, rfl, at_t, cls, kit, q⟩ := want
  obtain ⟨u1, u2, rfl, r1, r2⟩ := vals2 vals
  cases (show u1 = Value.ref p.1 from r1)
  cases (show u2 = Value.ref tp from r2)
  obtain ⟨_, its, rel, o, g, ec, n, ed⟩ := (show ObjOk X.prog X.w H s.heap tp (.tup cs) from inv.hok tp _ at_t)
  cases ClsV.all cls rel
  obtain ⟨oc, od, dt, sl⟩ := o
  dsimp only at ec ed
  subst ec ed
  exact PySem.W.kia_tup (PySem.W.handS_kitx_exc C.hg C.hk C.hs C.hd C.ha C.hn C.ht C.hm) inv.kIn (inst_of hp inv hc hd hf) g kit (fun z => nomatch z) fun tk => ⟨.bl b, H, inv.tok tk, rfl, q⟩
/-! a def called there, of the exception p that is handled -/
structure FnHot (A : Around) (p : Addr × Obj) (P : Program) (w : World) (K : PySem.W.Frag) (mg : Str → Option Value) (base : Heap) (k : Nat) (f : Addr) (fd : FuncData) (ps : List Str) (sp : Sp) : Prop where
  len : ∀ vs H Q E, sp vs H Q E → vs.length = ps.length
  go : ∀ (outer : List Env) (s : Shared) (H : Hp) (args : Args) (us : List Value) (vs : List V) (Q : VK),
    L2H.RoomH k A → L2H.PinOk outer H s p → Env0 P w K mg base A outer s H → BindsTo s fd args (ps.zip us) → Vals vs us → sp vs H Q E0 →
    codeAny (model P w) A (.call (.ref f) args) (CR CX0 outer P w H s Q E0) s
theorem fun_hot {A : Around} {p : Addr × Obj} {P : Program} {w : World} {K : PySem.W.Frag} {mg : Str → Option Value} {base : Heap} {x qual : Str} {st : Stmt} {f : Addr} {fd : FuncData} {N ps : List Str} {k : Nat} {sp : Sp}
    (F : Fun K x qual st f fd) (S : FnScope N ps (defScope st)) (len : ∀ vs H Q E, sp vs H Q E → vs.length = ps.length)
    (B : ∀ (cdv : Value) (outer : List Env) (s : Shared) (H : Hp) (vs : List V) (Q : VK),
      L2H.RoomH k (A.deeper (envOfC qual (defScope st) s.heap.objs.size f cdv)) → sp vs H Q E0 →
      ∃ t, PSs (L2H.cxH CX0 P w K mg base N qual (defScope st) f cdv A outer s H E0 p) (defBody st) t ∧ t ⟨fun _ H' => Q .non H', Q, fun _ _ => False, fun _ _ => False⟩ (start N vs) H) :
    FnHot A p P w K mg base (k + 1) f fd ps sp := by
  obtain ⟨oc, od, kV, doc, pm, an, cdv, ct, osl, rfl, at_f, code⟩ := F.ex
  refine ⟨len, ?_⟩
  intro outer s H args us vs Q room pin env0 bt vals want
  have inK : K.In s.heap := env0.mod.kin.keeps (fun b o e => (env0.bs b o e).1)
  have kinds : ∀ y ∈ ps.zip us, (defScope st).names.lookup y.1 = some .local ∨ ((defScope st).names.lookup y.1 = some .cell ∧ ((cellsFrom (s.heap.objs.size + 1) (defScope st).names []).lookup y.1).isSome = true) := by
    rintro ⟨n, v⟩ hy
    rcases S.par n (List.of_mem_zip hy).1 with l | c
    · exact .inl l
    · exact .inr ⟨c, PySem.W.cellsFrom_some _ _ _ (.inl c)⟩
  refine codeAny_call_function room.depth (inK _ _ at_f) rfl S.co S.gen rfl (PySem.W.codeRec_of inK code) (bt _ _ _ _ ?_)
  refine wpAny_newFunctionEnv_cells S.kind kinds ?_
  rintro env rfl s1 ic
  refine ⟨(env0.mod.nolimit.keeps fun b o e => (env0.bs b o e).1).keeps ic.toInCall.keep, codeAny_func ?_⟩
  obtain ⟨t, pss, reading⟩ := B cdv outer s H vs Q (room.deeper _) want
  have inv := L2H.inv_startH (CX := CX0) (E := E0) S pin env0 (len _ _ _ _ want) vals ic
  refine wpAny_mono (pss.run [] s1 (start N vs) H _ inv reading) ?_ (fun _ _ z => z)
  intro fl s' z
  match fl, z with
  | .ret u, ⟨v, σ', H', J, rv, q⟩ => exact ⟨v, H', J.os, J.bare, J.base, J.hok, rv, q⟩
  | .next, ⟨σ', H', J, q⟩ => exact ⟨.non, H', J.os, J.bare, J.base, J.hok, rfl, q⟩
  | .brk, ⟨_, _, _, q⟩ => exact q.elim
  | .cont, ⟨_, _, _, q⟩ => exact q.elim
theorem pe_callHot {X : Cx} {k : Nat} {p : Addr × Obj} {f : Addr} {fd : FuncData} {ps : List Str} {sp : Sp} {x : Str} {p1 pos : Pos} {e : Expr} {es : List Expr} {t : TA}
    (F : FnHot X.A p X.prog X.w X.K X.mg X.base k f fd ps sp) (room : L2H.RoomH k X.A) (hp : p ∈ X.pn) (gl : Gl X x) (at_x : X.mg x = some (.ref f)) (kp : PySem.W.keepIn X.K (.ref f) = true)
    (bi : Binds X.K fd ps []) (args : PA X (e :: es) t)
    (nodbg : (x == ("__debug__" : Str)) = false := by decide) (one : starEach (e :: es) X.env = (false, eval e X.env) :: starEach es X.env := by rfl) (nostar : (backTo pos (starEach es X.env)).any (·.1) = false := by rfl) :
    PE X (.Call (.Name x p1) (e :: es) [] pos) (tCall sp [] E0 t) := by
  constructor
  intro pins s σ H Q inv want
  refine wpAny_Call_Name_kw (ld_glob inv gl at_x ?_ nodbg)
  refine PySem.W.callWith_K (h₀ := X.base) inv.ok.mod.kin kp (thn (args.run pos pins s σ H _ inv want) ?_) one nostar
  rintro us s1 ⟨vs, H1, inv1, vals, want1⟩
  refine ⟨inv1.kIn, ?_⟩
  rw [List.append_nil] at want1
  have size : us.length = ps.length := vals.length.symm.trans (F.len _ _ _ _ want1)
  have bt := bi s1 us inv1.kIn (by rw [List.append_nil]; exact size)
  rw [List.append_nil] at bt
  obtain ⟨g1, g2, g3, g4, g5⟩ := inv1.pin p (List.mem_append_left _ hp)
  have pin : L2H.PinOk X.stack H1 s1 p := ⟨g1, g2, fun z => (List.mem_cons.mp (inv1.stkSub p.1 z)).elim g3 g4, g5⟩
  refine wpAny_call (codeAny_mono (F.go X.stack s1 H1 ⟨us, []⟩ us vs Q room pin inv1.env0 bt vals want1) ?_)
  intro r s' z
  match r, z with
  | .error er, z => exact z.elim
  | .ok (.ret u), z => exact inv1.after z
  | .ok .next, z => exact z.elim
  | .ok .brk, z => exact z.elim
  | .ok .cont, z => exact z.elim
end WS
set_option Elab.async false
set_option linter.all false
set_option maxRecDepth 100000
set_option maxHeartbeats 4000000
namespace WS
open PySem PySem.Spec PyProof.Rows L2
/-! calls with defaults where what is raised is wished for at the caller's slots -/
def tCallSD (sp : Sp) (dvs : List V) (E : L2.St → XK) (t : TA) : TE := fun σ H Q => t σ H fun vs H1 => sp (vs ++ dvs) H1 Q (E σ)
theorem pe_callSD {X : Cx} {CX : CXT} {k : Nat} {f : Addr} {fd : FuncData} {ps : List Str} {sp : Sp} {dvs : List V} {ds : List Value} {E : L2.St → XK} {x : Str} {p1 pos : Pos} {e : Expr} {es : List Expr} {t : TA}
    (F : FnOk X.prog X.w X.K X.mg X.base CX k f fd ps sp) (room : Room k X.A) (gl : Gl X x) (at_x : X.mg x = some (.ref f)) (kp : PySem.W.keepIn X.K (.ref f) = true)
    (bi : Binds X.K fd ps ds) (vd : Vals dvs ds) (ex : ∀ σ, PassesAt CX X σ (E σ)) (args : PA X (e :: es) t)
    (nodbg : (x == ("__debug__" : Str)) = false := by decide) (one : starEach (e :: es) X.env = (false, eval e X.env) :: starEach es X.env := by rfl) (nostar : (backTo pos (starEach es X.env)).any (·.1) = false := by rfl) :
    PE X (.Call (.Name x p1) (e :: es) [] pos) (tCallSD sp dvs E t) := by
  constructor
  intro pins s σ H Q inv want
  refine wpAny_Call_Name_kw (ld_glob inv gl at_x ?_ nodbg)
  refine PySem.W.callWith_K (h₀ := X.base) inv.ok.mod.kin kp (thn (args.run pos pins s σ H _ inv want) ?_) one nostar
  rintro us s1 ⟨vs, H1, inv1, vals, want1⟩
  refine ⟨inv1.kIn, ?_⟩
  have both : Vals (vs ++ dvs) (us ++ ds) := vals.append vd
  have size : (us ++ ds).length = ps.length := both.length.symm.trans (F.len _ _ _ _ want1)
  refine wpAny_call (codeAny_mono (F.run X.A X.stack s1 H1 ⟨us, []⟩ _ _ Q (E σ) room inv1.env0 (bi s1 us inv1.kIn size) both want1) ?_)
  intro r s' z
  match r, z with
  | .error er, z => exact ex σ pins H1 s1 er s' inv1 z
  | .ok (.ret u), z => exact inv1.after z
  | .ok .next, z => exact z.elim
  | .ok .brk, z => exact z.elim
  | .ok .cont, z => exact z.elim
theorem takes0N {X : Cx} : L2N.Takes X (fun _ _ _ _ => False) := fun _ _ x => by
  obtain ⟨_, _, _, _, _, _, _, _, _, _, _, _, _, _, _, _, z⟩ := x
  exact z.elim
theorem hot_of {A : Around} {a : Addr} {oe : Obj} {cls : Value} {d : Option Addr} (hz : L2N.Zn cls d oe) (hf : ∃ vs, oe.data = .fields vs) : L2H.Hot1 (A.mark (some (.ref a))) (a, oe) := by
  obtain ⟨vs, e⟩ := hf
  exact ⟨rfl, vs, e, hz.2.2 vs e⟩
theorem room_hot {k : Nat} {A : Around} {v : Option Value} (hr : Room k A) : L2H.RoomH k (A.mark v) := ⟨hr.dp, hr.un⟩
/-! classes that are no base of D -/
def Oth (K : PySem.W.Frag) (D C : Addr) : Prop := PySem.W.isClsIn K C = true ∧ PySem.W.typeIn K (.ref C) = some (.type "type") ∧ PySem.W.subIn K (.ref D) (.ref C) = some false
theorem oth_kit {K : PySem.W.Frag} {D C : Addr} (hs : PySem.W.subIn K (.ref D) (.ref D) = some true) (h : Oth K D C) : PySem.W.kitOne K (.ref D) (.ref C) = some false := by
  have ne : ¬ ((Value.ref D == Value.ref C) = true) := fun e => by
    have e : D = C := Value.ref.inj (beq_iff_eq.mp e)
    have h3 := h.2.2
    rw [← e, hs] at h3
    cases h3
  have h1 : (PySem.W.clsIn K C).isSome = true := h.1
  unfold PySem.W.kitOne
  rw [if_neg ne]
  show (if ((PySem.W.clsIn K C).isSome && PySem.W.typeIn K (.ref C) == some (.type "type")) = true then PySem.W.subIn K (.ref D) (.ref C) else none) = some false
  rw [if_pos (by rw [h1, h.2.1]; rfl)]
  exact h.2.2
def Oths (K : PySem.W.Frag) (D : Addr) : List Addr → Prop
  | [] => True
  | c :: r => Oth K D c ∧ Oths K D r
theorem oths_kit {K : PySem.W.Frag} {D : Addr} (hs : PySem.W.subIn K (.ref D) (.ref D) = some true) : ∀ cs : List Addr, Oths K D cs → PySem.W.kitAny K (.ref D) (cs.map Value.ref) = some false
  | [], _ => rfl
  | c :: r, h => kitAny_cons (oth_kit hs h.1) (fun _ => oths_kit hs r h.2) (fun z => nomatch z)
theorem self_kit {K : PySem.W.Frag} {D : Addr} : PySem.W.kitOne K (.ref D) (.ref D) = some true := if_pos (beq_self_eq_true _)
theorem ve_kit {K : PySem.W.Frag} {D : Addr} (h : PySem.W.subIn K (.ref D) (.type "ValueError") = some true) : PySem.W.kitOne K (.ref D) (.type "ValueError") = some true := by
  show (if (Value.ref D == Value.type "ValueError") = true then some true else (if PySem.W.kitMeta "ValueError" = true then PySem.W.subIn K (.ref D) (.type "ValueError") else none)) = some true
  rw [if_neg (show ¬ (Value.ref D == Value.type "ValueError") = true from Bool.false_ne_true), if_pos (by decide +kernel)]
  exact h
def spAlone (a : Addr) (cls : Value) (d : Option Addr) (D : Addr) : Sp := fun vs H Q _ => vs = [.ref a] ∧ cls = .ref D ∧ d = none ∧ ∀ H', Same H H' → Q (.bl true) H'
/-! things that are no whole numbers -/
def Odd (p : Addr) (K : PySem.W.Frag) (H : Hp) (v : V) : Prop := v = .non ∨ (∃ b, v = .bl b) ∨ (∃ z, v = .str z) ∨ ∃ a, v = .ref a ∧ ((∃ xs, SqT K H a xs) ∨ (a ≠ p ∧ ∃ xs, H a = some (.lst xs)) ∨ (a ≠ p ∧ ∃ kvs, H a = some (.dK kvs)))
theorem whole_dct {K : PySem.W.Frag} {H : Hp} {a : Addr} {kvs : List (Key × V)} (h : H a = some (.dK kvs)) : WholeIs K H (.ref a) false := ⟨_, false, false, .base (.dK h), kit_ty (by decide +kernel), kit_ty (by decide +kernel), rfl⟩
theorem Odd.whole {p : Addr} {K : PySem.W.Frag} {H : Hp} {v : V} (h : Odd p K H v) : WholeIs K H v false := by
  rcases h with rfl | ⟨b, rfl⟩ | ⟨z, rfl⟩ | ⟨a, rfl, ⟨xs, h⟩ | ⟨_, xs, h⟩ | ⟨_, kvs, h⟩⟩
  · exact whole_non
  · exact whole_bl
  · exact whole_str
  · exact whole_tup h
  · exact whole_lst h
  · exact whole_dct h
theorem Odd.x {p : Addr} {K : PySem.W.Frag} {H H' : Hp} {v : V} (h : Odd p K H v) (s : SameX p H H') (hp : PotAt H p) : Odd p K H' v := by
  rcases h with rfl | ⟨b, rfl⟩ | ⟨z, rfl⟩ | ⟨a, rfl, ⟨xs, h⟩ | ⟨n, xs, h⟩ | ⟨n, kvs, h⟩⟩
  · exact .inl rfl
  · exact .inr (.inl ⟨b, rfl⟩)
  · exact .inr (.inr (.inl ⟨z, rfl⟩))
  · exact .inr (.inr (.inr ⟨a, rfl, .inl ⟨xs, s.tup hp h⟩⟩))
  · exact .inr (.inr (.inr ⟨a, rfl, .inr (.inl ⟨n, xs, s a _ n h⟩)⟩))
  · exact .inr (.inr (.inr ⟨a, rfl, .inr (.inr ⟨n, kvs, s a _ n h⟩)⟩))
/-- a whole number, or none -/
def Thing (p : Addr) (K : PySem.W.Frag) (H : Hp) (v : V) : Prop := (∃ i : Int, v = .int i ∧ Bt 400 i) ∨ Odd p K H v
theorem Thing.x {p : Addr} {K : PySem.W.Frag} {H H' : Hp} {v : V} (h : Thing p K H v) (s : SameX p H H') (hp : PotAt H p) : Thing p K H' v := h.elim .inl fun h => .inr (h.x s hp)
/-! the part that two numbers make -/
def sg (a b : Int) : Int × Int := if b < 0 then lo (-a) (-b) else lo a b
theorem sg_low {a b : Int} (h : b ≠ 0) : Lowest (sg a b).1 (sg a b).2 := by
  unfold sg
  split
  · exact lo_lowest (by omega)
  · exact lo_lowest (by omega)
theorem sg_cross (a b : Int) : (sg a b).1 * b = a * (sg a b).2 := by
  unfold sg
  split
  · have e := lo_cross (-a) (-b)
    rw [Int.mul_neg, Int.neg_mul] at e
    exact Int.neg_inj.mp e
  · exact lo_cross a b
theorem sg_bt {n : Nat} {a b : Int} (ha : Bt n a) (hb : Bt n b) : Bt n (sg a b).1 ∧ Bt n (sg a b).2 := by
  unfold sg
  split
  · exact ⟨Bt.lo1 ha.neg, Bt.lo2 hb.neg⟩
  · exact ⟨Bt.lo1 ha, Bt.lo2 hb⟩
def NoPartOf (K : PySem.W.Frag) (H : Hp) (u v : V) : Prop := WholeIs K H u false ∨ ∃ a, u = .int a ∧ (WholeIs K H v false ∨ v = .int 0)
def spPartG (K : PySem.W.Frag) (C : Addr) : Sp := fun vs H Q E => ∃ u v, vs = [u, v] ∧ ((∃ a b : Int, u = .int a ∧ v = .int b ∧ b ≠ 0 ∧ Bt 8999 b ∧ NewT K H (sg a b).1 (sg a b).2 Q) ∨ (NoPartOf K H u v ∧ E (.ref C) none H))
/-! what is a part -/
def PairIs (K : PySem.W.Frag) (H : Hp) (v : V) (b : Bool) : Prop :=
  (b = false ∧ ∃ t, TyX K H v t ∧ PySem.W.kitOne K t (.type "tuple") = some false) ∨
  ∃ a xs, v = .ref a ∧ SqT K H a xs ∧ ((b = false ∧ xs.length ≠ 2) ∨ ∃ x y, xs = [x, y] ∧ ((b = false ∧ WholeIs K H x false) ∨ (∃ i, x = .int i ∧ b = false ∧ WholeIs K H y false) ∨ ∃ i j : Int, x = .int i ∧ y = .int j ∧ b = (decide (0 < j) && decide ((Int.gcd i j : Int) = 1))))
def spPair (K : PySem.W.Frag) : Sp := fun vs H Q _ => ∃ v b, vs = [v] ∧ PairIs K H v b ∧ Q (.bl b) H
theorem pair_of {K : PySem.W.Frag} {H : Hp} {v : V} {a b : Int} (h : TupI K H v a b) : PairIs K H v (decide (0 < b) && decide ((Int.gcd a b : Int) = 1)) := by
  obtain ⟨t, rfl, h⟩ := h
  exact .inr ⟨t, _, rfl, h, .inr ⟨_, _, rfl, .inr (.inr ⟨a, b, rfl, rfl, rfl⟩)⟩⟩
theorem ty_same {K : PySem.W.Frag} {H H' : Hp} {v : V} {t : Value} (h : TyX K H v t) (s : Same H H') : TyX K H' v t := by
  cases h with
  | base h =>
    cases h with
    | non => exact .base .non
    | bl x => exact .base (.bl x)
    | int i => exact .base (.int i)
    | str z => exact .base (.str z)
    | flt z => exact .base (.flt z)
    | lst e => exact .base (.lst (s _ _ e))
    | frz e => exact .base (.frz (s _ _ e))
    | tup e => exact .base (.tup (s _ _ e))
    | dK e => exact .base (.dK (s _ _ e))
    | dT e => exact .base (.dT (s _ _ e))
    | ins e a b c d f => exact .base (.ins (s _ _ e) a b c d f)
  | byt b => exact .byt b
  | set e => exact .set (s _ _ e)
  | kList e c => exact .kList e c
  | kTuple e c => exact .kTuple e c
  | kDict e c => exact .kDict e c
  | fTuple e => exact .fTuple (s _ _ e)
  | fDict e => exact .fDict (s _ _ e)
theorem WholeIs.same {K : PySem.W.Frag} {H H' : Hp} {v : V} {b : Bool} (h : WholeIs K H v b) (s : Same H H') : WholeIs K H' v b := by
  obtain ⟨t, b1, b2, ty, r⟩ := h
  exact ⟨t, b1, b2, ty_same ty s, r⟩
theorem PairIs.same {K : PySem.W.Frag} {H H' : Hp} {v : V} {b : Bool} (h : PairIs K H v b) (s : Same H H') : PairIs K H' v b := by
  rcases h with ⟨e, t, ty, k⟩ | ⟨a, xs, e, ht, h⟩
  · exact .inl ⟨e, t, ty_same ty s, k⟩
  · refine .inr ⟨a, xs, e, Same.tup s ht, ?_⟩
    rcases h with h | ⟨x, y, e, h⟩
    · exact .inl h
    · refine .inr ⟨x, y, e, ?_⟩
      rcases h with ⟨e1, w⟩ | ⟨i, e1, e2, w⟩ | h
      · exact .inl ⟨e1, w.same s⟩
      · exact .inr (.inl ⟨i, e1, e2, w.same s⟩)
      · exact .inr (.inr h)
end WS
set_option Elab.async false
set_option linter.all false
set_option maxRecDepth 100000
set_option maxHeartbeats 4000000
namespace WS
open PySem PySem.Spec PyProof.Rows L2
/-! defs that let exceptions out, of any kind -/
theorem fun_ok {CX : CXT} {P : Program} {w : World} {K : PySem.W.Frag} {mg : Str → Option Value} {base : Heap} {x qual : Str} {st : Stmt} {f : Addr} {fd : FuncData} {N ps : List Str} {k : Nat} {sp : Sp}
    (F : Fun K x qual st f fd) (S : FnScope N ps (defScope st)) (len : ∀ vs H Q E, sp vs H Q E → vs.length = ps.length)
    (B : ∀ (cdv : Value) (A : Around) (outer : List Env) (s : Shared) (H : Hp) (vs : List V) (Q : VK) (E : XK), Room k (A.deeper (envOfC qual (defScope st) s.heap.objs.size f cdv)) → sp vs H Q E →
      ∃ t, PSs (cxOf CX P w K mg base N qual (defScope st) f cdv A outer s H E) (defBody st) t ∧ t ⟨fun _ H' => Q .non H', Q, fun _ _ => False, fun _ _ => False⟩ (start N vs) H) : FnOk P w K mg base CX (k + 1) f fd ps sp := by
  obtain ⟨oc, od, kV, doc, pm, an, cdv, ct, osl, rfl, lk, code⟩ := F.ex
  exact fn_of lk code S len (B cdv)
theorem passN {X : Cx} : Passes (L2N.CX X.prog X.w) X E0 := L2N.passes_call takes0N (fun _ _ _ _ h => h)
def tCallND (n m : Nat) (sp : Sp) (gV : List V → List V → List V) (E : L2.St → XK) (t tk : TA) : TE := fun σ H Q => t σ H fun vs H1 => tk σ H1 fun zs H2 => vs.length = n ∧ zs.length = m ∧ sp (gV vs zs) H2 Q (E σ)
theorem pe_callND {X : Cx} {CX : CXT} {k n : Nat} {f : Addr} {fd : FuncData} {ps ks : List Str} {sp : Sp} {E : L2.St → XK} {x : Str} {p1 pos : Pos} {e : Expr} {es : List Expr} {kws : List Keyword} {t tk : TA} {g : List Value → List Value → List Value} {gV : List V → List V → List V}
    (F : FnOk X.prog X.w X.K X.mg X.base CX k f fd ps sp) (room : Room k X.A) (gl : Gl X x) (at_x : X.mg x = some (.ref f)) (kp : PySem.W.keepIn X.K (.ref f) = true) (kb : KBn X.K fd ps n ks g gV) (ex : ∀ σ, PassesAt CX X σ (E σ))
    (args : PA X (e :: es) t) (kwa : PK X kws tk) (all : (backToKw pos (keywordEach kws X.env)).all (·.1.isSome) = true := by rfl) (names : (backToKw pos (keywordEach kws X.env)).filterMap (·.1) = ks := by rfl)
    (nodbg : (x == ("__debug__" : Str)) = false := by decide) (one : starEach (e :: es) X.env = (false, eval e X.env) :: starEach es X.env := by rfl)
    (nostar : ((backTo pos (starEach (e :: es) X.env)).any (·.1) || (backToKw pos (keywordEach kws X.env)).any (·.1.isNone)) = false := by rfl) :
    PE X (.Call (.Name x p1) (e :: es) kws pos) (tCallND n ks.length sp gV E t tk) := by
  constructor
  intro pins s σ H Q inv want
  refine wpAny_Call_Name_kw (ld_glob inv gl at_x ?_ nodbg)
  refine PySem.W.callWith_KW (h₀ := X.base) inv.ok.mod.kin kp all (thn (args.run pos pins s σ H _ inv want) ?_) nostar one
  rintro us s1 ⟨vs, H1, inv1, vals, want1⟩
  refine thn (kwa.run pos pins s1 σ H1 _ inv1 want1) ?_
  rintro ws s2 ⟨zs, H2, inv2, zals, l1, l2, want2⟩
  refine ⟨inv2.kIn, ?_⟩
  rw [names]
  have rel := kb.rel vals zals
  refine wpAny_call (codeAny_mono (F.run X.A X.stack s2 H2 ⟨us, ks.zip ws⟩ (g us ws) (gV vs zs) Q (E σ) room inv2.env0 (kb.to s2 us ws inv2.kIn (vals.length.symm.trans l1) (zals.length.symm.trans l2)) rel want2) ?_)
  intro r s' z
  match r, z with
  | .error er, z => exact ex σ pins H2 s2 er s' inv2 z
  | .ok (.ret u), z => exact inv2.after z
  | .ok .next, z => exact z.elim
  | .ok .brk, z => exact z.elim
  | .ok .cont, z => exact z.elim
theorem kbn_one {K : PySem.W.Frag} {x qual : Str} {params : Arguments} {body : List Stmt} {scope : Scope} {dvs : List V} {f : Addr} {fd : FuncData} {ps : List Str} (F : FunD K x qual params body scope dvs [] f fd) (n : Nat) (ks : List Str) (hd : dvs ≠ [])
    (h : ∀ (T : Addr) (kV doc pm : Value) (an : Option Addr) (cdv ct : Value) (us its ws : List Value), us.length = n → its.length = dvs.length → ws.length = ks.length →
      ∃ k, bindArgs (PySem.W.fnOf x qual params body scope (.ref T) kV doc pm an cdv ct) ⟨us, ks.zip ws⟩ = seqItems? (.ref T) >>= k ∧ k (some its.toArray) = pure (ps.zip (us ++ ws))) :
    KBn K fd ps n ks (fun us ws => us ++ ws) (fun vs zs => vs ++ zs) := by
  obtain ⟨oc, od, dV, kV, doc, pm, an, cdv, ct, osl, rfl, lk, code, D, _⟩ := F.ex
  rcases D with ⟨e, _⟩ | ⟨_, T, o, its, m, rfl, lT, oT, rT⟩
  · exact absurd e hd
  · refine ⟨fun s us ws inK l1 l2 => BindsTo.of_looks fun M => ?_, fun r1 r2 => r1.append r2⟩
    obtain ⟨k, e1, e2⟩ := h T kV doc pm an cdv ct us its ws l1 rT.length.symm l2
    rw [e1]
    exact looks_items inK lT oT (.of_pure e2)
/-! things of two dozen sorts that are no whole numbers, and no parts -/
def Odd2 (p : Addr) (K : PySem.W.Frag) (H : Hp) (v : V) : Prop := v = .non ∨ (∃ b, v = .bl b) ∨ (∃ z, v = .str z) ∨ ∃ a, v = .ref a ∧ ((∃ xs, SqT K H a xs ∧ (xs.length ≠ 2 ∨ (∃ y, xs = [.non, y]) ∨ (∃ z y, xs = [.str z, y]) ∨ xs = [.int 2, .int 2])) ∨ (a ≠ p ∧ ∃ xs, H a = some (.lst xs)) ∨ (a ≠ p ∧ ∃ kvs, H a = some (.dK kvs)))
theorem Odd2.odd {p : Addr} {K : PySem.W.Frag} {H : Hp} {v : V} (h : Odd2 p K H v) : Odd p K H v := by
  rcases h with h | h | h | ⟨a, e, ⟨xs, h, _⟩ | h | h⟩
  · exact .inl h
  · exact .inr (.inl h)
  · exact .inr (.inr (.inl h))
  · exact .inr (.inr (.inr ⟨a, e, .inl ⟨xs, h⟩⟩))
  · exact .inr (.inr (.inr ⟨a, e, .inr (.inl h)⟩))
  · exact .inr (.inr (.inr ⟨a, e, .inr (.inr h)⟩))
theorem Odd2.x {p : Addr} {K : PySem.W.Frag} {H H' : Hp} {v : V} (h : Odd2 p K H v) (s : SameX p H H') (hp : PotAt H p) : Odd2 p K H' v := by
  rcases h with h | h | h | ⟨a, e, ⟨xs, h, r⟩ | ⟨n, xs, h⟩ | ⟨n, kvs, h⟩⟩
  · exact .inl h
  · exact .inr (.inl h)
  · exact .inr (.inr (.inl h))
  · exact .inr (.inr (.inr ⟨a, e, .inl ⟨xs, s.tup hp h, r⟩⟩))
  · exact .inr (.inr (.inr ⟨a, e, .inr (.inl ⟨n, xs, s a _ n h⟩)⟩))
  · exact .inr (.inr (.inr ⟨a, e, .inr (.inr ⟨n, kvs, s a _ n h⟩)⟩))
theorem pair_len {K : PySem.W.Frag} {H : Hp} {a : Addr} {xs : List V} (h : SqT K H a xs) (n : xs.length ≠ 2) : PairIs K H (.ref a) false := .inr ⟨a, xs, rfl, h, .inl ⟨rfl, n⟩⟩
theorem pair_fst {K : PySem.W.Frag} {H : Hp} {a : Addr} {x y : V} (h : SqT K H a [x, y]) (n : WholeIs K H x false) : PairIs K H (.ref a) false := .inr ⟨a, _, rfl, h, .inr ⟨x, y, rfl, .inl ⟨rfl, n⟩⟩⟩
theorem pair_snd {K : PySem.W.Frag} {H : Hp} {a : Addr} {i : Int} {y : V} (h : SqT K H a [.int i, y]) (n : WholeIs K H y false) : PairIs K H (.ref a) false := .inr ⟨a, _, rfl, h, .inr ⟨_, y, rfl, .inr (.inl ⟨i, rfl, rfl, n⟩)⟩⟩
theorem Odd2.pair {p : Addr} {K : PySem.W.Frag} {H : Hp} {v : V} (h : Odd2 p K H v) : PairIs K H v false := by
  rcases h with rfl | ⟨b, rfl⟩ | ⟨z, rfl⟩ | ⟨a, rfl, ⟨xs, h, r⟩ | ⟨n, xs, h⟩ | ⟨n, kvs, h⟩⟩
  · exact .inl ⟨rfl, _, .base .non, kit_ty (by decide +kernel)⟩
  · exact .inl ⟨rfl, _, .base (.bl b), kit_ty (by decide +kernel)⟩
  · exact .inl ⟨rfl, _, .base (.str z), kit_ty (by decide +kernel)⟩
  · rcases r with r | ⟨y, rfl⟩ | ⟨z, y, rfl⟩ | rfl
    · exact pair_len h r
    · exact pair_fst h whole_non
    · exact pair_fst h whole_str
    · exact pair_of ⟨a, rfl, h⟩
  · exact .inl ⟨rfl, _, .base (.lst h), kit_ty (by decide +kernel)⟩
  · exact .inl ⟨rfl, _, .base (.dK h), kit_ty (by decide +kernel)⟩
/-- the part that two things make, or the word for a refusal -/
def DueOf (K : PySem.W.Frag) (H : Hp) (u v : V) (Q : VK) : Prop := (∃ a b : Int, u = .int a ∧ v = .int b ∧ b ≠ 0 ∧ Bt 400 a ∧ Bt 400 b ∧ NewT K H (sg a b).1 (sg a b).2 Q) ∨ (NoPartOf K H u v ∧ ∀ H', Same H H' → Q (.str "alone") H')
def DueSh (K : PySem.W.Frag) (H : Hp) (a b : Int) (m : V) (Q : VK) : Prop := (∃ i : Int, m = .int i ∧ 1 ≤ i ∧ Bt 400 i ∧ NewT K H (lo a (b * i)).1 (lo a (b * i)).2 Q) ∨ (Bad K H m ∧ ∀ H', Same H H' → Q (.str "alone") H')
end WS
set_option Elab.async false
set_option linter.all false
set_option maxRecDepth 100000
set_option maxHeartbeats 4000000
namespace WS
open PySem PySem.Spec PyProof.Rows L2
/-! ### sorted(range(len(xs)), key=lambda place: (-xs[place], place)) -/
open PySem.W in
/-- the lambda called on the place i -/
theorem lam_key {prog : Program} {w : World} {A : Around} {s : Shared} {f c' c l : Addr} {q : Str} {params : Arguments} {scope : Scope} {clo : List (Str × Addr)} {pm ctv : Value} {i : Nat} {ti tz : Tok} {z : Int} {its : List Value} {xs pl : Str} {p1 p2 p3 p4 p5 p6 : Pos} {k : Nat}
    (hf : s.heap.get? f = some (kla_obj "<lambda>" q params (.Tuple [.UnaryOp .USub (.Subscript (.Name xs p1) (.Name pl p2) p3) p4, .Name pl p5] k p6) scope clo pm c' ctv))
    (hcode : s.heap.CodeRec (.ref c') q) (hdepth : A.depth < recursionLimit) (lim : s.heap.NoLimit)
    (hbind : ∀ v : Value, bindArgs (kla_fn "<lambda>" q params (.Tuple [.UnaryOp .USub (.Subscript (.Name xs p1) (.Name pl p2) p3) p4, .Name pl p5] k p6) scope clo pm (.ref c') ctv) ⟨[v], []⟩ = pure [(pl, v)])
    (hk : scope.kind = .function) (hco : scope.isCoroutine = false) (hgen : scope.isGenerator = false) (hnc : ∀ y ∈ scope.names, y.2 ≠ .cell)
    (hpl : scope.names.lookup pl = some .local) (hxs : scope.names.lookup xs = some .free) (hclo : clo.lookup xs = some c) (hcell : s.heap.IsCell c (some (.ref l)))
    (hl : s.heap.IsList l its.toArray) (hi : its[i]? = some (.int z tz)) (hi63 : (i : Int) < 2 ^ 63)
    (hd1 : (xs == ("__debug__" : Str)) = false) (hd2 : (pl == ("__debug__" : Str)) = false) (hd3 : (xs == ("__classdict__" : Str)) = false) :
    wpAny (model prog w) A (call (.ref f) [.int i ti]) (KeyPure (.tuple [.int (-z), .int i]) s) (fun _ _ => False) s := by
  refine wpAny_call (kla_callFunE hdepth hf rfl hco hgen rfl hcode ?_)
  rw [hbind]
  refine wpAny_pure (wpAny_newFunctionEnv hnc (fun y hy => ?_) (fun h₁ hns hsb => ⟨lim.fresh _ hsb, ?_⟩) hk)
  · obtain rfl := List.mem_singleton.mp hy
    exact hpl
  have kp : ∀ b o, s.heap.get? b = some o → h₁.get? b = some o := fun b o e => hsb.extBut b o (Nat.ne_of_lt (Heap.lt_size e)) (Heap.get?_push_of_some _ e)
  refine kla_codeExpr ?_
  refine wpAny_Tuple (Calls.spliced_cons ?_)
  have look : ∀ {h : Heap} {t : Nat} {Q : Value → Shared → Prop} {E : Value → Shared → Prop} {p : Pos}, h.Ns s.heap.objs.size (fun x => [(pl, Value.int (i : Int) ti)].reverse.lookup x) → Q (.int i ti) { s with heap := h, toks := t } →
      wpAny (model prog w) (A.deeper (newEnv scope s.heap.objs.size mainGlobals clo (q ++ ".<locals>.") (some f) (.ref c') none builtinsNs)) (eval (.Name pl p) (newEnv scope s.heap.objs.size mainGlobals clo (q ++ ".<locals>.") (some f) (.ref c') none builtinsNs)) Q E { s with heap := h, toks := t } := by
    intro h t Q E p hn hq
    exact wpAny_Name (wpAny_loadName_local hk hpl hn (by simp) hq) hd2
  refine wpAny_UnaryOp (wpAny_Subscript_Name (T := "list") F.slot_list_getitem.lookup ?_)
  refine wpAny_Name (wpAny_loadName_free hk hxs hclo (v := .ref l) ?_ ?_ hd3) hd1
  · obtain ⟨o, e, d⟩ := hcell
    exact ⟨o, kp _ _ e, d⟩
  refine look hns ?_
  obtain ⟨o, e1, e2, no, e3⟩ := hl
  have hl' : h₁.IsList l its.toArray := ⟨o, kp _ _ e1, e2, no, e3⟩
  refine ⟨⟨o, kp _ _ e1, e2⟩, getItem_listL hl' (by omega) hi63 (by simpa using hi) (neg_int ?_)⟩
  refine Calls.spliced_cons (look hns ?_)
  refine Calls.spliced_nil ⟨by show 2 ≤ sizeLine; decide, _, _, rfl, fun b o e => Heap.get?_push_of_some _ (kp b o e), ?_⟩
  exact Reads.tuple (as := []) (Heap.get?_push_size _ rfl) rfl rfl (.cons (.int _ _) (.cons (.int _ _) .nil))
/-- the places by their numbers, the greatest first, of equal ones the lesser -/
def Ranked (es : List Int) (ord : List Nat) : Prop := ord.Perm (List.range es.length) ∧ ord.Pairwise fun i j => es.getD j 0 < es.getD i 0 ∨ (es.getD i 0 = es.getD j 0 ∧ i < j)
def keyD (es : List Int) (j : Nat) : PyData := .tuple [.int (-(es.getD j 0)), .int j]
theorem ranked_sort (es : List Int) : Ranked es ((List.range es.length).mergeSort (PySem.W.dataLe false (keyD es))) := by
  have e : PySem.W.dataLe false (keyD es) = fun p q : Nat => decide (-(es.getD p 0) < -(es.getD q 0) ∨ (-(es.getD p 0) = -(es.getD q 0) ∧ (p : Int) ≤ q)) := PySem.W.dataLe_ii (fun j : Nat => -(es.getD j 0)) (fun j : Nat => (j : Int))
  rw [e]
  refine ⟨List.mergeSort_perm _ _, ?_⟩
  have sd : List.Pairwise (fun p q : Nat => decide (-(es.getD p 0) < -(es.getD q 0) ∨ (-(es.getD p 0) = -(es.getD q 0) ∧ (p : Int) ≤ q)) = true) ((List.range es.length).mergeSort fun p q : Nat => decide (-(es.getD p 0) < -(es.getD q 0) ∨ (-(es.getD p 0) = -(es.getD q 0) ∧ (p : Int) ≤ q))) := by
    refine List.pairwise_mergeSort (fun a b c h1 h2 => ?_) (fun a b => ?_) _
    · have h1 := of_decide_eq_true h1
      have h2 := of_decide_eq_true h2
      exact decide_eq_true (by omega)
    · rw [Bool.or_eq_true, decide_eq_true_eq, decide_eq_true_eq]
      omega
  have nd : ((List.range es.length).mergeSort fun p q : Nat => decide (-(es.getD p 0) < -(es.getD q 0) ∨ (-(es.getD p 0) = -(es.getD q 0) ∧ (p : Int) ≤ q))).Nodup := (List.mergeSort_perm _ _).nodup_iff.mpr List.nodup_range
  refine (sd.and nd).imp fun {a b} ⟨h, n⟩ => ?_
  have h := of_decide_eq_true h
  have n : a ≠ b := n
  omega
theorem each_range {vs : Array Value} {n : Nat} (h : ItemsOf (fun i v => ∃ t, v = .int (0 + i * 1) t) vs n) : PySem.W.EachIs (fun (v : Value) (j : Nat) => ∃ t, v = .int j t) vs.toList (List.range n) := by
  have go : ∀ (l : List Value) (k : Nat), (∀ j v, l[j]? = some v → ∃ t, v = Value.int ((k + j : Nat) : Int) t) → PySem.W.EachIs (fun (v : Value) (j : Nat) => ∃ t, v = .int j t) l (List.range' k l.length) := by
    intro l
    induction l with
    | nil => intro k _; exact .nil
    | cons v r ih =>
      intro k hk
      refine .cons (by simpa using hk 0 v rfl) (ih (k + 1) fun j u e => ?_)
      obtain ⟨t, e2⟩ := hk (j + 1) u (by simpa using e)
      exact ⟨t, by rw [e2]; congr 1; omega⟩
  have e : n = vs.toList.length := by rw [Array.length_toList]; exact h.1.symm
  rw [List.range_eq_range', e]
  refine go _ 0 fun j v hj => ?_
  obtain ⟨t, e⟩ := h.2 j v (by simpa using hj)
  exact ⟨t, by rw [e]; congr 1; omega⟩
open PySem.W in
/-- sorted(range(n), key=f) -/
theorem sorted_range {prog : Program} {w : World} {A : Around} {E : Value → Shared → Prop} {s : Shared} {r f : Addr} {n : Nat} {t u v : Tok} {Q : Value → Shared → Prop} (k : Nat → PyData) (hh : A.handled = none) (hr : IsRange s.heap r 0 n 1 t u v) (hn : n ≤ 1000000)
    (hal : AllAlike ((List.range n).map k)) (hk : Sortable ((List.range n).map k)) (hu : ∀ x, x ∈ List.range n → A.units + 2 + (k x).depth < cLine)
    (turn : ∀ (ti : Tok) (x : Nat), x < n → ∀ (h : Heap) (tk : Nat), (∀ b o, s.heap.get? b = some o → h.get? b = some o) →
      wpAny (model prog w) A.in1.in1 (call (.ref f) [.int x ti]) (KeyPure (k x) { s with heap := h, toks := tk }) (fun _ _ => False) { s with heap := h, toks := tk })
    (h : ∀ out c h' tk p, (∀ b o, s.heap.get? b = some o → h'.get? b = some o) → s.heap.get? p = none → h'.get? p = some (seqObj "list" (List.toArray out) c) → out.length = n →
      EachIs (fun (v : Value) (j : Nat) => ∃ t, v = .int j t) out ((List.range n).mergeSort (dataLe false k)) → Q (.ref p) { s with heap := h', toks := tk }) :
    wpAny (model prog w) A (call (.builtin "sorted") [.ref r] [(Str.ofString "key", .ref f)]) Q E s := by
  refine call_function_entry_kw kind_sorted plain_sorted entry_sorted (ksk_s1 _ _) ?_
  unfold Builtin.«sorted»
  refine wpAny_bind (m := checkCount "sorted" 1 1 _) (wpAny_pure ?_)
  have hs24 : n ≤ 2 ^ 24 := by omega
  have hsz : n ≤ sizeLine := by rw [sizeLine_eq]; omega
  refine wpAny_bind (L2.collect_range (n := n) hh hr (small_one (by omega) (by omega) (by omega) (by omega)) (by have := rangeSize_nat 0 (n : Int); simpa using this) hs24 fun h1 tk1 acc kp1 hacc => ?_)
  have ea := each_range hacc
  have hla : acc.toList.length = n := by rw [Array.length_toList]; exact hacc.1
  refine wpAny_bind (wpAny_newList ?_ (by rw [hla]; exact hsz))
  have hL : (h1.push (seqObj "list" acc.toList.toArray 0)).get? h1.objs.size = some (seqObj "list" acc.toList.toArray 0) := Heap.get?_push_size _ rfl
  have kp2 : ∀ b o, s.heap.get? b = some o → (h1.push (seqObj "list" acc.toList.toArray 0)).get? b = some o := fun b o e => Heap.get?_push_of_some _ (kp1 b o e)
  have ge : s.heap.get? h1.objs.size = none := by
    cases z : s.heap.get? h1.objs.size with
    | none => rfl
    | some o => exact absurd (Heap.lt_size (kp1 _ _ z)) (Nat.lt_irrefl _)
  refine wpAny_bind (wpAny_holding (wpAny_call_entry_kw slot_list_sort ⟨_, hL, rfl⟩ entry_list_sort ?body (ksk_l1 _ _)))
  case body =>
    rw [ksk_t1]
    have up : ∀ {g : Heap}, KeepsBut h1.objs.size (h1.push (seqObj "list" acc.toList.toArray 0)) g → ∀ b o, s.heap.get? b = some o → g.get? b = some o := fun {g} kp b o q => kp b o (Nat.ne_of_lt (Heap.lt_size (kp1 b o q))) (kp2 b o q)
    refine keyH_tree (kz := (List.range n).map k) (s := { s with heap := h1.push (seqObj "list" acc.toList.toArray 0), toks := tk1 }) hL (by rw [List.length_map, List.length_range, hla]) (by rw [hla]; exact hsz) hal hk (bound_map (A := A.in1.in1) hu)
      (keyH_turns (s := { s with heap := h1.push (seqObj "list" acc.toList.toArray 0), toks := tk1 }) ea fun v x hR hx h tk kp => ?_) fun h' tk out c kp hD ko => ?_
    · obtain ⟨ti, rfl⟩ := hR
      exact turn ti x (List.mem_range.mp hx) h tk (up kp)
    · refine ⟨_, rfl, wpAny_pure ⟨_, rfl, ?_⟩⟩
      exact h out c h' tk _ (up kp) ge hD ((ko.length (by rw [List.length_map, List.length_range, hla])).trans hla) (keyedOut_each k ko ea)

theorem obj_there {P : Program} {w : World} {H : Hp} {h : Heap} {a : Addr} {o : HO} (x : ObjOk P w H h a o) : ∃ u, h.get? a = some u := by
  cases o with
  | lst xs => obtain ⟨_, _, _, _, e⟩ := x; exact ⟨_, e⟩
  | tup xs => obtain ⟨_, _, _, _, e, _⟩ := x; exact ⟨_, e⟩
  | dK kvs => obtain ⟨_, _, _, _, o, _, _, e, _⟩ := x; exact ⟨_, e⟩
  | dT kvs => obtain ⟨_, _, _, _, o, _, _, e, _⟩ := x; exact ⟨_, e⟩
  | set S n => obtain ⟨o, _, _, _, e, _⟩ := x; exact ⟨_, e⟩
  | ins C dx fs => obtain ⟨_, _, _, e, _⟩ := x; exact ⟨_, e⟩
  | own y => obtain ⟨_, e⟩ := x; exact ⟨_, e⟩
  | xd fs => obtain ⟨_, ⟨_, _, _, e, _⟩, _⟩ := x; exact ⟨_, e⟩
  | rng lo hi => obtain ⟨_, _, _, e⟩ := x; exact ⟨_, e⟩
  | frz ob u => obtain ⟨e, _⟩ := x; exact ⟨_, e⟩
  | tbl ps => exact ⟨_, x⟩
  | met f y => exact ⟨_, x⟩
  | ext φ => obtain ⟨_, ⟨_, e⟩, _⟩ := x; exact ⟨_, e⟩
theorem cr_range1 {X : Cx} : CallR X (.type "range") (fun vs H Q => ∃ j, vs = [V.int j] ∧ ∀ p, H p = none → Q (.ref p) (upd H p (.rng 0 j))) := by
  intro pins s σ H vs us Q I r h
  obtain ⟨j, rfl, q⟩ := h
  obtain ⟨u1, rfl, ri⟩ := vals1 r
  obtain ⟨t, rfl⟩ := ri
  refine call_range_1 ⟨.ref s.heap.objs.size, upd H s.heap.objs.size (.rng 0 j), I.laid (t' := s.toks + 2) (fun b o e => Heap.get?_push_of_some _ e) (Nat.le_refl _) ?_, rfl, q _ (I.hok.fresh (Nat.le_refl _))⟩
  exact ⟨_, _, _, Heap.get?_push_size _ rfl⟩
theorem vals_at : ∀ {xs : List V} {us : List Value} {i : Nat} {v : V}, Vals xs us → xs[i]? = some v → ∃ u, us[i]? = some u ∧ RelV v u
  | _, _, 0, v, .cons r _, e => ⟨_, rfl, by simp at e; subst e; exact r⟩
  | _, _, i + 1, v, .cons _ t, e => by
    obtain ⟨u, e1, e2⟩ := vals_at t (by simpa using e)
    exact ⟨u, by simpa using e1, e2⟩
theorem vals_each : ∀ {out : List Value} {ord : List Nat}, PySem.W.EachIs (fun (v : Value) (j : Nat) => ∃ t, v = .int j t) out ord → Vals (ord.map fun j : Nat => V.int j) out
  | _, _, .nil => .nil
  | _, _, .cons ⟨t, e⟩ r => .cons ⟨t, e⟩ (vals_each r)
abbrev keyBody (xs pl : Str) (p1 p2 p3 p4 p5 p6 : Pos) (k : Nat) : Expr := .Tuple [.UnaryOp .USub (.Subscript (.Name xs p1) (.Name pl p2) p3) p4, .Name pl p5] k p6
def tSrt (T : List (Addr × Str)) (i : Nat) (tr : TE) : TE := fun σ H Q => tr σ H fun v H1 => ∃ (r l : Addr) (es : List Int), v = .ref r ∧ H1 r = some (.rng 0 es.length) ∧ σ[i]? = some (some (.ref l)) ∧ H1 l = some (.lst (es.map V.int)) ∧ es.length ≤ 1000000 ∧ LamX.Tabs T H1 ∧
  ∀ H2 p ord, LamX.ExtN H1 H2 → LamX.Tabs T H2 → H2 p = none → Ranked es ord → Q (.ref p) (upd H2 p (.lst (ord.map fun j : Nat => V.int j)))
theorem pe_sortedLam {X : Cx} {T : List (Addr × Str)} {tr : TE} {er : Expr} {xs pl : Str} {params : Arguments} {scope : Scope} {c P : Addr} {i k m : Nat} {p pos lpos kpos p1 p2 p3 p4 p5 p6 : Pos}
    (hcalm : X.calm = true) (hg : Gl X "sorted") (hm : X.mg "sorted" = none) (hr : PE X er tr) (room : Room m X.A)
    (TB : LamX.TabB X.base X.mg c P) (hcode : X.env.code = .ref c) (hmT : (P, X.env.qual ++ "<lambda>") ∈ T) (hu : ∀ p ∈ T, p.1 = P → p.2 = X.env.qual ++ "<lambda>")
    (hN : X.N[i]? = some xs) (hv : X.env.scope.names.lookup xs = some .cell) (hdef : defaultsOf params X.env = ([], []))
    (hbind : ∀ (q : Str) (cl : List (Str × Addr)) (pm cv ctv v : Value), bindArgs (PySem.W.kla_fn "<lambda>" q params (keyBody xs pl p1 p2 p3 p4 p5 p6 k) scope cl pm cv ctv) ⟨[v], []⟩ = pure [(pl, v)])
    (hk : scope.kind = .function) (hco : scope.isCoroutine = false) (hgen : scope.isGenerator = false) (hnames : scope.names = [(pl, .local), (xs, .free)]) (hne : (pl == xs) = false)
    (hd1 : (xs == ("__debug__" : Str)) = false) (hd2 : (pl == ("__debug__" : Str)) = false) (hd3 : (xs == ("__classdict__" : Str)) = false)
    (na : backTo pos (starEach [er] X.env) = (false, eval er X.env) :: backTo pos (starEach [] X.env) := by rfl) :
    PE X (.Call (.Name "sorted" p) [er] [⟨some "key", .Lambda params (keyBody xs pl p1 p2 p3 p4 p5 p6 k) scope lpos, kpos⟩] pos) (tSrt T i tr) := by
  refine ⟨fun pins s σ H Q I h => ?_⟩
  have hne2 : (xs == pl) = false := by
    rw [beq_eq_false_iff_ne] at hne ⊢
    exact fun z => hne z.symm
  refine wpAny_Call_Name_kw (ld_blt I hg hm (by rfl) ?_)
  refine PyProof.Rows.callWith_kw ?_ na (by rw [na]; rfl)
  rw [na]
  refine Calls.spliced_cons (thn (hr.run pins s σ H _ I h) fun u s1 ⟨v, H1, I1, r1, q1⟩ => ?_)
  obtain ⟨r, l, es, rfl, hrng, hσ, hlst, hlen, hT, q⟩ := q1
  obtain rfl : u = Value.ref r := r1
  refine Calls.spliced_nil ?_
  show wpAny _ _ (evalAll [do let v ← eval (.Lambda params (keyBody xs pl p1 p2 p3 p4 p5 p6 k) scope lpos) X.env; standAt pos; pure v]) _ _ _
  refine evalAll_cons (wpAny_bind (LamX.lam_make2 I1 TB hcode hmT hu hT hdef (fun y hy e => ?_) fun f c' pm ctv H2 s2 I2 eN T2 hf hfn hfr hco' => wpAny_bind (wpAny_standAt (wpAny_pure (evalAll_nil ?_)))))
  · rw [hnames] at hy
    simp only [List.mem_cons, List.not_mem_nil, or_false] at hy
    rcases hy with rfl | rfl
    · cases e
    · exact I1.ok.has _ (.inl hv)
  show wpAny _ _ (call (.builtin "sorted") [.ref r] [(Str.ofString "key", .ref f)]) _ _ _
  have hrng2 := eN _ _ hrng (fun ps z => by cases z)
  have hlst2 := eN _ _ hlst (fun ps z => by cases z)
  obtain ⟨t, u, v, hro⟩ := I2.hok r _ hrng2
  obtain ⟨hz, its, n, hvals, hlo⟩ := I2.hok l _ hlst2
  obtain ⟨⟨oc, vs, tq, c1, c2, c3⟩, _, _⟩ := I2.hok c' _ hco'
  obtain ⟨mm, _, hloc⟩ := I2.loc
  obtain ⟨ul, ru, hlook⟩ := hloc i xs _ hN hσ (.inr (.inl hv))
  obtain rfl : ul = Value.ref l := ru
  obtain ⟨cc, hcc, hcell⟩ : ∃ c, X.env.cells.lookup xs = some c ∧ s2.heap.IsCell c (some (.ref l)) := by
    rcases hlook with ⟨z, _⟩ | ⟨_, z⟩
    · have z : X.env.scope.names.lookup xs = some .local := z
      rw [hv] at z
      cases z
    · exact z
  have hclo : (cloFrom X.env.cells scope.names []).lookup xs = some cc := by
    rw [hnames]
    show (cloFrom X.env.cells [(pl, NameKind.local), (xs, NameKind.free)] []).lookup xs = some cc
    simp [cloFrom, hcc]
  refine sorted_range (n := es.length) (keyD es) (I.ok.hd hcalm) (r := r) hro hlen ?_ ?_ ?_ ?_ ?_
  · intro d hd d' hd'
    obtain ⟨a, _, rfl⟩ := List.mem_map.mp hd
    obtain ⟨b, _, rfl⟩ := List.mem_map.mp hd'
    simp [keyD, PySem.W.alike, PySem.W.alikeAll]
  · refine .inl fun d hd => ?_
    obtain ⟨a, _, rfl⟩ := List.mem_map.mp hd
    exact ⟨_, _, rfl⟩
  · intro x _
    have := room.un
    have e : (keyD es x).depth ≤ 10 := by simp [keyD, PyData.depth, PyData.depthAll]
    omega
  · intro ti x hx h tk kp
    have hz' : (es.map V.int)[x]? = some (.int (es.getD x 0)) := by
      rw [List.getElem?_map, List.getElem?_eq_getElem hx, List.getD_eq_getElem?_getD, List.getElem?_eq_getElem hx]
      rfl
    obtain ⟨u, hu1, tz, rfl⟩ := vals_at hvals hz'
    refine lam_key (s := { s2 with heap := h, toks := tk }) (c := cc) (l := l) (its := its) (kp _ _ hf) ⟨c', oc, vs, tq, rfl, kp _ _ c1, c2, c3⟩ (by have := room.dp; show X.A.depth < _; omega) (I2.nolimit.keeps kp) (fun v => hbind _ _ _ _ _ v) hk hco hgen (fun y hy => ?_) ?_ ?_ hclo ?_ ⟨_, kp _ _ hlo, rfl, n, rfl⟩ hu1 (by omega) hd1 hd2 hd3
    · rw [hnames] at hy
      simp only [List.mem_cons, List.not_mem_nil, or_false] at hy
      rcases hy with rfl | rfl <;> exact fun z => by cases z
    · rw [hnames]
      simp
    · rw [hnames]
      simp [List.lookup, hne2]
    · obtain ⟨o, e, d⟩ := hcell
      exact ⟨o, kp _ _ e, d⟩
  · intro out c h' tk p kp fresh hp hout each
    have nH : H2 p = none := by
      cases z : H2 p with
      | none => rfl
      | some o =>
        obtain ⟨u, e⟩ := obj_there (I2.hok p o z)
        rw [fresh] at e
        cases e
    have rk := ranked_sort es
    refine ⟨.ref p, _, Inv.laidN I2 kp fresh nH ?_, rfl, q H2 p _ eN T2 nH rk⟩
    refine ⟨?_, out, c, vals_each each, hp⟩
    rw [List.length_map, List.length_mergeSort, List.length_range, sizeLine_eq]
    omega
end WS
set_option Elab.async false
set_option linter.all false
set_option maxRecDepth 100000
set_option maxHeartbeats 4000000
namespace WS
open PySem PySem.Spec PyProof.Rows L2
/-! ### a def whose code object is known; the end of a law with one table -/
theorem fun_cd {CX : CXT} {P : Program} {w : World} {K : PySem.W.Frag} {mg : Str → Option Value} {base : Heap} {x qual : Str} {st : Stmt} {f : Addr} {fd : FuncData} {N ps : List Str} {k : Nat} {sp : Sp}
    (F : Fun K x qual st f fd) (S : FnScope N ps (defScope st)) (len : ∀ vs H Q E, sp vs H Q E → vs.length = ps.length)
    (B : ∀ (cdv : Value) (A : Around) (outer : List Env) (s : Shared) (H : Hp) (vs : List V) (Q : VK) (E : XK), fd.code = cdv → Room k (A.deeper (envOfC qual (defScope st) s.heap.objs.size f cdv)) → sp vs H Q E →
      ∃ t, PSs (cxOf CX P w K mg base N qual (defScope st) f cdv A outer s H E) (defBody st) t ∧ t ⟨fun _ H' => Q .non H', Q, fun _ _ => False, fun _ _ => False⟩ (start N vs) H) : FnOk P w K mg base CX (k + 1) f fd ps sp := by
  obtain ⟨oc, od, kV, doc, pm, an, cdv, ct, osl, rfl, lk, code⟩ := F.ex
  exact fn_of lk code S len (fun A outer s H vs Q E hr h => B cdv A outer s H vs Q E rfl hr h)
theorem begin_tab {P : Program} {w : World} {K : PySem.W.Frag} {mg mb : Str → Option Value} {k : Nat} {fa a c0 P0 : Addr} {fd : FuncData} {x : Str} {sp : Sp} {s : Shared} {vs : List Value} {H : Hp}
    (inK : K.In s.heap) (gns : s.heap.Ns mainGlobals mg) (bns : s.heap.Ns builtinsNs mb) (bb : ∀ x : Str, x ≠ "__name__" → mb x = bootBuiltins x) (lim : s.heap.NoLimit) (nogen : s.gens = #[])
    (hT : s.heap.get? P0 = some { cls := .none, data := .fields #[] }) (nT : K.lookup P0 = none) (C : PySem.W.CodeHd s.heap c0 P0)
    (hbm : ∃ (bm : Addr) (ob : Obj), mg "__builtins__" = some (.ref bm) ∧ bm ≠ builtinsNs ∧ s.heap.get? bm = some ob ∧ ob.cls = .type "module" ∧ ob.dict = some builtinsNs ∧ ob.data = .plain)
    (script : s.heap.get? a = some { cls := .type "list", data := .seq vs.toArray }) (room : Room k callerA)
    (F : ∀ base : Heap, K.In base → base.Ns mainGlobals mg → LamX.TabB base mg c0 P0 → FnAt callerA P w K mg base CX0 k fa fd [x] sp) (bind1 : ∀ (s : Shared) (u : Value), BindsTo s fd ⟨[u], []⟩ [(x, u)])
    (only : ∀ b u, H b = some u → (b = a ∧ K.lookup a = none ∧ ∃ o xs, u = .frz o (.lst xs)) ∨ b = P0) (tab : H P0 = some (.tbl #[])) (fits : HOk P w H s.heap)
    (want : sp [.ref a] H (fun v _ => v = .bl true) fun _ _ _ => False) :
    codeAny (model P w) callerA (.call (.ref fa) ⟨[.ref a], []⟩) (fun r s' => r = .ok (.ret (.bool true)) ∧ OldK s.heap s'.heap ∧ s'.os = s.os ∧ AllBare s'.gens) s := by
  have noD : ∀ {b : Addr} {o : Obj}, s.heap.get? b = some o → (∀ vs n, o.data ≠ .seq vs n) → o.data ≠ .fields #[] → H b = none := by
    intro b o e h1 h2
    cases z : H b with
    | none => rfl
    | some u =>
      rcases only b u z with ⟨rfl, _⟩ | rfl
      · rw [script] at e
        cases e
        exact (h1 _ _ rfl).elim
      · rw [hT] at e
        cases e
        exact (h2 rfl).elim
  have nsb : ∀ {b : Addr} {m : Str → Option Value}, s.heap.Ns b m → (hidT s.heap H).Ns b m := by
    rintro b m ⟨o, es, ep, e, de, rest⟩
    exact ⟨o, es, ep, hidT_get e (noD e (fun vs n z => by rw [de] at z; cases z) (fun z => by rw [de] at z; cases z)), de, rest⟩
  have kb : K.In (hidT s.heap H) := by
    intro b o e
    refine hidT_get (inK b o e) ?_
    cases z : H b with
    | none => rfl
    | some u =>
      rcases only b u z with ⟨rfl, nk, _⟩ | rfl
      · rw [nk] at e
        cases e
      · rw [nT] at e
        cases e
  obtain ⟨mc, l1, l2⟩ := lim
  have modu : Mod K mg (hidT s.heap H) := ⟨kb, nsb gns, ⟨mb, nsb bns, bb⟩, ⟨mc, nsb l1, l2⟩⟩
  have noEnv : ∀ b ∈ frs [], H b = none := fun b z => absurd (show b ∈ ([] : List Addr) from z) List.not_mem_nil
  have env0 : Env0 P w K mg (hidT s.heap H) callerA [] s H := ⟨rfl, modu, fun b o e => of_hidT e, Nat.le_of_eq (hidT_size _ _), trivial, noEnv, fits, .of_eq nogen⟩
  have TB : LamX.TabB (hidT s.heap H) mg c0 P0 := by
    refine ⟨?_, ?_, fun z => ?_⟩
    · obtain ⟨o, us, file, tf, flags, tg, inF, text, tt, e1, r1, r2, r3, r4, r5, r6, r7, r8, hne⟩ := C
      refine ⟨o, us, file, tf, flags, tg, inF, text, tt, hidT_get e1 (noD e1 (fun vs n z => ?_) fun z => ?_), r1, r2, r3, r4, r5, r6, r7, r8, hne⟩
      · rw [r2] at z
        cases z
      · rw [r2] at z
        cases z
        simp at r3
    · obtain ⟨bm, ob, b1, b2, b3, b4, b5, b6⟩ := hbm
      have nG : bm ≠ mainGlobals := fun q => by
        obtain ⟨o, es, ep, e, hd, _⟩ := gns
        rw [q, e] at b3
        cases b3
        rw [hd] at b6
        cases b6
      have nP : bm ≠ P0 := fun q => by
        rw [q, hT] at b3
        cases b3
        cases b6
      exact ⟨bm, ob, b1, b2, nG, nP, hidT_get b3 (noD b3 (fun vs n z => by rw [b6] at z; cases z) fun z => by rw [b6] at z; cases z), b4, b5, b6⟩
    · obtain ⟨o, es, ep, e, hd, _⟩ := gns
      rw [z, hT] at e
      cases e
      cases hd
  refine codeAny_mono ((F _ kb (nsb gns) TB).go [] s H ⟨[.ref a], []⟩ [.ref a] [.ref a] _ _ room env0 (bind1 s (.ref a)) (.cons rfl .nil) want) ?_
  intro r s' z
  match r, z with
  | .error er, z => exact z.elim
  | .ok .next, z => exact z.elim
  | .ok .brk, z => exact z.elim
  | .ok .cont, z => exact z.elim
  | .ok (.ret u), ⟨v, H', os, bare, un, fits', rel, q⟩ =>
    have q : v = .bl true := q
    subst q
    obtain rfl : u = Value.bool true := rel
    have key : ∀ b o, b ≠ P0 → s.heap.get? b = some o → s'.heap.get? b = some o := by
      intro b o nb e
      cases zb : H b with
      | none => exact un.keep b o e zb (fun z => absurd (show b ∈ ([] : List Addr) from z) List.not_mem_nil) List.not_mem_nil
      | some u =>
        rcases only b u zb with ⟨_, _, ob, xs, rfl⟩ | z
        · have now := (fits' b _ (un.frzs b ob _ zb)).1
          have then_ := (fits b _ zb).1
          rw [e] at then_
          cases then_
          exact now
        · exact absurd z nb
    obtain ⟨more, zt⟩ := un.tbls P0 #[] tab
    have grown := fits' P0 _ zt
    refine ⟨rfl, ⟨fun b o e => ?_, fun b o e => ?_⟩, os, bare⟩
    · by_cases hb : b = P0
      · subst hb
        rw [hT] at e
        cases e
        exact .inr (.inl ⟨(C.tab hT).isCodeTable, rfl, #[], more, rfl, by rw [Array.empty_append] at grown ⊢; exact grown⟩)
      · exact .inl (key b o hb e)
    · by_cases hb : b = P0
      · subst hb
        exact ⟨_, grown⟩
      · exact ⟨o, key b o hb e⟩
theorem walk_T {l : PySem.W.OpenLaw} {n k : Nat} {q : Program} {loose : List Str} {XP : (Str → Option Value) → Heap → Prop} {YP : World → Heap → Prop} {d dg : DefRec} {K : Params → PySem.W.Frag} {x : Str} (g : Str)
    (most : l.most = some n) (small : n ≤ sizeLine) (nodefault : d.params.defaults = []) (room : Room k callerA) (rec : (recsOf q).find? (fun e => e.name == g) = some dg)
    (Y : ∀ (w : World) (h : Heap), YP w h → (K w.params).In h)
    (F : ∀ (w : World) (mg : Str → Option Value) (fa : Addr) (h : Heap), (K w.params).In h → h.Ns mainGlobals mg → mg d.name = some (.ref fa) →
      ∃ (fd : FuncData) (c0 P0 : Addr) (sp : Sp), PySem.W.tabIn (K w.params) g = some (c0, P0) ∧ (K w.params).lookup P0 = none ∧ (∀ (s : Shared) (u : Value), BindsTo s fd ⟨[u], []⟩ [(x, u)]) ∧
        (∀ (H : Hp) (a : Addr) (ns : List Int), ns.length ≤ n → H P0 = some (.tbl #[]) → SqL (K w.params) H a (ns.map V.int) → sp [.ref a] H (fun v _ => v = .bl true) fun _ _ _ => False) ∧
        ∀ base : Heap, (K w.params).In base → base.Ns mainGlobals mg → LamX.TabB base mg c0 P0 → FnAt callerA l.prog w (K w.params) mg base CX0 k fa fd [x] sp) :
    PySem.W.WalkO q loose XP YP l.row.toRowW d [] (fun f vs => PySem.call f vs) := by
  refine Att.attach_call most nodefault ?_
  intro w s0 s mg mb fa o pm cd doc a vs ns G y _ _ _ at_law script hi len nogen
  have inK := Y w _ y
  obtain ⟨fd, c0, P0, sp, ht, nT, b1, want, f⟩ := F w mg fa _ inK G.T.g at_law
  obtain ⟨C, hT⟩ := PySem.W.tab_of G.T inK rec ht
  have rel : Vals (ns.map V.int) vs := vals_ints hi
  have sz : ns.length ≤ sizeLine := Nat.le_trans len small
  have aP : a ≠ P0 := by
    rintro rfl
    rw [script] at hT
    cases hT
  cases look : (K w.params).lookup a with
  | some ob =>
    have same := inK a ob look
    rw [script] at same
    cases same
    refine begin_tab (H := fun b => if b = P0 then some (.tbl #[]) else none) inK G.T.g G.T.b G.T.builtins G.T.nolimit nogen hT nT C G.T.bmain script room f b1 (fun b u z => .inr ?_) (if_pos rfl) (fun b u z => ?_) (want _ a ns len (if_pos rfl) (.inr ⟨_, vs.toArray, _, look, rfl, rfl, rfl, ?_, ?_⟩))
    · replace z : (if b = P0 then some (HO.tbl #[]) else none) = some u := z
      by_cases hb : b = P0
      · exact hb
      · rw [if_neg hb] at z
        cases z
    · replace z : (if b = P0 then some (HO.tbl #[]) else none) = some u := z
      by_cases hb : b = P0
      · rw [if_pos hb] at z
        cases z
        rw [hb]
        exact hT
      · rw [if_neg hb] at z
        cases z
    · rw [List.size_toArray, hi.length]
      exact sz
    · simpa using rel
  | none =>
    refine begin_tab (H := fun b => if b = a then some (.frz { cls := .type "list", data := .seq vs.toArray } (.lst (ns.map V.int))) else if b = P0 then some (.tbl #[]) else none) inK G.T.g G.T.b G.T.builtins G.T.nolimit nogen hT nT C G.T.bmain script room f b1 (fun b u z => ?_) ?_ (fun b u z => ?_) (want _ a ns len ?_ (.inl (.inr ⟨_, if_pos rfl⟩)))
    · replace z : (if b = a then some (HO.frz { cls := .type "list", data := .seq vs.toArray } (.lst (ns.map V.int))) else if b = P0 then some (.tbl #[]) else none) = some u := z
      by_cases hb : b = a
      · rw [if_pos hb] at z
        exact .inl ⟨hb, look, _, _, (Option.some.inj z).symm⟩
      · rw [if_neg hb] at z
        by_cases hp : b = P0
        · exact .inr hp
        · rw [if_neg hp] at z
          cases z
    · show (if P0 = a then _ else _) = _
      rw [if_neg (fun z => aP z.symm), if_pos rfl]
    · replace z : (if b = a then some (HO.frz { cls := .type "list", data := .seq vs.toArray } (.lst (ns.map V.int))) else if b = P0 then some (.tbl #[]) else none) = some u := z
      by_cases hb : b = a
      · rw [if_pos hb] at z
        cases z
        subst hb
        exact ⟨script, by rw [List.length_map]; exact sz, vs, _, rel, script⟩
      · rw [if_neg hb] at z
        by_cases hp : b = P0
        · rw [if_pos hp] at z
          cases z
          subst hp
          exact hT
        · rw [if_neg hp] at z
          cases z
    · show (if P0 = a then _ else _) = _
      rw [if_neg (fun z => aP z.symm), if_pos rfl]
/-! ### tables through steps -/
open LamX in
theorem TabS.x {p P : Addr} {q : Str} {H H' : Hp} (t : TabS H P q) (s : SameX p H H') (hp : PotAt H p) : TabS H' P q := by
  obtain ⟨x, y, e, _⟩ := hp
  obtain ⟨ps, h1, h2, h3⟩ := t
  refine ⟨ps, s _ _ (fun z => ?_) h1, h2, fun pos cv hc => ?_⟩
  · rw [z, e] at h1
    cases h1
  · obtain ⟨c, e1, e2⟩ := h3 pos cv hc
    refine ⟨c, e1, s _ _ (fun z => ?_) e2⟩
    rw [z, e] at e2
    unfold CodeO at e2
    cases e2
open LamX in
theorem TabS.set {P D : Addr} {q : Str} {H : Hp} {xs ys : List V} (t : TabS H P q) (h : H D = some (.lst xs)) : TabS (upd H D (.lst ys)) P q := by
  obtain ⟨ps, h1, h2, h3⟩ := t
  refine ⟨ps, ?_, h2, fun pos cv hc => ?_⟩
  · rw [upd_ne (fun z => by rw [z, h] at h1; cases h1)]
    exact h1
  · obtain ⟨c, e1, e2⟩ := h3 pos cv hc
    refine ⟨c, e1, ?_⟩
    rw [upd_ne (fun z => by rw [z, h] at e2; unfold CodeO at e2; cases e2)]
    exact e2
open LamX in
theorem TabS.tabs {P : Addr} {q : Str} {H : Hp} (t : TabS H P q) : Tabs [(P, q)] H := fun p hp => by
  obtain rfl := List.mem_singleton.mp hp
  exact t
open LamX in
theorem ExtN.same {H H' : Hp} (e : Same H H') : ExtN H H' := fun b o h _ => e b o h
open LamX in
theorem ExtN.kt {H H' : Hp} (e : ExtN H H') : KT H H' := ⟨fun _ _ h => e _ _ h (fun _ z => by cases z), fun _ _ _ h => e _ _ h (fun _ z => by cases z)⟩
open LamX in
theorem ExtN.sql {K : PySem.W.Frag} {H H' : Hp} {a : Addr} {xs : List V} (e : ExtN H H') (h : SqL K H a xs) : SqL K H' a xs := by
  rcases h with (h | ⟨o, h⟩) | h
  · exact .inl (.inl (e _ _ h (fun _ z => by cases z)))
  · exact .inl (.inr ⟨o, e _ _ h (fun _ z => by cases z)⟩)
  · exact .inr h
open LamX in
theorem ExtN.pot {H H' : Hp} {p : Addr} (e : ExtN H H') (h : PotAt H p) : PotAt H' p := by
  obtain ⟨x, y, z, r⟩ := h
  exact ⟨x, y, e _ _ z (fun _ z => by cases z), r⟩
end WS
set_option Elab.async false
set_option linter.all false
set_option maxRecDepth 100000
set_option maxHeartbeats 4000000
namespace WS
open PySem PySem.Spec PyProof.Rows L2
/-! ### rows by their greatest -/
abbrev qLam : Str := ("greatest_first" : Str) ++ ".<locals>." ++ "<lambda>"
def RankedP (ps : List (Int × Int)) (ord : List Nat) : Prop := ord.Perm (List.range ps.length) ∧ ord.Pairwise fun i j =>
  (ps.getD j (0, 1)).1 * (ps.getD i (0, 1)).2 < (ps.getD i (0, 1)).1 * (ps.getD j (0, 1)).2 ∨ ((ps.getD i (0, 1)).1 * (ps.getD j (0, 1)).2 = (ps.getD j (0, 1)).1 * (ps.getD i (0, 1)).2 ∧ i < j)
theorem cross_lt {a b a' b' c : Int} (hb : 0 < b) (hb' : 0 < b') (h : b ∣ c) (h' : b' ∣ c) (hc : 0 < c) : a * (c / b) < a' * (c / b') ↔ a * b' < a' * b := by
  obtain ⟨m, rfl⟩ := h
  obtain ⟨n, e⟩ := h'
  rw [Int.mul_ediv_cancel_left _ (by omega)]
  rw [show b * m / b' = n by rw [e, Int.mul_ediv_cancel_left _ (by omega)]]
  have k : 0 < b * b' := Int.mul_pos hb hb'
  have e1 : a * m * (b * b') = a * b' * (b * m) := by grind
  have e2 : a' * n * (b * b') = a' * b * (b * m) := by rw [e]; grind
  constructor
  · intro h
    have := Int.mul_lt_mul_of_pos_right h k
    rw [e1, e2] at this
    exact Int.lt_of_mul_lt_mul_right this (Int.le_of_lt hc)
  · intro h
    have := Int.mul_lt_mul_of_pos_right h hc
    rw [← e1, ← e2] at this
    exact Int.lt_of_mul_lt_mul_right this (Int.le_of_lt k)
theorem cross_eq {a b a' b' c : Int} (hb : 0 < b) (hb' : 0 < b') (h : b ∣ c) (h' : b' ∣ c) (hc : 0 < c) : a * (c / b) = a' * (c / b') ↔ a * b' = a' * b := by
  have h1 := cross_lt (a := a) (a' := a') hb hb' h h' hc
  have h2 := cross_lt (a := a') (a' := a) hb' hb h' h hc
  omega
def overC (c : Int) (p : Int × Int) : Int := p.1 * (c / p.2)
theorem ranked_c {ps : List (Int × Int)} {c : Int} {ord : List Nat} (hc : 0 < c) (hp : ∀ p ∈ ps, 0 < p.2 ∧ p.2 ∣ c) : Ranked (ps.map (overC c)) ord ↔ RankedP ps ord := by
  unfold Ranked RankedP
  rw [List.length_map]
  refine and_congr_right fun hperm => ?_
  have at_ : ∀ i ∈ ord, (ps.map (overC c)).getD i 0 = overC c (ps.getD i (0, 1)) ∧ 0 < (ps.getD i (0, 1)).2 ∧ (ps.getD i (0, 1)).2 ∣ c := by
    intro i hi
    have hi : i < ps.length := List.mem_range.mp (hperm.mem_iff.mp hi)
    rw [List.getD_eq_getElem?_getD, List.getD_eq_getElem?_getD, List.getElem?_map, List.getElem?_eq_getElem hi]
    exact ⟨rfl, hp _ (List.getElem_mem hi)⟩
  constructor
  · intro h
    refine List.Pairwise.imp_of_mem (fun {i j} hi hj h => ?_) h
    obtain ⟨e1, p1, d1⟩ := at_ i hi
    obtain ⟨e2, p2, d2⟩ := at_ j hj
    rw [e1, e2] at h
    unfold overC at h
    rw [cross_lt p2 p1 d2 d1 hc, cross_eq p1 p2 d1 d2 hc] at h
    exact h
  · intro h
    refine List.Pairwise.imp_of_mem (fun {i j} hi hj h => ?_) h
    obtain ⟨e1, p1, d1⟩ := at_ i hi
    obtain ⟨e2, p2, d2⟩ := at_ j hj
    rw [e1, e2]
    unfold overC
    rw [cross_lt p2 p1 d2 d1 hc, cross_eq p1 p2 d1 d2 hc]
    exact h
theorem lcm_step {f b : Int} (hf : 0 < f) (hb : 0 < b) : 0 < f / (Int.gcd f b : Int) * b ∧ f ∣ f / (Int.gcd f b : Int) * b ∧ b ∣ f / (Int.gcd f b : Int) * b := by
  have g : (0 : Int) < (Int.gcd f b : Int) := by have := gcd_pos (a := f) (b := b) (by omega); omega
  have d1 : (Int.gcd f b : Int) ∣ f := Int.gcd_dvd_left f b
  have d2 : (Int.gcd f b : Int) ∣ b := Int.gcd_dvd_right f b
  generalize (Int.gcd f b : Int) = G at *
  obtain ⟨m, rfl⟩ := d1
  obtain ⟨k, rfl⟩ := d2
  rw [Int.mul_ediv_cancel_left m (by omega)]
  have hm0 : 0 < m := Int.pos_of_mul_pos_right hf (by omega)
  exact ⟨Int.mul_pos hm0 hb, ⟨k, by grind⟩, Int.dvd_mul_left m _⟩
/-- what stands at p, if anything, is a table -/
def New (H : Hp) (p : Addr) : Prop := ∀ o, H p = some o → ∃ ps, o = .tbl ps
theorem New.ne {H : Hp} {p b : Addr} {o : HO} (n : New H p) (h : H b = some o) (t : ∀ ps, o ≠ .tbl ps) : b ≠ p := by
  rintro rfl
  obtain ⟨ps, e⟩ := n o h
  exact t ps e
theorem New.of {H : Hp} {p : Addr} (h : H p = none) : New H p := fun o e => by rw [h] at e; cases e
def spCommon (K : PySem.W.Frag) : Sp := fun vs H Q _ => ∃ (n : Nat) (l : Addr) (rs : List V) (ps : List (Int × Int)), vs = [.ref l] ∧ n ≤ 8999 ∧ SqT K H l rs ∧ Parts K H rs ps ∧ (∀ q ∈ ps, Okp n q) ∧ (ps.length + 2) * (n + 1) ≤ 800000 ∧ ∀ c, 0 < c → (∀ q ∈ ps, q.2 ∣ c) → Bt (1 + ps.length * n) c → Q (.int c) H
def spFirst (K : PySem.W.Frag) (P : Addr) : Sp := fun vs H Q _ => ∃ (n : Nat) (l : Addr) (rs : List V) (ps : List (Int × Int)), vs = [.ref l] ∧ n ≤ 8999 ∧ SqT K H l rs ∧ Parts K H rs ps ∧ (∀ q ∈ ps, Okp n q) ∧ (ps.length + 2) * (n + 1) ≤ 800000 ∧ LamX.TabS H P qLam ∧
  ∀ H' p ord, LamX.ExtN H H' → LamX.TabS H' P qLam → New H p → H' p = some (.lst (ord.map fun j : Nat => V.int j)) → RankedP ps ord → Q (.ref p) H'
def spLawT (K : PySem.W.Frag) (P : Addr) : Sp := fun vs H Q _ => ∃ (a : Addr) (ns : List Int), vs = [.ref a] ∧ SqL K H a (ns.map V.int) ∧ ns.length ≤ 63 ∧ LamX.TabS H P qLam ∧ ∀ H', Q (.bl true) H'
end WS
set_option Elab.async false
set_option linter.all false
set_option maxRecDepth 100000
set_option maxHeartbeats 4000000
namespace WS
open PySem PySem.Spec PyProof.Rows L2
/-! ### sets of places, and the greatest -/
def gd (xs : List Int) (i : Nat) : Int := xs.getD i 0
theorem perm_sum {xs ys : List Int} (h : xs.Perm ys) : xs.sum = ys.sum := by
  induction h with
  | nil => rfl
  | cons a _ ih => rw [List.sum_cons, List.sum_cons, ih]
  | swap a b l => simp only [List.sum_cons]; omega
  | trans _ _ h1 h2 => rw [h1, h2]
def setsL : Nat → List (List Nat)
  | 0 => [[]]
  | k + 1 => setsL k ++ (setsL k).map (· ++ [k])
theorem setsL_len : ∀ n, (setsL n).length = 2 ^ n
  | 0 => rfl
  | n + 1 => by rw [setsL, List.length_append, List.length_map, setsL_len n, Nat.pow_succ]; omega
theorem setsL_lt : ∀ {n : Nat} {s : List Nat}, s ∈ setsL n → (∀ i ∈ s, i < n) ∧ s.length ≤ n
  | 0, s, h => by
    obtain rfl : s = [] := by simpa [setsL] using h
    exact ⟨fun i hi => by simp at hi, Nat.le_refl _⟩
  | n + 1, s, h => by
    rw [setsL] at h
    rcases List.mem_append.mp h with h | h
    · obtain ⟨h1, h2⟩ := setsL_lt h
      exact ⟨fun i hi => Nat.lt_succ_of_lt (h1 i hi), Nat.le_succ_of_le h2⟩
    · obtain ⟨t, ht, rfl⟩ := List.mem_map.mp h
      obtain ⟨h1, h2⟩ := setsL_lt ht
      refine ⟨fun i hi => ?_, by rw [List.length_append]; exact Nat.succ_le_succ h2⟩
      rcases List.mem_append.mp hi with hi | hi
      · exact Nat.lt_succ_of_lt (h1 i hi)
      · rw [List.mem_singleton.mp hi]
        exact Nat.lt_succ_self n
theorem take_gd {xs : List Int} {m : Nat} (h : m < xs.length) : xs.take (m + 1) = xs.take m ++ [gd xs m] := by
  rw [List.take_add_one, List.getElem?_eq_getElem h]
  unfold gd
  rw [List.getD_eq_getElem?_getD, List.getElem?_eq_getElem h]
  rfl
theorem sets_sub (xs : List Int) : ∀ m, m ≤ xs.length → (∀ s ∈ setsL m, (s.map (gd xs)).Sublist (xs.take m)) ∧ ∀ ys : List Int, ys.Sublist (xs.take m) → ∃ s ∈ setsL m, s.map (gd xs) = ys
  | 0, _ => by
    refine ⟨fun s hs => ?_, fun ys hy => ⟨[], by simp [setsL], ?_⟩⟩
    · obtain rfl : s = [] := by simpa [setsL] using hs
      simp
    · have : ys = [] := by simpa using hy
      rw [this]
      rfl
  | m + 1, h => by
    obtain ⟨a, b⟩ := sets_sub xs m (by omega)
    rw [take_gd (by omega)]
    refine ⟨fun s hs => ?_, fun ys hy => ?_⟩
    · rw [setsL] at hs
      rcases List.mem_append.mp hs with hs | hs
      · exact (a s hs).trans (List.sublist_append_left _ _)
      · obtain ⟨t, ht, rfl⟩ := List.mem_map.mp hs
        rw [List.map_append]
        exact (a t ht).append (List.Sublist.refl _)
    · obtain ⟨y1, y2, rfl, h1, h2⟩ := List.sublist_append_iff.mp hy
      obtain ⟨s, hs, rfl⟩ := b y1 h1
      cases h2 with
      | cons _ h2 =>
        have : y2 = [] := by simpa using h2
        subst this
        exact ⟨s, by rw [setsL]; exact List.mem_append_left _ hs, by simp⟩
      | cons_cons _ h2 =>
        rename_i l
        have : l = [] := by simpa using h2
        subst this
        exact ⟨s ++ [m], by rw [setsL]; exact List.mem_append_right _ (List.mem_map.mpr ⟨s, hs, rfl⟩), by rw [List.map_append]; rfl⟩
theorem sum_take_mono {z : Int} : ∀ {zs : List Int} {k : Nat}, (∀ y ∈ zs, y ≤ z) → zs.Pairwise (fun a b => b ≤ a) → k ≤ zs.length → (zs.take k).sum ≤ ((z :: zs).take k).sum
  | zs, 0, _, _, _ => by simp
  | [], k + 1, _, _, h => by simp at h
  | y :: zs, k + 1, h, p, hk => by
    have p' := List.pairwise_cons.mp p
    rw [List.take_succ_cons, List.take_succ_cons, List.sum_cons, List.sum_cons]
    have h1 := sum_take_mono (z := y) (zs := zs) (k := k) p'.1 p'.2 (by simpa using hk)
    have h2 := h y List.mem_cons_self
    omega
theorem sub_le_take : ∀ {zs ys : List Int}, zs.Pairwise (fun a b => b ≤ a) → ys.Sublist zs → ys.sum ≤ (zs.take ys.length).sum := by
  intro zs ys p h
  induction h with
  | slnil => simp
  | cons z h ih =>
    have p' := List.pairwise_cons.mp p
    exact Int.le_trans (ih p'.2) (sum_take_mono p'.1 p'.2 h.length_le)
  | cons_cons z h ih =>
    have p' := List.pairwise_cons.mp p
    rw [List.length_cons, List.take_succ_cons, List.sum_cons, List.sum_cons]
    have := ih p'.2
    omega
theorem others : ∀ {ys xs : List Int}, ys.Sublist xs → ∃ zs : List Int, zs.Sublist xs ∧ zs.sum = xs.sum - ys.sum ∧ zs.length = xs.length - ys.length := by
  intro ys xs h
  induction h with
  | slnil => exact ⟨[], .slnil, rfl, rfl⟩
  | cons x h ih =>
    obtain ⟨zs, h1, h2, h3⟩ := ih
    have := h.length_le
    exact ⟨x :: zs, .cons_cons x h1, by rw [List.sum_cons, List.sum_cons, h2]; omega, by rw [List.length_cons, List.length_cons, h3]; omega⟩
  | cons_cons x h ih =>
    obtain ⟨zs, h1, h2, h3⟩ := ih
    exact ⟨zs, .cons x h1, by rw [List.sum_cons, List.sum_cons, h2]; omega, by rw [List.length_cons, List.length_cons, h3]; omega⟩
/-- no set of places comes to more than the most -/
def Fair (M : Nat → Int) (xs : List Int) : Prop := ∀ ys : List Int, ys.Sublist xs → ys.sum ≤ M ys.length
theorem Fair.perm {M : Nat → Int} {xs xs' : List Int} (h : Fair M xs) (p : xs.Perm xs') : Fair M xs' := fun ys hy => by
  obtain ⟨zs, h1, h2⟩ := List.exists_perm_sublist hy p.symm
  rw [← perm_sum h1, ← h1.length_eq]
  exact h zs h2
def tops (xs : List Int) (ord : List Nat) (k : Nat) : Int := ((ord.take k).map (gd xs)).sum
theorem map_range_gd (xs : List Int) : (List.range xs.length).map (gd xs) = xs := by
  apply List.ext_getElem
  · simp
  · intro i h1 h2
    simp [gd, List.getD_eq_getElem?_getD, List.getElem?_eq_getElem h2]
theorem ranked_zs {xs : List Int} {ord : List Nat} (h : Ranked xs ord) : (ord.map (gd xs)).Perm xs ∧ (ord.map (gd xs)).Pairwise fun a b => b ≤ a := by
  refine ⟨?_, ?_⟩
  · have := h.1.map (gd xs)
    rwa [map_range_gd] at this
  · refine List.pairwise_map.mpr (h.2.imp fun {a b} h => ?_)
    unfold gd
    omega
theorem fair_tops {M : Nat → Int} {xs : List Int} {ord : List Nat} (h : Ranked xs ord) : (∀ k, k ≤ xs.length → tops xs ord k ≤ M k) ↔ Fair M xs := by
  obtain ⟨p, d⟩ := ranked_zs h
  have len : ord.length = xs.length := by rw [h.1.length_eq, List.length_range]
  constructor
  · intro t ys hy
    obtain ⟨zs, h1, h2⟩ := List.exists_perm_sublist hy p.symm
    rw [← perm_sum h1, ← h1.length_eq]
    have h3 := sub_le_take d h2
    have h4 := h2.length_le
    rw [List.length_map, len] at h4
    have h5 := t zs.length h4
    unfold tops at h5
    rw [List.map_take] at h5
    exact Int.le_trans h3 h5
  · intro f k hk
    have f' := f.perm p.symm
    have := f' _ (List.take_sublist k _)
    rw [List.length_take, List.length_map, len, Nat.min_eq_left hk, ← List.map_take] at this
    exact this
theorem fair_sets {M : Nat → Int} {xs : List Int} : (∀ s ∈ setsL xs.length, (s.map (gd xs)).sum ≤ M s.length) ↔ Fair M xs := by
  obtain ⟨a, b⟩ := sets_sub xs xs.length (Nat.le_refl _)
  rw [List.take_length] at a b
  constructor
  · intro h ys hy
    obtain ⟨s, hs, rfl⟩ := b ys hy
    rw [List.length_map]
    exact h s hs
  · intro f s hs
    have := f _ (a s hs)
    rwa [List.length_map] at this
theorem fair_low {M : Nat → Int} {xs : List Int} (f : Fair M xs) (z : xs.sum = 0) (sy : ∀ k, k ≤ xs.length → M (xs.length - k) = M k) {s : List Nat} (hs : s ∈ setsL xs.length) : -(M s.length) ≤ (s.map (gd xs)).sum := by
  obtain ⟨a, _⟩ := sets_sub xs xs.length (Nat.le_refl _)
  rw [List.take_length] at a
  obtain ⟨zs, h1, h2, h3⟩ := others (a s hs)
  have h4 := f zs h1
  rw [h3, List.length_map, sy _ (setsL_lt hs).2, h2, z] at h4
  omega
/-! ### sums of parts over one below -/
theorem pl_over {x c : Int} {q : Int × Int} (hc : 0 < c) (hq : 0 < q.2) (d : q.2 ∣ c) : pl (lo x c) q = lo (x + overC c q) c := by
  unfold pl overC
  have l2 := (lo_lowest (a := x) hc).1
  have e := lo_cross x c
  obtain ⟨m, hm⟩ := d
  have em : c / q.2 = m := by rw [hm, Int.mul_ediv_cancel_left _ (by omega)]
  rw [em]
  refine lo_congr (Int.mul_pos l2 hq) hc ?_
  generalize (lo x c).1 = L1 at *
  generalize (lo x c).2 = L2 at *
  have : (L1 * q.2 + q.1 * L2) * c = L1 * c * q.2 + q.1 * L2 * c := by grind
  rw [this, e, hm]
  grind
theorem fold_over {c : Int} (hc : 0 < c) : ∀ (qs : List (Int × Int)) (x : Int), (∀ q ∈ qs, 0 < q.2 ∧ q.2 ∣ c) → qs.foldl pl (lo x c) = lo (x + (qs.map (overC c)).sum) c
  | [], x, _ => by simp
  | q :: qs, x, h => by
    obtain ⟨h1, h2⟩ := h q List.mem_cons_self
    rw [List.foldl_cons, pl_over hc h1 h2, fold_over hc qs _ fun r hr => h r (List.mem_cons_of_mem _ hr), List.map_cons, List.sum_cons, Int.add_assoc]
theorem lo_zero {c : Int} (hc : 0 < c) : lo 0 c = (0, 1) := lo_eq ⟨by decide, by decide⟩ hc (by omega)
theorem sum_over {c : Int} (hc : 0 < c) (qs : List (Int × Int)) (h : ∀ q ∈ qs, 0 < q.2 ∧ q.2 ∣ c) : qs.foldl pl (0, 1) = lo ((qs.map (overC c)).sum) c := by
  rw [← lo_zero hc, fold_over hc qs 0 h, Int.zero_add]
/-- a number into which all belows go -/
def cmul : List (Int × Int) → Int
  | [] => 1
  | q :: qs => q.2 * cmul qs
theorem cmul_ok : ∀ (qs : List (Int × Int)), (∀ q ∈ qs, 0 < q.2) → 0 < cmul qs ∧ ∀ q ∈ qs, 0 < q.2 ∧ q.2 ∣ cmul qs
  | [], _ => ⟨by decide, fun q hq => by simp at hq⟩
  | q :: qs, h => by
    obtain ⟨a, b⟩ := cmul_ok qs fun r hr => h r (List.mem_cons_of_mem _ hr)
    have hq := h q List.mem_cons_self
    refine ⟨Int.mul_pos hq a, fun r hr => ?_⟩
    rcases List.mem_cons.mp hr with rfl | hr
    · exact ⟨hq, Int.dvd_mul_right _ _⟩
    · exact ⟨(b r hr).1, Int.dvd_trans (b r hr).2 (Int.dvd_mul_left _ _)⟩
def gp (ps : List (Int × Int)) (i : Nat) : Int × Int := ps.getD i (0, 1)
theorem map_gp {ps : List (Int × Int)} {c : Int} {s : List Nat} (h : ∀ i ∈ s, i < ps.length) : (s.map (gp ps)).map (overC c) = s.map (gd (ps.map (overC c))) := by
  rw [List.map_map]
  refine List.map_congr_left fun i hi => ?_
  have := h i hi
  simp [gp, gd, List.getD_eq_getElem?_getD, List.getElem?_map, List.getElem?_eq_getElem this]
theorem gp_mem {ps : List (Int × Int)} {i : Nat} (h : i < ps.length) : gp ps i ∈ ps := by
  unfold gp
  rw [List.getD_eq_getElem?_getD, List.getElem?_eq_getElem h]
  exact List.getElem_mem h
theorem sum_places {ps : List (Int × Int)} {c : Int} {s : List Nat} (hc : 0 < c) (hp : ∀ q ∈ ps, 0 < q.2 ∧ q.2 ∣ c) (h : ∀ i ∈ s, i < ps.length) : (s.map (gp ps)).foldl pl (0, 1) = lo ((s.map (gd (ps.map (overC c)))).sum) c := by
  rw [sum_over hc, map_gp h]
  intro q hq
  obtain ⟨i, hi, rfl⟩ := List.mem_map.mp hq
  exact hp _ (gp_mem (h i hi))
end WS
set_option Elab.async false
set_option linter.all false
set_option maxRecDepth 100000
set_option maxHeartbeats 4000000
namespace WS
open PySem PySem.Spec PyProof.Rows L2
/-! ### promises of sums_ahead, fall, is_within -/
def sumK (ps : List (Int × Int)) (ord : List Nat) (k : Nat) : Int × Int := ((ord.take k).map (gp ps)).foldl pl (0, 1)
def sumsP (ps : List (Int × Int)) (ord : List Nat) : List (Int × Int) := (List.range (ps.length + 1)).map (sumK ps ord)
def spMostW (K : PySem.W.Frag) : Sp := fun vs H Q _ => ∃ a n k : Int, vs = [.int a, .int n, .int k] ∧ Bt 2000 a ∧ Bt 200 n ∧ Bt 200 k ∧ NewT K H (lo (a * k * (n - k)) 2).1 (lo (a * k * (n - k)) 2).2 Q
/-- a row at l whose parts are ps, small enough -/
def RowAt (K : PySem.W.Frag) (H : Hp) (l : Addr) (ps : List (Int × Int)) : Prop := ∃ (n : Nat) (rs : List V), SqT K H l rs ∧ Parts K H rs ps ∧ (∀ q ∈ ps, Okp n q) ∧ (ps.length + 2) * (n + 1) ≤ 4400
theorem RowAt.k {K : PySem.W.Frag} {H H' : Hp} {l : Addr} {ps : List (Int × Int)} (h : RowAt K H l ps) (s : KT H H') : RowAt K H' l ps := by
  obtain ⟨n, rs, a, b, c⟩ := h
  exact ⟨n, rs, s.sqt a, b.k s, c⟩
def spAhead (K : PySem.W.Frag) (P : Addr) : Sp := fun vs H Q _ => ∃ (l : Addr) (ps : List (Int × Int)), vs = [.ref l] ∧ RowAt K H l ps ∧ LamX.TabS H P qLam ∧
  ∀ H' p ts ord, LamX.ExtN H H' → LamX.TabS H' P qLam → New H p → H' p = some (.lst ts) → Parts K H' ts (sumsP ps ord) → RankedP ps ord → Q (.ref p) H'
def fallsAt (w : Int) (ps : List (Int × Int)) (ord : List Nat) (k : Nat) : Bool := decide ((lo (w * k * ((ps.length : Int) - k)) 2).1 * (sumK ps ord k).2 < (sumK ps ord k).1 * (lo (w * k * ((ps.length : Int) - k)) 2).2)
def fallV (w : Int) (ps : List (Int × Int)) (ord : List Nat) : V := match (List.range (ps.length + 1)).find? (fallsAt w ps ord) with
  | some k => .int (k : Nat)
  | none => .non
def spFall (K : PySem.W.Frag) (P : Addr) : Sp := fun vs H Q _ => ∃ (w : Int) (l : Addr) (ps : List (Int × Int)), vs = [.int w, .ref l] ∧ Bt 2000 w ∧ RowAt K H l ps ∧ LamX.TabS H P qLam ∧
  ∀ H' ord, LamX.ExtN H H' → LamX.TabS H' P qLam → RankedP ps ord → Q (fallV w ps ord) H'
def Mo (c w : Int) (n : Nat) (k : Nat) : Int := w * k * ((n : Int) - k) * c / 2
def WithinC (c w : Int) (ps : List (Int × Int)) : Prop := (ps.map (overC c)).sum = 0 ∧ Fair (Mo c w ps.length) (ps.map (overC c))
def spWithin (K : PySem.W.Frag) (P : Addr) : Sp := fun vs H Q _ => ∃ (w : Int) (l : Addr) (ps : List (Int × Int)), vs = [.int w, .ref l] ∧ Bt 2000 w ∧ RowAt K H l ps ∧ (∀ q ∈ ps, Okp 250 q) ∧ ps.length ≤ 16 ∧ LamX.TabS H P qLam ∧
  ∀ H' b, LamX.ExtN H H' → LamX.TabS H' P qLam → (∀ c, 0 < c → (∀ q ∈ ps, 0 < q.2 ∧ q.2 ∣ c) → (b = true ↔ WithinC c w ps)) → Q (.bl b) H'
theorem RankedP.lt {ps : List (Int × Int)} {ord : List Nat} (h : RankedP ps ord) : ord.length = ps.length ∧ ∀ i ∈ ord, i < ps.length :=
  ⟨by rw [h.1.length_eq, List.length_range], fun _ hi => List.mem_range.mp (h.1.mem_iff.mp hi)⟩
theorem sumK_over {ps : List (Int × Int)} {ord : List Nat} {c : Int} (h : RankedP ps ord) (hc : 0 < c) (hp : ∀ q ∈ ps, 0 < q.2 ∧ q.2 ∣ c) (k : Nat) : sumK ps ord k = lo (tops (ps.map (overC c)) ord k) c :=
  sum_places hc hp fun i hi => h.lt.2 i (List.mem_of_mem_take hi)
theorem fallsAt_iff {w : Int} {ps : List (Int × Int)} {ord : List Nat} {c : Int} (h : RankedP ps ord) (hc : 0 < c) (hp : ∀ q ∈ ps, 0 < q.2 ∧ q.2 ∣ c) (k : Nat) : fallsAt w ps ord k = true ↔ ¬ tops (ps.map (overC c)) ord k ≤ Mo c w ps.length k := by
  unfold fallsAt
  rw [decide_eq_true_eq, sumK_over h hc hp k, lo_less (by decide) hc]
  unfold Mo
  omega
theorem fallV_none {w : Int} {ps : List (Int × Int)} {ord : List Nat} {c : Int} (h : RankedP ps ord) (hc : 0 < c) (hp : ∀ q ∈ ps, 0 < q.2 ∧ q.2 ∣ c) : fallV w ps ord = .non ↔ Fair (Mo c w ps.length) (ps.map (overC c)) := by
  have rk := (ranked_c hc hp).mpr h
  rw [← fair_tops rk, List.length_map]
  unfold fallV
  cases z : (List.range (ps.length + 1)).find? (fallsAt w ps ord) with
  | none =>
    refine ⟨fun _ k hk => ?_, fun _ => rfl⟩
    have := List.find?_eq_none.mp z k (List.mem_range.mpr (by omega))
    rw [fallsAt_iff h hc hp] at this
    exact Decidable.not_not.mp this
  | some k =>
    refine ⟨fun e => (by cases e), fun f => ?_⟩
    have h1 := List.find?_some z
    have h2 := List.mem_range.mp (List.mem_of_find?_eq_some z)
    rw [fallsAt_iff h hc hp] at h1
    exact absurd (f k (by omega)) h1
theorem sumK_succ {ps : List (Int × Int)} {ord : List Nat} {k j : Nat} (h : ord[k]? = some j) : sumK ps ord (k + 1) = pl (sumK ps ord k) (gp ps j) := by
  unfold sumK
  rw [List.take_add_one, h]
  simp
theorem sumK_okp {n : Nat} {ps : List (Int × Int)} {ord : List Nat} (h : RankedP ps ord) (hk : ∀ q ∈ ps, Okp n q) (hn : (ps.length + 2) * (n + 1) ≤ 4400) (k : Nat) : Okp 4400 (sumK ps ord k) := by
  have o := fold_okp (n := n + 1) (m := n) ((ord.take k).map (gp ps)) (0, 1) ⟨by decide, by unfold Bt; exact Nat.two_pow_pos (n + 1), by unfold Bt; exact Nat.one_lt_two_pow (by omega)⟩ (fun z hz => by
    obtain ⟨i, hi, rfl⟩ := List.mem_map.mp hz
    exact hk _ (gp_mem (h.lt.2 i (List.mem_of_mem_take hi))))
  refine o.mono ?_
  rw [List.length_map, List.length_take]
  have h1 : min k ord.length ≤ ps.length := by rw [h.lt.1]; exact Nat.min_le_right _ _
  have h2 := Nat.mul_le_mul_right (n + 1) h1
  rw [Nat.add_mul] at hn
  omega
theorem eqv_pairs (a b c d : Int) : PyData.eqv (pd a b) (pd c d) = decide (a = c ∧ b = d) := by
  simp [pd, PyData.eqv, PyData.eqvAll, Bool.beq_eq_decide_eq]
theorem lo_is_zero {x c : Int} (hc : 0 < c) : lo x c = (0, 1) ↔ x = 0 := by
  constructor
  · intro h
    have := lo_cross x c
    rw [h] at this
    simp at this
    omega
  · rintro rfl
    exact lo_zero hc
theorem find_at {p : Nat → Bool} {n k : Nat} (h : k < n) (hk : p k = true) (hb : ∀ j, j < k → p j = false) : (List.range n).find? p = some k := by
  rw [List.find?_range_eq_some]
  exact ⟨hk, List.mem_range.mpr h, fun j hj => by rw [hb j hj]; rfl⟩
theorem find_no {p : Nat → Bool} {n : Nat} (hb : ∀ j, j < n → p j = false) : (List.range n).find? p = none := by
  rw [List.find?_range_eq_none]
  exact fun j hj => by rw [hb j hj]; rfl
end WS
set_option Elab.async false
set_option linter.all false
set_option maxRecDepth 100000
set_option maxHeartbeats 4000000
namespace WS
open PySem PySem.Spec PyProof.Rows L2
/-! ### lists of numbers, of parts, of lists -/
theorem same_upd {H H' : Hp} {F : Addr} {o : HO} (s : Same H H') (n : H F = none) : Same H (upd H' F o) := fun b x e => by
  rw [upd_ne (ne_of_none e n)]
  exact s b x e
theorem dpall_ints {K : PySem.W.Frag} {H : Hp} : ∀ ns : List Int, DpAll K H (ns.map V.int) (ns.map PyData.int)
  | [] => .nil
  | n :: ns => .cons (.int n) (dpall_ints ns)
theorem lay_ints : ∀ ns : List Int, PyData.canLayAll0 (ns.map PyData.int) = true ∧ PyData.depthAll (ns.map PyData.int) ≤ 1
  | [] => ⟨by simp [PyData.canLayAll0], by simp [PyData.depthAll]⟩
  | n :: ns => by
    obtain ⟨a, b⟩ := lay_ints ns
    refine ⟨by simp [PyData.canLayAll0, PyData.canLay0, a], ?_⟩
    simp only [List.map_cons, PyData.depthAll, PyData.depth]
    omega
theorem shaped_ints (ns : List Int) : SeqAt.shaped (.list (ns.map PyData.int)) = true := by
  obtain ⟨a, b⟩ := lay_ints ns
  unfold SeqAt.shaped
  rw [show (PyData.list (ns.map PyData.int)).canLay0 = true from by simp only [PyData.canLay0]; exact a, show (PyData.list (ns.map PyData.int)).depth = PyData.depthAll (ns.map PyData.int) + 1 from by simp only [PyData.depth], Bool.true_and, decide_eq_true_eq]
  omega
theorem ints_dp {K : PySem.W.Frag} {H : Hp} {l : Addr} {ns : List Int} (h : SqL K H l (ns.map V.int)) : Dp K H (.ref l) (.list (ns.map PyData.int)) := .lst h (dpall_ints ns)
theorem nats_int (ns : List Nat) : ns.map (fun j : Nat => V.int j) = (ns.map fun j : Nat => (j : Int)).map V.int := by rw [List.map_map]; rfl
def pdP (p : Int × Int) : PyData := pd p.1 p.2
theorem dpall_parts {K : PySem.W.Frag} {H : Hp} : ∀ {rs : List V} {ps : List (Int × Int)}, Parts K H rs ps → DpAll K H rs (ps.map pdP)
  | [], [], _ => .nil
  | r :: rs, p :: ps, h => by
    obtain ⟨p', e, t⟩ := h.2 0 r rfl
    obtain rfl : p = p' := by simpa using e
    exact .cons (pd_dp t) (dpall_parts ⟨by have := h.1; simpa using this, fun i v hv => by simpa using h.2 (i + 1) v (by simpa using hv)⟩)
  | [], p :: ps, h => by have := h.1; simp at this
  | r :: rs, [], h => by have := h.1; simp at this
theorem lay_parts : ∀ ps : List (Int × Int), PyData.canLayAll0 (ps.map pdP) = true ∧ PyData.depthAll (ps.map pdP) ≤ 4
  | [] => ⟨by simp [PyData.canLayAll0], by simp [PyData.depthAll]⟩
  | n :: ns => by
    obtain ⟨a, b⟩ := lay_parts ns
    refine ⟨by simp [PyData.canLayAll0, PyData.canLay0, pdP, pd, a], ?_⟩
    simp only [List.map_cons, PyData.depthAll, PyData.depth, pdP, pd]
    omega
theorem shaped_parts (ps : List (Int × Int)) : SeqAt.shaped (.list (ps.map pdP)) = true ∧ SeqAt.shaped (.tuple (ps.map pdP)) = true := by
  obtain ⟨a, b⟩ := lay_parts ps
  unfold SeqAt.shaped
  constructor
  · rw [show (PyData.list (ps.map pdP)).canLay0 = true from by simp only [PyData.canLay0]; exact a, show (PyData.list (ps.map pdP)).depth = PyData.depthAll (ps.map pdP) + 1 from by simp only [PyData.depth], Bool.true_and, decide_eq_true_eq]
    omega
  · rw [show (PyData.tuple (ps.map pdP)).canLay0 = true from by simp only [PyData.canLay0]; exact a, show (PyData.tuple (ps.map pdP)).depth = PyData.depthAll (ps.map pdP) + 1 from by simp only [PyData.depth], Bool.true_and, decide_eq_true_eq]
    omega
theorem eqv_nil {α : Type} (f : α → PyData) (ns : List α) : PyData.eqv (.list (ns.map f)) (.list []) = ns.isEmpty := by
  cases ns <;> simp [PyData.eqv, PyData.eqvAll]
theorem dp_nil {K : PySem.W.Frag} {H : Hp} {l : Addr} (h : SqL K H l []) : Dp K H (.ref l) (.list []) := .lst h .nil
theorem shaped_nil : SeqAt.shaped (.list []) = true := rfl
theorem rgV_nat (n : Nat) : rgV 0 (n : Int) = (List.range n).map fun j : Nat => V.int j := by
  unfold rgV
  simp
/-- lists of places -/
def Lists (H : Hp) (vs : List V) (ss : List (List Nat)) : Prop := vs.length = ss.length ∧ ∀ (i : Nat) v, vs[i]? = some v → ∃ a s, v = .ref a ∧ ss[i]? = some s ∧ H a = some (.lst (s.map fun j : Nat => V.int j))
theorem Lists.same {H H' : Hp} {vs : List V} {ss : List (List Nat)} (h : Lists H vs ss) (s : Same H H') : Lists H' vs ss := ⟨h.1, fun i v e => by
  obtain ⟨a, t, h1, h2, h3⟩ := h.2 i v e
  exact ⟨a, t, h1, h2, s _ _ h3⟩⟩
theorem Lists.upd {H : Hp} {D : Addr} {o : HO} {vs : List V} {ss : List (List Nat)} (h : Lists H vs ss) (n : ∀ v ∈ vs, v ≠ .ref D) : Lists (upd H D o) vs ss := ⟨h.1, fun i v e => by
  obtain ⟨a, t, h1, h2, h3⟩ := h.2 i v e
  refine ⟨a, t, h1, h2, ?_⟩
  rw [upd_ne fun z => n v (List.mem_of_getElem? e) (by rw [h1, z])]
  exact h3⟩
theorem Lists.add {H : Hp} {vs : List V} {ss : List (List Nat)} {a : Addr} {s : List Nat} (h : Lists H vs ss) (ha : H a = some (.lst (s.map fun j : Nat => V.int j))) : Lists H (vs ++ [.ref a]) (ss ++ [s]) := by
  refine ⟨by simp [h.1], fun i v e => ?_⟩
  rcases Nat.lt_or_ge i vs.length with hi | hi
  · rw [List.getElem?_append_left hi] at e
    obtain ⟨b, t, h1, h2, h3⟩ := h.2 i v e
    exact ⟨b, t, h1, by rw [List.getElem?_append_left (by rw [← h.1]; exact hi)]; exact h2, h3⟩
  · rw [List.getElem?_append_right hi] at e
    have hi2 : i - vs.length = 0 := by
      rcases Nat.eq_zero_or_pos (i - vs.length) with z | z
      · exact z
      · rw [List.getElem?_eq_none (show [V.ref a].length ≤ _ from z)] at e; cases e
    rw [hi2] at e
    refine ⟨a, s, by simpa using e.symm, ?_, ha⟩
    rw [List.getElem?_append_right (by rw [← h.1]; exact hi), ← h.1, hi2]
    rfl
theorem Lists.append {H : Hp} {vs vs' : List V} {ss ss' : List (List Nat)} (h : Lists H vs ss) (k : Lists H vs' ss') : Lists H (vs ++ vs') (ss ++ ss') := by
  refine ⟨by simp [h.1, k.1], fun i v e => ?_⟩
  rcases Nat.lt_or_ge i vs.length with hi | hi
  · rw [List.getElem?_append_left hi] at e
    obtain ⟨b, t, h1, h2, h3⟩ := h.2 i v e
    exact ⟨b, t, h1, by rw [List.getElem?_append_left (by rw [← h.1]; exact hi)]; exact h2, h3⟩
  · rw [List.getElem?_append_right hi] at e
    obtain ⟨b, t, h1, h2, h3⟩ := k.2 _ v e
    exact ⟨b, t, h1, by rw [List.getElem?_append_right (by rw [← h.1]; exact hi), ← h.1]; exact h2, h3⟩
def spSets : Sp := fun vs H Q _ => ∃ n : Nat, vs = [.int n] ∧ n ≤ 12 ∧ ∀ H' p as, Same H H' → H p = none → H' p = some (.lst as) → Lists H' as (setsL n) → Q (.ref p) H'
def spFirstL (K : PySem.W.Frag) : Sp := fun vs H Q _ => ∃ (l : Addr) (rs : List V) (ps : List (Int × Int)), vs = [.ref l] ∧ SqL K H l rs ∧ Parts K H rs ps ∧ (∀ q ∈ ps, Okp 4400 q) ∧ ps.length ≤ 1000 ∧
  ∀ (H' : Hp) (p : Addr) (os : List Nat), Same H H' → H p = none → H' p = some (.lst (os.map fun j : Nat => V.int j)) → (∀ o ∈ os, o < ps.length) → Q (.ref p) H'
theorem Parts.at {K : PySem.W.Frag} {H : Hp} {rs : List V} {ps : List (Int × Int)} (h : Parts K H rs ps) {i : Nat} (hi : i < ps.length) : ∃ v, rs[i]? = some v ∧ gp ps i ∈ ps ∧ TupI K H v (gp ps i).1 (gp ps i).2 := by
  obtain ⟨v, hv⟩ : ∃ v, rs[i]? = some v := ⟨_, List.getElem?_eq_getElem (by rw [h.1]; exact hi)⟩
  obtain ⟨p, hp, t⟩ := h.2 i v hv
  have e : gp ps i = p := by unfold gp; rw [List.getD_eq_getElem?_getD, hp]; rfl
  exact ⟨v, hv, gp_mem hi, by rw [e]; exact t⟩
end WS
set_option Elab.async false
set_option linter.all false
set_option maxRecDepth 100000
set_option maxHeartbeats 4000000
namespace WS
open PySem PySem.Spec PyProof.Rows L2
/-! ### bounds of sums over small belows; due -/
def Okq (n d : Nat) (p : Int × Int) : Prop := 0 < p.2 ∧ Bt n p.1 ∧ Bt d p.2
theorem Okq.pl {n d m e : Nat} {p q : Int × Int} (h : Okq n d p) (k : Okq m e q) : Okq (max (n + e) (m + d) + 1) (d + e) (pl p q) := by
  have hp : 0 < p.2 * q.2 := Int.mul_pos h.1 k.1
  refine ⟨(lo_lowest hp).1, ?_, (h.2.2.mul k.2.2).lo2⟩
  exact (((h.2.1.mul k.2.2).mono (Nat.le_max_left _ _)).add ((k.2.1.mul h.2.2).mono (Nat.le_max_right _ _))).lo1
theorem Okq.mono {n d m e : Nat} {p : Int × Int} (h : Okq n d p) (a : n ≤ m) (b : d ≤ e) : Okq m e p := ⟨h.1, h.2.1.mono a, h.2.2.mono b⟩
theorem Okq.okp {n d m : Nat} {p : Int × Int} (h : Okq n d p) (a : n ≤ m) (b : d ≤ m) : Okp m p := ⟨h.1, h.2.1.mono a, h.2.2.mono b⟩
theorem fold_okq : ∀ (ps : List (Int × Int)) (i : Nat) (p : Int × Int), Okq (98 + 7 * i) (1 + 6 * i) p → (∀ q ∈ ps, Okq 97 6 q) → Okq (98 + 7 * (i + ps.length)) (1 + 6 * (i + ps.length)) (ps.foldl pl p)
  | [], i, p, h, _ => by simpa using h
  | q :: ps, i, p, h, k => by
    have h1 := (h.pl (k q List.mem_cons_self)).mono (m := 98 + 7 * (i + 1)) (e := 1 + 6 * (i + 1)) (by omega) (by omega)
    have h2 := fold_okq ps (i + 1) _ h1 fun r hr => k r (List.mem_cons_of_mem _ hr)
    rw [List.foldl_cons, List.length_cons]
    exact h2.mono (by omega) (by omega)
theorem lo_neg (a b : Int) : lo (0 - a) b = (0 - (lo a b).1, (lo a b).2) := by
  unfold lo
  rw [Int.zero_sub, Int.neg_gcd, Int.zero_sub, Int.neg_ediv_of_dvd (Int.gcd_dvd_left a b)]
def spRowL (K : PySem.W.Frag) : Sp := fun vs H Q _ => ∃ (p : Addr) (m : Nat), vs = [.ref p, .int m] ∧ PotAt H p ∧ m ≤ 7 ∧ ∀ H' D rs ps, SameX p H H' → PotAt H' p → H D = none → H' D = some (.lst rs) → Parts K H' rs ps → ps.length = m → (∀ q ∈ ps, Lowest q.1 q.2 ∧ Okq 160 60 q) → Q (.ref D) H'
def spWeightL (K : PySem.W.Frag) : Sp := fun vs H Q _ => ∃ (l : Addr) (rs : List V) (ps : List (Int × Int)), vs = [.ref l] ∧ SqL K H l rs ∧ Parts K H rs ps ∧ (∀ q ∈ ps, Okp 200 q) ∧ ps.length ≤ 7 ∧ ∀ H' i, Same H H' → 1 ≤ i → Bt 1990 i → Q (.int i) H'
def spDueL (K : PySem.W.Frag) : Sp := fun vs H Q _ => ∃ (wt : Int) (l : Addr) (rs : List V) (ps : List (Int × Int)), vs = [.int wt, .ref l] ∧ Bt 2000 wt ∧ SqL K H l rs ∧ Parts K H rs ps ∧ (∀ q ∈ ps, Okp 250 q) ∧ ps.length ≤ 7 ∧
  ∀ H' b, Same H H' → (∀ c, 0 < c → (∀ q ∈ ps, 0 < q.2 ∧ q.2 ∣ c) → (b = true ↔ WithinC c wt ps)) → Q (.bl b) H'
def spTurnedL (K : PySem.W.Frag) : Sp := fun vs H Q _ => ∃ (p l : Addr) (rs : List V) (ps : List (Int × Int)), vs = [.ref p, .ref l] ∧ PotAt H p ∧ p ≠ l ∧ SqL K H l rs ∧ Parts K H rs ps ∧ ps.length ≤ 7 ∧
  ∀ H' t rs' ps', SameX p H H' → PotAt H' p → SqT K H' t rs' → Parts K H' rs' ps' → ps'.Perm ps → Q (.ref t) H'
/-- what a set of places comes to is within the most, both sides -/
def okSet (wt : Int) (ps : List (Int × Int)) (s : List Nat) : Bool :=
  !decide ((lo (wt * (s.length : Nat) * ((ps.length : Int) - (s.length : Nat))) 2).1 * ((s.map (gp ps)).foldl pl (0, 1)).2 < ((s.map (gp ps)).foldl pl (0, 1)).1 * (lo (wt * (s.length : Nat) * ((ps.length : Int) - (s.length : Nat))) 2).2) &&
  !decide (((s.map (gp ps)).foldl pl (0, 1)).1 * (lo (wt * (s.length : Nat) * ((ps.length : Int) - (s.length : Nat))) 2).2 < (0 - (lo (wt * (s.length : Nat) * ((ps.length : Int) - (s.length : Nat))) 2).1) * ((s.map (gp ps)).foldl pl (0, 1)).2)
theorem okSet_iff {wt c : Int} {ps : List (Int × Int)} {s : List Nat} (hs : s ∈ setsL ps.length) (hc : 0 < c) (hp : ∀ q ∈ ps, 0 < q.2 ∧ q.2 ∣ c) :
    okSet wt ps s = true ↔ (s.map (gd (ps.map (overC c)))).sum ≤ Mo c wt ps.length s.length ∧ 2 * -((s.map (gd (ps.map (overC c)))).sum) ≤ wt * (s.length : Nat) * ((ps.length : Int) - (s.length : Nat)) * c := by
  unfold okSet
  rw [sum_places hc hp fun i hi => (setsL_lt hs).1 i hi]
  generalize hS : (s.map (gd (ps.map (overC c)))).sum = S
  generalize hA : wt * (s.length : Nat) * ((ps.length : Int) - (s.length : Nat)) = A
  have h1 := lo_less (a := A) (b := 2) (c := S) (d := c) (by decide) hc
  have h2 := lo_less (a := S) (b := c) (c := 0 - A) (d := 2) hc (by decide)
  rw [lo_neg] at h2
  rw [Bool.and_eq_true, Bool.not_eq_true', Bool.not_eq_true', decide_eq_false_iff_not, decide_eq_false_iff_not, h1]
  have h2' : ((lo S c).1 * (lo A 2).2 < (0 - (lo A 2).1) * (lo S c).2) ↔ S * 2 < (0 - A) * c := h2
  rw [h2']
  unfold Mo
  rw [hA]
  have e : (0 - A) * c = -(A * c) := by grind
  rw [e]
  generalize A * c = B
  omega
theorem due_iff {wt c : Int} {ps : List (Int × Int)} (hc : 0 < c) (hp : ∀ q ∈ ps, 0 < q.2 ∧ q.2 ∣ c) (hz : (ps.map (overC c)).sum = 0) : (∀ s ∈ setsL ps.length, okSet wt ps s = true) ↔ WithinC c wt ps := by
  have len : (ps.map (overC c)).length = ps.length := List.length_map _
  constructor
  · intro h
    refine ⟨hz, fair_sets.mp fun s hs => ?_⟩
    rw [len] at hs
    exact ((okSet_iff hs hc hp).mp (h s hs)).1
  · intro h s hs
    rw [okSet_iff hs hc hp]
    refine ⟨?_, ?_⟩
    · exact fair_sets.mpr h.2 s (by rw [len]; exact hs)
    · have l := fair_low h.2 h.1 (fun k hk => ?_) (s := s) (by rw [len]; exact hs)
      · unfold Mo at l
        generalize wt * (s.length : Nat) * ((ps.length : Int) - (s.length : Nat)) * c = B at *
        omega
      · rw [len] at hk ⊢
        unfold Mo
        have e : ((ps.length - k : Nat) : Int) = (ps.length : Int) - k := by omega
        rw [e]
        congr 1
        grind
theorem WithinC.perm {c wt : Int} {ps ps' : List (Int × Int)} (p : ps'.Perm ps) : WithinC c wt ps' ↔ WithinC c wt ps := by
  have q := p.map (overC c)
  unfold WithinC
  rw [perm_sum q, p.length_eq]
  exact and_congr_right fun _ => ⟨fun f => f.perm q, fun f => f.perm q.symm⟩
theorem mem_cutV {xs : List V} {a b : Option Int} {x : V} (h : x ∈ cutV xs a b) : x ∈ xs := List.mem_of_mem_drop (List.mem_of_mem_take h)
theorem cutV_to (xs : List V) (k : Nat) : (cutV xs none (some (k : Int))).length ≤ k := by
  unfold cutV
  rw [HT.sIx_none, HT.sIx_nat, List.length_take]
  omega
theorem Parts.erase {K : PySem.W.Frag} {H : Hp} {rs : List V} {ps : List (Int × Int)} (h : Parts K H rs ps) (k : Nat) : Parts K H (rs.eraseIdx k) (ps.eraseIdx k) := by
  refine ⟨by rw [List.length_eraseIdx, List.length_eraseIdx, h.1], fun i v e => ?_⟩
  rw [List.getElem?_eraseIdx] at e ⊢
  split at e
  · rename_i c
    rw [if_pos c]
    exact h.2 i v e
  · rename_i c
    rw [if_neg c]
    exact h.2 _ v e
theorem erase_perm {α : Type} : ∀ (l : List α) (k : Nat) (x : α), l[k]? = some x → (x :: l.eraseIdx k).Perm l
  | [], k, x, h => by simp at h
  | a :: l, 0, x, h => by
    obtain rfl : a = x := by simpa using h
    exact .refl _
  | a :: l, k + 1, x, h => by
    have h := erase_perm l k x (by simpa using h)
    exact (List.Perm.swap a x _).trans (h.cons a)
theorem Parts.rev {K : PySem.W.Frag} {H : Hp} {rs : List V} {ps : List (Int × Int)} (h : Parts K H rs ps) : Parts K H rs.reverse ps.reverse := by
  refine ⟨by simp [h.1], fun i v e => ?_⟩
  have hi : i < rs.length := by
    have := (List.getElem?_eq_some_iff.mp e).1
    simpa using this
  rw [List.getElem?_reverse hi] at e
  rw [List.getElem?_reverse (by rw [← h.1]; exact hi), ← h.1]
  exact h.2 _ v e
def spOneT (P : Addr) : Sp := fun vs H Q _ => ∃ p, vs = [.ref p] ∧ PotAt H p ∧ LamX.TabS H P qLam ∧ ∀ H', (∀ b o, b ≠ p → H b = some o → (∀ ps, o ≠ .tbl ps) → H' b = some o) → LamX.TabS H' P qLam → Q (.bl true) H'
theorem seq_keepN {K : PySem.W.Frag} {H H' : Hp} {a : Addr} {xs : List V} (h : SqL K H a xs) (s : ∀ o, H a = some o → (∀ ps, o ≠ .tbl ps) → H' a = some o) : SqL K H' a xs := by
  rcases h with (h | ⟨o, h⟩) | h
  · exact .inl (.inl (s _ h (fun _ z => by cases z)))
  · exact .inl (.inr ⟨o, s _ h (fun _ z => by cases z)⟩)
  · exact .inr h
end WS
set_option Elab.async false
set_option linter.all false
set_option maxRecDepth 100000
set_option maxHeartbeats 4000000
namespace WS
open PySem PySem.Spec PyProof.Rows L2
/-! ### reprs of rows; the best of the sets; sorted places -/
theorem parts_show {n : Nat} (hn : 0 < n) (h19 : n ≤ 1900) : ∀ (qs : List (Int × Int)), (∀ q ∈ qs, Bt n q.1 ∧ Bt n q.2) → PyData.showableAll (qs.map pdP) = true ∧ PyData.hasDictAll (qs.map pdP) = false ∧ piled (PyData.shownAll (qs.map pdP)) ≤ qs.length * (2 * n + 10)
  | [], _ => ⟨by simp [PyData.showableAll], by simp [PyData.hasDictAll], by simp [PyData.shownAll, piled]⟩
  | q :: qs, h => by
    obtain ⟨a, b, c⟩ := parts_show hn h19 qs fun r hr => h r (List.mem_cons_of_mem _ hr)
    obtain ⟨h1, h2⟩ := h q List.mem_cons_self
    refine ⟨?_, ?_, ?_⟩
    · show ((pdP q).showable && PyData.showableAll (qs.map pdP)) = true
      rw [a, show (pdP q).showable = true from pd_show (h1.mono h19) (h2.mono h19)]
      rfl
    · show ((pdP q).hasDict || PyData.hasDictAll (qs.map pdP)) = false
      rw [b]
      rfl
    · show piled ((pdP q).shown :: PyData.shownAll (qs.map pdP)) ≤ _
      rw [piled_cons, List.length_cons, Nat.succ_mul]
      have := pd_len hn h1 h2
      show (pd q.1 q.2).shown.length + 2 + _ ≤ _
      omega
theorem lst_show {n : Nat} (hn : 0 < n) (h19 : n ≤ 1900) {qs : List (Int × Int)} (h : ∀ q ∈ qs, Bt n q.1 ∧ Bt n q.2) (hl : qs.length ≤ 100) :
    (PyData.list (qs.map pdP)).showable = true ∧ (PyData.list (qs.map pdP)).hasDict = false ∧ (PyData.list (qs.map pdP)).depth ≤ 60 ∧ (PyData.list (qs.map pdP)).shown.length ≤ sizeLine := by
  obtain ⟨a, b, c⟩ := parts_show hn h19 qs h
  refine ⟨a, b, ?_, ?_⟩
  · have := (lay_parts qs).2
    rw [show (PyData.list (qs.map pdP)).depth = PyData.depthAll (qs.map pdP) + 1 from by simp only [PyData.depth]]
    omega
  · have e := shown_lst_len (qs.map pdP)
    rw [sizeLine_eq]
    have : qs.length * (2 * n + 10) ≤ 100 * 3810 := Nat.mul_le_mul hl (by omega)
    omega
theorem tup_show {n : Nat} (hn : 0 < n) (h19 : n ≤ 1900) {qs : List (Int × Int)} (h : ∀ q ∈ qs, Bt n q.1 ∧ Bt n q.2) (hl : qs.length ≤ 100) :
    (PyData.tuple (qs.map pdP)).showable = true ∧ (PyData.tuple (qs.map pdP)).hasDict = false ∧ (PyData.tuple (qs.map pdP)).depth ≤ 60 ∧ (PyData.tuple (qs.map pdP)).shown.length ≤ sizeLine := by
  obtain ⟨a, b, c⟩ := parts_show hn h19 qs h
  refine ⟨a, b, ?_, ?_⟩
  · have := (lay_parts qs).2
    rw [show (PyData.tuple (qs.map pdP)).depth = PyData.depthAll (qs.map pdP) + 1 from by simp only [PyData.depth]]
    omega
  · have e := shown_tup_len (qs.map pdP)
    rw [sizeLine_eq]
    have : qs.length * (2 * n + 10) ≤ 100 * 3810 := Nat.mul_le_mul hl (by omega)
    omega
theorem sumK_okq {ps : List (Int × Int)} {ord : List Nat} (h : RankedP ps ord) (hk : ∀ q ∈ ps, Okq 97 6 q) (hn : ps.length ≤ 7) (k : Nat) : Okq 147 43 (sumK ps ord k) := by
  have o := fold_okq ((ord.take k).map (gp ps)) 0 (0, 1) ⟨by decide, by unfold Bt; decide +kernel, by unfold Bt; decide +kernel⟩ (fun z hz => by
    obtain ⟨i, hi, rfl⟩ := List.mem_map.mp hz
    exact hk _ (gp_mem (h.lt.2 i (List.mem_of_mem_take hi))))
  have h1 : min k ord.length ≤ 7 := by rw [h.lt.1]; omega
  rw [List.length_map, List.length_take] at o
  exact o.mono (by omega) (by omega)
theorem sumsP_at {ps : List (Int × Int)} {ord : List Nat} {k : Nat} (h : k ≤ ps.length) : (sumsP ps ord)[k]? = some (sumK ps ord k) := by
  unfold sumsP
  rw [List.getElem?_map, List.getElem?_range (by omega)]
  rfl
theorem sumsP_len (ps : List (Int × Int)) (ord : List Nat) : (sumsP ps ord).length = ps.length + 1 := by
  unfold sumsP
  rw [List.length_map, List.length_range]
theorem sumsP_mem {ps : List (Int × Int)} {ord : List Nat} {q : Int × Int} (h : q ∈ sumsP ps ord) : ∃ k, q = sumK ps ord k := by
  obtain ⟨k, _, rfl⟩ := List.mem_map.mp h
  exact ⟨k, rfl⟩
/-- a set that comes to the k greatest; no set of as many comes to more -/
theorem tops_set {xs : List Int} {ord : List Nat} (h : Ranked xs ord) {k : Nat} (hk : k ≤ xs.length) : ∃ s ∈ setsL xs.length, s.length = k ∧ (s.map (gd xs)).sum = tops xs ord k := by
  obtain ⟨p, d⟩ := ranked_zs h
  have len : ord.length = xs.length := by rw [h.1.length_eq, List.length_range]
  obtain ⟨ys, h1, h2⟩ := List.exists_perm_sublist (List.take_sublist k (ord.map (gd xs))) p
  obtain ⟨_, b⟩ := sets_sub xs xs.length (Nat.le_refl _)
  rw [List.take_length] at b
  obtain ⟨s, hs, e⟩ := b ys h2
  refine ⟨s, hs, ?_, ?_⟩
  · have : (s.map (gd xs)).length = k := by rw [e, h1.length_eq, List.length_take, List.length_map, len, Nat.min_eq_left hk]
    rwa [List.length_map] at this
  · rw [e, perm_sum h1]
    unfold tops
    rw [List.map_take]
theorem set_le_tops {xs : List Int} {ord : List Nat} (h : Ranked xs ord) {s : List Nat} (hs : s ∈ setsL xs.length) : (s.map (gd xs)).sum ≤ tops xs ord s.length := by
  obtain ⟨p, d⟩ := ranked_zs h
  obtain ⟨a, _⟩ := sets_sub xs xs.length (Nat.le_refl _)
  rw [List.take_length] at a
  obtain ⟨ys, h1, h2⟩ := List.exists_perm_sublist (a s hs) p.symm
  have h3 := sub_le_take d h2
  rw [h1.length_eq, List.length_map, perm_sum h1] at h3
  unfold tops
  rw [List.map_take]
  exact h3
def setSum (ps : List (Int × Int)) (s : List Nat) : Int × Int := (s.map (gp ps)).foldl pl (0, 1)
def valC (ps : List (Int × Int)) (s : List Nat) : Int := (s.map (gd (ps.map (overC (cmul ps))))).sum
theorem setSum_val {ps : List (Int × Int)} {s : List Nat} (hp : ∀ q ∈ ps, 0 < q.2) (hs : s ∈ setsL ps.length) : setSum ps s = lo (valC ps s) (cmul ps) := by
  obtain ⟨c0, cd⟩ := cmul_ok ps hp
  exact sum_places c0 cd fun i hi => (setsL_lt hs).1 i hi
theorem less_val {ps : List (Int × Int)} {s t : List Nat} (hp : ∀ q ∈ ps, 0 < q.2) (hs : s ∈ setsL ps.length) (ht : t ∈ setsL ps.length) : (setSum ps s).1 * (setSum ps t).2 < (setSum ps t).1 * (setSum ps s).2 ↔ valC ps s < valC ps t := by
  obtain ⟨c0, cd⟩ := cmul_ok ps hp
  rw [setSum_val hp hs, setSum_val hp ht, lo_less c0 c0]
  exact ⟨fun h => Int.lt_of_mul_lt_mul_right h (Int.le_of_lt c0), fun h => Int.mul_lt_mul_of_pos_right h c0⟩
/-- v is the best of the sets of k places among ss -/
def BestOf (K : PySem.W.Frag) (H : Hp) (ps : List (Int × Int)) (ss : List (List Nat)) (k : Nat) (v : V) : Prop :=
  (v = .non ∧ ∀ s ∈ ss, s.length ≠ k) ∨ ∃ s ∈ ss, s.length = k ∧ TupI K H v (setSum ps s).1 (setSum ps s).2 ∧ ∀ s' ∈ ss, s'.length = k → valC ps s' ≤ valC ps s
theorem BestOf.k {K : PySem.W.Frag} {H H' : Hp} {ps : List (Int × Int)} {ss : List (List Nat)} {k : Nat} {v : V} (h : BestOf K H ps ss k v) (s : KT H H') : BestOf K H' ps ss k v := by
  rcases h with h | ⟨t, a, b, c, d⟩
  · exact .inl h
  · exact .inr ⟨t, a, b, c.k s, d⟩
theorem BestOf.other {K : PySem.W.Frag} {H : Hp} {ps : List (Int × Int)} {ss : List (List Nat)} {st : List Nat} {k : Nat} {v : V} (h : BestOf K H ps ss k v) (n : st.length ≠ k) : BestOf K H ps (ss ++ [st]) k v := by
  rcases h with ⟨h1, h2⟩ | ⟨t, a, b, c, d⟩
  · refine .inl ⟨h1, fun s hs => ?_⟩
    rcases List.mem_append.mp hs with hs | hs
    · exact h2 s hs
    · rw [List.mem_singleton.mp hs]; exact n
  · refine .inr ⟨t, List.mem_append_left _ a, b, c, fun s hs l => ?_⟩
    rcases List.mem_append.mp hs with hs | hs
    · exact d s hs l
    · rw [List.mem_singleton.mp hs] at l; exact absurd l n
theorem BestOf.stay {K : PySem.W.Frag} {H : Hp} {ps : List (Int × Int)} {ss : List (List Nat)} {st s0 : List Nat} {k : Nat} {v : V} (m : s0 ∈ ss) (l0 : s0.length = k) (t : TupI K H v (setSum ps s0).1 (setSum ps s0).2) (mx : ∀ s' ∈ ss, s'.length = k → valC ps s' ≤ valC ps s0) (n : ¬ valC ps s0 < valC ps st) : BestOf K H ps (ss ++ [st]) k v := by
  refine .inr ⟨s0, List.mem_append_left _ m, l0, t, fun s hs l => ?_⟩
  rcases List.mem_append.mp hs with hs | hs
  · exact mx s hs l
  · rw [List.mem_singleton.mp hs]; omega
theorem BestOf.put {K : PySem.W.Frag} {H : Hp} {ps : List (Int × Int)} {ss : List (List Nat)} {st : List Nat} {k : Nat} {t : V} (l : st.length = k) (tt : TupI K H t (setSum ps st).1 (setSum ps st).2) (mx : ∀ s' ∈ ss, s'.length = k → valC ps s' ≤ valC ps st) : BestOf K H ps (ss ++ [st]) k t := by
  refine .inr ⟨st, List.mem_append_right _ (List.mem_singleton.mpr rfl), l, tt, fun s hs l => ?_⟩
  rcases List.mem_append.mp hs with hs | hs
  · exact mx s hs l
  · rw [List.mem_singleton.mp hs]; exact Int.le_refl _
theorem best_is {K : PySem.W.Frag} {H : Hp} {ps : List (Int × Int)} {k : Nat} {v : V} {ord : List Nat} (hp : ∀ q ∈ ps, 0 < q.2) (rk : RankedP ps ord) (hk : k ≤ ps.length) (h : BestOf K H ps (setsL ps.length) k v) : TupI K H v (sumK ps ord k).1 (sumK ps ord k).2 := by
  obtain ⟨c0, cd⟩ := cmul_ok ps hp
  have rk' := (ranked_c c0 cd).mpr rk
  have len : (ps.map (overC (cmul ps))).length = ps.length := List.length_map _
  obtain ⟨s0, m0, l0, e0⟩ := tops_set rk' (k := k) (by rw [len]; exact hk)
  rw [len] at m0
  rcases h with ⟨_, h⟩ | ⟨s, ms, ls, t, mx⟩
  · exact absurd l0 (h s0 m0)
  · have h1 := mx s0 m0 l0
    have h2 := set_le_tops rk' (s := s) (by rw [len]; exact ms)
    rw [ls] at h2
    have e0 : valC ps s0 = tops (ps.map (overC (cmul ps))) ord k := e0
    have h2 : valC ps s ≤ tops (ps.map (overC (cmul ps))) ord k := h2
    rw [sumK_over rk c0 cd k]
    rw [setSum_val hp ms] at t
    have : valC ps s = tops (ps.map (overC (cmul ps))) ord k := by omega
    rw [← this]
    exact t
theorem sorted_range_eq {ns : List Int} {n : Nat} (p : ns.Perm ((List.range n).map fun j : Nat => (j : Int))) (s : ns.Pairwise (· ≤ ·)) : ns = (List.range n).map fun j : Nat => (j : Int) := by
  refine List.Perm.eq_of_pairwise (le := fun a b => decide (a ≤ b)) (fun a b _ _ h1 h2 => ?_) (s.imp fun h => by simpa using h) ?_ p
  · simp at h1 h2
    omega
  · refine List.pairwise_map.mpr (List.pairwise_lt_range.imp fun h => ?_)
    simp
    omega
def spRow17 (K : PySem.W.Frag) : Sp := fun vs H Q _ => ∃ p : Addr, vs = [.ref p] ∧ PotAt H p ∧ ∀ H' t rs ps, SameX p H H' → PotAt H' p → SqT K H' t rs → Parts K H' rs ps → ps.length ≤ 7 → (∀ q ∈ ps, Lowest q.1 q.2 ∧ Okq 97 6 q) → Q (.ref t) H'
def spDue17 (K : PySem.W.Frag) : Sp := fun vs H Q _ => ∃ (l : Addr) (rs : List V) (ps : List (Int × Int)), vs = [.ref l] ∧ SqT K H l rs ∧ Parts K H rs ps ∧ (∀ q ∈ ps, Okq 97 6 q) ∧ ps.length ≤ 7 ∧
  ∀ H' D bs, Same H H' → H D = none → H' D = some (.lst bs) → (∀ ord, RankedP ps ord → Parts K H' bs (sumsP ps ord)) → Q (.ref D) H'
def spOrd (K : PySem.W.Frag) : Sp := fun vs H Q _ => ∃ (l o : Addr) (rs : List V) (ps : List (Int × Int)) (ord : List Nat), vs = [.ref l, .ref o] ∧ SqT K H l rs ∧ Parts K H rs ps ∧ (∀ q ∈ ps, Okp 4400 q) ∧ ps.length ≤ 1000 ∧ H o = some (.lst (ord.map fun j : Nat => V.int j)) ∧ RankedP ps ord ∧ ∀ H', Same H H' → Q (.bl true) H'
def spWeight17 (K : PySem.W.Frag) : Sp := fun vs H Q _ => ∃ (p D : Addr) (bs : List V) (qs : List (Int × Int)), vs = [.ref p, .ref D] ∧ PotAt H p ∧ D ≠ p ∧ H D = some (.lst bs) ∧ Parts K H bs qs ∧ (∀ q ∈ qs, Okq 147 43 q) ∧ 1 ≤ qs.length ∧ qs.length ≤ 8 ∧ ∀ H' i, SameX p H H' → PotAt H' p → Bt 2000 i → Q (.int i) H'
theorem eqvall_refl_ints : ∀ ns : List Int, PyData.eqvAll (ns.map PyData.int) (ns.map PyData.int) = true
  | [] => by simp [PyData.eqvAll]
  | n :: ns => by
    have := eqvall_refl_ints ns
    simp [PyData.eqvAll, PyData.eqv, this]
theorem eqv_refl_ints (ns : List Int) : PyData.eqv (.list (ns.map PyData.int)) (.list (ns.map PyData.int)) = true := by
  rw [show PyData.eqv (.list (ns.map PyData.int)) (.list (ns.map PyData.int)) = PyData.eqvAll (ns.map PyData.int) (ns.map PyData.int) from by simp only [PyData.eqv]]
  exact eqvall_refl_ints ns
theorem cutV_one (xs : List V) : cutV xs (some 1) none = xs.drop 1 := by
  unfold cutV
  have e : HT.sIx xs.length 0 (some ((1 : Nat) : Int)) = min 1 xs.length := HT.sIx_nat _ _ _
  have e : HT.sIx xs.length 0 (some 1) = min 1 xs.length := e
  rw [e, HT.sIx_none]
  cases xs with
  | nil => simp
  | cons x xs => simp
theorem pair_at {α : Type} {R : α → α → Prop} : ∀ {l : List α} {i j : Nat} {a b : α}, l.Pairwise R → l[i]? = some a → l[j]? = some b → i < j → R a b := by
  intro l i j a b p ha hb hij
  obtain ⟨h1, rfl⟩ := List.getElem?_eq_some_iff.mp ha
  obtain ⟨h2, rfl⟩ := List.getElem?_eq_some_iff.mp hb
  exact (List.pairwise_iff_getElem.mp p) i j h1 h2 hij
theorem rankedP_one {ps : List (Int × Int)} {a b : List Nat} (ha : RankedP ps a) (hb : RankedP ps b) : a = b := by
  refine List.Perm.eq_of_pairwise (fun i j _ _ h1 h2 => ?_) ha.2 hb.2 (ha.1.trans hb.1.symm)
  omega
theorem cutV_take (xs : List V) (k : Nat) : cutV xs none (some (k : Int)) = xs.take k := by
  unfold cutV
  rw [HT.sIx_none, HT.sIx_nat, List.drop_zero, Nat.sub_zero]
  rcases Nat.le_total k xs.length with h | h
  · rw [Nat.min_eq_left h]
  · rw [Nat.min_eq_right h, List.take_length, List.take_of_length_le h]
theorem int_show {i : Int} (h : Bt 100 i) : (PyData.int i).showable = true ∧ (PyData.int i).hasDict = false ∧ (PyData.int i).depth ≤ 60 ∧ (PyData.int i).shown.length ≤ sizeLine :=
  ⟨bt_show (h.mono (by decide)), rfl, by simp [PyData.depth], by have := shown_int_len (n := 100) (by decide) h; rw [sizeLine_eq]; omega⟩
theorem none_show : (PyData.none).showable = true ∧ (PyData.none).hasDict = false ∧ (PyData.none).depth ≤ 60 ∧ (PyData.none).shown.length ≤ sizeLine := ⟨rfl, rfl, by simp [PyData.depth], by rw [sizeLine_eq]; decide⟩
/-- what stands in H but p and the tables stands in H' -/
def ExtX (p : Addr) (H H' : Hp) : Prop := ∀ b o, b ≠ p → H b = some o → (∀ ps, o ≠ .tbl ps) → H' b = some o
theorem ExtX.trans {p : Addr} {H H1 H2 : Hp} (a : ExtX p H H1) (b : ExtX p H1 H2) : ExtX p H H2 := fun c o n h t => b c o n (a c o n h t) t
theorem ExtX.x {p : Addr} {H H1 : Hp} (s : SameX p H H1) : ExtX p H H1 := fun c o n h _ => s c o n h
theorem ExtX.n {p : Addr} {H H1 : Hp} (s : LamX.ExtN H H1) : ExtX p H H1 := fun c o _ h t => s c o h t
theorem ExtX.s {p : Addr} {H H1 : Hp} (s : Same H H1) : ExtX p H H1 := fun c o _ h _ => s c o h
theorem ExtX.w {p Z : Addr} {H H1 H2 : Hp} {o' : HO} (a : ExtX p H H1) (b : ExtX p H1 H2) (n : New H1 Z) : ExtX p H (upd H2 Z o') := fun c o nc h t => by
  have h1 := a c o nc h t
  rw [upd_ne (n.ne h1 t)]
  exact b c o nc h1 t
def rLenK (K : PySem.W.Frag) : List V → Hp → VK → Prop := fun xs H Q => ∃ p ys, xs = [.ref p] ∧ (SqL K H p ys ∨ SqT K H p ys) ∧ Q (.int ys.length) H
end WS
set_option Elab.async false
set_option linter.all false
set_option maxRecDepth 100000
set_option maxHeartbeats 4000000
namespace WS
open PySem PySem.Spec PyProof.Rows L2
/-! ### t[::-1] of a tuple -/
section
variable {prog : Program} {w : World} {A : Around} {E : Value → Shared → Prop} {s : Shared}
open HT in
theorem sliceApplied_rev {sl : Addr} {vl vu vs : Value} {n : Nat} {Q : Int × Int × Nat → Shared → Prop} (hs : s.heap.IsSliceOf sl vl vu vs) (pl : IsPart vl none) (pu : IsPart vu none) (ps : IsPart vs (some (-1)))
    (h : Q ((n : Int) - 1, -1, n) s) : wpAny (model prog w) A (Builtin.Slice.sliceApplied (.ref sl) (pure (n : Int))) Q E s := by
  obtain ⟨os, hos, hcs, hds⟩ := id hs
  unfold Builtin.Slice.sliceApplied Builtin.Slice.sliceFields
  refine wpAny_bind (wpAny_bind (wpAny_field hos hds (x := vl) rfl (wpAny_bind (wpAny_field hos hds (x := vu) rfl (wpAny_bind (wpAny_field hos hds (x := vs) rfl (wpAny_pure ?_)))))))
  refine wpAny_bind (slicePart_ ps ?_)
  show wpAny _ _ (if ((-1 : Int) == 0) = true then _ else _) _ _ s
  rw [if_neg (by decide)]
  refine wpAny_bind (slicePart_ pl (wpAny_bind (slicePart_ pu (wpAny_bind (wpAny_pure ?_)))))
  show wpAny _ _ (match Builtin.Slice.sliceAdjust none none (-1) (n : Int) with | (lo, hi) => pure (lo, (-1 : Int), Builtin.Slice.slicePlaces lo hi (-1))) _ _ s
  have e1 : Builtin.Slice.sliceAdjust none none (-1) (n : Int) = ((n : Int) - 1, -1) := rfl
  rw [e1]
  show wpAny _ _ (pure ((n : Int) - 1, (-1 : Int), Builtin.Slice.slicePlaces ((n : Int) - 1) (-1) (-1))) _ _ s
  have e2 : Builtin.Slice.slicePlaces ((n : Int) - 1) (-1) (-1) = n := by
    unfold Builtin.Slice.slicePlaces
    rw [if_neg (by decide)]
    simp only [Int.neg_neg, Int.ediv_one]
    split <;> omega
  rw [e2]
  exact wpAny_pure h
theorem fm_congr {α β : Type} {f g : α → Option β} : ∀ {l : List α}, (∀ x ∈ l, f x = g x) → l.filterMap f = l.filterMap g
  | [], _ => rfl
  | x :: l, h => by rw [List.filterMap_cons, List.filterMap_cons, h x List.mem_cons_self, fm_congr fun y hy => h y (List.mem_cons_of_mem _ hy)]
theorem pick_rev (xs : Array Value) : ((List.range xs.size).filterMap fun (k : Nat) => xs[((xs.size : Int) - 1 + (k : Int) * -1).toNat]?).toArray = xs.toList.reverse.toArray := by
  congr 1
  have h : ∀ (n : Nat) (l : List Value), l.length = n → (List.range n).filterMap (fun (k : Nat) => l[((n : Int) - 1 + (k : Int) * -1).toNat]?) = l.reverse := by
    intro n l hl
    have e : (List.range n).filterMap (fun (k : Nat) => l[((n : Int) - 1 + (k : Int) * -1).toNat]?) = (List.range n).filterMap (fun k => l.reverse[k]?) := by
      refine fm_congr fun k hk => ?_
      have hk := List.mem_range.mp hk
      rw [List.getElem?_reverse (by omega)]
      congr 1
      omega
    rw [e]
    have : ∀ (m : List Value), (List.range m.length).filterMap (fun k => m[k]?) = m := by
      intro m
      induction m with
      | nil => rfl
      | cons x m ih =>
        rw [List.length_cons, List.range_succ_eq_map, List.filterMap_cons]
        simp only [List.getElem?_cons_zero, List.filterMap_map]
        congr 1
    have := this l.reverse
    rwa [List.length_reverse, hl] at this
  have := h xs.size xs.toList (by simp)
  simpa using this
open HT in
theorem getItem_tuple_rev {t sl : Addr} {items : Array Value} {vl vu vs : Value} {Q : Value → Shared → Prop} (ht : IsTup s.heap t items) (hs : s.heap.IsSliceOf sl vl vu vs) (pl : IsPart vl none) (pu : IsPart vu none) (ps : IsPart vs (some (-1)))
    (h : Q (.ref s.heap.objs.size) { s with heap := s.heap.push { cls := .type "tuple", data := .seq items.toList.reverse.toArray } })
    (hsz : items.size ≤ sizeLine) : wpAny (model prog w) A (getItem (.ref t) (.ref sl)) Q E s := by
  have htake : sizeOk (.seq items.toList.reverse.toArray) := by
    show items.toList.reverse.toArray.size ≤ sizeLine
    rw [List.size_toArray, List.length_reverse, Array.length_toList]
    exact hsz
  obtain ⟨os, hos, hcs, hds⟩ := id hs
  have hTs : s.TypeIs (.ref sl) "slice" := ⟨os, hos, hcs⟩
  unfold getItem
  try with_reducible refine wpAny_holding ?_
  first | refine wpAny_bind (wpAny_pure ?_) | skip
  refine wpAny_bind (wpAny_sequenceKey ht.typeIs (by decide) ?_)
  refine wpAny_bind (wpAny_callSpecial?_slot (name := Str.ofString "__getitem__") ht.typeIs PyProof.Rows.slot_tuple_getitem
    (wpAny_call_entry PyProof.Rows.slot_tuple_getitem ht.typeIs entry_tuple_getitem ?_ (args_tuple_getitem _ _)))
  show wpAny _ _ (Builtin.Tuple.tupleItemsOf (.ref t) >>= _) _ _ s
  refine wpAny_bind (tupleItemsOf_ ht ?_)
  refine wpAny_bind (wpAny_typeOf hTs ?_)
  rw [if_pos (by decide)]
  refine wpAny_bind (sliceApplied_rev hs pl pu ps ?_)
  have hno : ¬ (((items.size : Int) - 1 == 0 && (-1 : Int) == 1 && items.size == items.size) = true) := by
    rw [show ((-1 : Int) == 1) = false from rfl, Bool.and_false, Bool.false_and]
    exact Bool.false_ne_true
  show wpAny _ _ (if ((items.size : Int) - 1 == 0 && (-1 : Int) == 1 && items.size == items.size) = true then _ else _) _ _ s
  rw [if_neg hno, pick_rev]
  first
    | exact wpAny_bind (m := Builtin.Tuple.tupleExact _) (wpAny_newObj_type (wpAny_pure ⟨_, rfl, wpAny_pure h⟩) htake)
    | exact wpAny_bind (m := Builtin.Tuple.tupleExact _) (wpAny_newObj_type (wpAny_bind (wpAny_pure (wpAny_pure ⟨_, rfl, wpAny_pure h⟩))) htake)
end
def tRevT (K : PySem.W.Frag) (te : TE) : TE := fun σ H Q => te σ H fun x H1 => ∃ a xs, x = .ref a ∧ SqT K H1 a xs ∧ ∀ p, H1 p = none → Q (.ref p) (upd H1 p (.tup xs.reverse))
theorem pe_revT {X : Cx} {e : Expr} {te : TE} {k : Nat} {p1 p2 p3 pos : Pos} (he : PE X e te) : PE X (.Subscript e (.Slice none none (some (.UnaryOp .USub (.Constant (.int 1) k p1) p2)) p3) pos) (tRevT X.K te) := by
  refine ⟨fun pins s σ H Q I h => ?_⟩
  refine Subscript_ (thn (he.run pins s σ H _ I h) fun v s1 ⟨x, H1, I1, r1, q1⟩ => ?_)
  obtain ⟨a, xs, ex, hx, q⟩ := q1
  subst ex
  cases r1
  have hst : PO X (some (.UnaryOp .USub (.Constant (.int 1) k p1) p2)) (tPart (tUn (rU fun i => .int (-i)) (tC (.int 1)))) := po_some (pe_un un_neg pe_int)
  refine wpAny_Slice (thn (po_none.run pins s1 σ H1 (fun o H2 => o = none ∧ H2 = H1) I1 ⟨rfl, rfl⟩) fun vl s2 ⟨l, H2, I2, pl, el, e2⟩ => ?_)
  subst el e2
  refine thn (po_none.run pins s2 σ H2 (fun o H3 => o = none ∧ H3 = H2) I2 ⟨rfl, rfl⟩) fun vu s3 ⟨u, H3, I3, pu, eu, e3⟩ => ?_
  subst eu e3
  refine thn (hst.run pins s3 σ H3 (fun o H4 => o = some (-1) ∧ H4 = H3) I3 ⟨1, rfl, -1, rfl, rfl, rfl⟩) fun vs s4 ⟨o, H4, I4, ps, eo, e4⟩ => ?_
  subst eo e4
  have I5 : Inv X pins σ H4 { s4 with heap := s4.heap.push { cls := .type "slice", data := .fields #[vl, vu, vs] } } := I4.kept (t' := s4.toks) fun b ob q => Heap.get?_push_of_some _ q
  obtain ⟨its, r, ht, hz⟩ := I5.tuple hx
  have hlen := r.length
  show wpAny (model X.prog X.w) X.A (subscriptTail e (.Slice none none (some (.UnaryOp .USub (.Constant (.int 1) k p1) p2)) p3) (.ref a) (.ref s4.heap.objs.size)) (EP X pins σ Q) X.xe { s4 with heap := s4.heap.push { cls := .type "slice", data := .fields #[vl, vu, vs] } }
  refine tail_any (ops := [.ref a, .ref s4.heap.objs.size]) ht.typeIs (PyProof.Rows.slot_tuple_getitem.lookup) ?_ (by with_unfolding_all rfl)
  refine getItem_tuple_rev ht (Heap.IsSliceOf.new _ vl vu vs) pl pu ps ?_ (by rw [List.size_toArray]; omega)
  refine ⟨.ref _, _, I5.laid (t' := s4.toks) (o := .tup xs.reverse) (fun b ob q => Heap.get?_push_of_some _ q) (Nat.le_refl _) ?_, rfl, q _ (I5.hok.fresh (Nat.le_refl _))⟩
  refine ⟨by rw [List.length_reverse]; exact hz, its.reverse, r.reverse, ?_⟩
  exact ⟨_, Heap.get?_push_size _ rfl, rfl, _, rfl⟩

/-! ### t[lo:hi] of a tuple, the whole of it or not -/
def rSlB (K : PySem.W.Frag) : V → Option Int → Option Int → Hp → VK → Prop := fun x lo hi H Q => ∃ a xs, x = .ref a ∧ SqT K H a xs ∧ ∀ p H', Same H H' → SqT K H' p (cutV xs lo hi) → Q (.ref p) H'
theorem sl_tupB {X : Cx} : SlR X (rSlB X.K) := by
  intro pins s σ H x v vl vu lo hi sl Q I rx hs pl pu h
  obtain ⟨a, xs, rfl, hx, q⟩ := h
  refine sl_tupA pins s σ H _ v vl vu lo hi sl Q I rx hs pl pu ⟨a, xs, rfl, hx, fun hw => q a H (Same.refl H) ?_, fun _ p np => q p _ (same_new np) (.inl (.inl upd_same))⟩
  unfold cutV
  rw [hw.1, hw.2, List.drop_zero, Nat.sub_zero, List.take_length]
  exact hx
def AllParts (K : PySem.W.Frag) (H : Hp) (rs : List V) : Prop := ∀ v ∈ rs, ∃ a b, TupI K H v a b ∧ Bt 4400 a ∧ Bt 4400 b
def Okl (p : Int × Int) : Prop := Lowest p.1 p.2 ∧ Okp 202 p
def spTold (K : PySem.W.Frag) : Sp := fun vs H Q _ => ∃ (l : Addr) (rs : List V), vs = [.ref l] ∧ SqT K H l rs ∧ AllParts K H rs ∧ Q (.bl true) H
def spNear (K : PySem.W.Frag) : Sp := fun vs H Q _ => ∃ (p : Addr) (v : V) (a b : Int), vs = [.ref p, v] ∧ PotAt H p ∧ TupI K H v a b ∧ Okl (a, b) ∧ ∀ v' a' b' H', TupI K H' v' a' b' → Okl (a', b') → SameX p H H' → PotAt H' p → Q v' H'
def spDrawL (K : PySem.W.Frag) : Sp := fun vs H Q _ => ∃ p : Addr, vs = [.ref p] ∧ PotAt H p ∧ ∀ v' a' b' H', TupI K H' v' a' b' → Okl (a', b') → SameX p H H' → PotAt H' p → Q v' H'
def spParts13 (K : PySem.W.Frag) : Sp := fun vs H Q _ => ∃ p : Addr, vs = [.ref p] ∧ PotAt H p ∧ ∀ H' t rs ps, SameX p H H' → PotAt H' p → SqT K H' t rs → Parts K H' rs ps → ps.length ≤ 60 → (∀ q ∈ ps, Okl q) → Q (.ref t) H'
def spRight (K : PySem.W.Frag) (P : Addr) : Sp := fun vs H Q _ => ∃ (l : Addr) (rs : List V) (ps : List (Int × Int)), vs = [.ref l] ∧ SqT K H l rs ∧ Parts K H rs ps ∧ (∀ q ∈ ps, Okl q) ∧ ps.length ≤ 60 ∧ LamX.TabS H P qLam ∧ ∀ H', LamX.ExtN H H' → LamX.TabS H' P qLam → Q (.bl true) H'
theorem Parts.all {K : PySem.W.Frag} {H : Hp} {rs : List V} {ps : List (Int × Int)} (h : Parts K H rs ps) (hk : ∀ q ∈ ps, Okl q) : AllParts K H rs := fun v hv => by
  obtain ⟨i, hi⟩ := List.getElem?_of_mem hv
  obtain ⟨p, hp, t⟩ := h.2 i v hi
  have := (hk p (List.mem_of_getElem? hp)).2
  exact ⟨_, _, t, this.2.1.mono (by decide), this.2.2.mono (by decide)⟩
def rIsiK (K : PySem.W.Frag) : List V → Hp → VK → Prop := rIsi K
end WS
set_option Elab.async false
set_option linter.all false
set_option maxRecDepth 100000
set_option maxHeartbeats 4000000
namespace WS
open PySem PySem.Spec PyProof.Rows L2
/-! vouchers -/
structure VR where
  w : Int
  a : Int
  b : Int
  l : Int × Int
  m : Int × Int
  c : Int × Int
def VRow (K : PySem.W.Frag) (H : Hp) (v : V) (r : VR) : Prop := ∃ t x y z, v = .ref t ∧ SqT K H t [.int r.w, .int r.a, .int r.b, x, y, z] ∧ TupI K H x r.l.1 r.l.2 ∧ TupI K H y r.m.1 r.m.2 ∧ TupI K H z r.c.1 r.c.2
theorem VRow.k {K : PySem.W.Frag} {H H' : Hp} {v : V} {r : VR} (h : VRow K H v r) (s : KT H H') : VRow K H' v r := by
  obtain ⟨t, x, y, z, e, h0, h1, h2, h3⟩ := h
  exact ⟨t, x, y, z, e, s.sqt h0, h1.k s, h2.k s, h3.k s⟩
def VRows (K : PySem.W.Frag) (H : Hp) (vs : List V) (rs : List VR) : Prop := vs.length = rs.length ∧ ∀ (i : Nat) v, vs[i]? = some v → ∃ r, rs[i]? = some r ∧ VRow K H v r
theorem VRows.k {K : PySem.W.Frag} {H H' : Hp} {vs : List V} {rs : List VR} (h : VRows K H vs rs) (s : KT H H') : VRows K H' vs rs := ⟨h.1, fun i v e => by
  obtain ⟨r, e1, h1⟩ := h.2 i v e
  exact ⟨r, e1, h1.k s⟩⟩
theorem VRows.nil {K : PySem.W.Frag} {H : Hp} : VRows K H [] [] := ⟨rfl, fun i v e => by simp at e⟩
theorem VRows.add {K : PySem.W.Frag} {H : Hp} {v : V} {vs : List V} {r : VR} {rs : List VR} (k : VRows K H vs rs) (h : VRow K H v r) : VRows K H (vs ++ [v]) (rs ++ [r]) := by
  refine ⟨by simp [k.1], fun i x e => ?_⟩
  rw [List.getElem?_append] at e ⊢
  have hl := k.1
  split at e
  · rename_i hi
    obtain ⟨r', e1, h1⟩ := k.2 i x e
    rw [if_pos (by omega)]
    exact ⟨r', e1, h1⟩
  · rename_i hi
    rw [if_neg (by omega)]
    have e0 : i - vs.length = 0 := by
      cases hj : i - vs.length with
      | zero => rfl
      | succ j => rw [hj] at e; simp at e
    rw [e0] at e
    rw [← hl, e0]
    simp only [List.getElem?_cons_zero, Option.some.injEq] at e ⊢
    subst e
    exact ⟨r, rfl, h⟩
def ltp (p q : Int × Int) : Bool := decide (p.1 * q.2 < q.1 * p.2)
def mo (W n k : Int) : Int × Int := lo (W * k * (n - k)) 2
def tm (p : Int × Int) (i : Int) : Int × Int := lo (p.1 * i) p.2
def mi (p q : Int × Int) : Int × Int := lo (p.1 * q.2 - q.1 * p.2) (p.2 * q.2)
def rowB (W n k : Int) (s : Int × Int) (r : VR) : Bool := decide (1 ≤ r.w) && (!ltp (mo W n (k - r.a)) r.l && (!ltp (mo W n (k + r.b)) r.m && (!ltp (tm (mi r.m s) r.a) (tm (mi s r.l) r.b) && !ltp (lo (r.a * r.b) 2) r.c)))
def headB (W n k : Int) (s : Int × Int) : Bool := !ltp (mo W n k) s
def holdB (W n k : Int) (s : Int × Int) (rs : List VR) : Bool := headB W n k s && (rs.all (rowB W n k s) && decide ((rs.map VR.w).sum ≤ W))
def Okv (p : Int × Int) : Prop := Lowest p.1 p.2 ∧ Okq 204 92 p
def Okr (n k : Int) (r : VR) : Prop := 0 ≤ r.a ∧ r.a ≤ k ∧ 0 ≤ r.b ∧ r.b ≤ n - k ∧ Bt 104 r.w ∧ Okv r.l ∧ Okv r.m ∧ Okv r.c
def OkH (W n k : Int) (s : Int × Int) : Prop := 1 ≤ W ∧ Bt 101 W ∧ 0 ≤ k ∧ k ≤ n ∧ n ≤ 12 ∧ Okv s
def spWeightB : Sp := fun vs H Q _ => ∃ i : Int, vs = [.int i] ∧ Q (.bl (decide (i ≥ 1))) H
def spNumTo : Sp := fun vs H Q _ => ∃ i j : Int, vs = [.int i, .int j] ∧ Q (.bl (decide (0 ≤ i) && decide (i ≤ j))) H
def spPartTo (K : PySem.W.Frag) : Sp := fun vs H Q _ => ∃ u v a b c d, vs = [u, v] ∧ TupI K H u a b ∧ TupI K H v c d ∧ Lowest a b ∧ Bt 4400 a ∧ Bt 4400 b ∧ Bt 4400 c ∧ Bt 4400 d ∧ Q (.bl (!ltp (c, d) (a, b))) H
def spRowH (K : PySem.W.Frag) : Sp := fun vs H Q _ => ∃ W h v n k u s r, vs = [.int W, .ref h, v] ∧ SqT K H h [.int n, .int k, u] ∧ TupI K H u s.1 s.2 ∧ VRow K H v r ∧ OkH W n k s ∧ Okr n k r ∧ ∀ H', Same H H' → Q (.bl (rowB W n k s r)) H'
def spRowH2 (K : PySem.W.Frag) : Sp := fun vs H Q _ => ∃ W v n k u s r, vs = [.int W, .int n, .int k, u, v] ∧ TupI K H u s.1 s.2 ∧ VRow K H v r ∧ OkH W n k s ∧ Okr n k r ∧ ∀ H', Same H H' → Q (.bl (rowB W n k s r)) H'
def spHeadH (K : PySem.W.Frag) : Sp := fun vs H Q _ => ∃ W n k u s, vs = [.int W, .int n, .int k, u] ∧ TupI K H u s.1 s.2 ∧ OkH W n k s ∧ ∀ H', Same H H' → Q (.bl (headB W n k s)) H'
def Vch (K : PySem.W.Frag) (H : Hp) (v : V) (n k : Int) (s : Int × Int) (rs : List VR) : Prop := ∃ t u R vs, v = .ref t ∧ SqT K H t [.int n, .int k, u, .ref R] ∧ TupI K H u s.1 s.2 ∧ SqT K H R vs ∧ VRows K H vs rs
theorem Vch.k {K : PySem.W.Frag} {H H' : Hp} {v : V} {n k : Int} {s : Int × Int} {rs : List VR} (h : Vch K H v n k s rs) (e : KT H H') : Vch K H' v n k s rs := by
  obtain ⟨t, u, R, vs, e1, h1, h2, h3, h4⟩ := h
  exact ⟨t, u, R, vs, e1, e.sqt h1, h2.k e, e.sqt h3, h4.k e⟩
def spHolds (K : PySem.W.Frag) : Sp := fun vs H Q _ => ∃ W v n k s rs, vs = [.int W, v] ∧ Vch K H v n k s rs ∧ OkH W n k s ∧ rs.length ≤ 5 ∧ (∀ r ∈ rs, Okr n k r) ∧ ∀ H', Same H H' → Q (.bl (holdB W n k s rs)) H'
def vsum (s : Int × Int) (rs : List VR) : Int × Int := rs.foldl (fun f r => pl f (tm r.c r.w)) s
def spVouched (K : PySem.W.Frag) : Sp := fun vs H Q _ => ∃ v n k s rs, vs = [v] ∧ Vch K H v n k s rs ∧ Okv s ∧ rs.length ≤ 5 ∧ (∀ r ∈ rs, Okr n k r) ∧ NewT K H (vsum s rs).1 (vsum s rs).2 Q
theorem Okv.okp {m : Nat} {p : Int × Int} (h : Okv p) (hm : 204 ≤ m) : Okp m p := h.2.okp hm (by omega)
theorem Okq.tm {n d m : Nat} {p : Int × Int} {i : Int} (h : Okq n d p) (bi : Bt m i) : Okq (n + m) d (tm p i) := ⟨(lo_lowest h.1).1, (h.2.1.mul bi).lo1, h.2.2.lo2⟩
theorem Okq.mi {n d m e : Nat} {p q : Int × Int} (h : Okq n d p) (k : Okq m e q) : Okq (max (n + e) (m + d) + 1) (d + e) (mi p q) := by
  refine ⟨(lo_lowest (Int.mul_pos h.1 k.1)).1, Bt.lo1 ?_, (h.2.2.mul k.2.2).lo2⟩
  exact Bt.sub ((h.2.1.mul k.2.2).mono (Nat.le_max_left _ _)) ((k.2.1.mul h.2.2).mono (Nat.le_max_right _ _))
theorem mo_okq {W n k : Int} (h : Bt 101 W) (h0 : 0 ≤ k) (h1 : k ≤ n) (h2 : n ≤ 12) : Okq 111 2 (mo W n k) := by
  have bk : Bt 4 k := Bt.of_lt (by omega) (by omega)
  have bn : Bt 4 (n - k) := Bt.of_lt (by omega) (by omega)
  exact ⟨(lo_lowest (by decide)).1, (((h.mul bk).mul bn).mono (by decide)).lo1, (show Bt 2 2 by unfold Bt; decide).lo2⟩
theorem mo_low (W n k : Int) : Lowest (mo W n k).1 (mo W n k).2 := lo_lowest (by decide)
theorem vsum_okq {n k : Int} : ∀ (rs : List VR) (j d : Nat) (s : Int × Int), Okq (204 + 105 * (min j 1) + 92 * j + j) (92 + 92 * j) s → (∀ r ∈ rs, Okr n k r) → Okq (204 + 105 * (min (j + rs.length) 1) + 92 * (j + rs.length) + (j + rs.length)) (92 + 92 * (j + rs.length)) (vsum s rs)
  | [], j, d, s, h, _ => h
  | r :: rs, j, d, s, h, hr => by
    have o := (hr r List.mem_cons_self)
    have oc := o.2.2.2.2.2.2.2.2.tm o.2.2.2.2.1
    have h2 : Okq (204 + 105 * (min (j + 1) 1) + 92 * (j + 1) + (j + 1)) (92 + 92 * (j + 1)) (pl s (tm r.c r.w)) := (h.pl oc).mono (by omega) (by omega)
    have := vsum_okq rs (j + 1) d _ h2 (fun x hx => hr x (List.mem_cons_of_mem _ hx))
    rw [List.length_cons, show j + (rs.length + 1) = j + 1 + rs.length by omega]
    exact this
end WS
set_option Elab.async false
set_option linter.all false
set_option maxRecDepth 100000
set_option maxHeartbeats 4000000
namespace WS
open PySem PySem.Spec PyProof.Rows L2
theorem cutV_drop (xs : List V) (k : Nat) : cutV xs (some (k : Int)) none = xs.drop k := by
  unfold cutV
  rw [HT.sIx_nat, HT.sIx_none, List.take_of_length_le (by rw [List.length_drop]; exact Nat.le_refl _)]
  by_cases h : k ≤ xs.length
  · rw [Nat.min_eq_left h]
  · rw [Nat.min_eq_right (by omega), List.drop_of_length_le (Nat.le_refl _), List.drop_of_length_le (by omega)]
def spLPart (K : PySem.W.Frag) : Sp := fun vs H Q _ => ∃ v a b, vs = [v] ∧ TupI K H v a b ∧ Lowest a b ∧ Bt 4400 a ∧ Bt 4400 b ∧ ∀ H', Same H H' → Q (.bl true) H'
theorem reps_next (j : Nat) : (List.replicate j true).map V.bl ++ [V.bl true] = (List.replicate (j + 1) true).map V.bl := by
  rw [List.replicate_succ', List.map_append]
  rfl
theorem reps_len {j : Nat} (h : j ≤ 1000) : ((List.replicate j true).map V.bl).length < sizeLine := by
  rw [List.length_map, List.length_replicate]
  exact small1000 (by omega)
/-- a pair less another one, as it is written with its sign turned -/
theorem pl_neg {p q : Int × Int} : lo (p.1 * q.2 + (0 - q.1) * p.2) (p.2 * q.2) = mi p q := by
  unfold mi
  congr 1
  rw [Int.zero_sub, Int.neg_mul]
  omega
theorem half_le {a b : Int} {c : Int × Int} (h : 0 < c.2) : ltp (a * b, 1) (lo (c.1 * 2) c.2) = ltp (lo (a * b) 2) c := by
  unfold ltp
  apply decide_eq_decide.mpr
  have e := lo_cross (c.1 * 2) c.2
  have e2 := lo_cross (a * b) 2
  have p := (lo_lowest (a := c.1 * 2) h).1
  have p2 := (lo_lowest (a := a * b) (b := 2) (by decide)).1
  show a * b * (lo (c.1 * 2) c.2).2 < (lo (c.1 * 2) c.2).1 * 1 ↔ (lo (a * b) 2).1 * c.2 < c.1 * (lo (a * b) 2).2
  generalize (lo (c.1 * 2) c.2).1 = x at *
  generalize (lo (c.1 * 2) c.2).2 = y at *
  generalize (lo (a * b) 2).1 = u at *
  generalize (lo (a * b) 2).2 = v at *
  generalize a * b = ab at *
  rw [Int.mul_one]
  have h1 : ab * y < x ↔ ab * c.2 < c.1 * 2 := by
    constructor
    · intro z
      have : ab * y * c.2 < x * c.2 := Int.mul_lt_mul_of_pos_right z h
      have e3 : ab * y * c.2 = ab * c.2 * y := by rw [Int.mul_assoc, Int.mul_comm y, ← Int.mul_assoc]
      rw [e3, e] at this
      exact Int.lt_of_mul_lt_mul_right this (by omega)
    · intro z
      have : ab * c.2 * y < c.1 * 2 * y := Int.mul_lt_mul_of_pos_right z p
      have e3 : ab * y * c.2 = ab * c.2 * y := by rw [Int.mul_assoc, Int.mul_comm y, ← Int.mul_assoc]
      rw [← e3, ← e] at this
      exact Int.lt_of_mul_lt_mul_right this (by omega)
  have h2 : u * c.2 < c.1 * v ↔ ab * c.2 < c.1 * 2 := by
    constructor
    · intro z
      have : u * c.2 * 2 < c.1 * v * 2 := by omega
      have e3 : u * c.2 * 2 = ab * c.2 * v := by rw [Int.mul_assoc, Int.mul_comm c.2, ← Int.mul_assoc, e2, Int.mul_assoc, Int.mul_comm v, ← Int.mul_assoc]
      have e4 : c.1 * v * 2 = c.1 * 2 * v := by rw [Int.mul_assoc, Int.mul_comm v, ← Int.mul_assoc]
      rw [e3, e4] at this
      exact Int.lt_of_mul_lt_mul_right this (by omega)
    · intro z
      have : ab * c.2 * v < c.1 * 2 * v := Int.mul_lt_mul_of_pos_right z p2
      have e3 : u * c.2 * 2 = ab * c.2 * v := by rw [Int.mul_assoc, Int.mul_comm c.2, ← Int.mul_assoc, e2, Int.mul_assoc, Int.mul_comm v, ← Int.mul_assoc]
      have e4 : c.1 * v * 2 = c.1 * 2 * v := by rw [Int.mul_assoc, Int.mul_comm v, ← Int.mul_assoc]
      rw [← e3, ← e4] at this
      omega
  rw [h1, h2]
end WS
set_option Elab.async false
set_option linter.all false
set_option maxRecDepth 100000
set_option maxHeartbeats 4000000
namespace WS
open PySem PySem.Spec PyProof.Rows L2
/-! parts as rational numbers -/
def rv (p : Int × Int) : Rat := (p.1 : Rat) / (p.2 : Rat)
theorem cast_pos {b : Int} (h : 0 < b) : (0 : Rat) < b := by exact_mod_cast h
theorem cast_nn {b : Int} (h : 0 ≤ b) : (0 : Rat) ≤ b := by exact_mod_cast h
theorem cast_ne {b : Int} (h : 0 < b) : (b : Rat) ≠ 0 := by exact_mod_cast (by omega : b ≠ 0)
theorem cast_lt {a b : Int} : (a : Rat) < b ↔ a < b := by exact_mod_cast Iff.rfl
theorem cast_le {a b : Int} : (a : Rat) ≤ b ↔ a ≤ b := by exact_mod_cast Iff.rfl
theorem cast_mul (a b : Int) : ((a * b : Int) : Rat) = a * b := Rat.intCast_mul a b
theorem cast_add (a b : Int) : ((a + b : Int) : Rat) = a + b := Rat.intCast_add a b
theorem cast_sub (a b : Int) : ((a - b : Int) : Rat) = a - b := Rat.intCast_sub a b
theorem rv_lo {a b : Int} (hb : 0 < b) : rv (lo a b) = (a : Rat) / b := by
  have h1 := cast_ne hb
  have h2 := cast_ne (lo_lowest (a := a) hb).1
  have e' : ((lo a b).1 : Rat) * b = a * (lo a b).2 := by
    have := lo_cross a b
    exact_mod_cast this
  unfold rv
  grind
theorem rv_pl {p q : Int × Int} (hp : 0 < p.2) (hq : 0 < q.2) : rv (pl p q) = rv p + rv q := by
  unfold pl
  rw [rv_lo (Int.mul_pos hp hq), cast_add, cast_mul, cast_mul, cast_mul]
  have h1 := cast_ne hp
  have h2 := cast_ne hq
  unfold rv
  grind
theorem rv_mi {p q : Int × Int} (hp : 0 < p.2) (hq : 0 < q.2) : rv (mi p q) = rv p - rv q := by
  unfold mi
  rw [rv_lo (Int.mul_pos hp hq), cast_sub, cast_mul, cast_mul, cast_mul]
  have h1 := cast_ne hp
  have h2 := cast_ne hq
  unfold rv
  grind
theorem rv_tm {p : Int × Int} {i : Int} (hp : 0 < p.2) : rv (tm p i) = rv p * i := by
  unfold tm
  rw [rv_lo hp, cast_mul]
  have h1 := cast_ne hp
  unfold rv
  grind
theorem rv_mo (W n k : Int) : rv (mo W n k) = (W : Rat) * k * (n - k) / 2 := by
  unfold mo
  rw [rv_lo (by decide), cast_mul, cast_mul, cast_sub]
  rfl
theorem ltp_iff {p q : Int × Int} (hp : 0 < p.2) (hq : 0 < q.2) : ltp p q = true ↔ rv p < rv q := by
  unfold ltp rv
  rw [decide_eq_true_iff]
  have h1 := cast_pos hp
  have h2 := cast_pos hq
  have e : (p.1 * q.2 < q.1 * p.2) ↔ (p.1 : Rat) * q.2 < q.1 * p.2 := by exact_mod_cast Iff.rfl
  rw [e, Rat.div_lt_iff h1]
  have : (q.1 : Rat) / q.2 * p.2 = (q.1 * p.2) / q.2 := by grind
  rw [this, Rat.lt_div_iff h2]
theorem ltp_no {p q : Int × Int} (hp : 0 < p.2) (hq : 0 < q.2) : ltp p q = false ↔ rv q ≤ rv p := by
  rw [← Bool.not_eq_true, ltp_iff hp hq, Rat.not_lt]
def wsum (rs : List VR) : Rat := (rs.map fun r => rv r.c * r.w).sum
theorem vsum_pos : ∀ (rs : List VR) (s : Int × Int), 0 < s.2 → (∀ r ∈ rs, 0 < r.c.2) → 0 < (vsum s rs).2
  | [], s, h, _ => h
  | r :: rs, s, h, hr => vsum_pos rs _ (lo_lowest (Int.mul_pos h (lo_lowest (hr r List.mem_cons_self)).1)).1 (fun x hx => hr x (List.mem_cons_of_mem _ hx))
theorem rv_vsum : ∀ (rs : List VR) (s : Int × Int), 0 < s.2 → (∀ r ∈ rs, 0 < r.c.2) → rv (vsum s rs) = rv s + wsum rs
  | [], s, h, _ => by
    unfold wsum
    show rv s = rv s + 0
    rw [Rat.add_zero]
  | r :: rs, s, h, hr => by
    have hc := hr r List.mem_cons_self
    have ht : 0 < (tm r.c r.w).2 := (lo_lowest hc).1
    have e := rv_vsum rs (pl s (tm r.c r.w)) (lo_lowest (Int.mul_pos h ht)).1 (fun x hx => hr x (List.mem_cons_of_mem _ hx))
    rw [rv_pl h ht, rv_tm hc] at e
    show rv (vsum (pl s (tm r.c r.w)) rs) = _
    rw [e]
    unfold wsum
    rw [List.map_cons, List.sum_cons]
    grind
theorem wsum_le {W D : Rat} : ∀ (rs : List VR), (∀ r ∈ rs, 0 ≤ r.w ∧ W * rv r.c ≤ D) → W * wsum rs ≤ ((rs.map VR.w).sum : Int) * D
  | [], _ => by
    unfold wsum
    simp
  | r :: rs, h => by
    have i := wsum_le rs (fun x hx => h x (List.mem_cons_of_mem _ hx))
    obtain ⟨h0, h1⟩ := h r List.mem_cons_self
    have h2 := Rat.mul_le_mul_of_nonneg_left h1 (cast_nn h0)
    unfold wsum at i ⊢
    rw [List.map_cons, List.sum_cons, List.map_cons, List.sum_cons, cast_add]
    generalize ((rs.map fun r => rv r.c * r.w).sum) = A at *
    generalize (((rs.map VR.w).sum : Int) : Rat) = B at *
    grind
theorem row_bound {W n k a b S L M C : Rat} (hW : 0 < W) (ha : 0 ≤ a) (hb : 0 ≤ b) (hs : S ≤ W * k * (n - k) / 2) (hl : L ≤ W * (k - a) * (n - (k - a)) / 2) (hm : M ≤ W * (k + b) * (n - (k + b)) / 2) (hx : (S - L) * b ≤ (M - S) * a) (hc : C ≤ a * b / 2) :
    W * C ≤ W * k * (n - k) / 2 - S := by
  have h1 := Rat.mul_le_mul_of_nonneg_left hl hb
  have h2 := Rat.mul_le_mul_of_nonneg_left hm ha
  have h3 : (a + b) * S ≤ (a + b) * (W * k * (n - k) / 2 - W * a * b / 2) := by grind
  have h4 := Rat.mul_le_mul_of_nonneg_left hc (Rat.le_of_lt hW)
  by_cases hab : 0 < a + b
  · have h5 : S ≤ W * k * (n - k) / 2 - W * a * b / 2 := Rat.le_of_mul_le_mul_left h3 hab
    grind
  · have ea : a = 0 := by grind
    have eb : b = 0 := by grind
    subst ea eb
    grind
theorem vouch_le {W n k : Int} {s : Int × Int} {rs : List VR} (oh : OkH W n k s) (ok : ∀ r ∈ rs, Okr n k r) (h : holdB W n k s rs = true) : ltp (mo W n k) (vsum s rs) = false := by
  have s2 := oh.2.2.2.2.2.1.1
  have cp : ∀ r ∈ rs, 0 < r.c.2 := fun r hr => (ok r hr).2.2.2.2.2.2.2.1.1
  have mp : ∀ k, 0 < (mo W n k).2 := fun k => (mo_low W n k).1
  rw [ltp_no (mp k) (vsum_pos rs s s2 cp), rv_vsum rs s s2 cp, rv_mo]
  unfold holdB at h
  rw [Bool.and_eq_true, Bool.and_eq_true] at h
  obtain ⟨h1, h2, h3⟩ := h
  have hW : (0 : Rat) < W := cast_pos (by have := oh.1; omega)
  have hs : rv s ≤ (W : Rat) * k * (n - k) / 2 := by
    unfold headB at h1
    rw [Bool.not_eq_true', ltp_no (mp k) s2, rv_mo] at h1
    exact h1
  have each : ∀ r ∈ rs, 0 ≤ r.w ∧ (W : Rat) * rv r.c ≤ (W : Rat) * k * (n - k) / 2 - rv s := fun r hr => by
    have o := ok r hr
    have b := List.all_eq_true.mp h2 r hr
    unfold rowB at b
    simp only [Bool.and_eq_true, decide_eq_true_iff, Bool.not_eq_true'] at b
    obtain ⟨b1, b2, b3, b4, b5⟩ := b
    have l2 := o.2.2.2.2.2.1.1.1
    have m2 := o.2.2.2.2.2.2.1.1.1
    have c2 := cp r hr
    have p1 : 0 < (mi r.m s).2 := (lo_lowest (Int.mul_pos m2 s2)).1
    have p2 : 0 < (mi s r.l).2 := (lo_lowest (Int.mul_pos s2 l2)).1
    rw [ltp_no (mp _) l2, rv_mo, cast_sub] at b2
    rw [ltp_no (mp _) m2, rv_mo, cast_add] at b3
    rw [ltp_no (p := tm (mi r.m s) r.a) (q := tm (mi s r.l) r.b) (lo_lowest p1).1 (lo_lowest p2).1, rv_tm p1, rv_tm p2, rv_mi m2 s2, rv_mi s2 l2] at b4
    rw [ltp_no (lo_lowest (by decide)).1 c2, rv_lo (by decide), cast_mul] at b5
    exact ⟨by omega, row_bound hW (cast_nn o.1) (cast_nn o.2.2.1) hs b2 b3 b4 b5⟩
  have hw := wsum_le rs each
  have hsum : ((rs.map VR.w).sum : Int) ≤ W := of_decide_eq_true h3
  have hsum : (((rs.map VR.w).sum : Int) : Rat) ≤ W := cast_le.mpr hsum
  have D0 : (0 : Rat) ≤ (W : Rat) * k * (n - k) / 2 - rv s := by grind
  have h5 := Rat.mul_le_mul_of_nonneg_right hsum D0
  have h6 : (W : Rat) * wsum rs ≤ W * ((W : Rat) * k * (n - k) / 2 - rv s) := Rat.le_trans hw h5
  have h7 := Rat.le_of_mul_le_mul_left h6 hW
  grind
end WS
set_option Elab.async false
set_option linter.all false
set_option maxRecDepth 100000
set_option maxHeartbeats 4000000
namespace WS
open PySem PySem.Spec PyProof.Rows L2
def spNear64 (K : PySem.W.Frag) : Sp := fun vs H Q _ => ∃ (p : Addr) (v : V) (b : Int × Int), vs = [.ref p, v] ∧ PotAt H p ∧ TupI K H v b.1 b.2 ∧ Lowest b.1 b.2 ∧ Okq 114 4 b ∧ ∀ v' (b' : Int × Int) H', TupI K H' v' b'.1 b'.2 → Okv b' → SameX p H H' → PotAt H' p → Q v' H'
def spVRow (K : PySem.W.Frag) : Sp := fun vs H Q _ => ∃ (p : Addr) (W n k a b w : Int), vs = [.ref p, .int W, .int n, .int k, .int a, .int b, .int w] ∧ PotAt H p ∧ Bt 101 W ∧ 0 ≤ k ∧ k ≤ n ∧ n ≤ 12 ∧ 0 ≤ a ∧ a ≤ k ∧ 0 ≤ b ∧ b ≤ n - k ∧ Bt 104 w ∧ ∀ v r H', VRow K H' v r → Okr n k r → SameX p H H' → PotAt H' p → Q v H'
def spWeighing : Sp := fun vs H Q _ => ∃ (p : Addr) (W : Int) (m : Nat), vs = [.ref p, .int W, .int m] ∧ PotAt H p ∧ 1 ≤ W ∧ Bt 101 W ∧ m ≤ 5 ∧ ∀ D (ws : List Int) H', H D = none → H' D = some (.lst (ws.map V.int)) → ws.length = m → (∀ w ∈ ws, Bt 104 w) → SameX p H H' → PotAt H' p → Q (.ref D) H'
def spThing (K : PySem.W.Frag) : Sp := fun vs H Q _ => ∃ (p : Addr) (W : Int), vs = [.ref p, .int W] ∧ PotAt H p ∧ 1 ≤ W ∧ Bt 101 W ∧ ∀ v n k s rs H', Vch K H' v n k s rs → OkH W n k s → rs.length ≤ 5 → (∀ r ∈ rs, Okr n k r) → SameX p H H' → PotAt H' p → Q v H'
theorem okv_pl {p q : Int × Int} {m e : Nat} (h : Okq 114 4 p) (k : Okq m e q) (h1 : m + 5 ≤ 204) (h2 : e ≤ 88) : Okv (pl p q) :=
  ⟨lo_lowest (Int.mul_pos h.1 k.1), (h.pl k).mono (by omega) (by omega)⟩
theorem okv_of {p : Int × Int} {m e : Nat} (l : Lowest p.1 p.2) (h : Okq m e p) (h1 : m ≤ 204) (h2 : e ≤ 92) : Okv p := ⟨l, h.mono h1 h2⟩
theorem samex_upd {p F : Addr} {H H' : Hp} {o : HO} (s : SameX p H H') (n : H F = none) : SameX p H (upd H' F o) := fun b x nb e => by
  rw [upd_ne (ne_of_none e n)]
  exact s b x nb e
theorem PotAt.upd {H : Hp} {p F : Addr} {o : HO} (h : PotAt H p) (n : F ≠ p) : PotAt (upd H F o) p := by
  obtain ⟨x, y, e, r⟩ := h
  exact ⟨x, y, by rw [upd_ne n.symm]; exact e, r⟩
theorem PotAt.nel {H : Hp} {p F : Addr} {xs : List V} (h : PotAt H p) (hF : H F = some (.lst xs)) (n : xs.length ≠ 2) : F ≠ p := by
  obtain ⟨x, y, e, r⟩ := h
  intro z
  subst z
  rw [hF] at e
  cases e
  exact n rfl
end WS
set_option Elab.async false
set_option linter.all false
set_option maxRecDepth 100000
set_option maxHeartbeats 4000000
namespace WS
open PySem PySem.Spec PyProof.Rows L2
def topS (i : Nat) : Stmt := PySem.Challenge.pw_whoserves_k64_whole_what_holds_vouches.main.body.getD i (.Pass ⟨0, 0, 0, 0⟩)
abbrev s_is_whole : Stmt := topS 4
theorem sc_is_whole : FnScope ["thing"] ["thing"] (defScope s_is_whole) := ⟨rfl, rfl, rfl, by decide +kernel, rfl, by decide +kernel, by decide +kernel⟩
abbrev s_greatest_common : Stmt := topS 5
theorem sc_greatest_common : FnScope ["one", "other"] ["one", "other"] (defScope s_greatest_common) := ⟨rfl, rfl, rfl, by decide +kernel, rfl, by decide +kernel, by decide +kernel⟩
abbrev s_is_part : Stmt := topS 6
theorem sc_is_part : FnScope ["thing", "above", "below"] ["thing"] (defScope s_is_part) := ⟨rfl, rfl, rfl, by decide +kernel, rfl, by decide +kernel, by decide +kernel⟩
abbrev s_part : Stmt := topS 7
theorem sc_part : FnScope ["above", "below", "common"] ["above", "below"] (defScope s_part) := ⟨rfl, rfl, rfl, by decide +kernel, rfl, by decide +kernel, by decide +kernel⟩
abbrev s_plus : Stmt := topS 8
theorem sc_plus : FnScope ["one", "other"] ["one", "other"] (defScope s_plus) := ⟨rfl, rfl, rfl, by decide +kernel, rfl, by decide +kernel, by decide +kernel⟩
abbrev s_minus : Stmt := topS 9
theorem sc_minus : FnScope ["one", "other"] ["one", "other"] (defScope s_minus) := ⟨rfl, rfl, rfl, by decide +kernel, rfl, by decide +kernel, by decide +kernel⟩
abbrev s_times : Stmt := topS 10
theorem sc_times : FnScope ["one", "many"] ["one", "many"] (defScope s_times) := ⟨rfl, rfl, rfl, by decide +kernel, rfl, by decide +kernel, by decide +kernel⟩
abbrev s_is_less : Stmt := topS 11
theorem sc_is_less : FnScope ["one", "other"] ["one", "other"] (defScope s_is_less) := ⟨rfl, rfl, rfl, by decide +kernel, rfl, by decide +kernel, by decide +kernel⟩
abbrev s_most : Stmt := topS 13
theorem sc_most : FnScope ["weight", "seats", "many"] ["weight", "seats", "many"] (defScope s_most) := ⟨rfl, rfl, rfl, by decide +kernel, rfl, by decide +kernel, by decide +kernel⟩
abbrev s_is_weight : Stmt := topS 15
theorem sc_is_weight : FnScope ["thing"] ["thing"] (defScope s_is_weight) := ⟨rfl, rfl, rfl, by decide +kernel, rfl, by decide +kernel, by decide +kernel⟩
abbrev s_is_number_to : Stmt := topS 17
theorem sc_is_number_to : FnScope ["thing", "last"] ["thing", "last"] (defScope s_is_number_to) := ⟨rfl, rfl, rfl, by decide +kernel, rfl, by decide +kernel, by decide +kernel⟩
abbrev s_is_part_to : Stmt := topS 18
theorem sc_is_part_to : FnScope ["thing", "last"] ["thing", "last"] (defScope s_is_part_to) := ⟨rfl, rfl, rfl, by decide +kernel, rfl, by decide +kernel, by decide +kernel⟩
abbrev s_row_holds : Stmt := topS 19
theorem sc_row_holds : FnScope ["weight", "head", "thing", "seats", "many", "owed", "weighs", "resting", "others", "less", "more", "change"] ["weight", "head", "thing"] (defScope s_row_holds) := ⟨rfl, rfl, rfl, by decide +kernel, rfl, by decide +kernel, by decide +kernel⟩
abbrev s_head_holds : Stmt := topS 20
theorem sc_head_holds : FnScope ["weight", "seats", "many", "owed"] ["weight", "seats", "many", "owed"] (defScope s_head_holds) := ⟨rfl, rfl, rfl, by decide +kernel, rfl, by decide +kernel, by decide +kernel⟩
abbrev s_voucher_holds : Stmt := topS 21
theorem sc_voucher_holds : FnScope ["weight", "thing", "seats", "many", "owed", "rows", "line"] ["weight", "thing"] (defScope s_voucher_holds) := ⟨rfl, rfl, rfl, by decide +kernel, rfl, by decide +kernel, by decide +kernel⟩
abbrev s_vouched : Stmt := topS 22
theorem sc_vouched : FnScope ["voucher", "found", "line"] ["voucher"] (defScope s_vouched) := ⟨rfl, rfl, rfl, by decide +kernel, rfl, by decide +kernel, by decide +kernel⟩
abbrev s_lpot : Stmt := topS 24
theorem sc_lpot : FnScope ["_law_script", "_law_k", "_law_cell"] ["_law_script", "_law_k"] (defScope s_lpot) := ⟨rfl, rfl, rfl, by decide +kernel, rfl, by decide +kernel, by decide +kernel⟩
abbrev s_ldigit : Stmt := topS 25
theorem sc_ldigit : FnScope ["_law_pot_here", "_law_many", "_law_digit_here"] ["_law_pot_here", "_law_many"] (defScope s_ldigit) := ⟨rfl, rfl, rfl, by decide +kernel, rfl, by decide +kernel, by decide +kernel⟩
abbrev s_llow : Stmt := topS 26
theorem sc_llow : FnScope ["_law_above", "_law_below", "_law_one_here", "_law_other"] ["_law_above", "_law_below"] (defScope s_llow) := ⟨rfl, rfl, rfl, by decide +kernel, rfl, by decide +kernel, by decide +kernel⟩
abbrev s_lplus : Stmt := topS 27
theorem sc_lplus : FnScope ["_law_one_here", "_law_other"] ["_law_one_here", "_law_other"] (defScope s_lplus) := ⟨rfl, rfl, rfl, by decide +kernel, rfl, by decide +kernel, by decide +kernel⟩
abbrev s_ltimes : Stmt := topS 28
theorem sc_ltimes : FnScope ["_law_one_here", "_law_many"] ["_law_one_here", "_law_many"] (defScope s_ltimes) := ⟨rfl, rfl, rfl, by decide +kernel, rfl, by decide +kernel, by decide +kernel⟩
abbrev s_lless : Stmt := topS 29
theorem sc_lless : FnScope ["_law_one_here", "_law_other"] ["_law_one_here", "_law_other"] (defScope s_lless) := ⟨rfl, rfl, rfl, by decide +kernel, rfl, by decide +kernel, by decide +kernel⟩
abbrev s_lmost : Stmt := topS 30
theorem sc_lmost : FnScope ["_law_weight", "_law_many", "_law_k"] ["_law_weight", "_law_many", "_law_k"] (defScope s_lmost) := ⟨rfl, rfl, rfl, by decide +kernel, rfl, by decide +kernel, by decide +kernel⟩
abbrev s_lis_whole : Stmt := topS 31
theorem sc_lis_whole : FnScope ["_law_thing_here"] ["_law_thing_here"] (defScope s_lis_whole) := ⟨rfl, rfl, rfl, by decide +kernel, rfl, by decide +kernel, by decide +kernel⟩
abbrev s_lis_part : Stmt := topS 32
theorem sc_lis_part : FnScope ["_law_thing_here", "_law_one_here"] ["_law_thing_here"] (defScope s_lis_part) := ⟨rfl, rfl, rfl, by decide +kernel, rfl, by decide +kernel, by decide +kernel⟩
abbrev s_lrow_holds : Stmt := topS 33
theorem sc_lrow_holds : FnScope ["_law_weight", "_law_n", "_law_k", "_law_s", "_law_row_here", "_law_weighs", "_law_a", "_law_b", "_law_less_here", "_law_more", "_law_change", "_law_left", "_law_right", "_law_one_here"] ["_law_weight", "_law_n", "_law_k", "_law_s", "_law_row_here"] (defScope s_lrow_holds) := ⟨rfl, rfl, rfl, by decide +kernel, rfl, by decide +kernel, by decide +kernel⟩
abbrev s_lholds : Stmt := topS 34
theorem sc_lholds : FnScope ["_law_weight", "_law_thing_here", "_law_n", "_law_k", "_law_s", "_law_rows", "_law_row_here"] ["_law_weight", "_law_thing_here"] (defScope s_lholds) := ⟨rfl, rfl, rfl, by decide +kernel, rfl, by decide +kernel, by decide +kernel⟩
abbrev s_lnear : Stmt := topS 35
theorem sc_lnear : FnScope ["_law_pot_here", "_law_bound", "_law_way"] ["_law_pot_here", "_law_bound"] (defScope s_lnear) := ⟨rfl, rfl, rfl, by decide +kernel, rfl, by decide +kernel, by decide +kernel⟩
abbrev s_lrow : Stmt := topS 36
theorem sc_lrow : FnScope ["_law_pot_here", "_law_weight", "_law_n", "_law_k", "_law_a", "_law_b", "_law_weighs", "_law_less_here", "_law_more"] ["_law_pot_here", "_law_weight", "_law_n", "_law_k", "_law_a", "_law_b", "_law_weighs"] (defScope s_lrow) := ⟨rfl, rfl, rfl, by decide +kernel, rfl, by decide +kernel, by decide +kernel⟩
abbrev s_lweighing : Stmt := topS 37
theorem sc_lweighing : FnScope ["_law_pot_here", "_law_weight", "_law_many", "_law_left", "_law_found", "_law_k", "_law_one_here"] ["_law_pot_here", "_law_weight", "_law_many"] (defScope s_lweighing) := ⟨rfl, rfl, rfl, by decide +kernel, rfl, by decide +kernel, by decide +kernel⟩
abbrev s_lthing : Stmt := topS 38
theorem sc_lthing : FnScope ["_law_pot_here", "_law_weight", "_law_n", "_law_k", "_law_pairs", "_law_turn", "_law_owed", "_law_a", "_law_b", "_law_bound", "_law_weighing_here", "_law_rows", "_law_pair", "_law_one_here"] ["_law_pot_here", "_law_weight"] (defScope s_lthing) := ⟨rfl, rfl, rfl, by decide +kernel, rfl, by decide +kernel, by decide +kernel⟩
abbrev s_lone : Stmt := topS 39
theorem sc_lone : FnScope ["_law_pot_here", "_law_weight", "_law_thing_here", "_law_told", "_law_due", "_law_row_here"] ["_law_pot_here"] (defScope s_lone) := ⟨rfl, rfl, rfl, by decide +kernel, rfl, by decide +kernel, by decide +kernel⟩
abbrev s_law : Stmt := topS 40
theorem sc_law : FnScope ["_law_script", "_law_k"] ["_law_script"] (defScope s_law) := ⟨rfl, rfl, rfl, by decide +kernel, rfl, by decide +kernel, by decide +kernel⟩
structure Tx (K : PySem.W.Frag) (mg : Str → Option Value) where
  f_is_whole : Addr
  d_is_whole : FuncData
  g_is_whole : mg "is_whole" = some (.ref f_is_whole)
  F_is_whole : Fun K "is_whole" "is_whole" s_is_whole f_is_whole d_is_whole
  b_is_whole : Binds K d_is_whole ["thing"] []
  f_greatest_common : Addr
  d_greatest_common : FuncData
  g_greatest_common : mg "greatest_common" = some (.ref f_greatest_common)
  F_greatest_common : Fun K "greatest_common" "greatest_common" s_greatest_common f_greatest_common d_greatest_common
  b_greatest_common : Binds K d_greatest_common ["one", "other"] []
  f_is_part : Addr
  d_is_part : FuncData
  g_is_part : mg "is_part" = some (.ref f_is_part)
  F_is_part : Fun K "is_part" "is_part" s_is_part f_is_part d_is_part
  b_is_part : Binds K d_is_part ["thing"] []
  f_part : Addr
  d_part : FuncData
  g_part : mg "part" = some (.ref f_part)
  F_part : FunD K "part" "part" (defArgs s_part) (defBody s_part) (defScope s_part) [.int 1] [] f_part d_part
  b_part : Binds K d_part ["above", "below"] []
  f_plus : Addr
  d_plus : FuncData
  g_plus : mg "plus" = some (.ref f_plus)
  F_plus : Fun K "plus" "plus" s_plus f_plus d_plus
  b_plus : Binds K d_plus ["one", "other"] []
  f_minus : Addr
  d_minus : FuncData
  g_minus : mg "minus" = some (.ref f_minus)
  F_minus : Fun K "minus" "minus" s_minus f_minus d_minus
  b_minus : Binds K d_minus ["one", "other"] []
  f_times : Addr
  d_times : FuncData
  g_times : mg "times" = some (.ref f_times)
  F_times : Fun K "times" "times" s_times f_times d_times
  b_times : Binds K d_times ["one", "many"] []
  f_is_less : Addr
  d_is_less : FuncData
  g_is_less : mg "is_less" = some (.ref f_is_less)
  F_is_less : Fun K "is_less" "is_less" s_is_less f_is_less d_is_less
  b_is_less : Binds K d_is_less ["one", "other"] []
  f_most : Addr
  d_most : FuncData
  g_most : mg "most" = some (.ref f_most)
  F_most : Fun K "most" "most" s_most f_most d_most
  b_most : Binds K d_most ["weight", "seats", "many"] []
  f_is_weight : Addr
  d_is_weight : FuncData
  g_is_weight : mg "is_weight" = some (.ref f_is_weight)
  F_is_weight : Fun K "is_weight" "is_weight" s_is_weight f_is_weight d_is_weight
  b_is_weight : Binds K d_is_weight ["thing"] []
  f_is_number_to : Addr
  d_is_number_to : FuncData
  g_is_number_to : mg "is_number_to" = some (.ref f_is_number_to)
  F_is_number_to : Fun K "is_number_to" "is_number_to" s_is_number_to f_is_number_to d_is_number_to
  b_is_number_to : Binds K d_is_number_to ["thing", "last"] []
  f_is_part_to : Addr
  d_is_part_to : FuncData
  g_is_part_to : mg "is_part_to" = some (.ref f_is_part_to)
  F_is_part_to : Fun K "is_part_to" "is_part_to" s_is_part_to f_is_part_to d_is_part_to
  b_is_part_to : Binds K d_is_part_to ["thing", "last"] []
  f_row_holds : Addr
  d_row_holds : FuncData
  g_row_holds : mg "row_holds" = some (.ref f_row_holds)
  F_row_holds : Fun K "row_holds" "row_holds" s_row_holds f_row_holds d_row_holds
  b_row_holds : Binds K d_row_holds ["weight", "head", "thing"] []
  f_head_holds : Addr
  d_head_holds : FuncData
  g_head_holds : mg "head_holds" = some (.ref f_head_holds)
  F_head_holds : Fun K "head_holds" "head_holds" s_head_holds f_head_holds d_head_holds
  b_head_holds : Binds K d_head_holds ["weight", "seats", "many", "owed"] []
  f_voucher_holds : Addr
  d_voucher_holds : FuncData
  g_voucher_holds : mg "voucher_holds" = some (.ref f_voucher_holds)
  F_voucher_holds : Fun K "voucher_holds" "voucher_holds" s_voucher_holds f_voucher_holds d_voucher_holds
  b_voucher_holds : Binds K d_voucher_holds ["weight", "thing"] []
  f_vouched : Addr
  d_vouched : FuncData
  g_vouched : mg "vouched" = some (.ref f_vouched)
  F_vouched : Fun K "vouched" "vouched" s_vouched f_vouched d_vouched
  b_vouched : Binds K d_vouched ["voucher"] []
  f_lpot : Addr
  d_lpot : FuncData
  g_lpot : mg "_law_pot" = some (.ref f_lpot)
  F_lpot : Fun K "_law_pot" "_law_pot" s_lpot f_lpot d_lpot
  b_lpot : Binds K d_lpot ["_law_script", "_law_k"] []
  f_ldigit : Addr
  d_ldigit : FuncData
  g_ldigit : mg "_law_digit" = some (.ref f_ldigit)
  F_ldigit : Fun K "_law_digit" "_law_digit" s_ldigit f_ldigit d_ldigit
  b_ldigit : Binds K d_ldigit ["_law_pot_here", "_law_many"] []
  f_llow : Addr
  d_llow : FuncData
  g_llow : mg "_law_low" = some (.ref f_llow)
  F_llow : Fun K "_law_low" "_law_low" s_llow f_llow d_llow
  b_llow : Binds K d_llow ["_law_above", "_law_below"] []
  f_lplus : Addr
  d_lplus : FuncData
  g_lplus : mg "_law_plus" = some (.ref f_lplus)
  F_lplus : Fun K "_law_plus" "_law_plus" s_lplus f_lplus d_lplus
  b_lplus : Binds K d_lplus ["_law_one_here", "_law_other"] []
  f_ltimes : Addr
  d_ltimes : FuncData
  g_ltimes : mg "_law_times" = some (.ref f_ltimes)
  F_ltimes : Fun K "_law_times" "_law_times" s_ltimes f_ltimes d_ltimes
  b_ltimes : Binds K d_ltimes ["_law_one_here", "_law_many"] []
  f_lless : Addr
  d_lless : FuncData
  g_lless : mg "_law_less" = some (.ref f_lless)
  F_lless : Fun K "_law_less" "_law_less" s_lless f_lless d_lless
  b_lless : Binds K d_lless ["_law_one_here", "_law_other"] []
  f_lmost : Addr
  d_lmost : FuncData
  g_lmost : mg "_law_most" = some (.ref f_lmost)
  F_lmost : Fun K "_law_most" "_law_most" s_lmost f_lmost d_lmost
  b_lmost : Binds K d_lmost ["_law_weight", "_law_many", "_law_k"] []
  f_lis_whole : Addr
  d_lis_whole : FuncData
  g_lis_whole : mg "_law_is_whole" = some (.ref f_lis_whole)
  F_lis_whole : Fun K "_law_is_whole" "_law_is_whole" s_lis_whole f_lis_whole d_lis_whole
  b_lis_whole : Binds K d_lis_whole ["_law_thing_here"] []
  f_lis_part : Addr
  d_lis_part : FuncData
  g_lis_part : mg "_law_is_part" = some (.ref f_lis_part)
  F_lis_part : Fun K "_law_is_part" "_law_is_part" s_lis_part f_lis_part d_lis_part
  b_lis_part : Binds K d_lis_part ["_law_thing_here"] []
  f_lrow_holds : Addr
  d_lrow_holds : FuncData
  g_lrow_holds : mg "_law_row_holds" = some (.ref f_lrow_holds)
  F_lrow_holds : Fun K "_law_row_holds" "_law_row_holds" s_lrow_holds f_lrow_holds d_lrow_holds
  b_lrow_holds : Binds K d_lrow_holds ["_law_weight", "_law_n", "_law_k", "_law_s", "_law_row_here"] []
  f_lholds : Addr
  d_lholds : FuncData
  g_lholds : mg "_law_holds" = some (.ref f_lholds)
  F_lholds : Fun K "_law_holds" "_law_holds" s_lholds f_lholds d_lholds
  b_lholds : Binds K d_lholds ["_law_weight", "_law_thing_here"] []
  f_lnear : Addr
  d_lnear : FuncData
  g_lnear : mg "_law_near" = some (.ref f_lnear)
  F_lnear : Fun K "_law_near" "_law_near" s_lnear f_lnear d_lnear
  b_lnear : Binds K d_lnear ["_law_pot_here", "_law_bound"] []
  f_lrow : Addr
  d_lrow : FuncData
  g_lrow : mg "_law_row" = some (.ref f_lrow)
  F_lrow : Fun K "_law_row" "_law_row" s_lrow f_lrow d_lrow
  b_lrow : Binds K d_lrow ["_law_pot_here", "_law_weight", "_law_n", "_law_k", "_law_a", "_law_b", "_law_weighs"] []
  f_lweighing : Addr
  d_lweighing : FuncData
  g_lweighing : mg "_law_weighing" = some (.ref f_lweighing)
  F_lweighing : Fun K "_law_weighing" "_law_weighing" s_lweighing f_lweighing d_lweighing
  b_lweighing : Binds K d_lweighing ["_law_pot_here", "_law_weight", "_law_many"] []
  f_lthing : Addr
  d_lthing : FuncData
  g_lthing : mg "_law_thing" = some (.ref f_lthing)
  F_lthing : Fun K "_law_thing" "_law_thing" s_lthing f_lthing d_lthing
  b_lthing : Binds K d_lthing ["_law_pot_here", "_law_weight"] []
  f_lone : Addr
  d_lone : FuncData
  g_lone : mg "_law_one" = some (.ref f_lone)
  F_lone : Fun K "_law_one" "_law_one" s_lone f_lone d_lone
  b_lone : Binds K d_lone ["_law_pot_here"] []
  f_law : Addr
  d_law : FuncData
  g_law : mg "law" = some (.ref f_law)
  F_law : Fun K "law" "law" s_law f_law d_law
  b_law : Binds K d_law ["_law_script"] []
  n_abs : mg "abs" = none
  n_all : mg "all" = none
  n_bool : mg "bool" = none
  n_divmod : mg "divmod" = none
  n_int : mg "int" = none
  n_isinstance : mg "isinstance" = none
  n_len : mg "len" = none
  n_max : mg "max" = none
  n_min : mg "min" = none
  n_range : mg "range" = none
  n_repr : mg "repr" = none
  n_sum : mg "sum" = none
  n_tuple : mg "tuple" = none
  n_zip : mg "zip" = none
section
variable {P : Program} {w : World} {K : PySem.W.Frag} {mg : Str → Option Value} {base : Heap}
theorem ok_is_whole (T : Tx K mg) : FnOk P w K mg base CX0 1 T.f_is_whole T.d_is_whole ["thing"] (spWhole K) := by
  refine T.F_is_whole.ok sc_is_whole (fun vs H Q E h => ?_) (fun cdv A outer s H vs Q E hr h => ?_)
  · obtain ⟨v, b, rfl, _⟩ := h
    rfl
  · obtain ⟨v, b, rfl, ⟨t, b1, b2, ht, k1, k2, rfl⟩, q⟩ := h
    refine ⟨_, (pss_one (ps_ret (pe_and (pe_callB call_isi (by rfl) T.n_isinstance (by decide +kernel) (pa_cons (pv 0) (pa_cons (pe_bltn (v := .ty "int") (by rfl) T.n_int (by decide +kernel) rfl) pa_nil))) (pe_one (pe_not (pe_callB call_isi (by rfl) T.n_isinstance (by decide +kernel) (pa_cons (pv 0) (pa_cons (pe_bltn (v := .ty "bool") (by rfl) T.n_bool (by decide +kernel) rfl) pa_nil)))))))), ?_⟩
    refine ⟨v, rfl, v, _, t, _, b1, rfl, .ty "int", ht, k1, b1, rfl, ?_⟩
    cases b1 with
    | false => exact iteF q
    | true => exact iteT ⟨v, rfl, v, _, t, _, b2, rfl, .ty "bool", ht, k2, b2, rfl, q⟩
theorem ok_greatest_common (T : Tx K mg) : FnOk P w K mg base CX0 1 T.f_greatest_common T.d_greatest_common ["one", "other"] spGcd := by
  refine T.F_greatest_common.ok sc_greatest_common (fun vs H Q E h => ?_) (fun cdv A outer s H vs Q E hr h => ?_)
  · obtain ⟨x, y, rfl, _⟩ := h
    rfl
  · obtain ⟨x, y, rfl, hx, hy, q⟩ := h
    refine ⟨_, (pss_cons (ps_while PassesOwn.never (pt_cmpR op_ne (pv 1) pe_int (nomark _)) (pss_one (ps_par (i := 0) (j := 1) (by rfl) sc_greatest_common.nd rfl rfl (by decide) rfl rfl (pa_cons (pv 1) (pa_cons (pe_op op_mod (pv 0) (pv 1)) pa_nil)) (by rfl))))
        (pss_one (ps_ret (pv 0)))), ?_⟩
    refine while_by (fun σ H' => ∃ a b : Int, σ = [some (.int a), some (.int b)] ∧ 0 ≤ a ∧ 0 ≤ b ∧ Int.gcd a b = Int.gcd x y ∧ H' = H)
      (fun σ _ => match σ with | [_, some (.int b)] => b.toNat | _ => 0) ⟨x, y, rfl, hx, hy, rfl, rfl⟩ ?_ ?_
    · rintro σ H' ⟨a, b, rfl, ha, hb, eg, rfl⟩
      refine ⟨_, rfl, rfl, _, rfl, ?_⟩
      by_cases c : b = 0
      · subst c
        refine iteNS rfl ?_
        refine ⟨_, rfl, ?_⟩
        have e := gcd_zero ha
        rw [eg] at e
        rw [← e]
        exact q
      · have hb' : 0 < b := by omega
        have d : decide (V.int b = V.int 0) = false := decide_eq_false (fun z => c (V.int.inj z))
        rw [d]
        refine iteT ?_
        refine ⟨_, rfl, _, rfl, _, rfl, _, _, rfl, rfl, hb', _, _, rfl, ?_, ?_⟩
        · exact ⟨b, a % b, rfl, hb, Int.emod_nonneg a c, (gcd_step ha hb').trans eg, rfl⟩
        · show (a % b).toNat < b.toNat
          have := Int.emod_lt_of_pos a hb'
          omega
    · rintro σ H Q Q' k ⟨v, h1, h2, c, h3, q⟩
      exact ⟨v, h1, h2, c, h3, k _ _ q⟩
theorem ok_is_part (T : Tx K mg) : FnOk P w K mg base CX0 2 T.f_is_part T.d_is_part ["thing"] (spPair K) := by
  refine T.F_is_part.ok sc_is_part (fun vs H Q E h => ?_) (fun cdv A outer s H vs Q E hr h => ?_)
  · obtain ⟨v, b, rfl, _⟩ := h
    rfl
  · obtain ⟨v, b, rfl, hv, q⟩ := h
    refine ⟨_, (pss_cons (ps_if (PW.pt (pw_or (pt_not (pt_val (pe_callB call_isi (by rfl) T.n_isinstance (by decide +kernel) (pa_cons (pv 0) (pa_cons (pe_bltn (v := .ty "tuple") (by rfl) T.n_tuple (by decide +kernel) rfl) pa_nil))))) (pw_or1 (pt_cmpR op_ne (pe_callB call_len_seq (by rfl) T.n_len (by decide +kernel) (pa_cons (pv 0) pa_nil)) pe_int (nomark _))))) (pss_one (ps_ret pe_bl)) pss_nil)
        (pss_cons (ps_asg (pv 0) (pg_tup (by rfl) (pgs_cons (pg_name (i := 1) sc_is_part.nd rfl (.inl rfl)) (pgs_cons (pg_name (i := 2) sc_is_part.nd rfl (.inl rfl)) pgs_nil))))
        (pss_cons (ps_if (PW.pt (pw_or (pt_not (pt_val (pe_call (ok_is_whole T) (hr.mono (by decide)) (by rfl) T.g_is_whole T.F_is_whole.kp T.b_is_whole .nil pass0 (pa_cons (pv 1) pa_nil)))) (pw_or (pt_not (pt_val (pe_call (ok_is_whole T) (hr.mono (by decide)) (by rfl) T.g_is_whole T.F_is_whole.kp T.b_is_whole .nil pass0 (pa_cons (pv 2) pa_nil)))) (pw_or1 (pt_cmpR op_le (pv 2) pe_int (nomark _)))))) (pss_one (ps_ret pe_bl)) pss_nil)
        (pss_one (ps_ret (pe_cmpR op_eq (pe_call (ok_greatest_common T) (hr.mono (by decide)) (by rfl) T.g_greatest_common T.F_greatest_common.kp T.b_greatest_common .nil pass0 (pa_cons (pe_callB call_abs (by rfl) T.n_abs (by decide +kernel) (pa_cons (pv 1) pa_nil)) (pa_cons (pv 2) pa_nil))) pe_int (nomark _))))))), ?_⟩
    rcases hv with ⟨rfl, t, ht, kt⟩ | ⟨a, xs, rfl, ht, hv⟩
    · exact ⟨_, rfl, _, _, t, _, false, rfl, .ty "tuple", ht, kt, false, rfl, iteT (iteT q)⟩
    · refine ⟨_, rfl, _, _, _, _, true, rfl, .ty "tuple", sqt_ty ht, kit_ty (by decide +kernel), true, rfl, iteF ?_⟩
      refine ⟨_, rfl, a, xs, rfl, .inr ht, rfl, _, rfl, ?_⟩
      rcases hv with ⟨rfl, hl⟩ | ⟨x, y, rfl, hv⟩
      · rw [decide_eq_false (show ¬ V.int (xs.length : Int) = V.int 2 from fun z => hl (by have := V.int.inj z; omega))]
        exact iteT q
      · refine iteF ?_
        refine ⟨_, rfl, a, _, rfl, ht, rfl, x, [y], rfl, y, [], rfl, rfl, ?_⟩
        rcases hv with ⟨rfl, hx⟩ | ⟨i, rfl, rfl, hy⟩ | ⟨i, j, rfl, rfl, rfl⟩
        · exact ⟨_, rfl, _, _, rfl, hx, false, rfl, iteT (iteT q)⟩
        · refine ⟨_, rfl, _, _, rfl, whole_int, true, rfl, iteF ?_⟩
          exact ⟨_, rfl, _, _, rfl, hy, false, rfl, iteT (iteT q)⟩
        · refine ⟨_, rfl, _, _, rfl, whole_int, true, rfl, iteF ⟨_, rfl, _, _, rfl, whole_int, true, rfl, iteF ?_⟩⟩
          refine ⟨_, rfl, _, _, rfl, rfl, _, rfl, ?_⟩
          by_cases c : 0 < j
          · rw [decide_eq_false (show ¬ j ≤ 0 by omega)]
            refine iteF ?_
            refine ⟨_, rfl, _, rfl, _, rfl, _, _, rfl, by split <;> omega, by omega, rfl, ?_⟩
            rw [gcd_abs]
            rw [decide_eq_true c, Bool.true_and] at q
            rw [decide_eq_decide.mpr (show V.int (Int.gcd i j : Int) = V.int 1 ↔ (Int.gcd i j : Int) = 1 from ⟨V.int.inj, congrArg V.int⟩)]
            exact q
          · rw [decide_eq_true (show j ≤ 0 by omega)]
            rw [decide_eq_false c, Bool.false_and] at q
            exact iteT q
theorem ok_part (T : Tx K mg) : FnOk P w K mg base CX0 3 T.f_part T.d_part ["above", "below"] (spLow K) := by
  refine T.F_part.ok sc_part (fun vs H Q E h => ?_) (fun cdv A outer s H vs Q E hr h => ?_)
  · obtain ⟨a, b, rfl, _⟩ := h
    rfl
  · obtain ⟨a, b, rfl, hb, h9, q⟩ := h
    refine ⟨_, PSs.nox (pss_cons (ps_if (PW.pt (pw_or (pt_not (pt_val (pe_call (ok_is_whole T) (hr.mono (by decide)) (by rfl) T.g_is_whole T.F_is_whole.kp T.b_is_whole .nil pass0 (pa_cons (pv 0) pa_nil)))) (pw_or1 (pt_not (pt_val (pe_call (ok_is_whole T) (hr.mono (by decide)) (by rfl) T.g_is_whole T.F_is_whole.kp T.b_is_whole .nil pass0 (pa_cons (pv 1) pa_nil))))))) (pss_one ps_never) pss_nil)
        (pss_cons (ps_if (pt_cmpR op_eq (pv 1) pe_int (nomark _)) (pss_one ps_never) pss_nil)
        (pss_cons (ps_if (pt_cmpR op_lt (pv 1) pe_int (nomark _)) (pss_one (ps_par (i := 0) (j := 1) (by rfl) sc_part.nd rfl rfl (by decide) rfl rfl (pa_cons (pe_un un_neg (pv 0)) (pa_cons (pe_un un_neg (pv 1)) pa_nil)) (by rfl))) pss_nil)
        (pss_cons (ps_set (i := 2) sc_part.nd rfl (.inl rfl) (pe_call (ok_greatest_common T) (hr.mono (by decide)) (by rfl) T.g_greatest_common T.F_greatest_common.kp T.b_greatest_common .nil pass0 (pa_cons (pe_callB call_abs (by rfl) T.n_abs (by decide +kernel) (pa_cons (pv 0) pa_nil)) (pa_cons (pv 1) pa_nil))))
        (pss_one (ps_ret (pe_tup (pa_cons (pe_op op_fdivW (pv 0) (pv 2)) (pa_cons (pe_op op_fdivW (pv 1) (pv 2)) pa_nil))))))))), ?_⟩
    refine ⟨_, rfl, _, _, rfl, whole_int, true, rfl, iteF ⟨_, rfl, _, _, rfl, whole_int, true, rfl, iteF ?_⟩⟩
    refine ⟨_, rfl, rfl, _, rfl, ?_⟩
    rw [show decide (V.int b = V.int 0) = false from decide_eq_false (fun z => by have := V.int.inj z; omega)]
    refine iteF ?_
    refine ⟨_, rfl, _, _, rfl, rfl, _, rfl, ?_⟩
    rw [show decide (b < 0) = false from decide_eq_false (by omega)]
    refine iteF ?_
    refine ⟨_, rfl, _, rfl, _, rfl, _, _, rfl, by split <;> omega, by omega, ?_⟩
    rw [gcd_abs]
    have g0 : 0 < (Int.gcd a b : Int) := by have := gcd_pos (a := a) (b := b) (by omega); omega
    have g9 : Bt 8999 (Int.gcd a b : Int) := gcd_bt hb h9
    refine ⟨_, rfl, _, rfl, _, _, rfl, rfl, g9.cdiv g0 (by decide), _, rfl, _, rfl, _, _, rfl, rfl, g9.cdiv g0 (by decide), by show 2 ≤ sizeLine; decide, fun p np => q _ _ (same_new np) TupI.new⟩
theorem ok_plus (T : Tx K mg) : FnOk P w K mg base CX0 4 T.f_plus T.d_plus ["one", "other"] (spTwo K fun a b c d => lo (a * d + c * b) (b * d)) := by
  refine T.F_plus.ok sc_plus (fun vs H Q E h => ?_) (fun cdv A outer s H vs Q E hr h => ?_)
  · obtain ⟨u, v, a, b, c, d, rfl, _⟩ := h
    rfl
  · obtain ⟨u, v, a, b, c, d, rfl, ⟨t, rfl, ht⟩, ⟨r, rfl, hv⟩, hb, hd, ba, bb, bc, bd, q⟩ := h
    refine ⟨_, (pss_one (ps_ret (pe_call (ok_part T) (hr.mono (by decide)) (by rfl) T.g_part T.F_part.kp T.b_part .nil pass0 (pa_cons (pe_op op_add (pe_op op_mulW (pe_ix ix_tup (pv 0) pe_int (fun _ _ => rfl)) (pe_ix ix_tup (pv 1) pe_int (fun _ _ => rfl))) (pe_op op_mulW (pe_ix ix_tup (pv 1) pe_int (fun _ _ => rfl)) (pe_ix ix_tup (pv 0) pe_int (fun _ _ => rfl)))) (pa_cons (pe_op op_mulW (pe_ix ix_tup (pv 0) pe_int (fun _ _ => rfl)) (pe_ix ix_tup (pv 1) pe_int (fun _ _ => rfl))) pa_nil))))), ?_⟩
    refine ⟨_, rfl, t, _, 0, _, rfl, rfl, ht, atI_nat (j := 0) rfl, _, rfl, r, _, 1, _, rfl, rfl, hv, atI_nat (j := 1) rfl, _, _, rfl, rfl, ba.cmul bd (by decide), ?_⟩
    refine ⟨_, rfl, r, _, 0, _, rfl, rfl, hv, atI_nat (j := 0) rfl, _, rfl, t, _, 1, _, rfl, rfl, ht, atI_nat (j := 1) rfl, _, _, rfl, rfl, bc.cmul bb (by decide), ?_⟩
    refine ⟨_, _, rfl, rfl, ?_⟩
    refine ⟨_, rfl, t, _, 1, _, rfl, rfl, ht, atI_nat (j := 1) rfl, _, rfl, r, _, 1, _, rfl, rfl, hv, atI_nat (j := 1) rfl, _, _, rfl, rfl, bb.cmul bd (by decide), ?_⟩
    exact ⟨_, _, rfl, Int.mul_pos hb hd, (bb.mul bd).mono (by decide), q⟩
theorem ok_minus (T : Tx K mg) : FnOk P w K mg base CX0 4 T.f_minus T.d_minus ["one", "other"] (spTwo K fun a b c d => lo (a * d - c * b) (b * d)) := by
  refine T.F_minus.ok sc_minus (fun vs H Q E h => ?_) (fun cdv A outer s H vs Q E hr h => ?_)
  · obtain ⟨u, v, a, b, c, d, rfl, _⟩ := h
    rfl
  · obtain ⟨u, v, a, b, c, d, rfl, ⟨t, rfl, ht⟩, ⟨r, rfl, hv⟩, hb, hd, ba, bb, bc, bd, q⟩ := h
    refine ⟨_, (pss_one (ps_ret (pe_call (ok_part T) (hr.mono (by decide)) (by rfl) T.g_part T.F_part.kp T.b_part .nil pass0 (pa_cons (pe_op op_sub (pe_op op_mulW (pe_ix ix_tup (pv 0) pe_int (fun _ _ => rfl)) (pe_ix ix_tup (pv 1) pe_int (fun _ _ => rfl))) (pe_op op_mulW (pe_ix ix_tup (pv 1) pe_int (fun _ _ => rfl)) (pe_ix ix_tup (pv 0) pe_int (fun _ _ => rfl)))) (pa_cons (pe_op op_mulW (pe_ix ix_tup (pv 0) pe_int (fun _ _ => rfl)) (pe_ix ix_tup (pv 1) pe_int (fun _ _ => rfl))) pa_nil))))), ?_⟩
    refine ⟨_, rfl, t, _, 0, _, rfl, rfl, ht, atI_nat (j := 0) rfl, _, rfl, r, _, 1, _, rfl, rfl, hv, atI_nat (j := 1) rfl, _, _, rfl, rfl, ba.cmul bd (by decide), ?_⟩
    refine ⟨_, rfl, r, _, 0, _, rfl, rfl, hv, atI_nat (j := 0) rfl, _, rfl, t, _, 1, _, rfl, rfl, ht, atI_nat (j := 1) rfl, _, _, rfl, rfl, bc.cmul bb (by decide), ?_⟩
    refine ⟨_, _, rfl, rfl, ?_⟩
    refine ⟨_, rfl, t, _, 1, _, rfl, rfl, ht, atI_nat (j := 1) rfl, _, rfl, r, _, 1, _, rfl, rfl, hv, atI_nat (j := 1) rfl, _, _, rfl, rfl, bb.cmul bd (by decide), ?_⟩
    exact ⟨_, _, rfl, Int.mul_pos hb hd, (bb.mul bd).mono (by decide), q⟩
theorem ok_times (T : Tx K mg) : FnOk P w K mg base CX0 4 T.f_times T.d_times ["one", "many"] (spTimes K) := by
  refine T.F_times.ok sc_times (fun vs H Q E h => ?_) (fun cdv A outer s H vs Q E hr h => ?_)
  · obtain ⟨u, a, b, m, rfl, _⟩ := h
    rfl
  · obtain ⟨u, a, b, m, rfl, ⟨t, rfl, ht⟩, hb, ba, bb, bm, q⟩ := h
    refine ⟨_, (pss_one (ps_ret (pe_call (ok_part T) (hr.mono (by decide)) (by rfl) T.g_part T.F_part.kp T.b_part .nil pass0 (pa_cons (pe_op op_mulW (pe_ix ix_tup (pv 0) pe_int (fun _ _ => rfl)) (pv 1)) (pa_cons (pe_ix ix_tup (pv 0) pe_int (fun _ _ => rfl)) pa_nil))))), ?_⟩
    refine ⟨_, rfl, t, _, 0, _, rfl, rfl, ht, atI_nat (j := 0) rfl, _, rfl, _, _, rfl, rfl, ba.cmul bm (by decide), ?_⟩
    refine ⟨_, rfl, t, _, 1, _, rfl, rfl, ht, atI_nat (j := 1) rfl, ?_⟩
    exact ⟨_, _, rfl, hb, bb.mono (by decide), q⟩
theorem ok_is_less (T : Tx K mg) : FnOk P w K mg base CX0 1 T.f_is_less T.d_is_less ["one", "other"] (spLess K) := by
  refine T.F_is_less.ok sc_is_less (fun vs H Q E h => ?_) (fun cdv A outer s H vs Q E hr h => ?_)
  · obtain ⟨u, v, a, b, c, d, rfl, _⟩ := h
    rfl
  · obtain ⟨u, v, a, b, c, d, rfl, ⟨t, rfl, ht⟩, ⟨r, rfl, hv⟩, ba, bb, bc, bd, q⟩ := h
    refine ⟨_, (pss_one (ps_ret (pe_cmpR op_lt (pe_op op_mulW (pe_ix ix_tup (pv 0) pe_int (fun _ _ => rfl)) (pe_ix ix_tup (pv 1) pe_int (fun _ _ => rfl))) (pe_op op_mulW (pe_ix ix_tup (pv 1) pe_int (fun _ _ => rfl)) (pe_ix ix_tup (pv 0) pe_int (fun _ _ => rfl))) (nomark _)))), ?_⟩
    refine ⟨_, rfl, t, _, 0, _, rfl, rfl, ht, atI_nat (j := 0) rfl, _, rfl, r, _, 1, _, rfl, rfl, hv, atI_nat (j := 1) rfl, _, _, rfl, rfl, ba.cmul bd (by decide), ?_⟩
    refine ⟨_, rfl, r, _, 0, _, rfl, rfl, hv, atI_nat (j := 0) rfl, _, rfl, t, _, 1, _, rfl, rfl, ht, atI_nat (j := 1) rfl, _, _, rfl, rfl, bc.cmul bb (by decide), ?_⟩
    exact ⟨_, _, rfl, rfl, q⟩
theorem ok_most (T : Tx K mg) : FnOk P w K mg base CX0 4 T.f_most T.d_most ["weight", "seats", "many"] (spMostW K) := by
  refine T.F_most.ok sc_most (fun vs H Q E h => ?_) (fun cdv A outer s H vs Q E hr h => ?_)
  · obtain ⟨a, n, k, rfl, _⟩ := h
    rfl
  · obtain ⟨a, n, k, rfl, ba, bn, bk, q⟩ := h
    refine ⟨_, (pss_one (ps_ret (pe_call (ok_part T) (hr.mono (by decide)) (by rfl) T.g_part T.F_part.kp T.b_part .nil pass0 (pa_cons (pe_op op_mulW (pe_op op_mulW (pv 0) (pv 2)) (pe_op op_sub (pv 1) (pv 2))) (pa_cons pe_int pa_nil))))), ?_⟩
    refine ⟨_, rfl, _, rfl, _, _, rfl, rfl, ba.cmul bk (by decide), _, rfl, _, rfl, _, _, rfl, rfl, _, _, rfl, rfl, (ba.mul bk).cmul (bn.sub bk) (by decide), ?_⟩
    exact ⟨_, _, rfl, by decide, by unfold Bt; decide +kernel, q⟩
theorem ok_lpot (T : Tx K mg) : FnOk P w K mg base CX0 1 T.f_lpot T.d_lpot ["_law_script", "_law_k"] (spPot K) := by
  refine T.F_lpot.ok sc_lpot (fun vs H Q E h => ?_) (fun cdv A outer s H vs Q E hr h => ?_)
  · obtain ⟨a, ns, k, rfl, _⟩ := h
    rfl
  · obtain ⟨a, ns, k, rfl, hS, k0, k1, q⟩ := h
    refine ⟨_, (pss_cons (ps_set (i := 2) sc_lpot.nd rfl (.inl rfl) pe_int)
        (pss_cons (ps_if (pt_cmpR op_lt (pv 1) (pe_callB call_len_seq (by rfl) T.n_len (by decide +kernel) (pa_cons (pv 0) pa_nil)) (nomark _)) (pss_one (ps_set (i := 2) sc_lpot.nd rfl (.inl rfl) (pe_callB call_abs (by rfl) T.n_abs (by decide +kernel) (pa_cons (pe_ix ix_list (pv 0) (pv 1) (fun _ _ => rfl)) pa_nil)))) pss_nil)
        (pss_one (ps_ret (pe_lst (pa_cons (pe_callB (call_max2 (by rfl)) (by rfl) T.n_max (by decide +kernel) (pa_cons pe_int (pa_cons (pe_op op_sub (pv 2) (pe_op op_pow pe_int pe_int)) pa_nil))) (pa_cons (pe_op op_add (pe_op op_mod (pe_op op_pow (pe_op op_add (pe_op op_add (pe_op op_mod (pv 2) pe_int) (pe_op op_mulW pe_int (pv 1))) pe_int) pe_int) pe_int) pe_int) pa_nil))))))), ?_⟩
    have fin : ∀ c : Int, 0 ≤ c → (tRet (tLst (tCons (tCB (fun xs H Q => ∃ i j, xs = [.int i, .int j] ∧ Q (.int (if j > i then j else i)) H) (tCons (tC (.int 0)) (tCons (tOp (rI0 fun i j => .int (i - j)) (tVar 2) (tOp (rI CPow fun i j => .int (i ^ j.toNat)) (tC (.int 10)) (tC (.int 18)))) tNil))) (tCons (tOp (rI0 fun i j => .int (i + j)) (tOp (rI (fun _ j => 0 < j) fun i j => .int (i % j)) (tOp (rI CPow fun i j => .int (i ^ j.toNat)) (tOp (rI0 fun i j => .int (i + j)) (tOp (rI0 fun i j => .int (i + j)) (tOp (rI (fun _ j => 0 < j) fun i j => .int (i % j)) (tVar 2) (tC (.int 2147483423))) (tOp (rI CMulW fun i j => .int (i * j)) (tC (.int 89)) (tVar 1))) (tC (.int 7))) (tC (.int 2))) (tC (.int 2147483399))) (tC (.int 1))) tNil)))) { nx := fun _ H' => Q .non H', rt := Q } [some (.ref a), some (.int k), some (.int c)] H := by
      intro c hc
      refine ⟨_, rfl, _, _, rfl, rfl, ⟨by decide, by decide, by decide⟩, _, _, rfl, rfl, _, _, rfl, ?_⟩
      have m0 : 0 ≤ c % 2147483423 := Int.emod_nonneg _ (by decide)
      have m1 : c % 2147483423 < 2147483423 := Int.emod_lt_of_pos _ (by decide)
      refine ⟨_, rfl, _, _, rfl, rfl, by show (0 : Int) < 2147483423; decide, _, rfl, _, _, rfl, rfl, ?_, _, _, rfl, rfl, _, _, rfl, rfl, _, _, rfl, rfl, ⟨by decide, by decide, ?_⟩, _, _, rfl, rfl, by show (0 : Int) < 2147483399; decide, _, _, rfl, rfl, by show 2 ≤ sizeLine; decide, fun p np => ?_⟩
      · exact Bt.cmul (n := 10) (m := 10) (Bt.of_lt (by decide) (by decide)) (Bt.of_lt (by omega) (by omega)) (by decide)
      · show (c % 2147483423 + 89 * k + 7).natAbs < 2 ^ 64
        omega
      · refine q p _ (same_new np) np ⟨_, _, upd_same, by split <;> omega, ?_, ?_⟩
        · have := Int.emod_nonneg ((c % 2147483423 + 89 * k + 7) ^ (2 : Int).toNat) (b := 2147483399) (by decide)
          omega
        · have := Int.emod_lt_of_pos ((c % 2147483423 + 89 * k + 7) ^ (2 : Int).toNat) (b := 2147483399) (by decide)
          omega
    refine ⟨_, rfl, _, rfl, a, _, rfl, .inl hS, _, _, rfl, rfl, _, rfl, ?_⟩
    refine ite2 (fun c => ?_) (fun c => ?_)
    · have c := of_decide_eq_true c
      rw [List.length_map] at c
      have hk : k.toNat < ns.length := by omega
      have g : (ns.map V.int)[k.toNat]? = some (.int ns[k.toNat]) := by
        rw [List.getElem?_map, List.getElem?_eq_getElem hk]
        rfl
      refine ⟨_, rfl, _, rfl, a, _, k, _, rfl, rfl, hS, at_of (j := k.toNat) (by omega) g, _, rfl, ?_⟩
      exact fin _ (by split <;> omega)
    · exact fin 0 (by decide)
theorem ok_ldigit (T : Tx K mg) : FnOk P w K mg base CX0 1 T.f_ldigit T.d_ldigit ["_law_pot_here", "_law_many"] spDigit := by
  refine T.F_ldigit.ok sc_ldigit (fun vs H Q E h => ?_) (fun cdv A outer s H vs Q E hr h => ?_)
  · obtain ⟨p, m, rfl, _⟩ := h
    rfl
  · obtain ⟨p, m, rfl, ⟨x, y, hp, hx, hy, hy2⟩, hm, bm, q⟩ := h
    refine ⟨_, (pss_cons (ps_if (pt_cmpR op_gt (pe_ix ix_list (pv 0) pe_int (fun _ _ => rfl)) pe_int (nomark _)) (pss_cons (ps_asg (pe_callB call_divmodW (by rfl) T.n_divmod (by decide +kernel) (pa_cons (pe_ix ix_list (pv 0) pe_int (fun _ _ => rfl)) (pa_cons (pv 1) pa_nil))) (pg_tup (by rfl) (pgs_cons (pg_sub (pv 0) pe_int set_list) (pgs_cons (pg_name (i := 2) sc_ldigit.nd rfl (.inl rfl)) pgs_nil))))
        (pss_one (ps_ret (pv 2)))) pss_nil)
        (pss_cons (ps_asg (pe_op op_mod (pe_op op_add (pe_op op_mulW (pe_ix ix_list (pv 0) pe_int (fun _ _ => rfl)) pe_int) pe_int) pe_int) (pg_sub (pv 0) pe_int set_list))
        (pss_one (ps_ret (pe_op op_mod (pe_op op_fdivW (pe_op op_mod (pe_op op_mulW (pe_ix ix_list (pv 0) pe_int (fun _ _ => rfl)) (pe_ix ix_list (pv 0) pe_int (fun _ _ => rfl))) pe_int) pe_int) (pv 1)))))), ?_⟩
    have hL : SqL K H p [.int x, .int y] := .inl (.inl hp)
    refine ⟨_, rfl, p, _, 0, _, rfl, rfl, hL, atI_nat (j := 0) rfl, _, _, rfl, rfl, _, rfl, ?_⟩
    refine ite2 (fun c => ?_) (fun c => ?_)
    · have c := of_decide_eq_true c
      refine ⟨_, rfl, p, _, 0, _, rfl, rfl, hL, atI_nat (j := 0) rfl, _, rfl, _, _, rfl, ⟨hm, PyProof.noPylong_of_log2 (Nat.lt_of_lt_of_le (PySem.Flt.log2_lt_of (by decide) bm) (by decide))⟩, fun t nt => ?_⟩
      have npt : p ≠ t := ne_of_none hp nt
      have hp' : (upd H t (.tup [.int (x / m), .int (x % m)])) p = some (.lst [.int x, .int y]) := by rw [upd_ne npt]; exact hp
      refine ⟨t, _, rfl, .inl (.inl upd_same), rfl, _, _, rfl, _, rfl, p, _, _, 0, rfl, rfl, hp', rfl, _, _, rfl, rfl, ?_⟩
      refine ⟨_, rfl, ?_⟩
      refine q _ _ (Int.emod_nonneg x (by omega)) (Int.emod_lt_of_pos x hm) ((Same.x (same_new nt)).trans samex_set) ⟨x / m, y, upd_same, Int.ediv_nonneg (by omega) (by omega), hy, hy2⟩
    · refine ⟨_, rfl, p, _, 1, _, rfl, rfl, hL, atI_nat (j := 1) rfl, _, _, rfl, rfl, ?_, _, _, rfl, rfl, _, _, rfl, rfl, by show (0 : Int) < 2147483563; decide, ?_⟩
      · exact Bt.cmul (n := 32) (m := 32) (Bt.of_lt (by omega) (by omega)) (Bt.of_lt (by decide) (by decide)) (by decide)
      · refine ⟨_, rfl, p, _, _, 1, rfl, rfl, hp, rfl, ?_⟩
        have z0 : 0 ≤ (y * 45763 + 10061) % 2147483563 := Int.emod_nonneg _ (by decide)
        have z1 : (y * 45763 + 10061) % 2147483563 < 2147483563 := Int.emod_lt_of_pos _ (by decide)
        have hL2 : SqL K (upd H p (.lst [.int x, .int ((y * 45763 + 10061) % 2147483563)])) p [.int x, .int ((y * 45763 + 10061) % 2147483563)] := .inl (.inl upd_same)
        refine ⟨_, rfl, p, _, 1, _, rfl, rfl, hL2, atI_nat (j := 1) rfl, _, rfl, p, _, 1, _, rfl, rfl, hL2, atI_nat (j := 1) rfl, _, _, rfl, rfl, ?_, _, _, rfl, rfl, by show (0 : Int) < 2147483477; decide, _, _, rfl, rfl, ?_, _, rfl, _, _, rfl, rfl, hm, ?_⟩
        · exact Bt.cmul (n := 32) (m := 32) (Bt.of_lt (by omega) (by omega)) (Bt.of_lt (by omega) (by omega)) (by decide)
        · exact Bt.cdiv (n := 10) (by decide) (Bt.of_lt (by decide) (by decide)) (by decide)
        · exact q _ _ (Int.emod_nonneg _ (by omega)) (Int.emod_lt_of_pos _ hm) samex_set ⟨x, _, upd_same, hx, z0, by omega⟩
theorem ok_llow (T : Tx K mg) : FnOk P w K mg base CX0 1 T.f_llow T.d_llow ["_law_above", "_law_below"] (spLow K) := by
  refine T.F_llow.ok sc_llow (fun vs H Q E h => ?_) (fun cdv A outer s H vs Q E hr h => ?_)
  · obtain ⟨a, b, rfl, _⟩ := h
    rfl
  · obtain ⟨x, y, rfl, hy, h9, q⟩ := h
    refine ⟨_, (pss_cons (ps_par (i := 2) (j := 3) (by rfl) sc_llow.nd rfl rfl (by decide) rfl rfl (pa_cons (pe_callB call_abs (by rfl) T.n_abs (by decide +kernel) (pa_cons (pv 0) pa_nil)) (pa_cons (pv 1) pa_nil)) (by rfl))
        (pss_cons (ps_while PassesOwn.never (pt_cmpR op_gt (pv 3) pe_int (nomark _)) (pss_one (ps_par (i := 2) (j := 3) (by rfl) sc_llow.nd rfl rfl (by decide) rfl rfl (pa_cons (pv 3) (pa_cons (pe_op op_mod (pv 2) (pv 3)) pa_nil)) (by rfl))))
        (pss_one (ps_ret (pe_tup (pa_cons (pe_op op_fdivW (pv 0) (pv 2)) (pa_cons (pe_op op_fdivW (pv 1) (pv 2)) pa_nil))))))), ?_⟩
    refine ⟨_, rfl, _, rfl, _, rfl, _, _, rfl, ?_⟩
    refine while_by (fun σ H' => ∃ a b : Int, σ = [some (.int x), some (.int y), some (.int a), some (.int b)] ∧ 0 ≤ a ∧ 0 ≤ b ∧ Int.gcd a b = Int.gcd x y ∧ H' = H)
      (fun σ _ => match σ with | [_, _, _, some (.int b)] => b.toNat | _ => 0) ⟨_, _, rfl, by split <;> omega, by omega, gcd_abs x y, rfl⟩ ?_ ?_
    · rintro σ H' ⟨a, b, rfl, ha, hb, eg, rfl⟩
      refine ⟨_, rfl, _, _, rfl, rfl, _, rfl, ?_⟩
      by_cases c : b = 0
      · subst c
        rw [show decide ((0 : Int) < 0) = false from rfl]
        refine iteF ?_
        have e := gcd_zero ha
        rw [eg] at e
        have g0 : 0 < (Int.gcd x y : Int) := by have := gcd_pos (a := x) (b := y) (by omega); omega
        have g9 : Bt 8999 (Int.gcd x y : Int) := gcd_bt hy h9
        rw [← e]
        refine ⟨_, rfl, _, rfl, _, _, rfl, rfl, g9.cdiv g0 (by decide), _, rfl, _, rfl, _, _, rfl, rfl, g9.cdiv g0 (by decide), by show 2 ≤ sizeLine; decide, fun p np => q _ _ (same_new np) TupI.new⟩
      · have hb' : 0 < b := by omega
        rw [show decide (0 < b) = true from decide_eq_true hb']
        refine iteT ?_
        refine ⟨_, rfl, _, rfl, _, rfl, _, _, rfl, rfl, hb', _, _, rfl, ?_, ?_⟩
        · exact ⟨b, a % b, rfl, hb, Int.emod_nonneg a c, (gcd_step ha hb').trans eg, rfl⟩
        · show (a % b).toNat < b.toNat
          have := Int.emod_lt_of_pos a hb'
          omega
    · rintro σ H Q Q' k ⟨v, h1, i, j, h2, h3, c, h4, q⟩
      exact ⟨v, h1, i, j, h2, h3, c, h4, k _ _ q⟩
theorem ok_lplus (T : Tx K mg) : FnOk P w K mg base CX0 2 T.f_lplus T.d_lplus ["_law_one_here", "_law_other"] (spTwo K fun a b c d => lo (a * d + c * b) (b * d)) := by
  refine T.F_lplus.ok sc_lplus (fun vs H Q E h => ?_) (fun cdv A outer s H vs Q E hr h => ?_)
  · obtain ⟨u, v, a, b, c, d, rfl, _⟩ := h
    rfl
  · obtain ⟨u, v, a, b, c, d, rfl, ⟨t, rfl, ht⟩, ⟨r, rfl, hv⟩, hb, hd, ba, bb, bc, bd, q⟩ := h
    refine ⟨_, (pss_one (ps_ret (pe_call (ok_llow T) (hr.mono (by decide)) (by rfl) T.g_llow T.F_llow.kp T.b_llow .nil pass0 (pa_cons (pe_op op_add (pe_op op_mulW (pe_ix ix_tup (pv 0) pe_int (fun _ _ => rfl)) (pe_ix ix_tup (pv 1) pe_int (fun _ _ => rfl))) (pe_op op_mulW (pe_ix ix_tup (pv 1) pe_int (fun _ _ => rfl)) (pe_ix ix_tup (pv 0) pe_int (fun _ _ => rfl)))) (pa_cons (pe_op op_mulW (pe_ix ix_tup (pv 0) pe_int (fun _ _ => rfl)) (pe_ix ix_tup (pv 1) pe_int (fun _ _ => rfl))) pa_nil))))), ?_⟩
    refine ⟨_, rfl, t, _, 0, _, rfl, rfl, ht, atI_nat (j := 0) rfl, _, rfl, r, _, 1, _, rfl, rfl, hv, atI_nat (j := 1) rfl, _, _, rfl, rfl, ba.cmul bd (by decide), ?_⟩
    refine ⟨_, rfl, r, _, 0, _, rfl, rfl, hv, atI_nat (j := 0) rfl, _, rfl, t, _, 1, _, rfl, rfl, ht, atI_nat (j := 1) rfl, _, _, rfl, rfl, bc.cmul bb (by decide), ?_⟩
    refine ⟨_, _, rfl, rfl, ?_⟩
    refine ⟨_, rfl, t, _, 1, _, rfl, rfl, ht, atI_nat (j := 1) rfl, _, rfl, r, _, 1, _, rfl, rfl, hv, atI_nat (j := 1) rfl, _, _, rfl, rfl, bb.cmul bd (by decide), ?_⟩
    exact ⟨_, _, rfl, Int.mul_pos hb hd, (bb.mul bd).mono (by decide), q⟩
theorem ok_ltimes (T : Tx K mg) : FnOk P w K mg base CX0 2 T.f_ltimes T.d_ltimes ["_law_one_here", "_law_many"] (spTimes K) := by
  refine T.F_ltimes.ok sc_ltimes (fun vs H Q E h => ?_) (fun cdv A outer s H vs Q E hr h => ?_)
  · obtain ⟨u, a, b, m, rfl, _⟩ := h
    rfl
  · obtain ⟨u, a, b, m, rfl, ⟨t, rfl, ht⟩, hb, ba, bb, bm, q⟩ := h
    refine ⟨_, (pss_one (ps_ret (pe_call (ok_llow T) (hr.mono (by decide)) (by rfl) T.g_llow T.F_llow.kp T.b_llow .nil pass0 (pa_cons (pe_op op_mulW (pe_ix ix_tup (pv 0) pe_int (fun _ _ => rfl)) (pv 1)) (pa_cons (pe_ix ix_tup (pv 0) pe_int (fun _ _ => rfl)) pa_nil))))), ?_⟩
    refine ⟨_, rfl, t, _, 0, _, rfl, rfl, ht, atI_nat (j := 0) rfl, _, rfl, _, _, rfl, rfl, ba.cmul bm (by decide), ?_⟩
    refine ⟨_, rfl, t, _, 1, _, rfl, rfl, ht, atI_nat (j := 1) rfl, ?_⟩
    exact ⟨_, _, rfl, hb, bb.mono (by decide), q⟩
theorem ok_lless (T : Tx K mg) : FnOk P w K mg base CX0 1 T.f_lless T.d_lless ["_law_one_here", "_law_other"] (spLess K) := by
  refine T.F_lless.ok sc_lless (fun vs H Q E h => ?_) (fun cdv A outer s H vs Q E hr h => ?_)
  · obtain ⟨u, v, a, b, c, d, rfl, _⟩ := h
    rfl
  · obtain ⟨u, v, a, b, c, d, rfl, ⟨t, rfl, ht⟩, ⟨r, rfl, hv⟩, ba, bb, bc, bd, q⟩ := h
    refine ⟨_, (pss_one (ps_ret (pe_cmpR op_lt (pe_op op_mulW (pe_ix ix_tup (pv 0) pe_int (fun _ _ => rfl)) (pe_ix ix_tup (pv 1) pe_int (fun _ _ => rfl))) (pe_op op_mulW (pe_ix ix_tup (pv 1) pe_int (fun _ _ => rfl)) (pe_ix ix_tup (pv 0) pe_int (fun _ _ => rfl))) (nomark _)))), ?_⟩
    refine ⟨_, rfl, t, _, 0, _, rfl, rfl, ht, atI_nat (j := 0) rfl, _, rfl, r, _, 1, _, rfl, rfl, hv, atI_nat (j := 1) rfl, _, _, rfl, rfl, ba.cmul bd (by decide), ?_⟩
    refine ⟨_, rfl, r, _, 0, _, rfl, rfl, hv, atI_nat (j := 0) rfl, _, rfl, t, _, 1, _, rfl, rfl, ht, atI_nat (j := 1) rfl, _, _, rfl, rfl, bc.cmul bb (by decide), ?_⟩
    exact ⟨_, _, rfl, rfl, q⟩
theorem ok_lmost (T : Tx K mg) : FnOk P w K mg base CX0 2 T.f_lmost T.d_lmost ["_law_weight", "_law_many", "_law_k"] (spMostW K) := by
  refine T.F_lmost.ok sc_lmost (fun vs H Q E h => ?_) (fun cdv A outer s H vs Q E hr h => ?_)
  · obtain ⟨a, n, k, rfl, _⟩ := h
    rfl
  · obtain ⟨a, n, k, rfl, ba, bn, bk, q⟩ := h
    refine ⟨_, (pss_one (ps_ret (pe_call (ok_llow T) (hr.mono (by decide)) (by rfl) T.g_llow T.F_llow.kp T.b_llow .nil pass0 (pa_cons (pe_op op_mulW (pe_op op_mulW (pv 0) (pv 2)) (pe_op op_sub (pv 1) (pv 2))) (pa_cons pe_int pa_nil))))), ?_⟩
    refine ⟨_, rfl, _, rfl, _, _, rfl, rfl, ba.cmul bk (by decide), _, rfl, _, rfl, _, _, rfl, rfl, _, _, rfl, rfl, (ba.mul bk).cmul (bn.sub bk) (by decide), ?_⟩
    exact ⟨_, _, rfl, by decide, by unfold Bt; decide +kernel, q⟩
theorem ok_lis_whole (T : Tx K mg) : FnOk P w K mg base CX0 1 T.f_lis_whole T.d_lis_whole ["_law_thing_here"] (spWhole K) := by
  refine T.F_lis_whole.ok sc_lis_whole (fun vs H Q E h => ?_) (fun cdv A outer s H vs Q E hr h => ?_)
  · obtain ⟨v, b, rfl, _⟩ := h
    rfl
  · obtain ⟨v, b, rfl, ⟨t, b1, b2, ht, k1, k2, rfl⟩, q⟩ := h
    refine ⟨_, (pss_one (ps_ret (pe_and (pe_callB call_isi (by rfl) T.n_isinstance (by decide +kernel) (pa_cons (pv 0) (pa_cons (pe_bltn (v := .ty "int") (by rfl) T.n_int (by decide +kernel) rfl) pa_nil))) (pe_one (pe_not (pe_callB call_isi (by rfl) T.n_isinstance (by decide +kernel) (pa_cons (pv 0) (pa_cons (pe_bltn (v := .ty "bool") (by rfl) T.n_bool (by decide +kernel) rfl) pa_nil)))))))), ?_⟩
    refine ⟨v, rfl, v, _, t, _, b1, rfl, .ty "int", ht, k1, b1, rfl, ?_⟩
    cases b1 with
    | false => exact iteF q
    | true => exact iteT ⟨v, rfl, v, _, t, _, b2, rfl, .ty "bool", ht, k2, b2, rfl, q⟩

end
end WS

set_option Elab.async false
set_option linter.all false
set_option maxRecDepth 100000
set_option maxHeartbeats 4000000
namespace WS
open PySem PySem.Spec PyProof.Rows L2
section
variable {P : Program} {w : World} {K : PySem.W.Frag} {mg : Str → Option Value} {base : Heap}
theorem ok_is_weight (T : Tx K mg) : FnOk P w K mg base CX0 2 T.f_is_weight T.d_is_weight ["thing"] spWeightB := by
  refine T.F_is_weight.ok sc_is_weight (fun vs H Q E h => ?_) (fun cdv A outer s H vs Q E hr h => ?_)
  · obtain ⟨i, rfl, _⟩ := h
    rfl
  · obtain ⟨i, rfl, q⟩ := h
    refine ⟨_, (pss_one (ps_ret (pe_and (pe_call (ok_is_whole T) (hr.mono (by decide)) (by rfl) T.g_is_whole T.F_is_whole.kp T.b_is_whole .nil pass0 (pa_cons (pv 0) pa_nil)) (pe_one (pe_cmpR op_ge (pv 0) pe_int (nomark _)))))), ?_⟩
    exact ⟨_, rfl, _, _, rfl, whole_int, true, rfl, iteT ⟨_, rfl, _, _, rfl, rfl, q⟩⟩
theorem ok_is_number_to (T : Tx K mg) : FnOk P w K mg base CX0 2 T.f_is_number_to T.d_is_number_to ["thing", "last"] spNumTo := by
  refine T.F_is_number_to.ok sc_is_number_to (fun vs H Q E h => ?_) (fun cdv A outer s H vs Q E hr h => ?_)
  · obtain ⟨i, j, rfl, _⟩ := h
    rfl
  · obtain ⟨i, j, rfl, q⟩ := h
    refine ⟨_, (pss_one (ps_ret (pe_and (pe_call (ok_is_whole T) (hr.mono (by decide)) (by rfl) T.g_is_whole T.F_is_whole.kp T.b_is_whole .nil pass0 (pa_cons (pv 0) pa_nil)) (pe_one (pe_chain op_le op_le pe_int (pv 0) (pv 1)))))), ?_⟩
    refine ⟨_, rfl, _, _, rfl, whole_int, true, rfl, iteT ⟨_, rfl, _, _, rfl, rfl, _, rfl, ?_⟩⟩
    cases h0 : decide (0 ≤ i) with
    | false =>
      rw [h0, Bool.false_and] at q
      exact iteF q
    | true =>
      rw [h0, Bool.true_and] at q
      exact iteT ⟨_, rfl, _, _, rfl, rfl, q⟩
theorem ok_is_part_to (T : Tx K mg) : FnOk P w K mg base CX0 3 T.f_is_part_to T.d_is_part_to ["thing", "last"] (spPartTo K) := by
  refine T.F_is_part_to.ok sc_is_part_to (fun vs H Q E h => ?_) (fun cdv A outer s H vs Q E hr h => ?_)
  · obtain ⟨u, v, a, b, c, d, rfl, _⟩ := h
    rfl
  · obtain ⟨u, v, a, b, c, d, rfl, hu, hv, l, ba, bb, bc, bd, q⟩ := h
    refine ⟨_, (pss_one (ps_ret (pe_and (pe_call (ok_is_part T) (hr.mono (by decide)) (by rfl) T.g_is_part T.F_is_part.kp T.b_is_part .nil pass0 (pa_cons (pv 0) pa_nil)) (pe_one (pe_not (pe_call (ok_is_less T) (hr.mono (by decide)) (by rfl) T.g_is_less T.F_is_less.kp T.b_is_less .nil pass0 (pa_cons (pv 1) (pa_cons (pv 0) pa_nil)))))))), ?_⟩
    have hp : PairIs K H u true := by
      have := pair_of hu
      rwa [decide_eq_true l.1, decide_eq_true (by rw [l.2]; rfl)] at this
    exact ⟨_, rfl, _, _, rfl, hp, true, rfl, iteT ⟨_, rfl, _, rfl, _, _, _, _, _, _, rfl, hv, hu, bc, bd, ba, bb, _, rfl, q⟩⟩
theorem ok_row_holds (T : Tx K mg) : FnOk P w K mg base CX0 5 T.f_row_holds T.d_row_holds ["weight", "head", "thing"] (spRowH K) := by
  refine T.F_row_holds.ok sc_row_holds (fun vs H Q E h => ?_) (fun cdv A outer s H vs Q E hr h => ?_)
  · obtain ⟨W, h, v, n, k, u, s, r, rfl, _⟩ := h
    rfl
  · obtain ⟨W, h, v, n, k, u, s, r, rfl, hh, hu, ⟨t, x, y, z, rfl, ht, hx, hy, hz⟩, ⟨_, bW, k0, kn, n12, os⟩, ⟨a0, ak, b0, bn, bw, ol, om, oc⟩, q⟩ := h
    refine ⟨_, (pss_cons (ps_if (PW.pt (pw_or (pt_not (pt_val (pe_callB call_isi (by rfl) T.n_isinstance (by decide +kernel) (pa_cons (pv 2) (pa_cons (pe_bltn (v := .ty "tuple") (by rfl) T.n_tuple (by decide +kernel) rfl) pa_nil))))) (pw_or1 (pt_cmpR op_ne (pe_callB call_len_seq (by rfl) T.n_len (by decide +kernel) (pa_cons (pv 2) pa_nil)) pe_int (nomark _))))) (pss_one (ps_ret pe_bl)) pss_nil)
        (pss_cons (ps_asg (pv 1) (pg_tup (by rfl) (pgs_cons (pg_name (i := 3) sc_row_holds.nd rfl (.inl rfl)) (pgs_cons (pg_name (i := 4) sc_row_holds.nd rfl (.inl rfl)) (pgs_cons (pg_name (i := 5) sc_row_holds.nd rfl (.inl rfl)) pgs_nil)))))
        (pss_cons (ps_asg (pv 2) (pg_tup (by rfl) (pgs_cons (pg_name (i := 6) sc_row_holds.nd rfl (.inl rfl)) (pgs_cons (pg_name (i := 7) sc_row_holds.nd rfl (.inl rfl)) (pgs_cons (pg_name (i := 8) sc_row_holds.nd rfl (.inl rfl)) (pgs_cons (pg_name (i := 9) sc_row_holds.nd rfl (.inl rfl)) (pgs_cons (pg_name (i := 10) sc_row_holds.nd rfl (.inl rfl)) (pgs_cons (pg_name (i := 11) sc_row_holds.nd rfl (.inl rfl)) pgs_nil))))))))
        (pss_cons (ps_if (PW.pt (pw_or (pt_not (pt_val (pe_call (ok_is_weight T) (hr.mono (by decide)) (by rfl) T.g_is_weight T.F_is_weight.kp T.b_is_weight .nil pass0 (pa_cons (pv 6) pa_nil)))) (pw_or (pt_not (pt_val (pe_call (ok_is_number_to T) (hr.mono (by decide)) (by rfl) T.g_is_number_to T.F_is_number_to.kp T.b_is_number_to .nil pass0 (pa_cons (pv 7) (pa_cons (pv 4) pa_nil))))) (pw_or1 (pt_not (pt_val (pe_call (ok_is_number_to T) (hr.mono (by decide)) (by rfl) T.g_is_number_to T.F_is_number_to.kp T.b_is_number_to .nil pass0 (pa_cons (pv 8) (pa_cons (pe_op op_sub (pv 3) (pv 4)) pa_nil))))))))) (pss_one (ps_ret pe_bl)) pss_nil)
        (pss_cons (ps_if (pt_not (pt_val (pe_call (ok_is_part_to T) (hr.mono (by decide)) (by rfl) T.g_is_part_to T.F_is_part_to.kp T.b_is_part_to .nil pass0 (pa_cons (pv 9) (pa_cons (pe_call (ok_most T) (hr.mono (by decide)) (by rfl) T.g_most T.F_most.kp T.b_most .nil pass0 (pa_cons (pv 0) (pa_cons (pv 3) (pa_cons (pe_op op_sub (pv 4) (pv 7)) pa_nil)))) pa_nil))))) (pss_one (ps_ret pe_bl)) pss_nil)
        (pss_cons (ps_if (pt_not (pt_val (pe_call (ok_is_part_to T) (hr.mono (by decide)) (by rfl) T.g_is_part_to T.F_is_part_to.kp T.b_is_part_to .nil pass0 (pa_cons (pv 10) (pa_cons (pe_call (ok_most T) (hr.mono (by decide)) (by rfl) T.g_most T.F_most.kp T.b_most .nil pass0 (pa_cons (pv 0) (pa_cons (pv 3) (pa_cons (pe_op op_add (pv 4) (pv 8)) pa_nil)))) pa_nil))))) (pss_one (ps_ret pe_bl)) pss_nil)
        (pss_cons (ps_if (pt_val (pe_call (ok_is_less T) (hr.mono (by decide)) (by rfl) T.g_is_less T.F_is_less.kp T.b_is_less .nil pass0 (pa_cons (pe_call (ok_times T) (hr.mono (by decide)) (by rfl) T.g_times T.F_times.kp T.b_times .nil pass0 (pa_cons (pe_call (ok_minus T) (hr.mono (by decide)) (by rfl) T.g_minus T.F_minus.kp T.b_minus .nil pass0 (pa_cons (pv 10) (pa_cons (pv 5) pa_nil))) (pa_cons (pv 7) pa_nil))) (pa_cons (pe_call (ok_times T) (hr.mono (by decide)) (by rfl) T.g_times T.F_times.kp T.b_times .nil pass0 (pa_cons (pe_call (ok_minus T) (hr.mono (by decide)) (by rfl) T.g_minus T.F_minus.kp T.b_minus .nil pass0 (pa_cons (pv 5) (pa_cons (pv 9) pa_nil))) (pa_cons (pv 8) pa_nil))) pa_nil)))) (pss_one (ps_ret pe_bl)) pss_nil)
        (pss_one (ps_ret (pe_call (ok_is_part_to T) (hr.mono (by decide)) (by rfl) T.g_is_part_to T.F_is_part_to.kp T.b_is_part_to .nil pass0 (pa_cons (pv 11) (pa_cons (pe_call (ok_part T) (hr.mono (by decide)) (by rfl) T.g_part T.F_part.kp T.b_part .nil pass0 (pa_cons (pe_op op_mulW (pv 7) (pv 8)) (pa_cons pe_int pa_nil))) pa_nil)))))))))))), ?_⟩
    refine ⟨_, rfl, _, _, _, _, true, rfl, .ty "tuple", sqt_ty ht, kit_ty (by decide +kernel), true, rfl, iteF ?_⟩
    refine ⟨_, rfl, t, _, rfl, .inr ht, rfl, _, rfl, ?_⟩
    refine iteF ?_
    refine ⟨_, rfl, h, _, rfl, hh, rfl, _, _, rfl, _, _, rfl, _, _, rfl, rfl, ?_⟩
    refine ⟨_, rfl, t, _, rfl, ht, rfl, _, _, rfl, _, _, rfl, _, _, rfl, _, _, rfl, _, _, rfl, _, _, rfl, rfl, ?_⟩
    unfold rowB at q
    refine ⟨_, rfl, _, rfl, _, rfl, ?_⟩
    cases h1 : decide (r.w ≥ 1) with
    | false =>
      rw [show decide (1 ≤ r.w) = false from h1, Bool.false_and] at q
      exact iteT (iteT (q _ (Same.refl _)))
    | true =>
    rw [show decide (1 ≤ r.w) = true from h1, Bool.true_and] at q
    refine iteF ?_
    refine ⟨_, rfl, _, rfl, _, _, rfl, _, rfl, ?_⟩
    rw [decide_eq_true a0, decide_eq_true ak]
    refine iteF ?_
    refine ⟨_, rfl, _, rfl, _, rfl, _, _, rfl, rfl, _, _, rfl, _, rfl, ?_⟩
    rw [decide_eq_true b0, decide_eq_true bn]
    refine iteF ?_
    have o1 := mo_okq (W := W) (n := n) (k := k - r.a) bW (by omega) (by omega) n12
    have o2 := mo_okq (W := W) (n := n) (k := k + r.b) bW (by omega) (by omega) n12
    have bk : ∀ i : Int, 0 ≤ i → i ≤ 12 → Bt 200 i := fun i h0 h1 => Bt.of_lt (by omega) (by omega)
    refine ⟨_, rfl, _, rfl, _, rfl, _, rfl, _, rfl, _, _, rfl, rfl, _, _, _, rfl, bW.mono (by decide), bk _ (by omega) (by omega), bk _ (by omega) (by omega), fun m1 H1 s1 t1 => ?_⟩
    have ol1 := ol.okp (m := 4400) (by decide)
    have om1 := om.okp (m := 4400) (by decide)
    have os1 := os.okp (m := 4400) (by decide)
    have oc1 := oc.okp (m := 4400) (by decide)
    have oo1 := o1.okp (m := 4400) (by decide) (by decide)
    have oo2 := o2.okp (m := 4400) (by decide) (by decide)
    refine ⟨_, _, _, _, _, _, rfl, hx.same s1, t1, ol.1, ol1.2.1, ol1.2.2, oo1.2.1, oo1.2.2, _, rfl, ?_⟩
    show if (!!ltp (mo W n (k - r.a)) r.l) = true then _ else _
    cases h2 : ltp (mo W n (k - r.a)) r.l with
    | true =>
      rw [h2] at q
      exact iteT (q _ s1)
    | false =>
    rw [h2, Bool.not_false, Bool.true_and] at q
    refine iteF ?_
    refine ⟨_, rfl, _, rfl, _, rfl, _, rfl, _, rfl, _, _, rfl, rfl, _, _, _, rfl, bW.mono (by decide), bk _ (by omega) (by omega), bk _ (by omega) (by omega), fun m2 H2 s2 t2 => ?_⟩
    have s12 := s1.trans s2
    refine ⟨_, _, _, _, _, _, rfl, hy.same s12, t2, om.1, om1.2.1, om1.2.2, oo2.2.1, oo2.2.2, _, rfl, ?_⟩
    show if (!!ltp (mo W n (k + r.b)) r.m) = true then _ else _
    cases h3 : ltp (mo W n (k + r.b)) r.m with
    | true =>
      rw [h3] at q
      exact iteT (q _ s12)
    | false =>
    rw [h3, Bool.not_false, Bool.true_and] at q
    refine iteF ?_
    have g1 := om.2.mi os.2
    have g2 := os.2.mi ol.2
    have ba : Bt 200 r.a := bk _ (by omega) (by omega)
    have bb : Bt 200 r.b := bk _ (by omega) (by omega)
    have g1' := g1.okp (m := 4400) (by decide) (by decide)
    have g2' := g2.okp (m := 4400) (by decide) (by decide)
    have g3 := (g1.tm ba).okp (m := 4400) (by decide) (by decide)
    have g4 := (g2.tm bb).okp (m := 4400) (by decide) (by decide)
    refine ⟨_, rfl, _, rfl, _, _, _, _, _, _, rfl, hy.same s12, hu.same s12, om1.1, os1.1, om1.2.1, om1.2.2, os1.2.1, os1.2.2, fun d1 H3 s3 t3 => ?_⟩
    refine ⟨_, rfl, _, _, _, _, rfl, t3, g1'.1, g1'.2.1, g1'.2.2, ba.mono (by decide), fun d2 H4 s4 t4 => ?_⟩
    have s14 := s12.trans (s3.trans s4)
    refine ⟨_, rfl, _, rfl, _, _, _, _, _, _, rfl, hu.same s14, hx.same s14, os1.1, ol1.1, os1.2.1, os1.2.2, ol1.2.1, ol1.2.2, fun d3 H5 s5 t5 => ?_⟩
    refine ⟨_, rfl, _, _, _, _, rfl, t5, g2'.1, g2'.2.1, g2'.2.2, bb.mono (by decide), fun d4 H6 s6 t6 => ?_⟩
    refine ⟨_, _, _, _, _, _, rfl, t4.same (s5.trans s6), t6, g3.2.1, g3.2.2, g4.2.1, g4.2.2, _, rfl, ?_⟩
    show if ltp (tm (mi r.m s) r.a) (tm (mi s r.l) r.b) = true then _ else _
    have s16 := s14.trans (s5.trans s6)
    cases h4 : ltp (tm (mi r.m s) r.a) (tm (mi s r.l) r.b) with
    | true =>
      rw [h4] at q
      exact iteT (q _ s16)
    | false =>
    rw [h4, Bool.not_false, Bool.true_and] at q
    refine iteF ?_
    have b2 : Bt 8 (2 : Int) := by unfold Bt; decide
    refine ⟨_, rfl, _, rfl, _, rfl, _, _, rfl, rfl, ba.cmul bb (by decide), _, _, rfl, by decide, b2.mono (by decide), fun d5 H7 s7 t7 => ?_⟩
    exact ⟨_, _, _, _, _, _, rfl, hz.same (s16.trans s7), t7, oc.1, oc1.2.1, oc1.2.2, ((ba.mul bb).mono (by decide)).lo1, (b2.mono (by decide)).lo2, q _ (s16.trans s7)⟩
theorem ok_head_holds (T : Tx K mg) : FnOk P w K mg base CX0 5 T.f_head_holds T.d_head_holds ["weight", "seats", "many", "owed"] (spHeadH K) := by
  refine T.F_head_holds.ok sc_head_holds (fun vs H Q E h => ?_) (fun cdv A outer s H vs Q E hr h => ?_)
  · obtain ⟨W, n, k, u, s, rfl, _⟩ := h
    rfl
  · obtain ⟨W, n, k, u, s, rfl, hu, ⟨_, bW, k0, kn, n12, os⟩, q⟩ := h
    refine ⟨_, (pss_cons (ps_if (PW.pt (pw_or (pt_not (pt_val (pe_call (ok_is_whole T) (hr.mono (by decide)) (by rfl) T.g_is_whole T.F_is_whole.kp T.b_is_whole .nil pass0 (pa_cons (pv 1) pa_nil)))) (pw_or1 (pt_not (pt_val (pe_call (ok_is_number_to T) (hr.mono (by decide)) (by rfl) T.g_is_number_to T.F_is_number_to.kp T.b_is_number_to .nil pass0 (pa_cons (pv 2) (pa_cons (pv 1) pa_nil)))))))) (pss_one (ps_ret pe_bl)) pss_nil)
        (pss_one (ps_ret (pe_call (ok_is_part_to T) (hr.mono (by decide)) (by rfl) T.g_is_part_to T.F_is_part_to.kp T.b_is_part_to .nil pass0 (pa_cons (pv 3) (pa_cons (pe_call (ok_most T) (hr.mono (by decide)) (by rfl) T.g_most T.F_most.kp T.b_most .nil pass0 (pa_cons (pv 0) (pa_cons (pv 1) (pa_cons (pv 2) pa_nil)))) pa_nil)))))), ?_⟩
    refine ⟨_, rfl, _, _, rfl, whole_int, _, rfl, iteF ?_⟩
    refine ⟨_, rfl, _, rfl, _, _, rfl, _, rfl, ?_⟩
    rw [decide_eq_true k0, decide_eq_true kn]
    refine iteF ?_
    have bk : ∀ i : Int, 0 ≤ i → i ≤ 12 → Bt 200 i := fun i h0 h1 => Bt.of_lt (by omega) (by omega)
    refine ⟨_, rfl, _, rfl, _, rfl, _, rfl, _, _, _, rfl, bW.mono (by decide), bk _ (by omega) (by omega), bk _ (by omega) (by omega), fun m1 H1 s1 t1 => ?_⟩
    have os1 := os.okp (m := 4400) (by decide)
    have oo1 := (mo_okq (W := W) (n := n) (k := k) bW (by omega) (by omega) n12).okp (m := 4400) (by decide) (by decide)
    exact ⟨_, _, _, _, _, _, rfl, hu.same s1, t1, os.1, os1.2.1, os1.2.2, oo1.2.1, oo1.2.2, q _ s1⟩

end
end WS

set_option Elab.async false
set_option linter.all false
set_option maxRecDepth 100000
set_option maxHeartbeats 4000000
namespace WS
open PySem PySem.Spec PyProof.Rows L2
section
variable {P : Program} {w : World} {K : PySem.W.Frag} {mg : Str → Option Value} {base : Heap}
theorem ok_lis_part (T : Tx K mg) : FnOk P w K mg base CX0 2 T.f_lis_part T.d_lis_part ["_law_thing_here"] (spLPart K) := by
  refine T.F_lis_part.ok sc_lis_part (fun vs H Q E h => ?_) (fun cdv A outer s H vs Q E hr h => ?_)
  · obtain ⟨v, a, b, rfl, _⟩ := h
    rfl
  · obtain ⟨v, a, b, rfl, ⟨t, rfl, ht⟩, l, ba, bb, q⟩ := h
    refine ⟨_, (pss_cons (ps_if (PW.pt (pw_or (pt_not (pt_val (pe_callB call_isi (by rfl) T.n_isinstance (by decide +kernel) (pa_cons (pv 0) (pa_cons (pe_bltn (v := .ty "tuple") (by rfl) T.n_tuple (by decide +kernel) rfl) pa_nil))))) (pw_or (pt_cmpR op_ne (pe_callB call_len_seq (by rfl) T.n_len (by decide +kernel) (pa_cons (pv 0) pa_nil)) pe_int (nomark _)) (pw_or1 (pt_not (pt_val (pe_callB (cr_all (by rfl)) (by rfl) T.n_all (by decide +kernel) (pa_cons (pe_lc (own := [("_law_one_here", 1)]) (g := gName 1) (tt := tYes) (by rfl) sc_lis_part.nd (pi_tup (pv 0)) (blkOk_by (own := [("_law_one_here", 1)]) (N := ["_law_thing_here", "_law_one_here"]) (sc := defScope s_lis_part) (by decide +kernel)) (fun _ _ _ _ _ => (pg_name (i := 1) sc_lis_part.nd rfl (.inl rfl))) (fun _ _ _ _ _ => pts_nil) (fun _ _ _ _ _ => (pe_call (ok_lis_whole T) (hr.mono (by decide)) (by rfl) T.g_lis_whole T.F_lis_whole.kp T.b_lis_whole .nil pass0 (pa_cons (pv 1) pa_nil)))) pa_nil)))))))) (pss_one (ps_ret pe_bl)) pss_nil)
        (pss_one (ps_ret (pe_and (pe_cmpR op_gt (pe_ix ix_tup (pv 0) pe_int (fun _ _ => rfl)) pe_int (nomark _)) (pe_one (pe_cmpR (op_eqD hr.units) (pe_call (ok_llow T) (hr.mono (by decide)) (by rfl) T.g_llow T.F_llow.kp T.b_llow .nil pass0 (pa_cons (pe_ix ix_tup (pv 0) pe_int (fun _ _ => rfl)) (pa_cons (pe_ix ix_tup (pv 0) pe_int (fun _ _ => rfl)) pa_nil))) (pv 0) (nomark _))))))), ?_⟩
    refine ⟨_, rfl, _, _, _, _, true, rfl, .ty "tuple", sqt_ty ht, kit_ty (by decide +kernel), true, rfl, iteF ?_⟩
    refine ⟨_, rfl, t, _, rfl, .inr ht, rfl, _, rfl, ?_⟩
    refine iteF ?_
    refine ⟨_, rfl, t, rfl, ⟨_, ht⟩, fun D nD => ?_⟩
    refine lc_tup (K := K) (a := t) (xs := [V.int a, V.int b]) (fun j H'' => H'' D = some (.lst ((List.replicate j true).map V.bl)) ∧ Same H H'') ⟨upd_same, same_new nD⟩ (fun j H'' _ ⟨_, s⟩ => Same.tup s ht) ?_ ?_
    · rintro j x H'' hx ⟨hD, s⟩
      obtain ⟨i, rfl⟩ : ∃ i : Int, x = .int i := by
        have := List.mem_of_getElem? hx
        simp only [List.mem_cons, List.not_mem_nil, or_false] at this
        rcases this with h | h <;> exact ⟨_, h⟩
      have hj : j < 2 := by have := (List.getElem?_eq_some_iff.mp hx).1; simpa using this
      refine ⟨rfl, tyes (iteT ?_)⟩
      refine ⟨_, rfl, _, _, rfl, whole_int, _, hD, reps_len (by omega), ?_, same_upd s nD⟩
      rw [upd_same]
      exact congrArg _ (congrArg _ (reps_next j))
    · rintro H1 ⟨hD, s1⟩
      refine ⟨D, _, rfl, .inl (.inl hD), _, rfl, ?_⟩
      rw [all_true]
      refine iteF ?_
      have ht1 := Same.tup s1 ht
      refine ⟨_, rfl, t, _, 1, _, rfl, rfl, ht1, atI_nat (j := 1) rfl, _, _, rfl, rfl, _, rfl, ?_⟩
      rw [show decide (b > 0) = true from decide_eq_true l.1]
      refine iteT ?_
      refine ⟨_, rfl, t, _, 0, _, rfl, rfl, ht1, atI_nat (j := 0) rfl, _, rfl, t, _, 1, _, rfl, rfl, ht1, atI_nat (j := 1) rfl, _, _, rfl, l.1, bb.mono (by decide), fun v' H2 s2 t2 => ?_⟩
      rw [lo_of l] at t2
      refine ⟨_, rfl, _, _, pd_dp t2, pd_dp ⟨t, rfl, Same.tup s2 ht1⟩, rfl, rfl, ?_⟩
      rw [eqv_pairs, decide_eq_true ⟨rfl, rfl⟩]
      exact q _ (s1.trans s2)
theorem ok_lrow_holds (T : Tx K mg) : FnOk P w K mg base CX0 3 T.f_lrow_holds T.d_lrow_holds ["_law_weight", "_law_n", "_law_k", "_law_s", "_law_row_here"] (spRowH2 K) := by
  refine T.F_lrow_holds.ok sc_lrow_holds (fun vs H Q E h => ?_) (fun cdv A outer s H vs Q E hr h => ?_)
  · obtain ⟨W, v, n, k, u, s, r, rfl, _⟩ := h
    rfl
  · obtain ⟨W, v, n, k, u, s, r, rfl, hu, ⟨t, x, y, z, rfl, ht, hx, hy, hz⟩, ⟨_, bW, k0, kn, n12, os⟩, ⟨a0, ak, b0, bn, bw, ol, om, oc⟩, q⟩ := h
    refine ⟨_, (pss_cons (ps_if (PW.pt (pw_or (pt_not (pt_val (pe_callB call_isi (by rfl) T.n_isinstance (by decide +kernel) (pa_cons (pv 4) (pa_cons (pe_bltn (v := .ty "tuple") (by rfl) T.n_tuple (by decide +kernel) rfl) pa_nil))))) (pw_or (pt_cmpR op_ne (pe_callB call_len_seq (by rfl) T.n_len (by decide +kernel) (pa_cons (pv 4) pa_nil)) pe_int (nomark _)) (pw_or1 (pt_not (pt_val (pe_callB (cr_all (by rfl)) (by rfl) T.n_all (by decide +kernel) (pa_cons (pe_lc (own := [("_law_one_here", 13)]) (g := gName 13) (tt := tYes) (by rfl) sc_lrow_holds.nd (pi_tup (pe_slice sl_tupB (pv 4) po_none (po_some pe_int))) (blkOk_by (own := [("_law_one_here", 13)]) (N := ["_law_weight", "_law_n", "_law_k", "_law_s", "_law_row_here", "_law_weighs", "_law_a", "_law_b", "_law_less_here", "_law_more", "_law_change", "_law_left", "_law_right", "_law_one_here"]) (sc := defScope s_lrow_holds) (by decide +kernel)) (fun _ _ _ _ _ => (pg_name (i := 13) sc_lrow_holds.nd rfl (.inl rfl))) (fun _ _ _ _ _ => pts_nil) (fun _ _ _ _ _ => (pe_call (ok_lis_whole T) (hr.mono (by decide)) (by rfl) T.g_lis_whole T.F_lis_whole.kp T.b_lis_whole .nil pass0 (pa_cons (pv 13) pa_nil)))) pa_nil)))))))) (pss_one (ps_ret pe_bl)) pss_nil)
        (pss_cons (ps_asg (pv 4) (pg_tup (by rfl) (pgs_cons (pg_name (i := 5) sc_lrow_holds.nd rfl (.inl rfl)) (pgs_cons (pg_name (i := 6) sc_lrow_holds.nd rfl (.inl rfl)) (pgs_cons (pg_name (i := 7) sc_lrow_holds.nd rfl (.inl rfl)) (pgs_cons (pg_name (i := 8) sc_lrow_holds.nd rfl (.inl rfl)) (pgs_cons (pg_name (i := 9) sc_lrow_holds.nd rfl (.inl rfl)) (pgs_cons (pg_name (i := 10) sc_lrow_holds.nd rfl (.inl rfl)) pgs_nil))))))))
        (pss_cons (ps_if (PW.pt (pw_or (pt_cmpR op_lt (pv 5) pe_int (nomark _)) (pw_or (pt_not (pt_chain op_le op_le pe_int (pv 6) (pv 2))) (pw_or1 (pt_not (pt_chain op_le op_le pe_int (pv 7) (pe_op op_sub (pv 1) (pv 2)))))))) (pss_one (ps_ret pe_bl)) pss_nil)
        (pss_cons (ps_if (pt_not (pt_val (pe_callB (cr_all (by rfl)) (by rfl) T.n_all (by decide +kernel) (pa_cons (pe_lc (own := [("_law_one_here", 13)]) (g := gName 13) (tt := tYes) (by rfl) sc_lrow_holds.nd (pi_tup (pe_slice sl_tupB (pv 4) (po_some pe_int) po_none)) (blkOk_by (own := [("_law_one_here", 13)]) (N := ["_law_weight", "_law_n", "_law_k", "_law_s", "_law_row_here", "_law_weighs", "_law_a", "_law_b", "_law_less_here", "_law_more", "_law_change", "_law_left", "_law_right", "_law_one_here"]) (sc := defScope s_lrow_holds) (by decide +kernel)) (fun _ _ _ _ _ => (pg_name (i := 13) sc_lrow_holds.nd rfl (.inl rfl))) (fun _ _ _ _ _ => pts_nil) (fun _ _ _ _ _ => (pe_call (ok_lis_part T) (hr.mono (by decide)) (by rfl) T.g_lis_part T.F_lis_part.kp T.b_lis_part .nil pass0 (pa_cons (pv 13) pa_nil)))) pa_nil)))) (pss_one (ps_ret pe_bl)) pss_nil)
        (pss_cons (ps_if (pt_val (pe_call (ok_lless T) (hr.mono (by decide)) (by rfl) T.g_lless T.F_lless.kp T.b_lless .nil pass0 (pa_cons (pe_call (ok_lmost T) (hr.mono (by decide)) (by rfl) T.g_lmost T.F_lmost.kp T.b_lmost .nil pass0 (pa_cons (pv 0) (pa_cons (pv 1) (pa_cons (pe_op op_sub (pv 2) (pv 6)) pa_nil)))) (pa_cons (pv 8) pa_nil)))) (pss_one (ps_ret pe_bl)) pss_nil)
        (pss_cons (ps_if (pt_val (pe_call (ok_lless T) (hr.mono (by decide)) (by rfl) T.g_lless T.F_lless.kp T.b_lless .nil pass0 (pa_cons (pe_call (ok_lmost T) (hr.mono (by decide)) (by rfl) T.g_lmost T.F_lmost.kp T.b_lmost .nil pass0 (pa_cons (pv 0) (pa_cons (pv 1) (pa_cons (pe_op op_add (pv 2) (pv 7)) pa_nil)))) (pa_cons (pv 9) pa_nil)))) (pss_one (ps_ret pe_bl)) pss_nil)
        (pss_cons (ps_set (i := 11) sc_lrow_holds.nd rfl (.inl rfl) (pe_call (ok_ltimes T) (hr.mono (by decide)) (by rfl) T.g_ltimes T.F_ltimes.kp T.b_ltimes .nil pass0 (pa_cons (pe_call (ok_lplus T) (hr.mono (by decide)) (by rfl) T.g_lplus T.F_lplus.kp T.b_lplus .nil pass0 (pa_cons (pv 3) (pa_cons (pe_tup (pa_cons (pe_op op_sub pe_int (pe_ix ix_tup (pv 8) pe_int (fun _ _ => rfl))) (pa_cons (pe_ix ix_tup (pv 8) pe_int (fun _ _ => rfl)) pa_nil))) pa_nil))) (pa_cons (pv 7) pa_nil))))
        (pss_cons (ps_set (i := 12) sc_lrow_holds.nd rfl (.inl rfl) (pe_call (ok_ltimes T) (hr.mono (by decide)) (by rfl) T.g_ltimes T.F_ltimes.kp T.b_ltimes .nil pass0 (pa_cons (pe_call (ok_lplus T) (hr.mono (by decide)) (by rfl) T.g_lplus T.F_lplus.kp T.b_lplus .nil pass0 (pa_cons (pv 9) (pa_cons (pe_tup (pa_cons (pe_op op_sub pe_int (pe_ix ix_tup (pv 3) pe_int (fun _ _ => rfl))) (pa_cons (pe_ix ix_tup (pv 3) pe_int (fun _ _ => rfl)) pa_nil))) pa_nil))) (pa_cons (pv 6) pa_nil))))
        (pss_one (ps_ret (pe_and (pe_not (pe_call (ok_lless T) (hr.mono (by decide)) (by rfl) T.g_lless T.F_lless.kp T.b_lless .nil pass0 (pa_cons (pv 12) (pa_cons (pv 11) pa_nil)))) (pe_one (pe_not (pe_call (ok_lless T) (hr.mono (by decide)) (by rfl) T.g_lless T.F_lless.kp T.b_lless .nil pass0 (pa_cons (pe_tup (pa_cons (pe_op op_mulW (pv 6) (pv 7)) (pa_cons pe_int pa_nil))) (pa_cons (pe_call (ok_ltimes T) (hr.mono (by decide)) (by rfl) T.g_ltimes T.F_ltimes.kp T.b_ltimes .nil pass0 (pa_cons (pv 10) (pa_cons pe_int pa_nil))) pa_nil)))))))))))))))), ?_⟩
    refine ⟨_, rfl, _, _, _, _, true, rfl, .ty "tuple", sqt_ty ht, kit_ty (by decide +kernel), true, rfl, iteF ?_⟩
    refine ⟨_, rfl, t, _, rfl, .inr ht, rfl, _, rfl, ?_⟩
    refine iteF ?_
    refine ⟨_, rfl, _, rfl, t, _, rfl, ht, fun c1 G1 e1 hc1 => ?_⟩
    have hc1 : SqT K G1 c1 [.int r.w, .int r.a, .int r.b] := hc1
    refine ⟨c1, rfl, ⟨_, hc1⟩, fun D nD => ?_⟩
    refine lc_tup (K := K) (a := c1) (xs := [V.int r.w, V.int r.a, V.int r.b]) (fun j H'' => H'' D = some (.lst ((List.replicate j true).map V.bl)) ∧ Same G1 H'') ⟨upd_same, same_new nD⟩ (fun j H'' _ ⟨_, s⟩ => Same.tup s hc1) ?_ ?_
    · rintro j x H'' hx ⟨hD, s⟩
      obtain ⟨i, rfl⟩ : ∃ i : Int, x = .int i := by
        have := List.mem_of_getElem? hx
        simp only [List.mem_cons, List.not_mem_nil, or_false] at this
        rcases this with h | h | h <;> exact ⟨_, h⟩
      have hj : j < 3 := by have := (List.getElem?_eq_some_iff.mp hx).1; simpa using this
      refine ⟨rfl, tyes (iteT ?_)⟩
      refine ⟨_, rfl, _, _, rfl, whole_int, _, hD, reps_len (by omega), ?_, same_upd s nD⟩
      rw [upd_same]
      exact congrArg _ (congrArg _ (reps_next j))
    rintro H1 ⟨hD, s1⟩
    have s1 := e1.trans s1
    refine ⟨D, _, rfl, .inl (.inl hD), _, rfl, ?_⟩
    rw [all_true]
    refine iteF ?_
    have ht1 := Same.tup s1 ht
    refine ⟨_, rfl, t, _, rfl, ht1, rfl, _, _, rfl, _, _, rfl, _, _, rfl, _, _, rfl, _, _, rfl, _, _, rfl, rfl, ?_⟩
    unfold rowB at q
    refine ⟨_, rfl, _, _, rfl, rfl, _, rfl, ?_⟩
    cases h1 : decide (r.w < 1) with
    | true =>
      have : r.w < 1 := of_decide_eq_true h1
      rw [show decide (1 ≤ r.w) = false from decide_eq_false (by omega), Bool.false_and] at q
      exact iteT (iteT (q _ s1))
    | false =>
    have : ¬ r.w < 1 := of_decide_eq_false h1
    rw [show decide (1 ≤ r.w) = true from decide_eq_true (by omega), Bool.true_and] at q
    refine iteF ?_
    refine ⟨_, rfl, _, _, rfl, rfl, _, rfl, ?_⟩
    rw [decide_eq_true a0]
    refine iteT ⟨_, rfl, _, _, rfl, rfl, _, rfl, ?_⟩
    rw [decide_eq_true ak]
    refine iteF ?_
    refine ⟨_, rfl, _, _, rfl, rfl, _, rfl, ?_⟩
    rw [decide_eq_true b0]
    refine iteT ⟨_, rfl, _, rfl, _, _, rfl, rfl, _, _, rfl, rfl, _, rfl, ?_⟩
    rw [decide_eq_true bn]
    refine iteF ?_
    have ol1 := ol.okp (m := 4400) (by decide)
    have om1 := om.okp (m := 4400) (by decide)
    have os1 := os.okp (m := 4400) (by decide)
    have oc1 := oc.okp (m := 4400) (by decide)
    refine ⟨_, rfl, _, rfl, t, _, rfl, ht1, fun c2 G2 e2 hc2 => ?_⟩
    have hc2 : SqT K G2 c2 [x, y, z] := hc2
    have sG2 := s1.trans e2
    refine ⟨c2, rfl, ⟨_, hc2⟩, fun D2 nD2 => ?_⟩
    refine lc_tup (K := K) (a := c2) (xs := [x, y, z]) (fun j H'' => H'' D2 = some (.lst ((List.replicate j true).map V.bl)) ∧ Same G2 H'') ⟨upd_same, same_new nD2⟩ (fun j H'' _ ⟨_, s⟩ => Same.tup s hc2) ?_ ?_
    · rintro j v H'' hv ⟨hD, s⟩
      have sH := sG2.trans s
      obtain ⟨p, tp, lp, op⟩ : ∃ p : Int × Int, TupI K H'' v p.1 p.2 ∧ Lowest p.1 p.2 ∧ Okp 4400 p := by
        have := List.mem_of_getElem? hv
        simp only [List.mem_cons, List.not_mem_nil, or_false] at this
        rcases this with rfl | rfl | rfl
        · exact ⟨r.l, hx.same sH, ol.1, ol1⟩
        · exact ⟨r.m, hy.same sH, om.1, om1⟩
        · exact ⟨r.c, hz.same sH, oc.1, oc1⟩
      have hj : j < 3 := by have := (List.getElem?_eq_some_iff.mp hv).1; simpa using this
      refine ⟨rfl, tyes (iteT ?_)⟩
      refine ⟨_, rfl, _, _, _, rfl, tp, lp, op.2.1, op.2.2, fun H3 s3 => ⟨_, s3 _ _ hD, reps_len (by omega), ?_, same_upd (s.trans s3) nD2⟩⟩
      rw [upd_same]
      exact congrArg _ (congrArg _ (reps_next j))
    rintro H2 ⟨hD2, s2⟩
    have s2 := sG2.trans s2
    refine ⟨D2, _, rfl, .inl (.inl hD2), _, rfl, ?_⟩
    rw [all_true]
    refine iteF ?_
    have o1 := mo_okq (W := W) (n := n) (k := k - r.a) bW (by omega) (by omega) n12
    have o2 := mo_okq (W := W) (n := n) (k := k + r.b) bW (by omega) (by omega) n12
    have bk : ∀ i : Int, 0 ≤ i → i ≤ 12 → Bt 200 i := fun i h0 h1 => Bt.of_lt (by omega) (by omega)
    have oo1 := o1.okp (m := 4400) (by decide) (by decide)
    have oo2 := o2.okp (m := 4400) (by decide) (by decide)
    refine ⟨_, rfl, _, rfl, _, rfl, _, rfl, _, _, rfl, rfl, _, _, _, rfl, bW.mono (by decide), bk _ (by omega) (by omega), bk _ (by omega) (by omega), fun m1 H3 s3 t3 => ?_⟩
    have s3 := s2.trans s3
    refine ⟨_, rfl, _, _, _, _, _, _, rfl, t3, hx.same s3, oo1.2.1, oo1.2.2, ol1.2.1, ol1.2.2, _, rfl, ?_⟩
    show if ltp (mo W n (k - r.a)) r.l = true then _ else _
    cases h2 : ltp (mo W n (k - r.a)) r.l with
    | true =>
      rw [h2] at q
      exact iteT (q _ s3)
    | false =>
    rw [h2, Bool.not_false, Bool.true_and] at q
    refine iteF ?_
    refine ⟨_, rfl, _, rfl, _, rfl, _, rfl, _, _, rfl, rfl, _, _, _, rfl, bW.mono (by decide), bk _ (by omega) (by omega), bk _ (by omega) (by omega), fun m2 H4 s4 t4 => ?_⟩
    have s4 := s3.trans s4
    refine ⟨_, rfl, _, _, _, _, _, _, rfl, t4, hy.same s4, oo2.2.1, oo2.2.2, om1.2.1, om1.2.2, _, rfl, ?_⟩
    show if ltp (mo W n (k + r.b)) r.m = true then _ else _
    cases h3 : ltp (mo W n (k + r.b)) r.m with
    | true =>
      rw [h3] at q
      exact iteT (q _ s4)
    | false =>
    rw [h3, Bool.not_false, Bool.true_and] at q
    refine iteF ?_
    have g1 := om.2.mi os.2
    have g2 := os.2.mi ol.2
    have ba : Bt 200 r.a := bk _ (by omega) (by omega)
    have bb : Bt 200 r.b := bk _ (by omega) (by omega)
    have g1' := g1.okp (m := 4400) (by decide) (by decide)
    have g2' := g2.okp (m := 4400) (by decide) (by decide)
    have g3 := (g1.tm ba).okp (m := 4400) (by decide) (by decide)
    have g4 := (g2.tm bb).okp (m := 4400) (by decide) (by decide)
    obtain ⟨tx, rfl, htx⟩ := hx.same s4
    refine ⟨_, rfl, _, rfl, tx, _, 0, _, rfl, rfl, htx, atI_nat (j := 0) rfl, _, _, rfl, rfl, _, rfl, tx, _, 1, _, rfl, rfl, htx, atI_nat (j := 1) rfl, by show 2 ≤ sizeLine; decide, fun c3 n3 => ?_⟩
    have zn : ∀ {m : Nat} {i : Int}, Bt m i → Bt m (0 - i) := fun h => by rw [Int.zero_sub]; exact h.neg
    have e5 := same_new (o := .tup [.int (0 - r.l.1), .int r.l.2]) n3
    have s5 := s4.trans e5
    refine ⟨_, _, _, _, _, _, rfl, hu.same s5, TupI.new, os1.1, ol1.1, os1.2.1, os1.2.2, zn ol1.2.1, ol1.2.2, fun d1 H6 s6 t6 => ?_⟩
    have t6 : TupI K H6 d1 (mi s r.l).1 (mi s r.l).2 := by rw [← pl_neg]; exact t6
    have s6 := s5.trans s6
    refine ⟨_, rfl, _, _, _, _, rfl, t6, g2'.1, g2'.2.1, g2'.2.2, bb.mono (by decide), fun d2 H7 s7 t7 => ?_⟩
    have s7' := s6.trans s7
    obtain ⟨tu, rfl, htu⟩ := hu.same s7'
    refine ⟨_, rfl, _, rfl, tu, _, 0, _, rfl, rfl, htu, atI_nat (j := 0) rfl, _, _, rfl, rfl, _, rfl, tu, _, 1, _, rfl, rfl, htu, atI_nat (j := 1) rfl, by show 2 ≤ sizeLine; decide, fun c4 n4 => ?_⟩
    have e8 := same_new (o := .tup [.int (0 - s.1), .int s.2]) n4
    have s8 := s7'.trans e8
    refine ⟨_, _, _, _, _, _, rfl, hy.same s8, TupI.new, om1.1, os1.1, om1.2.1, om1.2.2, zn os1.2.1, os1.2.2, fun d3 H9 s9 t9 => ?_⟩
    have t9 : TupI K H9 d3 (mi r.m s).1 (mi r.m s).2 := by rw [← pl_neg]; exact t9
    refine ⟨_, rfl, _, _, _, _, rfl, t9, g1'.1, g1'.2.1, g1'.2.2, ba.mono (by decide), fun d4 HA sA tA => ?_⟩
    have s8A := e8.trans (s9.trans sA)
    have sHA := s7'.trans s8A
    refine ⟨_, rfl, _, rfl, _, _, _, _, _, _, rfl, tA, t7.same s8A, g3.2.1, g3.2.2, g4.2.1, g4.2.2, _, rfl, _, rfl, ?_⟩
    show if (!ltp (tm (mi r.m s) r.a) (tm (mi s r.l) r.b)) = true then _ else _
    cases h4 : ltp (tm (mi r.m s) r.a) (tm (mi s r.l) r.b) with
    | true =>
      rw [h4] at q
      exact iteF (q _ sHA)
    | false =>
    rw [h4, Bool.not_false, Bool.true_and] at q
    refine iteT ?_
    have b2 : Bt 8 (2 : Int) := by unfold Bt; decide
    refine ⟨_, rfl, _, rfl, _, _, rfl, rfl, ba.cmul bb (by decide), by show 2 ≤ sizeLine; decide, fun c5 n5 => ?_⟩
    have eB := same_new (o := .tup [.int (r.a * r.b), .int 1]) n5
    have sB := sHA.trans eB
    refine ⟨_, rfl, _, _, _, _, rfl, hz.same sB, oc1.1, oc1.2.1, oc1.2.2, b2.mono (by decide), fun d6 HC sC tC => ?_⟩
    have g5 := (oc.2.tm b2).okp (m := 4400) (by decide) (by decide)
    refine ⟨_, _, _, _, _, _, rfl, TupI.new.same sC, tC, (ba.mul bb).mono (by decide), by unfold Bt; decide +kernel, g5.2.1, g5.2.2, _, rfl, ?_⟩
    have := q _ (sB.trans sC)
    rw [← half_le oc1.1] at this
    exact this

end
end WS

set_option Elab.async false
set_option linter.all false
set_option maxRecDepth 100000
set_option maxHeartbeats 4000000
namespace WS
open PySem PySem.Spec PyProof.Rows L2
section
variable {P : Program} {w : World} {K : PySem.W.Frag} {mg : Str → Option Value} {base : Heap}
theorem ok_voucher_holds (T : Tx K mg) : FnOk P w K mg base CX0 6 T.f_voucher_holds T.d_voucher_holds ["weight", "thing"] (spHolds K) := by
  refine T.F_voucher_holds.ok sc_voucher_holds (fun vs H Q E h => ?_) (fun cdv A outer s H vs Q E hr h => ?_)
  · obtain ⟨W, v, n, k, s, rs, rfl, _⟩ := h
    rfl
  · obtain ⟨W, v, n, k, s, rs, rfl, ⟨t, u, R, vs, rfl, ht, hu, hR, hV⟩, oh, l5, okr, q⟩ := h
    have oh' := oh
    obtain ⟨W1, bW, k0, kn, n12, os⟩ := oh'
    refine ⟨_, (pss_cons (ps_if (PW.pt (pw_or (pt_not (pt_val (pe_callB call_isi (by rfl) T.n_isinstance (by decide +kernel) (pa_cons (pv 1) (pa_cons (pe_bltn (v := .ty "tuple") (by rfl) T.n_tuple (by decide +kernel) rfl) pa_nil))))) (pw_or1 (pt_cmpR op_ne (pe_callB call_len_seq (by rfl) T.n_len (by decide +kernel) (pa_cons (pv 1) pa_nil)) pe_int (nomark _))))) (pss_one (ps_ret pe_bl)) pss_nil)
        (pss_cons (ps_asg (pv 1) (pg_tup (by rfl) (pgs_cons (pg_name (i := 2) sc_voucher_holds.nd rfl (.inr rfl)) (pgs_cons (pg_name (i := 3) sc_voucher_holds.nd rfl (.inr rfl)) (pgs_cons (pg_name (i := 4) sc_voucher_holds.nd rfl (.inr rfl)) (pgs_cons (pg_name (i := 5) sc_voucher_holds.nd rfl (.inl rfl)) pgs_nil))))))
        (pss_cons (ps_if (PW.pt (pw_or (pt_not (pt_val (pe_call (ok_head_holds T) (hr.mono (by decide)) (by rfl) T.g_head_holds T.F_head_holds.kp T.b_head_holds .nil pass0 (pa_cons (pv 0) (pa_cons (pv 2) (pa_cons (pv 3) (pa_cons (pv 4) pa_nil))))))) (pw_or1 (pt_not (pt_val (pe_callB call_isi (by rfl) T.n_isinstance (by decide +kernel) (pa_cons (pv 5) (pa_cons (pe_bltn (v := .ty "tuple") (by rfl) T.n_tuple (by decide +kernel) rfl) pa_nil)))))))) (pss_one (ps_ret pe_bl)) pss_nil)
        (pss_cons (ps_if (pt_not (pt_val (pe_callB (cr_all (by rfl)) (by rfl) T.n_all (by decide +kernel) (pa_cons (pe_lc (own := [("line", 6)]) (g := gName 6) (tt := tYes) (by rfl) sc_voucher_holds.nd (pi_tup (pv 5)) (blkOk_by (own := [("line", 6)]) (N := ["weight", "thing", "seats", "many", "owed", "rows", "line"]) (sc := defScope s_voucher_holds) (by decide +kernel)) (fun _ _ _ _ _ => (pg_name (i := 6) sc_voucher_holds.nd rfl (.inl rfl))) (fun _ _ _ _ _ => pts_nil) (fun _ _ _ _ _ => (pe_call (ok_row_holds T) (hr.mono (by decide)) (by rfl) T.g_row_holds T.F_row_holds.kp T.b_row_holds .nil pass0 (pa_cons (pv 0) (pa_cons (pe_tup (pa_cons (pv 2) (pa_cons (pv 3) (pa_cons (pv 4) pa_nil)))) (pa_cons (pv 6) pa_nil)))))) pa_nil)))) (pss_one (ps_ret pe_bl)) pss_nil)
        (pss_one (ps_ret (pe_cmpR op_le (pe_callB (cr_sum (by rfl)) (by rfl) T.n_sum (by decide +kernel) (pa_cons (pe_lc (own := [("line", 6)]) (g := gName 6) (tt := tYes) (by rfl) sc_voucher_holds.nd (pi_tup (pv 5)) (blkOk_by (own := [("line", 6)]) (N := ["weight", "thing", "seats", "many", "owed", "rows", "line"]) (sc := defScope s_voucher_holds) (by decide +kernel)) (fun _ _ _ _ _ => (pg_name (i := 6) sc_voucher_holds.nd rfl (.inl rfl))) (fun _ _ _ _ _ => pts_nil) (fun _ _ _ _ _ => (pe_ix (show IxR _ (rIxT K) from ix_tup) (pv 6) pe_int (fun _ _ => rfl)))) pa_nil)) (pv 0) (nomark _)))))))), ?_⟩
    refine ⟨_, rfl, _, _, _, _, true, rfl, .ty "tuple", sqt_ty ht, kit_ty (by decide +kernel), true, rfl, iteF ?_⟩
    refine ⟨_, rfl, t, _, rfl, .inr ht, rfl, _, rfl, ?_⟩
    refine iteF ?_
    refine ⟨_, rfl, t, _, rfl, ht, rfl, _, _, rfl, _, _, rfl, _, _, rfl, _, _, rfl, rfl, ?_⟩
    unfold holdB at q
    refine ⟨_, rfl, _, rfl, _, rfl, _, rfl, _, _, _, _, _, rfl, hu, oh, fun H1 s1 => ⟨_, rfl, ?_⟩⟩
    cases h1 : headB W n k s with
    | false =>
      rw [h1] at q
      exact iteT (iteT (q _ s1))
    | true =>
    rw [h1, Bool.true_and] at q
    refine iteF ?_
    refine ⟨_, rfl, _, _, _, _, true, rfl, .ty "tuple", sqt_ty (Same.tup s1 hR), kit_ty (by decide +kernel), true, rfl, iteF ?_⟩
    have hR1 := Same.tup s1 hR
    have hV1 := hV.k (kt_same s1)
    have hu1 := hu.same s1
    refine ⟨_, rfl, R, rfl, ⟨_, hR1⟩, fun D nD => ?_⟩
    refine lc_tup (K := K) (a := R) (xs := vs) (fun j H'' => H'' D = some (.lst (((rs.take j).map (rowB W n k s)).map V.bl)) ∧ Same H1 H'') ⟨upd_same, same_new nD⟩ (fun j H'' _ ⟨_, s⟩ => Same.tup s hR1) ?_ ?_
    · rintro j x H'' hx ⟨hD, s2⟩
      obtain ⟨r, hr', hv⟩ := hV1.2 j x hx
      have hj : j < rs.length := (List.getElem?_eq_some_iff.mp hr').1
      refine ⟨rfl, tyes (iteT ?_)⟩
      refine ⟨_, rfl, _, rfl, _, rfl, _, rfl, by show 3 ≤ sizeLine; decide, fun c nc => ?_⟩
      have e3 := same_new (o := .tup [.int n, .int k, u]) nc
      refine ⟨_, rfl, _, c, _, _, _, _, _, _, rfl, .inl (.inl upd_same), (hu1.same s2).same e3, (hv.k (kt_same s2)).k (kt_same e3), oh, okr r (List.mem_of_getElem? hr'), fun H3 s3 => ?_⟩
      have s3 := e3.trans s3
      refine ⟨_, s3 _ _ hD, ?_, ?_, same_upd (s2.trans s3) nD⟩
      · rw [List.length_map, List.length_map, List.length_take]
        exact small1000 (by omega)
      · rw [upd_same, List.take_add_one, hr']
        simp
    rintro H2 ⟨hD, s2⟩
    rw [hV.1, List.take_length] at hD
    refine ⟨D, _, rfl, .inl (.inl hD), _, rfl, ?_⟩
    rw [show ((rs.map (rowB W n k s)).all id) = rs.all (rowB W n k s) by rw [List.all_map]; rfl]
    cases h2 : rs.all (rowB W n k s) with
    | false =>
      rw [h2] at q
      exact iteT (q _ (s1.trans s2))
    | true =>
    rw [h2, Bool.true_and] at q
    refine iteF ?_
    have s2 := s1.trans s2
    have hR2 := Same.tup s2 hR
    have hV2 := hV.k (kt_same s2)
    refine ⟨_, rfl, R, rfl, ⟨_, hR2⟩, fun D2 nD2 => ?_⟩
    refine lc_tup (K := K) (a := R) (xs := vs) (fun j H'' => H'' D2 = some (.lst (((rs.take j).map VR.w).map V.int)) ∧ Same H2 H'') ⟨upd_same, same_new nD2⟩ (fun j H'' _ ⟨_, s⟩ => Same.tup s hR2) ?_ ?_
    · rintro j x H'' hx ⟨hD, s3⟩
      obtain ⟨r, hr', hv⟩ := hV2.2 j x hx
      have hj : j < rs.length := (List.getElem?_eq_some_iff.mp hr').1
      obtain ⟨t', x1, x2, x3, rfl, ht', _⟩ := hv
      refine ⟨rfl, tyes (iteT ?_)⟩
      refine ⟨_, rfl, t', _, 0, _, rfl, rfl, Same.tup s3 ht', atI_nat (j := 0) rfl, _, hD, ?_, ?_, same_upd s3 nD2⟩
      · rw [List.length_map, List.length_map, List.length_take]
        exact small1000 (by omega)
      · rw [upd_same, List.take_add_one, hr']
        simp
    rintro H3 ⟨hD3, s3⟩
    rw [hV.1, List.take_length] at hD3
    exact ⟨D2, _, rfl, .inl (.inl hD3), _, rfl, _, _, rfl, rfl, q _ (s2.trans s3)⟩
theorem ok_lholds (T : Tx K mg) : FnOk P w K mg base CX0 4 T.f_lholds T.d_lholds ["_law_weight", "_law_thing_here"] (spHolds K) := by
  refine T.F_lholds.ok sc_lholds (fun vs H Q E h => ?_) (fun cdv A outer s H vs Q E hr h => ?_)
  · obtain ⟨W, v, n, k, s, rs, rfl, _⟩ := h
    rfl
  · obtain ⟨W, v, n, k, s, rs, rfl, ⟨t, u, R, vs, rfl, ht, hu, hR, hV⟩, oh, l5, okr, q⟩ := h
    have oh' := oh
    obtain ⟨W1, bW, k0, kn, n12, os⟩ := oh'
    refine ⟨_, (pss_cons (ps_if (PW.pt (pw_or (pt_not (pt_val (pe_callB call_isi (by rfl) T.n_isinstance (by decide +kernel) (pa_cons (pv 1) (pa_cons (pe_bltn (v := .ty "tuple") (by rfl) T.n_tuple (by decide +kernel) rfl) pa_nil))))) (pw_or (pt_cmpR op_ne (pe_callB call_len_seq (by rfl) T.n_len (by decide +kernel) (pa_cons (pv 1) pa_nil)) pe_int (nomark _)) (pw_or1 (pt_not (pt_val (pe_callB call_isi (by rfl) T.n_isinstance (by decide +kernel) (pa_cons (pe_ix ix_tup (pv 1) pe_int (fun _ _ => rfl)) (pa_cons (pe_bltn (v := .ty "tuple") (by rfl) T.n_tuple (by decide +kernel) rfl) pa_nil))))))))) (pss_one (ps_ret pe_bl)) pss_nil)
        (pss_cons (ps_asg (pv 1) (pg_tup (by rfl) (pgs_cons (pg_name (i := 2) sc_lholds.nd rfl (.inr rfl)) (pgs_cons (pg_name (i := 3) sc_lholds.nd rfl (.inr rfl)) (pgs_cons (pg_name (i := 4) sc_lholds.nd rfl (.inr rfl)) (pgs_cons (pg_name (i := 5) sc_lholds.nd rfl (.inl rfl)) pgs_nil))))))
        (pss_cons (ps_if (PW.pt (pw_or (pt_not (pt_val (pe_call (ok_lis_whole T) (hr.mono (by decide)) (by rfl) T.g_lis_whole T.F_lis_whole.kp T.b_lis_whole .nil pass0 (pa_cons (pv 2) pa_nil)))) (pw_or (pt_not (pt_val (pe_call (ok_lis_whole T) (hr.mono (by decide)) (by rfl) T.g_lis_whole T.F_lis_whole.kp T.b_lis_whole .nil pass0 (pa_cons (pv 3) pa_nil)))) (pw_or (pt_not (pt_chain op_le op_le pe_int (pv 3) (pv 2))) (pw_or1 (pt_not (pt_val (pe_call (ok_lis_part T) (hr.mono (by decide)) (by rfl) T.g_lis_part T.F_lis_part.kp T.b_lis_part .nil pass0 (pa_cons (pv 4) pa_nil))))))))) (pss_one (ps_ret pe_bl)) pss_nil)
        (pss_cons (ps_if (pt_val (pe_call (ok_lless T) (hr.mono (by decide)) (by rfl) T.g_lless T.F_lless.kp T.b_lless .nil pass0 (pa_cons (pe_call (ok_lmost T) (hr.mono (by decide)) (by rfl) T.g_lmost T.F_lmost.kp T.b_lmost .nil pass0 (pa_cons (pv 0) (pa_cons (pv 2) (pa_cons (pv 3) pa_nil)))) (pa_cons (pv 4) pa_nil)))) (pss_one (ps_ret pe_bl)) pss_nil)
        (pss_cons (ps_if (pt_not (pt_val (pe_callB (cr_all (by rfl)) (by rfl) T.n_all (by decide +kernel) (pa_cons (pe_lc (own := [("_law_row_here", 6)]) (g := gName 6) (tt := tYes) (by rfl) sc_lholds.nd (pi_tup (pv 5)) (blkOk_by (own := [("_law_row_here", 6)]) (N := ["_law_weight", "_law_thing_here", "_law_n", "_law_k", "_law_s", "_law_rows", "_law_row_here"]) (sc := defScope s_lholds) (by decide +kernel)) (fun _ _ _ _ _ => (pg_name (i := 6) sc_lholds.nd rfl (.inl rfl))) (fun _ _ _ _ _ => pts_nil) (fun _ _ _ _ _ => (pe_call (ok_lrow_holds T) (hr.mono (by decide)) (by rfl) T.g_lrow_holds T.F_lrow_holds.kp T.b_lrow_holds .nil pass0 (pa_cons (pv 0) (pa_cons (pv 2) (pa_cons (pv 3) (pa_cons (pv 4) (pa_cons (pv 6) pa_nil)))))))) pa_nil)))) (pss_one (ps_ret pe_bl)) pss_nil)
        (pss_one (ps_ret (pe_cmpR op_le (pe_callB (cr_sum (by rfl)) (by rfl) T.n_sum (by decide +kernel) (pa_cons (pe_lc (own := [("_law_row_here", 6)]) (g := gName 6) (tt := tYes) (by rfl) sc_lholds.nd (pi_tup (pv 5)) (blkOk_by (own := [("_law_row_here", 6)]) (N := ["_law_weight", "_law_thing_here", "_law_n", "_law_k", "_law_s", "_law_rows", "_law_row_here"]) (sc := defScope s_lholds) (by decide +kernel)) (fun _ _ _ _ _ => (pg_name (i := 6) sc_lholds.nd rfl (.inl rfl))) (fun _ _ _ _ _ => pts_nil) (fun _ _ _ _ _ => (pe_ix (show IxR _ (rIxT K) from ix_tup) (pv 6) pe_int (fun _ _ => rfl)))) pa_nil)) (pv 0) (nomark _))))))))), ?_⟩
    refine ⟨_, rfl, _, _, _, _, true, rfl, .ty "tuple", sqt_ty ht, kit_ty (by decide +kernel), true, rfl, iteF ?_⟩
    refine ⟨_, rfl, t, _, rfl, .inr ht, rfl, _, rfl, ?_⟩
    refine iteF ?_
    refine ⟨_, rfl, t, _, 3, _, rfl, rfl, ht, atI_nat (j := 3) rfl, _, _, _, _, true, rfl, .ty "tuple", sqt_ty hR, kit_ty (by decide +kernel), true, rfl, iteF ?_⟩
    refine ⟨_, rfl, t, _, rfl, ht, rfl, _, _, rfl, _, _, rfl, _, _, rfl, _, _, rfl, rfl, ?_⟩
    unfold holdB at q
    refine ⟨_, rfl, _, _, rfl, whole_int, _, rfl, iteF ?_⟩
    refine ⟨_, rfl, _, _, rfl, whole_int, _, rfl, iteF ?_⟩
    refine ⟨_, rfl, _, _, rfl, rfl, _, rfl, ?_⟩
    rw [decide_eq_true k0]
    refine iteT ⟨_, rfl, _, _, rfl, rfl, _, rfl, ?_⟩
    rw [decide_eq_true kn]
    refine iteF ?_
    have os1 := os.okp (m := 4400) (by decide)
    refine ⟨_, rfl, _, _, _, rfl, hu, os.1, os1.2.1, os1.2.2, fun H0 s0 => ⟨_, rfl, iteF ?_⟩⟩
    have bk : ∀ i : Int, 0 ≤ i → i ≤ 12 → Bt 200 i := fun i h0 h1 => Bt.of_lt (by omega) (by omega)
    have oo1 := (mo_okq (W := W) (n := n) (k := k) bW (by omega) (by omega) n12).okp (m := 4400) (by decide) (by decide)
    refine ⟨_, rfl, _, rfl, _, rfl, _, _, _, rfl, bW.mono (by decide), bk _ (by omega) (by omega), bk _ (by omega) (by omega), fun m1 H1 s1 t1 => ?_⟩
    have s1 := s0.trans s1
    refine ⟨_, rfl, _, _, _, _, _, _, rfl, t1, hu.same s1, oo1.2.1, oo1.2.2, os1.2.1, os1.2.2, _, rfl, ?_⟩
    show if ltp (mo W n k) s = true then _ else _
    unfold headB at q
    cases h1 : ltp (mo W n k) s with
    | true =>
      rw [h1] at q
      exact iteT (q _ s1)
    | false =>
    rw [h1, Bool.not_false, Bool.true_and] at q
    refine iteF ?_
    have hR1 := Same.tup s1 hR
    have hV1 := hV.k (kt_same s1)
    have hu1 := hu.same s1
    refine ⟨_, rfl, R, rfl, ⟨_, hR1⟩, fun D nD => ?_⟩
    refine lc_tup (K := K) (a := R) (xs := vs) (fun j H'' => H'' D = some (.lst (((rs.take j).map (rowB W n k s)).map V.bl)) ∧ Same H1 H'') ⟨upd_same, same_new nD⟩ (fun j H'' _ ⟨_, s⟩ => Same.tup s hR1) ?_ ?_
    · rintro j x H'' hx ⟨hD, s2⟩
      obtain ⟨r, hr', hv⟩ := hV1.2 j x hx
      have hj : j < rs.length := (List.getElem?_eq_some_iff.mp hr').1
      refine ⟨rfl, tyes (iteT ?_)⟩
      refine ⟨_, rfl, _, rfl, _, rfl, _, rfl, _, rfl, _, _, _, _, _, _, _, rfl, hu1.same s2, hv.k (kt_same s2), oh, okr r (List.mem_of_getElem? hr'), fun H3 s3 => ?_⟩
      refine ⟨_, s3 _ _ hD, ?_, ?_, same_upd (s2.trans s3) nD⟩
      · rw [List.length_map, List.length_map, List.length_take]
        exact small1000 (by omega)
      · rw [upd_same, List.take_add_one, hr']
        simp
    rintro H2 ⟨hD, s2⟩
    rw [hV.1, List.take_length] at hD
    refine ⟨D, _, rfl, .inl (.inl hD), _, rfl, ?_⟩
    rw [show ((rs.map (rowB W n k s)).all id) = rs.all (rowB W n k s) by rw [List.all_map]; rfl]
    cases h2 : rs.all (rowB W n k s) with
    | false =>
      rw [h2] at q
      exact iteT (q _ (s1.trans s2))
    | true =>
    rw [h2, Bool.true_and] at q
    refine iteF ?_
    have s2 := s1.trans s2
    have hR2 := Same.tup s2 hR
    have hV2 := hV.k (kt_same s2)
    refine ⟨_, rfl, R, rfl, ⟨_, hR2⟩, fun D2 nD2 => ?_⟩
    refine lc_tup (K := K) (a := R) (xs := vs) (fun j H'' => H'' D2 = some (.lst (((rs.take j).map VR.w).map V.int)) ∧ Same H2 H'') ⟨upd_same, same_new nD2⟩ (fun j H'' _ ⟨_, s⟩ => Same.tup s hR2) ?_ ?_
    · rintro j x H'' hx ⟨hD, s3⟩
      obtain ⟨r, hr', hv⟩ := hV2.2 j x hx
      have hj : j < rs.length := (List.getElem?_eq_some_iff.mp hr').1
      obtain ⟨t', x1, x2, x3, rfl, ht', _⟩ := hv
      refine ⟨rfl, tyes (iteT ?_)⟩
      refine ⟨_, rfl, t', _, 0, _, rfl, rfl, Same.tup s3 ht', atI_nat (j := 0) rfl, _, hD, ?_, ?_, same_upd s3 nD2⟩
      · rw [List.length_map, List.length_map, List.length_take]
        exact small1000 (by omega)
      · rw [upd_same, List.take_add_one, hr']
        simp
    rintro H3 ⟨hD3, s3⟩
    rw [hV.1, List.take_length] at hD3
    exact ⟨D2, _, rfl, .inl (.inl hD3), _, rfl, _, _, rfl, rfl, q _ (s2.trans s3)⟩
theorem ok_vouched (T : Tx K mg) : FnOk P w K mg base CX0 5 T.f_vouched T.d_vouched ["voucher"] (spVouched K) := by
  refine T.F_vouched.ok sc_vouched (fun vs H Q E h => ?_) (fun cdv A outer s H vs Q E hr h => ?_)
  · obtain ⟨v, n, k, s, rs, rfl, _⟩ := h
    rfl
  · obtain ⟨v, n, k, s, rs, rfl, ⟨t, u, R, vs, rfl, ht, hu, hR, hV⟩, os, l5, okr, q⟩ := h
    refine ⟨_, (pss_cons (ps_set (i := 1) sc_vouched.nd rfl (.inl rfl) (pe_ix ix_tup (pv 0) pe_int (fun _ _ => rfl)))
        (pss_cons (ps_for PassesOwn.never rfl (pi_tup (pe_ix ix_tup (pv 0) pe_int (fun _ _ => rfl))) (pg_name (i := 2) sc_vouched.nd rfl (.inl rfl)) (pss_one (ps_set (i := 1) sc_vouched.nd rfl (.inl rfl) (pe_call (ok_plus T) (hr.mono (by decide)) (by rfl) T.g_plus T.F_plus.kp T.b_plus .nil pass0 (pa_cons (pv 1) (pa_cons (pe_call (ok_times T) (hr.mono (by decide)) (by rfl) T.g_times T.F_times.kp T.b_times .nil pass0 (pa_cons (pe_ix ix_tup (pv 2) pe_int (fun _ _ => rfl)) (pa_cons (pe_ix ix_tup (pv 2) pe_int (fun _ _ => rfl)) pa_nil))) pa_nil))))))
        (pss_one (ps_ret (pv 1))))), ?_⟩
    refine ⟨_, rfl, t, _, 2, _, rfl, rfl, ht, atI_nat (j := 2) rfl, ?_⟩
    refine ⟨_, rfl, t, _, 3, _, rfl, rfl, ht, atI_nat (j := 3) rfl, R, rfl, ⟨_, hR⟩, ?_⟩
    refine for_tup (K := K) (a := R) (xs := vs) (fun j σ H' => ∃ f y, σ = [some (.ref t), some f, y] ∧ Same H H' ∧ TupI K H' f (vsum s (rs.take j)).1 (vsum s (rs.take j)).2) ⟨u, none, rfl, Same.refl _, hu⟩ (fun j σ H' _ ⟨_, _, _, s, _⟩ => Same.tup s hR) ?_ ?_
    · rintro j x σ H' hx ⟨f, y, rfl, s1, tf⟩
      obtain ⟨r, hr', hv⟩ := hV.2 j x hx
      have hj : j < rs.length := (List.getElem?_eq_some_iff.mp hr').1
      have hm := List.mem_of_getElem? hr'
      obtain ⟨t', x1, x2, x3, rfl, ht', _, _, h3⟩ := hv
      have o := okr r hm
      have oc := o.2.2.2.2.2.2.2
      have oc1 := oc.okp (m := 4400) (by decide)
      have of := (vsum_okq (rs.take j) 0 0 s (by have := os.2; exact this.mono (by omega) (by omega)) (fun z hz => okr z (List.mem_of_mem_take hz))).okp (m := 4400) (by rw [List.length_take]; omega) (by rw [List.length_take]; omega)
      have ot := (oc.2.tm o.2.2.2.2.1).okp (m := 4400) (by decide) (by decide)
      have ht1 := Same.tup s1 ht'
      refine ⟨_, rfl, _, rfl, t', _, 5, _, rfl, rfl, ht1, atI_nat (j := 5) rfl, _, rfl, t', _, 0, _, rfl, rfl, ht1, atI_nat (j := 0) rfl, _, _, _, _, rfl, h3.same s1, oc1.1, oc1.2.1, oc1.2.2, o.2.2.2.2.1.mono (by decide), fun d1 H2 s2 t2 => ?_⟩
      refine ⟨_, _, _, _, _, _, rfl, tf.same s2, t2, of.1, ot.1, of.2.1, of.2.2, ot.2.1, ot.2.2, fun d2 H3 s3 t3 => ?_⟩
      refine ⟨d2, _, rfl, s1.trans (s2.trans s3), ?_⟩
      have e : vsum s (rs.take (j + 1)) = pl (vsum s (rs.take j)) (tm r.c r.w) := by
        rw [List.take_add_one, hr']
        unfold vsum
        rw [List.foldl_append]
        rfl
      rw [e]
      exact t3
    · rintro σ H' ⟨f, y, rfl, s1, tf⟩
      rw [hV.1, List.take_length] at tf
      exact ⟨_, rfl, q _ _ s1 tf⟩

end
end WS

set_option Elab.async false
set_option linter.all false
set_option maxRecDepth 100000
set_option maxHeartbeats 4000000
namespace WS
open PySem PySem.Spec PyProof.Rows L2
section
variable {P : Program} {w : World} {K : PySem.W.Frag} {mg : Str → Option Value} {base : Heap}
theorem ok_lnear (T : Tx K mg) : FnOk P w K mg base CX0 3 T.f_lnear T.d_lnear ["_law_pot_here", "_law_bound"] (spNear64 K) := by
  refine T.F_lnear.ok sc_lnear (fun vs H Q E h => ?_) (fun cdv A outer s H vs Q E hr h => ?_)
  · obtain ⟨p, v, b, rfl, _⟩ := h
    rfl
  · obtain ⟨p, v, b, rfl, hp, ht, lb, ob, q⟩ := h
    have c20 : (10 : Int) ^ (20 : Int).toNat < 2 ^ 67 := by decide +kernel
    have d20 : 0 < (10 : Int) ^ (20 : Int).toNat := by decide +kernel
    have c26 : (10 : Int) ^ (26 : Int).toNat < 2 ^ 87 := by decide +kernel
    have d26 : 0 < (10 : Int) ^ (26 : Int).toNat := by decide +kernel
    have b67 : ∀ i : Int, -(2 ^ 67) < i → i < 2 ^ 67 → Bt 67 i := fun i h0 h1 => Bt.of_lt h0 h1
    refine ⟨_, (pss_cons (ps_set (i := 2) sc_lnear.nd rfl (.inl rfl) (pe_call (ok_ldigit T) (hr.mono (by decide)) (by rfl) T.g_ldigit T.F_ldigit.kp T.b_ldigit .nil pass0 (pa_cons (pv 0) (pa_cons pe_int pa_nil))))
        (pss_cons (ps_if (pt_cmpR op_eq (pv 2) pe_int (nomark _)) (pss_one (ps_ret (pe_call (ok_llow T) (hr.mono (by decide)) (by rfl) T.g_llow T.F_llow.kp T.b_llow .nil pass0 (pa_cons (pe_op op_sub (pe_call (ok_ldigit T) (hr.mono (by decide)) (by rfl) T.g_ldigit T.F_ldigit.kp T.b_ldigit .nil pass0 (pa_cons (pv 0) (pa_cons pe_int pa_nil))) pe_int) (pa_cons (pe_op op_add pe_int (pe_call (ok_ldigit T) (hr.mono (by decide)) (by rfl) T.g_ldigit T.F_ldigit.kp T.b_ldigit .nil pass0 (pa_cons (pv 0) (pa_cons pe_int pa_nil)))) pa_nil))))) pss_nil)
        (pss_cons (ps_if (pt_cmpR op_eq (pv 2) pe_int (nomark _)) (pss_one (ps_ret (pe_call (ok_lplus T) (hr.mono (by decide)) (by rfl) T.g_lplus T.F_lplus.kp T.b_lplus .nil pass0 (pa_cons (pv 1) (pa_cons (pe_tup (pa_cons (pe_op op_sub pe_int (pe_call (ok_ldigit T) (hr.mono (by decide)) (by rfl) T.g_ldigit T.F_ldigit.kp T.b_ldigit .nil pass0 (pa_cons (pv 0) (pa_cons (pe_op op_pow pe_int pe_int) pa_nil)))) (pa_cons (pe_op op_add pe_int (pe_call (ok_ldigit T) (hr.mono (by decide)) (by rfl) T.g_ldigit T.F_ldigit.kp T.b_ldigit .nil pass0 (pa_cons (pv 0) (pa_cons (pe_op op_pow pe_int pe_int) pa_nil)))) pa_nil))) pa_nil))))) pss_nil)
        (pss_cons (ps_if (pt_cmpR op_eq (pv 2) pe_int (nomark _)) (pss_one (ps_ret (pe_call (ok_lplus T) (hr.mono (by decide)) (by rfl) T.g_lplus T.F_lplus.kp T.b_lplus .nil pass0 (pa_cons (pv 1) (pa_cons (pe_ix ix_list (pe_lst (pa_cons (pe_tup (pa_cons pe_int (pa_cons (pe_op op_pow pe_int pe_int) pa_nil))) (pa_cons (pe_tup (pa_cons pe_int (pa_cons pe_int pa_nil))) (pa_cons (pe_tup (pa_cons pe_int (pa_cons pe_int pa_nil))) (pa_cons (pe_tup (pa_cons (pe_un un_neg pe_int) (pa_cons (pe_op op_pow pe_int pe_int) pa_nil))) pa_nil))))) (pe_call (ok_ldigit T) (hr.mono (by decide)) (by rfl) T.g_ldigit T.F_ldigit.kp T.b_ldigit .nil pass0 (pa_cons (pv 0) (pa_cons pe_int pa_nil))) (fun _ _ => rfl)) pa_nil))))) pss_nil)
        (pss_one (ps_ret (pv 1))))))), ?_⟩
    refine ⟨_, rfl, p, _, rfl, hp, by decide, by unfold Bt; decide +kernel, fun d H1 d0 d1 s1 p1 => ?_⟩
    have ht1 := ht.x s1 hp
    have ob1 := ob.okp (m := 4400) (by decide) (by decide)
    refine ⟨_, rfl, rfl, _, rfl, ite2 (fun _ => ?_) (fun _ => ?_)⟩
    · refine ⟨_, rfl, p, _, rfl, p1, by decide, by unfold Bt; decide +kernel, fun e H2 e0 e1 s2 p2 => ?_⟩
      refine ⟨_, _, rfl, rfl, _, rfl, p, _, rfl, p2, by decide, by unfold Bt; decide +kernel, fun f H3 f0 f1 s3 p3 => ?_⟩
      have bf : Bt 6 (1 + f) := Bt.of_lt (by omega) (by omega)
      have be : Bt 11 (e - 1000) := Bt.of_lt (by omega) (by omega)
      refine ⟨_, _, rfl, rfl, _, _, rfl, by omega, bf.mono (by decide), fun v' H4 s4 t4 => ?_⟩
      have l4 : Lowest (lo (e - 1000) (1 + f)).1 (lo (e - 1000) (1 + f)).2 := lo_lowest (by omega)
      exact q v' _ H4 t4 (okv_of (m := 11) (e := 6) l4 ⟨l4.1, be.lo1, bf.lo2⟩ (by decide) (by decide)) (s1.trans (s2.trans (s3.trans (Same.x s4)))) (p3.same s4)
    refine ⟨_, rfl, rfl, _, rfl, ite2 (fun _ => ?_) (fun _ => ?_)⟩
    · refine ⟨_, rfl, _, rfl, _, _, rfl, rfl, ⟨by decide, by decide, by decide⟩, p, _, rfl, p1, d20, (b67 _ (by omega) c20).mono (by decide), fun e H2 e0 e1 s2 p2 => ?_⟩
      refine ⟨_, _, rfl, rfl, _, rfl, _, _, rfl, rfl, ⟨by decide, by decide, by decide⟩, p, _, rfl, p2, d20, (b67 _ (by omega) c20).mono (by decide), fun f H3 f0 f1 s3 p3 => ?_⟩
      refine ⟨_, _, rfl, rfl, by show 2 ≤ sizeLine; decide, fun u nu => ?_⟩
      have eu := same_new (o := .tup [.int (0 - e), .int (1 + f)]) nu
      have be := b67 (0 - e) (by omega) (by omega)
      have bf := b67 (1 + f) (by omega) (by omega)
      have s13 := s2.trans s3
      have t3 := (ht1.x s13 p1).same eu
      refine ⟨_, _, _, _, _, _, rfl, t3, TupI.new, ob1.1, by omega, ob1.2.1, ob1.2.2, be.mono (by decide), bf.mono (by decide), fun v' H4 s4 t4 => ?_⟩
      exact q v' (pl b (0 - e, 1 + f)) H4 t4 (okv_pl (m := 67) (e := 67) ob ⟨by show 0 < 1 + f; omega, be, bf⟩ (by decide) (by decide)) (s1.trans (s13.trans ((Same.x eu).trans (Same.x s4)))) ((p3.same eu).same s4)
    refine ⟨_, rfl, rfl, _, rfl, ite2 (fun _ => ?_) (fun _ => ?_)⟩
    · refine ⟨_, rfl, _, _, rfl, rfl, ⟨by decide, by decide, by decide⟩, by show 2 ≤ sizeLine; decide, fun u1 n1 => ?_⟩
      obtain ⟨G1, f1, e1, g1⟩ : ∃ B, B = upd H1 u1 (.tup [.int 1, .int ((10 : Int) ^ (26 : Int).toNat)]) ∧ Same H1 B ∧ TupI K B (.ref u1) 1 ((10 : Int) ^ (26 : Int).toNat) := ⟨_, rfl, same_new n1, TupI.new⟩
      rw [← f1]
      refine ⟨by show 2 ≤ sizeLine; decide, fun u2 n2 => ?_⟩
      obtain ⟨G2, f2, e2, g2⟩ : ∃ B, B = upd G1 u2 (.tup [.int 1, .int 1]) ∧ Same G1 B ∧ TupI K B (.ref u2) 1 1 := ⟨_, rfl, same_new n2, TupI.new⟩
      rw [← f2]
      refine ⟨by show 2 ≤ sizeLine; decide, fun u3 n3 => ?_⟩
      obtain ⟨G3, f3, e3, g3⟩ : ∃ B, B = upd G2 u3 (.tup [.int 1, .int 2]) ∧ Same G2 B ∧ TupI K B (.ref u3) 1 2 := ⟨_, rfl, same_new n3, TupI.new⟩
      rw [← f3]
      refine ⟨_, rfl, _, _, rfl, rfl, ⟨by decide, by decide, by decide⟩, by show 2 ≤ sizeLine; decide, fun u4 n4 => ?_⟩
      obtain ⟨G4, f4, e4, g4⟩ : ∃ B, B = upd G3 u4 (.tup [.int (-1), .int ((10 : Int) ^ (26 : Int).toNat)]) ∧ Same G3 B ∧ TupI K B (.ref u4) (-1) ((10 : Int) ^ (26 : Int).toNat) := ⟨_, rfl, same_new n4, TupI.new⟩
      rw [← f4]
      refine ⟨by show 4 ≤ sizeLine; decide, fun l nl => ?_⟩
      obtain ⟨G5, f5, e5, hL⟩ : ∃ B, B = upd G4 l (.lst [.ref u1, .ref u2, .ref u3, .ref u4]) ∧ Same G4 B ∧ B l = some (.lst [.ref u1, .ref u2, .ref u3, .ref u4]) := ⟨_, rfl, same_new nl, upd_same⟩
      rw [← f5]
      have e15 := e1.trans (e2.trans (e3.trans (e4.trans e5)))
      have p5 := p1.same e15
      refine ⟨_, rfl, p, _, rfl, p5, by decide, by unfold Bt; decide +kernel, fun e H2 e0 e1' s2 p2 => ?_⟩
      obtain ⟨v2, hv, hm⟩ := pick (xs := [V.ref u1, V.ref u2, V.ref u3, V.ref u4]) (d := e) e0 e1'
      have nlp : l ≠ p := by
        intro z
        obtain ⟨x, y, ep, _⟩ := p5
        rw [← z, hL] at ep
        cases ep
      obtain ⟨c, tc, oc⟩ : ∃ c : Int × Int, TupI K H2 v2 c.1 c.2 ∧ Okq 2 87 c := by
        have b1 : Bt 2 (1 : Int) := by unfold Bt; decide
        have bm1 : Bt 2 (-1 : Int) := by unfold Bt; decide
        have bX : Bt 87 ((10 : Int) ^ (26 : Int).toNat) := Bt.of_lt (by omega) c26
        simp only [List.mem_cons, List.not_mem_nil, or_false] at hm
        rcases hm with rfl | rfl | rfl | rfl
        · exact ⟨(1, (10 : Int) ^ (26 : Int).toNat), (g1.same (e2.trans (e3.trans (e4.trans e5)))).x s2 p5, d26, b1, bX⟩
        · exact ⟨(1, 1), (g2.same (e3.trans (e4.trans e5))).x s2 p5, by decide, b1, by unfold Bt; decide +kernel⟩
        · exact ⟨(1, 2), (g3.same (e4.trans e5)).x s2 p5, by decide, b1, by unfold Bt; decide +kernel⟩
        · exact ⟨(-1, (10 : Int) ^ (26 : Int).toNat), (g4.same e5).x s2 p5, d26, bm1, bX⟩
      refine ⟨l, _, _, _, rfl, rfl, .inl (.inl (s2 _ _ nlp hL)), hv, ?_⟩
      have t2 := (ht1.same e15).x s2 p5
      have oc1 := oc.okp (m := 4400) (by decide) (by decide)
      refine ⟨_, _, _, _, _, _, rfl, t2, tc, ob1.1, oc1.1, ob1.2.1, ob1.2.2, oc1.2.1, oc1.2.2, fun v' H4 s4 t4 => ?_⟩
      exact q v' (pl b c) H4 t4 (okv_pl ob oc (by decide) (by decide)) (s1.trans ((Same.x e15).trans (s2.trans (Same.x s4)))) (p2.same s4)
    · exact ⟨_, rfl, q v b H1 ht1 (okv_of lb ob (by decide) (by decide)) s1 p1⟩
theorem ok_lrow (T : Tx K mg) : FnOk P w K mg base CX0 4 T.f_lrow T.d_lrow ["_law_pot_here", "_law_weight", "_law_n", "_law_k", "_law_a", "_law_b", "_law_weighs"] (spVRow K) := by
  refine T.F_lrow.ok sc_lrow (fun vs H Q E h => ?_) (fun cdv A outer s H vs Q E hr h => ?_)
  · obtain ⟨p, W, n, k, a, b, w, rfl, _⟩ := h
    rfl
  · obtain ⟨p, W, n, k, a, b, w, rfl, hp, bW, k0, kn, n12, a0, ak, b0, bn, bw, q⟩ := h
    have bk : ∀ i : Int, 0 ≤ i → i ≤ 12 → Bt 200 i := fun i h0 h1 => Bt.of_lt (by omega) (by omega)
    have o1 := mo_okq (W := W) (n := n) (k := k - a) bW (by omega) (by omega) n12
    have o2 := mo_okq (W := W) (n := n) (k := k + b) bW (by omega) (by omega) n12
    refine ⟨_, (pss_cons (ps_set (i := 7) sc_lrow.nd rfl (.inl rfl) (pe_call (ok_lnear T) (hr.mono (by decide)) (by rfl) T.g_lnear T.F_lnear.kp T.b_lnear .nil pass0 (pa_cons (pv 0) (pa_cons (pe_call (ok_lmost T) (hr.mono (by decide)) (by rfl) T.g_lmost T.F_lmost.kp T.b_lmost .nil pass0 (pa_cons (pv 1) (pa_cons (pv 2) (pa_cons (pe_op op_sub (pv 3) (pv 4)) pa_nil)))) pa_nil))))
        (pss_cons (ps_set (i := 8) sc_lrow.nd rfl (.inl rfl) (pe_call (ok_lnear T) (hr.mono (by decide)) (by rfl) T.g_lnear T.F_lnear.kp T.b_lnear .nil pass0 (pa_cons (pv 0) (pa_cons (pe_call (ok_lmost T) (hr.mono (by decide)) (by rfl) T.g_lmost T.F_lmost.kp T.b_lmost .nil pass0 (pa_cons (pv 1) (pa_cons (pv 2) (pa_cons (pe_op op_add (pv 3) (pv 5)) pa_nil)))) pa_nil))))
        (pss_one (ps_ret (pe_tup (pa_cons (pv 6) (pa_cons (pv 4) (pa_cons (pv 5) (pa_cons (pv 7) (pa_cons (pv 8) (pa_cons (pe_call (ok_lnear T) (hr.mono (by decide)) (by rfl) T.g_lnear T.F_lnear.kp T.b_lnear .nil pass0 (pa_cons (pv 0) (pa_cons (pe_call (ok_llow T) (hr.mono (by decide)) (by rfl) T.g_llow T.F_llow.kp T.b_llow .nil pass0 (pa_cons (pe_op op_mulW (pv 4) (pv 5)) (pa_cons pe_int pa_nil))) pa_nil))) pa_nil))))))))))), ?_⟩
    refine ⟨_, rfl, _, rfl, _, rfl, _, rfl, _, rfl, _, _, rfl, rfl, _, _, _, rfl, bW.mono (by decide), bk _ (by omega) (by omega), bk _ (by omega) (by omega), fun m1 H1 s1 t1 => ?_⟩
    refine ⟨p, m1, mo W n (k - a), rfl, hp.same s1, t1, mo_low _ _ _, o1.mono (by decide) (by decide), fun x l H2 tx ol s2 p2 => ?_⟩
    refine ⟨_, rfl, _, rfl, _, rfl, _, rfl, _, rfl, _, _, rfl, rfl, _, _, _, rfl, bW.mono (by decide), bk _ (by omega) (by omega), bk _ (by omega) (by omega), fun m2 H3 s3 t3 => ?_⟩
    refine ⟨p, m2, mo W n (k + b), rfl, p2.same s3, t3, mo_low _ _ _, o2.mono (by decide) (by decide), fun y m H4 ty om s4 p4 => ?_⟩
    have ba := bk a (by omega) (by omega)
    have bb := bk b (by omega) (by omega)
    have ba4 : Bt 4 a := Bt.of_lt (by omega) (by omega)
    have bb4 : Bt 4 b := Bt.of_lt (by omega) (by omega)
    have b2 : Bt 2 (2 : Int) := by unfold Bt; decide
    refine ⟨_, rfl, _, rfl, _, rfl, _, rfl, _, rfl, _, rfl, _, rfl, _, rfl, _, _, rfl, rfl, ba.cmul bb (by decide), _, _, rfl, by decide, b2.mono (by decide), fun m3 H5 s5 t5 => ?_⟩
    refine ⟨p, m3, lo (a * b) 2, rfl, p4.same s5, t5, lo_lowest (by decide), ⟨(lo_lowest (by decide)).1, ((ba4.mul bb4).mono (by decide)).lo1, (b2.mono (by decide)).lo2⟩, fun z c H6 tz oc s6 p6 => ?_⟩
    refine ⟨by show 6 ≤ sizeLine; decide, fun t nt => ?_⟩
    have et := same_new (o := .tup [.int w, .int a, .int b, x, y, z]) nt
    have k26 := (kt_same s3).trans ((kt_x s4 (p2.same s3)).trans ((kt_same s5).trans ((kt_x s6 (p4.same s5)).trans (kt_same et))))
    have k46 := (kt_same s5).trans ((kt_x s6 (p4.same s5)).trans (kt_same et))
    exact q _ ⟨w, a, b, l, m, c⟩ _ ⟨t, x, y, z, rfl, .inl (.inl upd_same), tx.k k26, ty.k k46, tz.same et⟩ ⟨a0, ak, b0, bn, bw, ol, om, oc⟩ ((Same.x s1).trans (s2.trans ((Same.x s3).trans (s4.trans ((Same.x s5).trans (s6.trans (Same.x et))))))) (p6.same et)

end
end WS

set_option Elab.async false
set_option linter.all false
set_option maxRecDepth 100000
set_option maxHeartbeats 4000000
namespace WS
open PySem PySem.Spec PyProof.Rows L2
section
variable {P : Program} {w : World} {K : PySem.W.Frag} {mg : Str → Option Value} {base : Heap}
theorem ok_lweighing (T : Tx K mg) : FnOk P w K mg base CX0 2 T.f_lweighing T.d_lweighing ["_law_pot_here", "_law_weight", "_law_many"] spWeighing := by
  refine T.F_lweighing.ok sc_lweighing (fun vs H Q E h => ?_) (fun cdv A outer s H vs Q E hr h => ?_)
  · obtain ⟨p, W, m, rfl, _⟩ := h
    rfl
  · obtain ⟨p, W, m, rfl, hp, W1, bW, m5, q⟩ := h
    refine ⟨_, (pss_cons (ps_set (i := 3) sc_lweighing.nd rfl (.inl rfl) (pe_op op_add (pv 1) (pe_ix ix_list (pe_lst (pa_cons pe_int (pa_cons pe_int (pa_cons pe_int (pa_cons pe_int pa_nil))))) (pe_call (ok_ldigit T) (hr.mono (by decide)) (by rfl) T.g_ldigit T.F_ldigit.kp T.b_ldigit .nil pass0 (pa_cons (pv 0) (pa_cons pe_int pa_nil))) (fun _ _ => rfl))))
        (pss_cons (ps_set (i := 4) sc_lweighing.nd rfl (.inl rfl) (pe_lst pa_nil))
        (pss_cons (ps_for PassesOwn.never rfl (pi_range1 (by rfl) T.n_range (pa_cons (pv 2) pa_nil)) (pg_name (i := 5) sc_lweighing.nd rfl (.inl rfl)) (pss_cons (ps_set (i := 6) sc_lweighing.nd rfl (.inl rfl) (pe_ifExp (pt_cmpR op_eq (pe_op op_add (pv 5) pe_int) (pv 2) (nomark _)) (pv 3) (pe_op op_add pe_int (pe_call (ok_ldigit T) (hr.mono (by decide)) (by rfl) T.g_ldigit T.F_ldigit.kp T.b_ldigit .nil pass0 (pa_cons (pv 0) (pa_cons (pe_callB (call_max2 (by rfl)) (by rfl) T.n_max (by decide +kernel) (pa_cons pe_int (pa_cons (pe_op op_sub (pv 3) (pv 2)) pa_nil))) pa_nil))))))
        (pss_cons (ps_expr (pe_bm PySem.F.plainAttrs_list PySem.F.slot_list_append PySem.F.type_list_append mt_append (pv 4) (pa_cons (pv 6) pa_nil)))
        (pss_one (ps_set (i := 3) sc_lweighing.nd rfl (.inl rfl) (pe_op op_sub (pv 3) (pv 6)))))))
        (pss_one (ps_ret (pv 4)))))), ?_⟩
    refine ⟨_, rfl, by show 4 ≤ sizeLine; decide, fun l nl => ?_⟩
    obtain ⟨B, fB, eB, hL⟩ : ∃ B, B = upd H l (.lst [.int 0, .int 0, .int 0, .int 1]) ∧ Same H B ∧ B l = some (.lst [.int 0, .int 0, .int 0, .int 1]) := ⟨_, rfl, same_new nl, upd_same⟩
    rw [← fB]
    have pB := hp.same eB
    refine ⟨_, rfl, p, _, rfl, pB, by decide, by unfold Bt; decide +kernel, fun d H1 d0 d1 s1 p1 => ?_⟩
    obtain ⟨v2, hv, hm⟩ := pick (xs := [V.int 0, V.int 0, V.int 0, V.int 1]) (d := d) d0 d1
    obtain ⟨e, rfl, e0, e1⟩ : ∃ e : Int, v2 = .int e ∧ 0 ≤ e ∧ e ≤ 1 := by
      simp only [List.mem_cons, List.not_mem_nil, or_false] at hm
      rcases hm with rfl | rfl | rfl | rfl <;> exact ⟨_, rfl, by decide, by decide⟩
    have nlp : l ≠ p := pB.nel hL (by decide)
    refine ⟨l, _, _, _, rfl, rfl, .inl (.inl (s1 _ _ nlp hL)), hv, _, _, rfl, rfl, ?_⟩
    refine ⟨by show 0 ≤ sizeLine; decide, fun F nF => ?_⟩
    have hW : W < 2 ^ 101 ∧ -(2 ^ 101) < W := by
      have : ((2 ^ 101 : Nat) : Int) = 2 ^ 101 := by decide +kernel
      unfold Bt at bW
      omega
    have sH1 : SameX p H H1 := (Same.x eB).trans s1
    have nFH : H F = none := by
      cases z : H F with
      | none => rfl
      | some o =>
        have nFp : F ≠ p := by
          intro zz
          obtain ⟨x, y, ep, _⟩ := p1
          rw [← zz, nF] at ep
          cases ep
        rw [sH1 F o nFp z] at nF
        cases nF
    have nFp : F ≠ p := p1.ne nF
    refine ⟨_, rfl, _, rfl, by omega, by omega, for_range (lo := 0) (n := ((m : Nat) : Int).toNat) (fun i σ H' => ∃ (left : Int) (y z : Option V) (ws : List Int), σ = [some (.ref p), some (.int W), some (.int m), some (.int left), some (.ref F), y, z] ∧ H' F = some (.lst (ws.map V.int)) ∧ ws.length = i ∧ (∀ w ∈ ws, Bt 104 w) ∧ SameX p H H' ∧ PotAt H' p ∧ -(i : Int) ≤ left ∧ left ≤ W + 1)
      ⟨_, none, none, [], rfl, upd_same, rfl, fun _ h => (List.not_mem_nil h).elim, samex_upd sH1 nFH, p1.upd nFp, by omega, by omega⟩ ?_ ?_⟩
    · rintro i σ H' hi ⟨left, y, z, ws, rfl, hF, hl, hw, sx, px, l0, l1⟩
      have hi : i < m := by omega
      have bl : Bt 104 left := Bt.of_lt (by omega) (by omega)
      refine ⟨_, rfl, _, _, rfl, rfl, _, rfl, rfl, _, rfl, ite2 (fun hc => ?_) (fun hc => ?_)⟩
      · refine ⟨_, rfl, ?_⟩
        refine ⟨_, rfl, .inl ⟨rfl, _, .inl (.inl hF)⟩, _, rfl, F, _, _, rfl, rfl, hF, by rw [List.length_map]; exact small1000 (by omega), ?_⟩
        refine ⟨_, rfl, _, rfl, _, _, rfl, rfl, left - left, _, _, ws ++ [left], rfl, by rw [upd_same, List.map_append]; rfl, by simp [hl], ?_, samex_upd sx nFH, px.upd nFp, by omega, by omega⟩
        intro x hx
        rcases List.mem_append.mp hx with h | h
        · exact hw x h
        · rw [List.mem_singleton.mp h]; exact bl
      · refine ⟨_, rfl, _, rfl, _, rfl, _, _, rfl, rfl, _, _, rfl, ?_⟩
        have hX : 0 < (if left - (m : Int) > 1 then left - (m : Int) else 1) ∧ (if left - (m : Int) > 1 then left - (m : Int) else 1) < 2 ^ 102 ∧ (if left - (m : Int) > 1 then left - (m : Int) else 1) + (m : Int) ≤ left + (m : Int) + 6 := by
          refine ⟨?_, ?_, ?_⟩ <;> split <;> omega
        have hX2 : (left - (m : Int) > 1 → (if left - (m : Int) > 1 then left - (m : Int) else 1) = left - (m : Int)) ∧ (¬ left - (m : Int) > 1 → (if left - (m : Int) > 1 then left - (m : Int) else 1) = 1) := ⟨fun h => if_pos h, fun h => if_neg h⟩
        generalize (if left - (m : Int) > 1 then left - (m : Int) else 1) = X at *
        refine ⟨p, X, rfl, px, hX.1, (Bt.of_lt (n := 102) (by omega) hX.2.1).mono (by decide), fun g H2 g0 g1 s2 p2 => ?_⟩
        have hF2 := s2 _ _ nFp hF
        refine ⟨_, _, rfl, rfl, ?_⟩
        refine ⟨_, rfl, .inl ⟨rfl, _, .inl (.inl hF2)⟩, _, rfl, F, _, _, rfl, rfl, hF2, by rw [List.length_map]; exact small1000 (by omega), ?_⟩
        refine ⟨_, rfl, _, rfl, _, _, rfl, rfl, left - (1 + g), _, _, ws ++ [1 + g], rfl, by rw [upd_same, List.map_append]; rfl, by simp [hl], ?_, samex_upd (sx.trans s2) nFH, p2.upd nFp, ?_, ?_⟩
        · intro x hx
          rcases List.mem_append.mp hx with h | h
          · exact hw x h
          · rw [List.mem_singleton.mp h]; exact Bt.of_lt (by omega) (by omega)
        · by_cases c : left - (m : Int) > 1
          · have := hX2.1 c; omega
          · have := hX2.2 c; omega
        · omega
    · rintro σ H' ⟨left, y, z, ws, rfl, hF, hl, hw, sx, px, l0, l1⟩
      exact ⟨_, rfl, q F ws H' nFH hF (by omega) hw sx px⟩

end
end WS

set_option Elab.async false
set_option linter.all false
set_option maxRecDepth 100000
set_option maxHeartbeats 4000000
namespace WS
open PySem PySem.Spec PyProof.Rows L2
section
variable {P : Program} {w : World} {K : PySem.W.Frag} {mg : Str → Option Value} {base : Heap}
theorem ok_lthing (T : Tx K mg) : FnOk P w K mg base CX0 5 T.f_lthing T.d_lthing ["_law_pot_here", "_law_weight"] (spThing K) := by
  refine T.F_lthing.ok sc_lthing (fun vs H Q E h => ?_) (fun cdv A outer s H vs Q E hr h => ?_)
  · obtain ⟨p, W, rfl, _⟩ := h
    rfl
  · obtain ⟨p, W, rfl, hp, W1, bW, q⟩ := h
    have bk : ∀ i : Int, 0 ≤ i → i ≤ 13 → Bt 200 i := fun i h0 h1 => Bt.of_lt (by omega) (by omega)
    refine ⟨_, (pss_cons (ps_set (i := 2) sc_lthing.nd rfl (.inr rfl) (pe_call (ok_ldigit T) (hr.mono (by decide)) (by rfl) T.g_ldigit T.F_ldigit.kp T.b_ldigit .nil pass0 (pa_cons (pv 0) (pa_cons pe_int pa_nil))))
        (pss_cons (ps_set (i := 3) sc_lthing.nd rfl (.inr rfl) (pe_call (ok_ldigit T) (hr.mono (by decide)) (by rfl) T.g_ldigit T.F_ldigit.kp T.b_ldigit .nil pass0 (pa_cons (pv 0) (pa_cons (pe_op op_add (pv 2) pe_int) pa_nil))))
        (pss_cons (ps_set (i := 4) sc_lthing.nd rfl (.inl rfl) (pe_lst pa_nil))
        (pss_cons (ps_for PassesOwn.never rfl (pi_range1 (by rfl) T.n_range (pa_cons (pe_call (ok_ldigit T) (hr.mono (by decide)) (by rfl) T.g_ldigit T.F_ldigit.kp T.b_ldigit .nil pass0 (pa_cons (pv 0) (pa_cons pe_int pa_nil))) pa_nil)) (pg_name (i := 5) sc_lthing.nd rfl (.inl rfl)) (pss_one (ps_expr (pe_bm PySem.F.plainAttrs_list PySem.F.slot_list_append PySem.F.type_list_append mt_append (pv 4) (pa_cons (pe_tup (pa_cons (pe_call (ok_ldigit T) (hr.mono (by decide)) (by rfl) T.g_ldigit T.F_ldigit.kp T.b_ldigit .nil pass0 (pa_cons (pv 0) (pa_cons (pe_op op_add (pv 3) pe_int) pa_nil))) (pa_cons (pe_call (ok_ldigit T) (hr.mono (by decide)) (by rfl) T.g_ldigit T.F_ldigit.kp T.b_ldigit .nil pass0 (pa_cons (pv 0) (pa_cons (pe_op op_add (pe_op op_sub (pv 2) (pv 3)) pe_int) pa_nil))) pa_nil))) pa_nil)))))
        (pss_cons (ps_set (i := 6) sc_lthing.nd rfl (.inl rfl) (pe_call (ok_lmost T) (hr.mono (by decide)) (by rfl) T.g_lmost T.F_lmost.kp T.b_lmost .nil pass0 (pa_cons (pv 1) (pa_cons (pv 2) (pa_cons (pv 3) pa_nil)))))
        (pss_cons (ps_for PassesOwn.never rfl (pi_list (pv 4)) (pg_tup (by rfl) (pgs_cons (pg_name (i := 7) sc_lthing.nd rfl (.inl rfl)) (pgs_cons (pg_name (i := 8) sc_lthing.nd rfl (.inl rfl)) pgs_nil))) (pss_cons (ps_set (i := 9) sc_lthing.nd rfl (.inl rfl) (pe_call (ok_lplus T) (hr.mono (by decide)) (by rfl) T.g_lplus T.F_lplus.kp T.b_lplus .nil pass0 (pa_cons (pe_call (ok_lmost T) (hr.mono (by decide)) (by rfl) T.g_lmost T.F_lmost.kp T.b_lmost .nil pass0 (pa_cons (pv 1) (pa_cons (pv 2) (pa_cons (pv 3) pa_nil)))) (pa_cons (pe_call (ok_llow T) (hr.mono (by decide)) (by rfl) T.g_llow T.F_llow.kp T.b_llow .nil pass0 (pa_cons (pe_op op_sub pe_int (pe_op op_mulW (pe_op op_mulW (pv 1) (pv 7)) (pv 8))) (pa_cons pe_int pa_nil))) pa_nil))))
        (pss_one (ps_if (pt_val (pe_call (ok_lless T) (hr.mono (by decide)) (by rfl) T.g_lless T.F_lless.kp T.b_lless .nil pass0 (pa_cons (pv 9) (pa_cons (pv 6) pa_nil)))) (pss_one (ps_set (i := 6) sc_lthing.nd rfl (.inl rfl) (pv 9))) pss_nil))))
        (pss_cons (ps_set (i := 6) sc_lthing.nd rfl (.inl rfl) (pe_call (ok_lnear T) (hr.mono (by decide)) (by rfl) T.g_lnear T.F_lnear.kp T.b_lnear .nil pass0 (pa_cons (pv 0) (pa_cons (pv 6) pa_nil))))
        (pss_cons (ps_set (i := 10) sc_lthing.nd rfl (.inl rfl) (pe_call (ok_lweighing T) (hr.mono (by decide)) (by rfl) T.g_lweighing T.F_lweighing.kp T.b_lweighing .nil pass0 (pa_cons (pv 0) (pa_cons (pv 1) (pa_cons (pe_callB call_len_seq (by rfl) T.n_len (by decide +kernel) (pa_cons (pv 4) pa_nil)) pa_nil)))))
        (pss_cons (ps_setLc (i := 11) (own := [("_law_pair", 12), ("_law_one_here", 13)]) (g := gTup K 2 (gCons (gName 12) (gCons (gName 13) gNil))) (tt := tYes) (by rfl) sc_lthing.nd rfl rfl (sw_true rfl rfl rfl (by decide +kernel)) (pi_zip (by rfl) T.n_zip (pa_cons (pv 4) (pa_cons (pv 10) pa_nil))) (blkOk_by (own := [("_law_pair", 12), ("_law_one_here", 13)]) (N := ["_law_pot_here", "_law_weight", "_law_n", "_law_k", "_law_pairs", "_law_turn", "_law_owed", "_law_a", "_law_b", "_law_bound", "_law_weighing_here", "_law_rows", "_law_pair", "_law_one_here"]) (sc := defScope s_lthing) (by decide +kernel)) (fun _ _ _ _ _ => (pg_tup (by rfl) (pgs_cons (pg_name (i := 12) sc_lthing.nd rfl (.inl rfl)) (pgs_cons (pg_name (i := 13) sc_lthing.nd rfl (.inl rfl)) pgs_nil)))) (fun _ _ _ _ _ => pts_nil) (fun _ _ _ _ _ => (pe_call (ok_lrow T) (hr.mono (by decide)) (by rfl) T.g_lrow T.F_lrow.kp T.b_lrow .nil pass0 (pa_cons (pv 0) (pa_cons (pv 1) (pa_cons (pv 2) (pa_cons (pv 3) (pa_cons (pe_ix (show IxR _ (rIxT K) from ix_tup) (pv 12) pe_int (fun _ _ => rfl)) (pa_cons (pe_ix (show IxR _ (rIxT K) from ix_tup) (pv 12) pe_int (fun _ _ => rfl)) (pa_cons (pv 13) pa_nil))))))))))
        (pss_one (ps_ret (pe_tup (pa_cons (pv 2) (pa_cons (pv 3) (pa_cons (pv 6) (pa_cons (pe_callTy call_tuple_of (by rfl) T.n_tuple (by decide +kernel) (pa_cons (pv 11) pa_nil)) pa_nil)))))))))))))))), ?_⟩
    refine ⟨_, rfl, p, _, rfl, hp, by decide, by unfold Bt; decide +kernel, fun n H1 n0 n1 s1 p1 => ?_⟩
    refine ⟨_, rfl, _, rfl, _, _, rfl, rfl, p, _, rfl, p1, by omega, (bk _ (by omega) (by omega)).mono (by decide), fun k H2 k0 k1 s2 p2 => ?_⟩
    refine ⟨by show 0 ≤ sizeLine; decide, fun L nL => ?_⟩
    have nLp : L ≠ p := p2.ne nL
    obtain ⟨H3, f3, e3, hL3⟩ : ∃ B, B = upd H2 L (.lst []) ∧ Same H2 B ∧ B L = some (.lst []) := ⟨_, rfl, same_new nL, upd_same⟩
    rw [← f3]
    have p3 := p2.same e3
    have s3 : SameX p H H3 := s1.trans (s2.trans (Same.x e3))
    have nLH : H L = none := by
      cases z : H L with
      | none => rfl
      | some o =>
        rw [(s1.trans s2) L o nLp z] at nL
        cases nL
    refine ⟨_, rfl, p, _, rfl, p3, by decide, by unfold Bt; decide +kernel, fun g H4 g0 g1 s4 p4 => ?_⟩
    -- the pairs
    refine ⟨_, rfl, by omega, by omega, for_range (lo := 0) (n := g.toNat) (fun i σ H' => ∃ (y : Option V) (vs : List V) (ab : List (Int × Int)), σ = [some (.ref p), some (.int W), some (.int n), some (.int k), some (.ref L), y, none, none, none, none, none, none, none, none] ∧ H' L = some (.lst vs) ∧ vs.length = i ∧ Parts K H' vs ab ∧ (∀ x ∈ ab, 0 ≤ x.1 ∧ x.1 ≤ k ∧ 0 ≤ x.2 ∧ x.2 ≤ n - k) ∧ SameX p H H' ∧ PotAt H' p)
      ⟨none, [], [], rfl, s4 _ _ nLp hL3, rfl, Parts.nil, fun _ h => (List.not_mem_nil h).elim, s3.trans s4, p4⟩ ?_ ?_⟩
    · rintro i σ H' hi ⟨y, vs, ab, rfl, hL, hl, hP, hab, sx, px⟩
      refine ⟨_, rfl, .inl ⟨rfl, _, .inl (.inl hL)⟩, ?_⟩
      refine ⟨_, rfl, _, rfl, _, _, rfl, rfl, p, _, rfl, px, by omega, (bk _ (by omega) (by omega)).mono (by decide), fun a H5 a0 a1 s5 p5 => ?_⟩
      refine ⟨_, rfl, _, rfl, _, rfl, _, _, rfl, rfl, _, _, rfl, rfl, p, _, rfl, p5, by omega, (bk _ (by omega) (by omega)).mono (by decide), fun b H6 b0 b1 s6 p6 => ?_⟩
      refine ⟨by show 2 ≤ sizeLine; decide, fun t nt => ?_⟩
      have et := same_new (o := .tup [.int a, .int b]) nt
      have hL6 := et _ _ (s6 _ _ nLp (s5 _ _ nLp hL))
      refine ⟨L, _, _, rfl, rfl, hL6, small1000 (by omega), ?_⟩
      have kk := (kt_x s5 px).trans ((kt_x s6 p5).trans (kt_same et))
      refine ⟨_, vs ++ [.ref t], ab ++ [(a, b)], rfl, upd_same, by simp [hl], ((hP.k kk).add TupI.new).k (kt_set hL6), ?_, samex_upd (sx.trans (s5.trans (s6.trans (Same.x et)))) nLH, (p6.same et).upd nLp⟩
      intro x hx
      rcases List.mem_append.mp hx with h | h
      · exact hab x h
      · rw [List.mem_singleton.mp h]
        exact ⟨a0, by show a ≤ k; omega, b0, by show b ≤ n - k; omega⟩
    rintro σ H5 ⟨y, vs, ab, rfl, hL, hl, hP, hab, sx, px⟩
    have hm5 : ab.length ≤ 5 := by rw [← hP.1]; omega
    have o1 := mo_okq (W := W) (n := n) (k := k) bW (by omega) (by omega) (by omega)
    have oo1 := o1.okp (m := 4400) (by decide) (by decide)
    refine ⟨_, rfl, _, rfl, _, rfl, _, _, _, rfl, bW.mono (by decide), bk _ (by omega) (by omega), bk _ (by omega) (by omega), fun m1 H6 s6 t6 => ?_⟩
    -- the least of the bounds
    refine ⟨_, rfl, L, rfl, ⟨_, .inl (.inl (s6 _ _ hL))⟩, ?_⟩
    refine for_list (K := K) (a := L) (xs := vs) (fun i σ H' => ∃ (o : V) (b : Int × Int) (y7 y8 y9 : Option V), σ = [some (.ref p), some (.int W), some (.int n), some (.int k), some (.ref L), y, some o, y7, y8, y9, none, none, none, none] ∧ TupI K H' o b.1 b.2 ∧ Lowest b.1 b.2 ∧ Okq 114 4 b ∧ Same H5 H')
      ⟨m1, mo W n k, none, none, none, rfl, t6, mo_low _ _ _, o1.mono (by decide) (by decide), s6⟩ (fun i σ H' _ ⟨_, _, _, _, _, _, _, _, _, s⟩ => .inl (.inl (s _ _ hL))) ?_ ?_
    · rintro i x σ H' hx ⟨o, b, y7, y8, y9, rfl, to, lo_, ob, s7⟩
      obtain ⟨ab1, e1, t1, rfl, ht1⟩ := hP.2 i x hx
      have hr1 := hab ab1 (List.mem_of_getElem? e1)
      have ht1 := Same.tup s7 ht1
      have ba : Bt 4 ab1.1 := Bt.of_lt (by omega) (by omega)
      have bb : Bt 4 ab1.2 := Bt.of_lt (by omega) (by omega)
      refine ⟨t1, _, rfl, ht1, rfl, _, _, rfl, _, _, rfl, rfl, ?_⟩
      refine ⟨_, rfl, _, rfl, _, rfl, _, _, _, rfl, bW.mono (by decide), bk _ (by omega) (by omega), bk _ (by omega) (by omega), fun m2 H8 s8 t8 => ?_⟩
      have b2 : Bt 2 (2 : Int) := by unfold Bt; decide
      refine ⟨_, rfl, _, rfl, _, _, rfl, rfl, bW.cmul ba (by decide), _, rfl, _, _, rfl, rfl, (bW.mul ba).cmul bb (by decide), _, _, rfl, rfl, _, _, rfl, by decide, b2.mono (by decide), fun m3 H9 s9 t9 => ?_⟩
      have bz : Bt 109 (0 - W * ab1.1 * ab1.2) := by rw [Int.zero_sub]; exact (((bW.mul ba).mul bb).mono (by decide)).neg
      have o2 : Okq 109 2 (lo (0 - W * ab1.1 * ab1.2) 2) := ⟨(lo_lowest (by decide)).1, bz.lo1, b2.lo2⟩
      have oo2 := o2.okp (m := 4400) (by decide) (by decide)
      refine ⟨_, _, _, _, _, _, rfl, t8.same s9, t9, oo1.1, oo2.1, oo1.2.1, oo1.2.2, oo2.2.1, oo2.2.2, fun m4 HA sA tA => ?_⟩
      have s7A := s8.trans (s9.trans sA)
      have tA : TupI K HA m4 (pl (mo W n k) (lo (0 - W * ab1.1 * ab1.2) 2)).1 (pl (mo W n k) (lo (0 - W * ab1.1 * ab1.2) 2)).2 := tA
      have oA : Okq 114 4 (pl (mo W n k) (lo (0 - W * ab1.1 * ab1.2) 2)) := (o1.pl o2).mono (by decide) (by decide)
      have lA : Lowest (pl (mo W n k) (lo (0 - W * ab1.1 * ab1.2) 2)).1 (pl (mo W n k) (lo (0 - W * ab1.1 * ab1.2) 2)).2 := lo_lowest (Int.mul_pos oo1.1 oo2.1)
      have ooA := oA.okp (m := 4400) (by decide) (by decide)
      have oob := ob.okp (m := 4400) (by decide) (by decide)
      refine ⟨_, rfl, _, rfl, _, _, _, _, _, _, rfl, tA, to.same s7A, ooA.2.1, ooA.2.2, oob.2.1, oob.2.2, _, rfl, ite2 (fun _ => ?_) (fun _ => ?_)⟩
      · exact ⟨_, rfl, m4, _, _, _, _, rfl, tA, lA, oA, s7.trans s7A⟩
      · exact ⟨o, b, _, _, _, rfl, to.same s7A, lo_, ob, s7.trans s7A⟩
    rintro σ H7 ⟨o, b, y7, y8, y9, rfl, to, lo_, ob, s7⟩
    have p7 := px.same s7
    refine ⟨_, rfl, _, rfl, p, o, b, rfl, p7, to, lo_, ob, fun so bs H8 ts os s8 p8 => ?_⟩
    have hL8 := s8 _ _ nLp (s7 _ _ hL)
    have k58 : KT H5 H8 := (kt_same s7).trans (kt_x s8 p7)
    refine ⟨_, rfl, _, rfl, _, rfl, L, _, rfl, .inl (.inl (.inl hL8)), ?_⟩
    have ev : vs.length = ab.length := hP.1
    refine ⟨p, W, vs.length, rfl, p8, W1, bW, by omega, fun F ws H9 nF hF hwl hws s9 p9 => ?_⟩
    have k59 := k58.trans (kt_x s9 p8)
    have hL9 := s9 _ _ nLp hL8
    have nFp : F ≠ p := p8.ne nF
    refine ⟨_, rfl, _, rfl, L, F, _, _, rfl, .inl (.inl hL9), .inl (.inl hF), fun D nD => ?_⟩
    have nDp : D ≠ p := p9.ne nD
    have nDL : L ≠ D := ne_of_none hL9 nD
    have nDF : F ≠ D := ne_of_none hF nD
    refine lc_it (walk_zip (K := K) (a := L) (b := F) (xs := vs) (ys := ws.map V.int) rfl) (fun i H' => ∃ (us : List V) (rs : List VR), H' D = some (.lst us) ∧ us.length = i ∧ VRows K H' us rs ∧ (∀ r ∈ rs, Okr n k r) ∧ SameX p H9 H' ∧ PotAt H' p)
      ⟨[], [], upd_same, rfl, VRows.nil, fun _ h => (List.not_mem_nil h).elim, Same.x (same_new nD), p9.same (same_new nD)⟩ (fun i H' _ ⟨_, _, _, _, _, _, s, _⟩ => ⟨.inl (.inl (s _ _ nLp hL9)), .inl (.inl (s _ _ nFp hF))⟩) ?_ ?_
    · rintro i x H' H'' hi ⟨us, rs, hD, hul, hV, hok, sA, pA⟩ ⟨t, v1, v2, rfl, nt, rfl, e1, e2⟩
      have e1 : vs[i]? = some v1 := e1
      have e2 : (ws.map V.int)[i]? = some v2 := e2
      obtain ⟨ab1, ea, t1, rfl, ht1⟩ := hP.2 i v1 e1
      have hr1 := hab ab1 (List.mem_of_getElem? ea)
      obtain ⟨wv, hwv, rfl⟩ : ∃ wv, ws[i]? = some wv ∧ V.int wv = v2 := by
        rw [List.getElem?_map] at e2
        cases z : ws[i]? with
        | none => rw [z] at e2; cases e2
        | some a => rw [z] at e2; exact ⟨a, rfl, Option.some.inj e2⟩
      have et := same_new (o := .tup [.ref t1, .int wv]) nt
      refine ⟨t, _, rfl, .inl (.inl upd_same), rfl, _, _, rfl, _, _, rfl, rfl, rfl, tyes (iteT ?_)⟩
      have ht1 := ((k59.trans (kt_x sA p9)).trans (kt_same et)).sqt ht1
      have pA2 := pA.same et
      refine ⟨_, rfl, _, rfl, _, rfl, _, rfl, _, rfl, t1, _, 0, _, rfl, rfl, ht1, atI_nat (j := 0) rfl, _, rfl, t1, _, 1, _, rfl, rfl, ht1, atI_nat (j := 1) rfl, _, rfl, ?_⟩
      refine ⟨p, W, n, k, ab1.1, ab1.2, wv, rfl, pA2, bW, by omega, by omega, by omega, hr1.1, hr1.2.1, hr1.2.2.1, hr1.2.2.2, hws wv (List.mem_of_getElem? hwv), fun v r HB hv or sB pB => ?_⟩
      have hDB := sB _ _ nDp (et _ _ hD)
      have kB := (kt_same et).trans (kt_x sB pA2)
      have hi : i < vs.length := by have := Nat.min_le_left vs.length (ws.map V.int).length; omega
      refine ⟨us, hDB, small1000 (by omega), us ++ [v], rs ++ [r], upd_same, by simp [hul], ((hV.k kB).add hv).k (kt_set hDB), ?_, samex_upd (sA.trans ((Same.x et).trans sB)) nD, pB.upd nDp⟩
      intro z hz
      rcases List.mem_append.mp hz with h | h
      · exact hok z h
      · rw [List.mem_singleton.mp h]; exact or
    rintro HA ⟨us, rs, hD, hul, hV, hok, sA, pA⟩
    have k8A := (kt_x s9 p8).trans (kt_x sA p9)
    refine ⟨_, rfl, _, rfl, _, rfl, _, rfl, D, us, rfl, .inl ⟨.inl (.inl hD), fun R nR => ?_⟩⟩
    have eR := same_new (o := .tup us) nR
    refine ⟨by show 4 ≤ sizeLine; decide, fun t nt => ?_⟩
    have et := same_new (o := .tup [.int n, .int k, so, .ref R]) nt
    have kk := k8A.trans ((kt_same eR).trans (kt_same et))
    have hrl : rs.length ≤ 5 := by rw [← hV.1, hul]; have := Nat.min_le_left vs.length (ws.map V.int).length; omega
    exact q _ n k bs rs _ ⟨t, so, R, us, rfl, .inl (.inl upd_same), ts.k kk, Same.tup et (.inl (.inl upd_same)), (hV.k (kt_same eR)).k (kt_same et)⟩ ⟨W1, bW, k0, by omega, by omega, os⟩ hrl hok (sx.trans ((Same.x s7).trans (s8.trans (s9.trans (sA.trans ((Same.x eR).trans (Same.x et))))))) ((pA.same eR).same et)

end
end WS

set_option Elab.async false
set_option linter.all false
set_option maxRecDepth 100000
set_option maxHeartbeats 4000000
namespace WS
open PySem PySem.Spec PyProof.Rows L2
section
variable {P : Program} {w : World} {K : PySem.W.Frag} {mg : Str → Option Value} {base : Heap}
theorem ok_lone (T : Tx K mg) {A : Around} (hg : Calm A) : FnAt A P w K mg base CX0 7 T.f_lone T.d_lone ["_law_pot_here"] spOne := by
  refine fun_at T.F_lone sc_lone (fun vs H Q E h => ?_) (fun cdv outer s H vs Q E hr h => ?_)
  · obtain ⟨p, rfl, _⟩ := h
    rfl
  · obtain ⟨p, rfl, hp, q⟩ := h
    have c30 : (10 : Int) ^ (30 : Int).toNat < 2 ^ 100 := by decide +kernel
    have d30 : 1 < (10 : Int) ^ (30 : Int).toNat := by decide +kernel
    refine ⟨_, PSs.nox (pss_cons (ps_set (i := 1) sc_lone.nd rfl (.inl rfl) (pe_ix ix_list (pe_lst (pa_cons pe_int (pa_cons pe_int (pa_cons pe_int (pa_cons (pe_op op_add pe_int (pe_call (ok_ldigit T) (hr.mono (by decide)) (by rfl) T.g_ldigit T.F_ldigit.kp T.b_ldigit .nil pass0 (pa_cons (pv 0) (pa_cons pe_int pa_nil)))) (pa_cons (pe_op op_add pe_int (pe_call (ok_ldigit T) (hr.mono (by decide)) (by rfl) T.g_ldigit T.F_ldigit.kp T.b_ldigit .nil pass0 (pa_cons (pv 0) (pa_cons (pe_op op_sub (pe_op op_pow pe_int pe_int) pe_int) pa_nil)))) pa_nil)))))) (pe_call (ok_ldigit T) (hr.mono (by decide)) (by rfl) T.g_ldigit T.F_ldigit.kp T.b_ldigit .nil pass0 (pa_cons (pv 0) (pa_cons pe_int pa_nil))) (fun _ _ => rfl)))
        (pss_cons (ps_set (i := 2) sc_lone.nd rfl (.inl rfl) (pe_call (ok_lthing T) (hr.mono (by decide)) (by rfl) T.g_lthing T.F_lthing.kp T.b_lthing .nil pass0 (pa_cons (pv 0) (pa_cons (pv 1) pa_nil))))
        (pss_cons (ps_set (i := 3) sc_lone.nd rfl (.inl rfl) (pe_call (ok_voucher_holds T) (hr.mono (by decide)) (by rfl) T.g_voucher_holds T.F_voucher_holds.kp T.b_voucher_holds .nil pass0 (pa_cons (pv 1) (pa_cons (pv 2) pa_nil))))
        (pss_cons (ps_if (PW.pt (pw_or (pt_not (pt_val (pe_callB call_isi (by rfl) T.n_isinstance (by decide +kernel) (pa_cons (pv 3) (pa_cons (pe_bltn (v := .ty "bool") (by rfl) T.n_bool (by decide +kernel) rfl) pa_nil))))) (pw_or1 (pt_cmpR op_ne (pv 3) (pe_call (ok_lholds T) (hr.mono (by decide)) (by rfl) T.g_lholds T.F_lholds.kp T.b_lholds .nil pass0 (pa_cons (pv 1) (pa_cons (pv 2) pa_nil))) (nomark _))))) (pss_one (ps_ret pe_bl)) pss_nil)
        (pss_cons (ps_if (pt_not (pt_val (pv 3))) (pss_one (ps_ret pe_bl)) pss_nil)
        (pss_cons (ps_set (i := 4) sc_lone.nd rfl (.inl rfl) (pe_ix ix_tup (pv 2) pe_int (fun _ _ => rfl)))
        (pss_cons (ps_for PassesOwn.never rfl (pi_tup (pe_ix ix_tup (pv 2) pe_int (fun _ _ => rfl))) (pg_name (i := 5) sc_lone.nd rfl (.inl rfl)) (pss_one (ps_set (i := 4) sc_lone.nd rfl (.inl rfl) (pe_call (ok_lplus T) (hr.mono (by decide)) (by rfl) T.g_lplus T.F_lplus.kp T.b_lplus .nil pass0 (pa_cons (pv 4) (pa_cons (pe_call (ok_ltimes T) (hr.mono (by decide)) (by rfl) T.g_ltimes T.F_ltimes.kp T.b_ltimes .nil pass0 (pa_cons (pe_ix ix_tup (pv 5) pe_int (fun _ _ => rfl)) (pa_cons (pe_ix ix_tup (pv 5) pe_int (fun _ _ => rfl)) pa_nil))) pa_nil))))))
        (pss_cons (ps_if (pt_cmpR op_ne (pe_callB (call_reprD (Calm.down hg _) hr.units) (by rfl) T.n_repr (by decide +kernel) (pa_cons (pe_call (ok_vouched T) (hr.mono (by decide)) (by rfl) T.g_vouched T.F_vouched.kp T.b_vouched .nil pass0 (pa_cons (pv 2) pa_nil)) pa_nil)) (pe_callB (call_reprD (Calm.down hg _) hr.units) (by rfl) T.n_repr (by decide +kernel) (pa_cons (pv 4) pa_nil)) (nomark _)) (pss_one (ps_ret pe_bl)) pss_nil)
        (pss_one (ps_ret (pe_not (pe_call (ok_lless T) (hr.mono (by decide)) (by rfl) T.g_lless T.F_lless.kp T.b_lless .nil pass0 (pa_cons (pe_call (ok_lmost T) (hr.mono (by decide)) (by rfl) T.g_lmost T.F_lmost.kp T.b_lmost .nil pass0 (pa_cons (pv 1) (pa_cons (pe_ix ix_tup (pv 2) pe_int (fun _ _ => rfl)) (pa_cons (pe_ix ix_tup (pv 2) pe_int (fun _ _ => rfl)) pa_nil)))) (pa_cons (pv 4) pa_nil)))))))))))))), ?_⟩
    refine ⟨_, rfl, p, _, rfl, hp, by decide, by unfold Bt; decide +kernel, fun a H1 a0 a1 s1 p1 => ?_⟩
    refine ⟨_, _, rfl, rfl, _, rfl, _, _, rfl, rfl, ⟨by decide, by decide, by decide⟩, _, _, rfl, rfl, p, _, rfl, p1, by omega, (Bt.of_lt (n := 100) (by omega) (by omega)).mono (by decide), fun b H2 b0 b1 s2 p2 => ?_⟩
    refine ⟨_, _, rfl, rfl, by show 5 ≤ sizeLine; decide, fun l nl => ?_⟩
    obtain ⟨H3, f3, e3, hL⟩ : ∃ B, B = upd H2 l (.lst [.int 1, .int 2, .int 6, .int (1 + a), .int (1 + b)]) ∧ Same H2 B ∧ B l = some (.lst [.int 1, .int 2, .int 6, .int (1 + a), .int (1 + b)]) := ⟨_, rfl, same_new nl, upd_same⟩
    rw [← f3]
    have p3 := p2.same e3
    refine ⟨_, rfl, p, _, rfl, p3, by decide, by unfold Bt; decide +kernel, fun d H4 d0 d1 s4 p4 => ?_⟩
    obtain ⟨v2, hv, hm⟩ := pick (xs := [V.int 1, V.int 2, V.int 6, V.int (1 + a), V.int (1 + b)]) (d := d) d0 d1
    obtain ⟨W, rfl, W1, bW⟩ : ∃ W : Int, v2 = .int W ∧ 1 ≤ W ∧ Bt 101 W := by
      simp only [List.mem_cons, List.not_mem_nil, or_false] at hm
      rcases hm with rfl | rfl | rfl | rfl | rfl
      · exact ⟨_, rfl, by omega, by unfold Bt; decide +kernel⟩
      · exact ⟨_, rfl, by omega, by unfold Bt; decide +kernel⟩
      · exact ⟨_, rfl, by omega, by unfold Bt; decide +kernel⟩
      · exact ⟨_, rfl, by omega, Bt.of_lt (by omega) (by omega)⟩
      · exact ⟨_, rfl, by omega, Bt.of_lt (by omega) (by omega)⟩
    have nlp : l ≠ p := p3.nel hL (by simp)
    refine ⟨l, _, _, _, rfl, rfl, .inl (.inl (s4 _ _ nlp hL)), hv, ?_⟩
    have s4 : SameX p H H4 := s1.trans (s2.trans ((Same.x e3).trans s4))
    refine ⟨_, rfl, _, rfl, p, W, rfl, p4, W1, bW, fun v n k s rs H5 hv oh l5 okr s5 p5 => ?_⟩
    have s5 := s4.trans s5
    refine ⟨_, rfl, _, rfl, W, v, n, k, s, rs, rfl, hv, oh, l5, okr, fun H6 s6 => ?_⟩
    have hv6 := hv.k (kt_same s6)
    refine ⟨_, rfl, _, _, _, _, true, rfl, .ty "bool", .base (.bl _), kit_ty (by decide +kernel), true, rfl, iteF ?_⟩
    refine ⟨_, rfl, _, rfl, _, rfl, W, v, n, k, s, rs, rfl, hv6, oh, l5, okr, fun H7 s7 => ?_⟩
    refine ⟨rfl, _, rfl, ?_⟩
    rw [decide_eq_true rfl]
    refine iteF ?_
    have s67 := s6.trans s7
    refine ⟨_, rfl, _, rfl, ?_⟩
    cases hh : holdB W n k s rs with
    | false => exact iteT (q _ (s5.trans (Same.x s67)))
    | true =>
    refine iteF ?_
    have hv7 := hv.k (kt_same s67)
    have hv7' := hv7
    obtain ⟨t, u, R, vs, rfl, ht, hu, hR, hV⟩ := hv7'
    have os := oh.2.2.2.2.2
    refine ⟨_, rfl, t, _, 2, _, rfl, rfl, ht, atI_nat (j := 2) rfl, ?_⟩
    refine ⟨_, rfl, t, _, 3, _, rfl, rfl, ht, atI_nat (j := 3) rfl, R, rfl, ⟨_, hR⟩, ?_⟩
    have okf : ∀ j, Okq 784 552 (vsum s (rs.take j)) := fun j => by
      have := vsum_okq (rs.take j) 0 0 s (by have := os.2; exact this.mono (by omega) (by omega)) (fun z hz => okr z (List.mem_of_mem_take hz))
      have hl : (rs.take j).length ≤ 5 := by rw [List.length_take]; omega
      exact this.mono (by omega) (by omega)
    refine for_tup (K := K) (a := R) (xs := vs) (fun j σ H' => ∃ f y, σ = [some (.ref p), some (.int W), some (.ref t), some (.bl true), some f, y] ∧ Same H7 H' ∧ TupI K H' f (vsum s (rs.take j)).1 (vsum s (rs.take j)).2) ⟨u, none, by rw [← hh]; rfl, Same.refl _, hu⟩ (fun j σ H' _ ⟨_, _, _, s, _⟩ => Same.tup s hR) ?_ ?_
    · rintro j x σ H' hx ⟨f, y, rfl, s1, tf⟩
      obtain ⟨r, hr', hv⟩ := hV.2 j x hx
      have hj : j < rs.length := (List.getElem?_eq_some_iff.mp hr').1
      have hm := List.mem_of_getElem? hr'
      obtain ⟨t', x1, x2, x3, rfl, ht', _, _, h3⟩ := hv
      have o := okr r hm
      have oc := o.2.2.2.2.2.2.2
      have oc1 := oc.okp (m := 4400) (by decide)
      have of := (okf j).okp (m := 4400) (by decide) (by decide)
      have ot := (oc.2.tm o.2.2.2.2.1).okp (m := 4400) (by decide) (by decide)
      have ht1 := Same.tup s1 ht'
      refine ⟨_, rfl, _, rfl, t', _, 5, _, rfl, rfl, ht1, atI_nat (j := 5) rfl, _, rfl, t', _, 0, _, rfl, rfl, ht1, atI_nat (j := 0) rfl, _, _, _, _, rfl, h3.same s1, oc1.1, oc1.2.1, oc1.2.2, o.2.2.2.2.1.mono (by decide), fun d1 H2 s2 t2 => ?_⟩
      refine ⟨_, _, _, _, _, _, rfl, tf.same s2, t2, of.1, ot.1, of.2.1, of.2.2, ot.2.1, ot.2.2, fun d2 H3 s3 t3 => ?_⟩
      refine ⟨d2, _, rfl, s1.trans (s2.trans s3), ?_⟩
      have e : vsum s (rs.take (j + 1)) = pl (vsum s (rs.take j)) (tm r.c r.w) := by
        rw [List.take_add_one, hr']
        unfold vsum
        rw [List.foldl_append]
        rfl
      rw [e]
      exact t3
    rintro σ H8 ⟨f, y, rfl, s8, tf⟩
    have of := okf vs.length
    rw [hV.1, List.take_length] at tf of
    have of1 := of.okp (m := 1900) (by decide) (by decide)
    refine ⟨_, rfl, _, n, k, s, rs, rfl, hv7.k (kt_same s8), os, l5, okr, fun v9 H9 s9 t9 => ?_⟩
    have sh := pd_show of1.2.1 of1.2.2
    have ln : (pd (vsum s rs).1 (vsum s rs).2).shown.length ≤ sizeLine := Nat.le_trans (pd_len (n := 1900) (by decide) of1.2.1 of1.2.2) (by decide)
    refine ⟨_, _, rfl, pd_dp t9, sh, rfl, by simp [pd, PyData.depth, PyData.depthAll], ln, _, rfl, _, _, rfl, pd_dp (tf.same s9), sh, rfl, by simp [pd, PyData.depth, PyData.depthAll], ln, rfl, _, rfl, ?_⟩
    rw [decide_eq_true rfl]
    refine iteF ?_
    have ht9 := Same.tup (s8.trans s9) ht
    have bk : ∀ i : Int, 0 ≤ i → i ≤ 12 → Bt 200 i := fun i h0 h1 => Bt.of_lt (by omega) (by omega)
    obtain ⟨_, _, k0, kn, n12, _⟩ := oh
    have oo1 := (mo_okq (W := W) (n := n) (k := k) bW (by omega) (by omega) n12).okp (m := 4400) (by decide) (by decide)
    have of4 := of.okp (m := 4400) (by decide) (by decide)
    refine ⟨_, rfl, _, rfl, t, _, 0, _, rfl, rfl, ht9, atI_nat (j := 0) rfl, _, rfl, t, _, 1, _, rfl, rfl, ht9, atI_nat (j := 1) rfl, _, _, _, rfl, bW.mono (by decide), bk _ (by omega) (by omega), bk _ (by omega) (by omega), fun m1 HA sA tA => ?_⟩
    refine ⟨_, rfl, _, _, _, _, _, _, rfl, tA, tf.same (s9.trans sA), oo1.2.1, oo1.2.2, of4.2.1, of4.2.2, _, rfl, ?_⟩
    have e := vouch_le ⟨W1, bW, k0, kn, n12, os⟩ okr hh
    have e' : decide ((lo (W * k * (n - k)) 2).1 * (vsum s rs).2 < (vsum s rs).1 * (lo (W * k * (n - k)) 2).2) = false := e
    rw [e']
    exact q _ (s5.trans (Same.x (s67.trans (s8.trans (s9.trans sA)))))
theorem ok_law (T : Tx K mg) {A : Around} (hg : Calm A) : FnAt A P w K mg base CX0 8 T.f_law T.d_law ["_law_script"] (spLaw K) := by
  refine fun_at T.F_law sc_law (fun vs H Q E h => ?_) (fun cdv outer s H vs Q E hr h => ?_)
  · obtain ⟨a, ns, rfl, _⟩ := h
    rfl
  · obtain ⟨a, ns, rfl, hS, hlen, q⟩ := h
    refine ⟨_, PSs.nox (pss_one (ps_ret (pe_callB (cr_all (by rfl)) (by rfl) T.n_all (by decide +kernel) (pa_cons (pe_lc (own := [("_law_k", 1)]) (g := gName 1) (tt := tYes) (by rfl) sc_law.nd (pi_range1 (by rfl) T.n_range (pa_cons (pe_callB (call_max2 (by rfl)) (by rfl) T.n_max (by decide +kernel) (pa_cons pe_int (pa_cons (pe_callB (call_min2 (by rfl)) (by rfl) T.n_min (by decide +kernel) (pa_cons (pe_callB call_len_seq (by rfl) T.n_len (by decide +kernel) (pa_cons (pv 0) pa_nil)) (pa_cons pe_int pa_nil))) pa_nil))) pa_nil)) (blkOk_by (own := [("_law_k", 1)]) (N := ["_law_script", "_law_k"]) (sc := defScope s_law) (by decide +kernel)) (fun _ _ _ _ _ => (pg_name (i := 1) sc_law.nd rfl (.inl rfl))) (fun _ _ _ _ _ => pts_nil) (fun _ _ _ _ _ => (pe_callA (ok_lone T (Calm.down hg _)) (hr.mono (by decide)) (by rfl) T.g_lone T.F_lone.kp T.b_lone .nil pass0 (pa_cons (pe_call (ok_lpot T) (hr.mono (by decide)) (by rfl) T.g_lpot T.F_lpot.kp T.b_lpot .nil pass0 (pa_cons (pv 0) (pa_cons (pv 1) pa_nil))) pa_nil)))) pa_nil)))), ?_⟩
    refine ⟨_, rfl, a, _, rfl, .inl hS, _, _, rfl, _, _, rfl, ?_⟩
    rw [List.length_map]
    refine ⟨_, rfl, ?_, ?_, fun D nD => ?_⟩
    · split <;> omega
    · show (if (if (10 : Int) < ns.length then (10 : Int) else ns.length) > 1 then (if (10 : Int) < ns.length then (10 : Int) else ns.length) else 1) < 2 ^ 62
      split <;> split <;> omega
    · generalize hN : (if (if (10 : Int) < ns.length then (10 : Int) else ns.length) > 1 then (if (10 : Int) < ns.length then (10 : Int) else ns.length) else 1).toNat = N
      have hN2 : N ≤ 10 := by rw [← hN]; split <;> split <;> omega
      refine lc_range (lo := 0) (n := N) (fun i H' => H' D = some (.lst ((List.replicate i true).map V.bl)) ∧ ∀ o, H a = some o → H' a = some o) ⟨upd_same, same_new nD a⟩ ?_ ?_
      · rintro i H' hi ⟨hD, hS'⟩
        refine ⟨rfl, tyes ?_⟩
        refine iteT ?_
        refine ⟨_, rfl, _, rfl, a, ns, _, rfl, seq_keep hS hS', by omega, by omega, fun p H2 s2 np hp => ?_⟩
        refine ⟨p, rfl, hp, fun H3 s3 => ?_⟩
        have nDp : D ≠ p := ne_of_none hD np
        have hD3 : H3 D = some (.lst ((List.replicate i true).map V.bl)) := s3 D _ nDp (s2 _ _ hD)
        refine ⟨_, hD3, ?_, ?_, ?_⟩
        · rw [List.length_map, List.length_replicate]
          exact small1000 (by omega)
        · rw [upd_same, List.replicate_succ', List.map_append]
          rfl
        · intro o e
          rw [upd_ne (ne_of_none e nD)]
          exact s3 a o (ne_of_none (hS' o e) np) (s2 a o (hS' o e))
      · rintro H' ⟨hD, hS'⟩
        refine ⟨D, _, rfl, .inl (.inl hD), ?_⟩
        rw [all_true]
        exact q _


end
end WS

set_option Elab.async false
set_option linter.all false
set_option maxRecDepth 100000
set_option maxHeartbeats 4000000
namespace WS
open PySem PySem.Spec PyProof.Rows L2
theorem all_mk {l : PySem.W.OpenLaw} {w : World} {K : PySem.W.Frag} {h : Heap} {mg : Str → Option Value} {fa : Addr} (X : K.In h) (G : h.Ns mainGlobals mg) (hfa : mg "law" = some (.ref fa))
    {f_is_whole : Addr} {od_is_whole an_is_whole : Option Addr} {sl_is_whole : Array (Option Value)} {oc_is_whole dc_is_whole pm_is_whole cd_is_whole ct_is_whole : Value} {kV_is_whole : Value}
    {f_greatest_common : Addr} {od_greatest_common an_greatest_common : Option Addr} {sl_greatest_common : Array (Option Value)} {oc_greatest_common dc_greatest_common pm_greatest_common cd_greatest_common ct_greatest_common : Value} {kV_greatest_common : Value}
    {f_is_part : Addr} {od_is_part an_is_part : Option Addr} {sl_is_part : Array (Option Value)} {oc_is_part dc_is_part pm_is_part cd_is_part ct_is_part : Value} {kV_is_part : Value}
    {f_part : Addr} {od_part an_part : Option Addr} {sl_part : Array (Option Value)} {oc_part dc_part pm_part cd_part ct_part : Value} {kV_part : Value}
    {dT_part : Addr} {do_part : Option Addr} {dn_part : Nat} {ds_part : Array (Option Value)} {dt_part : Tok}
    {f_plus : Addr} {od_plus an_plus : Option Addr} {sl_plus : Array (Option Value)} {oc_plus dc_plus pm_plus cd_plus ct_plus : Value} {kV_plus : Value}
    {f_minus : Addr} {od_minus an_minus : Option Addr} {sl_minus : Array (Option Value)} {oc_minus dc_minus pm_minus cd_minus ct_minus : Value} {kV_minus : Value}
    {f_times : Addr} {od_times an_times : Option Addr} {sl_times : Array (Option Value)} {oc_times dc_times pm_times cd_times ct_times : Value} {kV_times : Value}
    {f_is_less : Addr} {od_is_less an_is_less : Option Addr} {sl_is_less : Array (Option Value)} {oc_is_less dc_is_less pm_is_less cd_is_less ct_is_less : Value} {kV_is_less : Value}
    {f_most : Addr} {od_most an_most : Option Addr} {sl_most : Array (Option Value)} {oc_most dc_most pm_most cd_most ct_most : Value} {kV_most : Value}
    {f_is_weight : Addr} {od_is_weight an_is_weight : Option Addr} {sl_is_weight : Array (Option Value)} {oc_is_weight dc_is_weight pm_is_weight cd_is_weight ct_is_weight : Value} {kV_is_weight : Value}
    {f_is_number_to : Addr} {od_is_number_to an_is_number_to : Option Addr} {sl_is_number_to : Array (Option Value)} {oc_is_number_to dc_is_number_to pm_is_number_to cd_is_number_to ct_is_number_to : Value} {kV_is_number_to : Value}
    {f_is_part_to : Addr} {od_is_part_to an_is_part_to : Option Addr} {sl_is_part_to : Array (Option Value)} {oc_is_part_to dc_is_part_to pm_is_part_to cd_is_part_to ct_is_part_to : Value} {kV_is_part_to : Value}
    {f_row_holds : Addr} {od_row_holds an_row_holds : Option Addr} {sl_row_holds : Array (Option Value)} {oc_row_holds dc_row_holds pm_row_holds cd_row_holds ct_row_holds : Value} {kV_row_holds : Value}
    {f_head_holds : Addr} {od_head_holds an_head_holds : Option Addr} {sl_head_holds : Array (Option Value)} {oc_head_holds dc_head_holds pm_head_holds cd_head_holds ct_head_holds : Value} {kV_head_holds : Value}
    {f_voucher_holds : Addr} {od_voucher_holds an_voucher_holds : Option Addr} {sl_voucher_holds : Array (Option Value)} {oc_voucher_holds dc_voucher_holds pm_voucher_holds cd_voucher_holds ct_voucher_holds : Value} {kV_voucher_holds : Value}
    {f_vouched : Addr} {od_vouched an_vouched : Option Addr} {sl_vouched : Array (Option Value)} {oc_vouched dc_vouched pm_vouched cd_vouched ct_vouched : Value} {kV_vouched : Value}
    {f_lpot : Addr} {od_lpot an_lpot : Option Addr} {sl_lpot : Array (Option Value)} {oc_lpot dc_lpot pm_lpot cd_lpot ct_lpot : Value} {kV_lpot : Value}
    {f_ldigit : Addr} {od_ldigit an_ldigit : Option Addr} {sl_ldigit : Array (Option Value)} {oc_ldigit dc_ldigit pm_ldigit cd_ldigit ct_ldigit : Value} {kV_ldigit : Value}
    {f_llow : Addr} {od_llow an_llow : Option Addr} {sl_llow : Array (Option Value)} {oc_llow dc_llow pm_llow cd_llow ct_llow : Value} {kV_llow : Value}
    {f_lplus : Addr} {od_lplus an_lplus : Option Addr} {sl_lplus : Array (Option Value)} {oc_lplus dc_lplus pm_lplus cd_lplus ct_lplus : Value} {kV_lplus : Value}
    {f_ltimes : Addr} {od_ltimes an_ltimes : Option Addr} {sl_ltimes : Array (Option Value)} {oc_ltimes dc_ltimes pm_ltimes cd_ltimes ct_ltimes : Value} {kV_ltimes : Value}
    {f_lless : Addr} {od_lless an_lless : Option Addr} {sl_lless : Array (Option Value)} {oc_lless dc_lless pm_lless cd_lless ct_lless : Value} {kV_lless : Value}
    {f_lmost : Addr} {od_lmost an_lmost : Option Addr} {sl_lmost : Array (Option Value)} {oc_lmost dc_lmost pm_lmost cd_lmost ct_lmost : Value} {kV_lmost : Value}
    {f_lis_whole : Addr} {od_lis_whole an_lis_whole : Option Addr} {sl_lis_whole : Array (Option Value)} {oc_lis_whole dc_lis_whole pm_lis_whole cd_lis_whole ct_lis_whole : Value} {kV_lis_whole : Value}
    {f_lis_part : Addr} {od_lis_part an_lis_part : Option Addr} {sl_lis_part : Array (Option Value)} {oc_lis_part dc_lis_part pm_lis_part cd_lis_part ct_lis_part : Value} {kV_lis_part : Value}
    {f_lrow_holds : Addr} {od_lrow_holds an_lrow_holds : Option Addr} {sl_lrow_holds : Array (Option Value)} {oc_lrow_holds dc_lrow_holds pm_lrow_holds cd_lrow_holds ct_lrow_holds : Value} {kV_lrow_holds : Value}
    {f_lholds : Addr} {od_lholds an_lholds : Option Addr} {sl_lholds : Array (Option Value)} {oc_lholds dc_lholds pm_lholds cd_lholds ct_lholds : Value} {kV_lholds : Value}
    {f_lnear : Addr} {od_lnear an_lnear : Option Addr} {sl_lnear : Array (Option Value)} {oc_lnear dc_lnear pm_lnear cd_lnear ct_lnear : Value} {kV_lnear : Value}
    {f_lrow : Addr} {od_lrow an_lrow : Option Addr} {sl_lrow : Array (Option Value)} {oc_lrow dc_lrow pm_lrow cd_lrow ct_lrow : Value} {kV_lrow : Value}
    {f_lweighing : Addr} {od_lweighing an_lweighing : Option Addr} {sl_lweighing : Array (Option Value)} {oc_lweighing dc_lweighing pm_lweighing cd_lweighing ct_lweighing : Value} {kV_lweighing : Value}
    {f_lthing : Addr} {od_lthing an_lthing : Option Addr} {sl_lthing : Array (Option Value)} {oc_lthing dc_lthing pm_lthing cd_lthing ct_lthing : Value} {kV_lthing : Value}
    {f_lone : Addr} {od_lone an_lone : Option Addr} {sl_lone : Array (Option Value)} {oc_lone dc_lone pm_lone cd_lone ct_lone : Value} {kV_lone : Value}
    {f_law : Addr} {od_law an_law : Option Addr} {sl_law : Array (Option Value)} {oc_law dc_law pm_law cd_law ct_law : Value} {kV_law : Value}
    (a_is_whole : PySem.W.nsIn K mainGlobals "is_whole" = some (some (.ref f_is_whole)))
    (l_is_whole : K.lookup f_is_whole = some ⟨oc_is_whole, od_is_whole, .func (PySem.W.fnOf "is_whole" "is_whole" (defArgs s_is_whole) (defBody s_is_whole) (defScope s_is_whole) .none kV_is_whole dc_is_whole pm_is_whole an_is_whole cd_is_whole ct_is_whole), sl_is_whole⟩)
    (c_is_whole : PySem.W.codeIn K cd_is_whole "is_whole" = true) (k_is_whole : PySem.W.keepIn K (.ref f_is_whole) = true)
    (a_greatest_common : PySem.W.nsIn K mainGlobals "greatest_common" = some (some (.ref f_greatest_common)))
    (l_greatest_common : K.lookup f_greatest_common = some ⟨oc_greatest_common, od_greatest_common, .func (PySem.W.fnOf "greatest_common" "greatest_common" (defArgs s_greatest_common) (defBody s_greatest_common) (defScope s_greatest_common) .none kV_greatest_common dc_greatest_common pm_greatest_common an_greatest_common cd_greatest_common ct_greatest_common), sl_greatest_common⟩)
    (c_greatest_common : PySem.W.codeIn K cd_greatest_common "greatest_common" = true) (k_greatest_common : PySem.W.keepIn K (.ref f_greatest_common) = true)
    (a_is_part : PySem.W.nsIn K mainGlobals "is_part" = some (some (.ref f_is_part)))
    (l_is_part : K.lookup f_is_part = some ⟨oc_is_part, od_is_part, .func (PySem.W.fnOf "is_part" "is_part" (defArgs s_is_part) (defBody s_is_part) (defScope s_is_part) .none kV_is_part dc_is_part pm_is_part an_is_part cd_is_part ct_is_part), sl_is_part⟩)
    (c_is_part : PySem.W.codeIn K cd_is_part "is_part" = true) (k_is_part : PySem.W.keepIn K (.ref f_is_part) = true)
    (a_part : PySem.W.nsIn K mainGlobals "part" = some (some (.ref f_part)))
    (l_part : K.lookup f_part = some ⟨oc_part, od_part, .func (PySem.W.fnOf "part" "part" (defArgs s_part) (defBody s_part) (defScope s_part) (.ref dT_part) kV_part dc_part pm_part an_part cd_part ct_part), sl_part⟩)
    (c_part : PySem.W.codeIn K cd_part "part" = true) (k_part : PySem.W.keepIn K (.ref f_part) = true)
    (q_part : K.lookup dT_part = some ⟨.type "tuple", do_part, .seq #[.int 1 dt_part] dn_part, ds_part⟩)
    (a_plus : PySem.W.nsIn K mainGlobals "plus" = some (some (.ref f_plus)))
    (l_plus : K.lookup f_plus = some ⟨oc_plus, od_plus, .func (PySem.W.fnOf "plus" "plus" (defArgs s_plus) (defBody s_plus) (defScope s_plus) .none kV_plus dc_plus pm_plus an_plus cd_plus ct_plus), sl_plus⟩)
    (c_plus : PySem.W.codeIn K cd_plus "plus" = true) (k_plus : PySem.W.keepIn K (.ref f_plus) = true)
    (a_minus : PySem.W.nsIn K mainGlobals "minus" = some (some (.ref f_minus)))
    (l_minus : K.lookup f_minus = some ⟨oc_minus, od_minus, .func (PySem.W.fnOf "minus" "minus" (defArgs s_minus) (defBody s_minus) (defScope s_minus) .none kV_minus dc_minus pm_minus an_minus cd_minus ct_minus), sl_minus⟩)
    (c_minus : PySem.W.codeIn K cd_minus "minus" = true) (k_minus : PySem.W.keepIn K (.ref f_minus) = true)
    (a_times : PySem.W.nsIn K mainGlobals "times" = some (some (.ref f_times)))
    (l_times : K.lookup f_times = some ⟨oc_times, od_times, .func (PySem.W.fnOf "times" "times" (defArgs s_times) (defBody s_times) (defScope s_times) .none kV_times dc_times pm_times an_times cd_times ct_times), sl_times⟩)
    (c_times : PySem.W.codeIn K cd_times "times" = true) (k_times : PySem.W.keepIn K (.ref f_times) = true)
    (a_is_less : PySem.W.nsIn K mainGlobals "is_less" = some (some (.ref f_is_less)))
    (l_is_less : K.lookup f_is_less = some ⟨oc_is_less, od_is_less, .func (PySem.W.fnOf "is_less" "is_less" (defArgs s_is_less) (defBody s_is_less) (defScope s_is_less) .none kV_is_less dc_is_less pm_is_less an_is_less cd_is_less ct_is_less), sl_is_less⟩)
    (c_is_less : PySem.W.codeIn K cd_is_less "is_less" = true) (k_is_less : PySem.W.keepIn K (.ref f_is_less) = true)
    (a_most : PySem.W.nsIn K mainGlobals "most" = some (some (.ref f_most)))
    (l_most : K.lookup f_most = some ⟨oc_most, od_most, .func (PySem.W.fnOf "most" "most" (defArgs s_most) (defBody s_most) (defScope s_most) .none kV_most dc_most pm_most an_most cd_most ct_most), sl_most⟩)
    (c_most : PySem.W.codeIn K cd_most "most" = true) (k_most : PySem.W.keepIn K (.ref f_most) = true)
    (a_is_weight : PySem.W.nsIn K mainGlobals "is_weight" = some (some (.ref f_is_weight)))
    (l_is_weight : K.lookup f_is_weight = some ⟨oc_is_weight, od_is_weight, .func (PySem.W.fnOf "is_weight" "is_weight" (defArgs s_is_weight) (defBody s_is_weight) (defScope s_is_weight) .none kV_is_weight dc_is_weight pm_is_weight an_is_weight cd_is_weight ct_is_weight), sl_is_weight⟩)
    (c_is_weight : PySem.W.codeIn K cd_is_weight "is_weight" = true) (k_is_weight : PySem.W.keepIn K (.ref f_is_weight) = true)
    (a_is_number_to : PySem.W.nsIn K mainGlobals "is_number_to" = some (some (.ref f_is_number_to)))
    (l_is_number_to : K.lookup f_is_number_to = some ⟨oc_is_number_to, od_is_number_to, .func (PySem.W.fnOf "is_number_to" "is_number_to" (defArgs s_is_number_to) (defBody s_is_number_to) (defScope s_is_number_to) .none kV_is_number_to dc_is_number_to pm_is_number_to an_is_number_to cd_is_number_to ct_is_number_to), sl_is_number_to⟩)
    (c_is_number_to : PySem.W.codeIn K cd_is_number_to "is_number_to" = true) (k_is_number_to : PySem.W.keepIn K (.ref f_is_number_to) = true)
    (a_is_part_to : PySem.W.nsIn K mainGlobals "is_part_to" = some (some (.ref f_is_part_to)))
    (l_is_part_to : K.lookup f_is_part_to = some ⟨oc_is_part_to, od_is_part_to, .func (PySem.W.fnOf "is_part_to" "is_part_to" (defArgs s_is_part_to) (defBody s_is_part_to) (defScope s_is_part_to) .none kV_is_part_to dc_is_part_to pm_is_part_to an_is_part_to cd_is_part_to ct_is_part_to), sl_is_part_to⟩)
    (c_is_part_to : PySem.W.codeIn K cd_is_part_to "is_part_to" = true) (k_is_part_to : PySem.W.keepIn K (.ref f_is_part_to) = true)
    (a_row_holds : PySem.W.nsIn K mainGlobals "row_holds" = some (some (.ref f_row_holds)))
    (l_row_holds : K.lookup f_row_holds = some ⟨oc_row_holds, od_row_holds, .func (PySem.W.fnOf "row_holds" "row_holds" (defArgs s_row_holds) (defBody s_row_holds) (defScope s_row_holds) .none kV_row_holds dc_row_holds pm_row_holds an_row_holds cd_row_holds ct_row_holds), sl_row_holds⟩)
    (c_row_holds : PySem.W.codeIn K cd_row_holds "row_holds" = true) (k_row_holds : PySem.W.keepIn K (.ref f_row_holds) = true)
    (a_head_holds : PySem.W.nsIn K mainGlobals "head_holds" = some (some (.ref f_head_holds)))
    (l_head_holds : K.lookup f_head_holds = some ⟨oc_head_holds, od_head_holds, .func (PySem.W.fnOf "head_holds" "head_holds" (defArgs s_head_holds) (defBody s_head_holds) (defScope s_head_holds) .none kV_head_holds dc_head_holds pm_head_holds an_head_holds cd_head_holds ct_head_holds), sl_head_holds⟩)
    (c_head_holds : PySem.W.codeIn K cd_head_holds "head_holds" = true) (k_head_holds : PySem.W.keepIn K (.ref f_head_holds) = true)
    (a_voucher_holds : PySem.W.nsIn K mainGlobals "voucher_holds" = some (some (.ref f_voucher_holds)))
    (l_voucher_holds : K.lookup f_voucher_holds = some ⟨oc_voucher_holds, od_voucher_holds, .func (PySem.W.fnOf "voucher_holds" "voucher_holds" (defArgs s_voucher_holds) (defBody s_voucher_holds) (defScope s_voucher_holds) .none kV_voucher_holds dc_voucher_holds pm_voucher_holds an_voucher_holds cd_voucher_holds ct_voucher_holds), sl_voucher_holds⟩)
    (c_voucher_holds : PySem.W.codeIn K cd_voucher_holds "voucher_holds" = true) (k_voucher_holds : PySem.W.keepIn K (.ref f_voucher_holds) = true)
    (a_vouched : PySem.W.nsIn K mainGlobals "vouched" = some (some (.ref f_vouched)))
    (l_vouched : K.lookup f_vouched = some ⟨oc_vouched, od_vouched, .func (PySem.W.fnOf "vouched" "vouched" (defArgs s_vouched) (defBody s_vouched) (defScope s_vouched) .none kV_vouched dc_vouched pm_vouched an_vouched cd_vouched ct_vouched), sl_vouched⟩)
    (c_vouched : PySem.W.codeIn K cd_vouched "vouched" = true) (k_vouched : PySem.W.keepIn K (.ref f_vouched) = true)
    (a_lpot : PySem.W.nsIn K mainGlobals "_law_pot" = some (some (.ref f_lpot)))
    (l_lpot : K.lookup f_lpot = some ⟨oc_lpot, od_lpot, .func (PySem.W.fnOf "_law_pot" "_law_pot" (defArgs s_lpot) (defBody s_lpot) (defScope s_lpot) .none kV_lpot dc_lpot pm_lpot an_lpot cd_lpot ct_lpot), sl_lpot⟩)
    (c_lpot : PySem.W.codeIn K cd_lpot "_law_pot" = true) (k_lpot : PySem.W.keepIn K (.ref f_lpot) = true)
    (a_ldigit : PySem.W.nsIn K mainGlobals "_law_digit" = some (some (.ref f_ldigit)))
    (l_ldigit : K.lookup f_ldigit = some ⟨oc_ldigit, od_ldigit, .func (PySem.W.fnOf "_law_digit" "_law_digit" (defArgs s_ldigit) (defBody s_ldigit) (defScope s_ldigit) .none kV_ldigit dc_ldigit pm_ldigit an_ldigit cd_ldigit ct_ldigit), sl_ldigit⟩)
    (c_ldigit : PySem.W.codeIn K cd_ldigit "_law_digit" = true) (k_ldigit : PySem.W.keepIn K (.ref f_ldigit) = true)
    (a_llow : PySem.W.nsIn K mainGlobals "_law_low" = some (some (.ref f_llow)))
    (l_llow : K.lookup f_llow = some ⟨oc_llow, od_llow, .func (PySem.W.fnOf "_law_low" "_law_low" (defArgs s_llow) (defBody s_llow) (defScope s_llow) .none kV_llow dc_llow pm_llow an_llow cd_llow ct_llow), sl_llow⟩)
    (c_llow : PySem.W.codeIn K cd_llow "_law_low" = true) (k_llow : PySem.W.keepIn K (.ref f_llow) = true)
    (a_lplus : PySem.W.nsIn K mainGlobals "_law_plus" = some (some (.ref f_lplus)))
    (l_lplus : K.lookup f_lplus = some ⟨oc_lplus, od_lplus, .func (PySem.W.fnOf "_law_plus" "_law_plus" (defArgs s_lplus) (defBody s_lplus) (defScope s_lplus) .none kV_lplus dc_lplus pm_lplus an_lplus cd_lplus ct_lplus), sl_lplus⟩)
    (c_lplus : PySem.W.codeIn K cd_lplus "_law_plus" = true) (k_lplus : PySem.W.keepIn K (.ref f_lplus) = true)
    (a_ltimes : PySem.W.nsIn K mainGlobals "_law_times" = some (some (.ref f_ltimes)))
    (l_ltimes : K.lookup f_ltimes = some ⟨oc_ltimes, od_ltimes, .func (PySem.W.fnOf "_law_times" "_law_times" (defArgs s_ltimes) (defBody s_ltimes) (defScope s_ltimes) .none kV_ltimes dc_ltimes pm_ltimes an_ltimes cd_ltimes ct_ltimes), sl_ltimes⟩)
    (c_ltimes : PySem.W.codeIn K cd_ltimes "_law_times" = true) (k_ltimes : PySem.W.keepIn K (.ref f_ltimes) = true)
    (a_lless : PySem.W.nsIn K mainGlobals "_law_less" = some (some (.ref f_lless)))
    (l_lless : K.lookup f_lless = some ⟨oc_lless, od_lless, .func (PySem.W.fnOf "_law_less" "_law_less" (defArgs s_lless) (defBody s_lless) (defScope s_lless) .none kV_lless dc_lless pm_lless an_lless cd_lless ct_lless), sl_lless⟩)
    (c_lless : PySem.W.codeIn K cd_lless "_law_less" = true) (k_lless : PySem.W.keepIn K (.ref f_lless) = true)
    (a_lmost : PySem.W.nsIn K mainGlobals "_law_most" = some (some (.ref f_lmost)))
    (l_lmost : K.lookup f_lmost = some ⟨oc_lmost, od_lmost, .func (PySem.W.fnOf "_law_most" "_law_most" (defArgs s_lmost) (defBody s_lmost) (defScope s_lmost) .none kV_lmost dc_lmost pm_lmost an_lmost cd_lmost ct_lmost), sl_lmost⟩)
    (c_lmost : PySem.W.codeIn K cd_lmost "_law_most" = true) (k_lmost : PySem.W.keepIn K (.ref f_lmost) = true)
    (a_lis_whole : PySem.W.nsIn K mainGlobals "_law_is_whole" = some (some (.ref f_lis_whole)))
    (l_lis_whole : K.lookup f_lis_whole = some ⟨oc_lis_whole, od_lis_whole, .func (PySem.W.fnOf "_law_is_whole" "_law_is_whole" (defArgs s_lis_whole) (defBody s_lis_whole) (defScope s_lis_whole) .none kV_lis_whole dc_lis_whole pm_lis_whole an_lis_whole cd_lis_whole ct_lis_whole), sl_lis_whole⟩)
    (c_lis_whole : PySem.W.codeIn K cd_lis_whole "_law_is_whole" = true) (k_lis_whole : PySem.W.keepIn K (.ref f_lis_whole) = true)
    (a_lis_part : PySem.W.nsIn K mainGlobals "_law_is_part" = some (some (.ref f_lis_part)))
    (l_lis_part : K.lookup f_lis_part = some ⟨oc_lis_part, od_lis_part, .func (PySem.W.fnOf "_law_is_part" "_law_is_part" (defArgs s_lis_part) (defBody s_lis_part) (defScope s_lis_part) .none kV_lis_part dc_lis_part pm_lis_part an_lis_part cd_lis_part ct_lis_part), sl_lis_part⟩)
    (c_lis_part : PySem.W.codeIn K cd_lis_part "_law_is_part" = true) (k_lis_part : PySem.W.keepIn K (.ref f_lis_part) = true)
    (a_lrow_holds : PySem.W.nsIn K mainGlobals "_law_row_holds" = some (some (.ref f_lrow_holds)))
    (l_lrow_holds : K.lookup f_lrow_holds = some ⟨oc_lrow_holds, od_lrow_holds, .func (PySem.W.fnOf "_law_row_holds" "_law_row_holds" (defArgs s_lrow_holds) (defBody s_lrow_holds) (defScope s_lrow_holds) .none kV_lrow_holds dc_lrow_holds pm_lrow_holds an_lrow_holds cd_lrow_holds ct_lrow_holds), sl_lrow_holds⟩)
    (c_lrow_holds : PySem.W.codeIn K cd_lrow_holds "_law_row_holds" = true) (k_lrow_holds : PySem.W.keepIn K (.ref f_lrow_holds) = true)
    (a_lholds : PySem.W.nsIn K mainGlobals "_law_holds" = some (some (.ref f_lholds)))
    (l_lholds : K.lookup f_lholds = some ⟨oc_lholds, od_lholds, .func (PySem.W.fnOf "_law_holds" "_law_holds" (defArgs s_lholds) (defBody s_lholds) (defScope s_lholds) .none kV_lholds dc_lholds pm_lholds an_lholds cd_lholds ct_lholds), sl_lholds⟩)
    (c_lholds : PySem.W.codeIn K cd_lholds "_law_holds" = true) (k_lholds : PySem.W.keepIn K (.ref f_lholds) = true)
    (a_lnear : PySem.W.nsIn K mainGlobals "_law_near" = some (some (.ref f_lnear)))
    (l_lnear : K.lookup f_lnear = some ⟨oc_lnear, od_lnear, .func (PySem.W.fnOf "_law_near" "_law_near" (defArgs s_lnear) (defBody s_lnear) (defScope s_lnear) .none kV_lnear dc_lnear pm_lnear an_lnear cd_lnear ct_lnear), sl_lnear⟩)
    (c_lnear : PySem.W.codeIn K cd_lnear "_law_near" = true) (k_lnear : PySem.W.keepIn K (.ref f_lnear) = true)
    (a_lrow : PySem.W.nsIn K mainGlobals "_law_row" = some (some (.ref f_lrow)))
    (l_lrow : K.lookup f_lrow = some ⟨oc_lrow, od_lrow, .func (PySem.W.fnOf "_law_row" "_law_row" (defArgs s_lrow) (defBody s_lrow) (defScope s_lrow) .none kV_lrow dc_lrow pm_lrow an_lrow cd_lrow ct_lrow), sl_lrow⟩)
    (c_lrow : PySem.W.codeIn K cd_lrow "_law_row" = true) (k_lrow : PySem.W.keepIn K (.ref f_lrow) = true)
    (a_lweighing : PySem.W.nsIn K mainGlobals "_law_weighing" = some (some (.ref f_lweighing)))
    (l_lweighing : K.lookup f_lweighing = some ⟨oc_lweighing, od_lweighing, .func (PySem.W.fnOf "_law_weighing" "_law_weighing" (defArgs s_lweighing) (defBody s_lweighing) (defScope s_lweighing) .none kV_lweighing dc_lweighing pm_lweighing an_lweighing cd_lweighing ct_lweighing), sl_lweighing⟩)
    (c_lweighing : PySem.W.codeIn K cd_lweighing "_law_weighing" = true) (k_lweighing : PySem.W.keepIn K (.ref f_lweighing) = true)
    (a_lthing : PySem.W.nsIn K mainGlobals "_law_thing" = some (some (.ref f_lthing)))
    (l_lthing : K.lookup f_lthing = some ⟨oc_lthing, od_lthing, .func (PySem.W.fnOf "_law_thing" "_law_thing" (defArgs s_lthing) (defBody s_lthing) (defScope s_lthing) .none kV_lthing dc_lthing pm_lthing an_lthing cd_lthing ct_lthing), sl_lthing⟩)
    (c_lthing : PySem.W.codeIn K cd_lthing "_law_thing" = true) (k_lthing : PySem.W.keepIn K (.ref f_lthing) = true)
    (a_lone : PySem.W.nsIn K mainGlobals "_law_one" = some (some (.ref f_lone)))
    (l_lone : K.lookup f_lone = some ⟨oc_lone, od_lone, .func (PySem.W.fnOf "_law_one" "_law_one" (defArgs s_lone) (defBody s_lone) (defScope s_lone) .none kV_lone dc_lone pm_lone an_lone cd_lone ct_lone), sl_lone⟩)
    (c_lone : PySem.W.codeIn K cd_lone "_law_one" = true) (k_lone : PySem.W.keepIn K (.ref f_lone) = true)
    (a_law : PySem.W.nsIn K mainGlobals "law" = some (some (.ref f_law)))
    (l_law : K.lookup f_law = some ⟨oc_law, od_law, .func (PySem.W.fnOf "law" "law" (defArgs s_law) (defBody s_law) (defScope s_law) .none kV_law dc_law pm_law an_law cd_law ct_law), sl_law⟩)
    (c_law : PySem.W.codeIn K cd_law "law" = true) (k_law : PySem.W.keepIn K (.ref f_law) = true)
    (n_abs : PySem.W.nsIn K mainGlobals "abs" = some none)
    (n_all : PySem.W.nsIn K mainGlobals "all" = some none)
    (n_bool : PySem.W.nsIn K mainGlobals "bool" = some none)
    (n_divmod : PySem.W.nsIn K mainGlobals "divmod" = some none)
    (n_int : PySem.W.nsIn K mainGlobals "int" = some none)
    (n_isinstance : PySem.W.nsIn K mainGlobals "isinstance" = some none)
    (n_len : PySem.W.nsIn K mainGlobals "len" = some none)
    (n_max : PySem.W.nsIn K mainGlobals "max" = some none)
    (n_min : PySem.W.nsIn K mainGlobals "min" = some none)
    (n_range : PySem.W.nsIn K mainGlobals "range" = some none)
    (n_repr : PySem.W.nsIn K mainGlobals "repr" = some none)
    (n_sum : PySem.W.nsIn K mainGlobals "sum" = some none)
    (n_tuple : PySem.W.nsIn K mainGlobals "tuple" = some none)
    (n_zip : PySem.W.nsIn K mainGlobals "zip" = some none)
    : ∃ fd : FuncData, (∀ (s : Shared) (v : Value), BindsTo s fd ⟨[v], []⟩ [("_law_script", v)]) ∧ ∀ base : Heap, K.In base → base.Ns mainGlobals mg → FnAt callerA l.prog w K mg base CX0 8 fa fd ["_law_script"] (spLaw K) := by
  have e := hfa.symm.trans (PySem.W.mg_of X G a_law)
  cases e
  have F_is_whole := fun_mk (st := s_is_whole) l_is_whole c_is_whole k_is_whole
  have F_greatest_common := fun_mk (st := s_greatest_common) l_greatest_common c_greatest_common k_greatest_common
  have F_is_part := fun_mk (st := s_is_part) l_is_part c_is_part k_is_part
  have F_part : FunD K "part" "part" (defArgs s_part) (defBody s_part) (defScope s_part) [.int 1] [] f_part _ := ⟨⟨_, _, _, _, _, _, _, _, _, _, rfl, l_part, c_part, .inr ⟨by simp, dT_part, _, [.int 1 dt_part], _, rfl, q_part, rfl, .cons ⟨_, rfl⟩ .nil⟩, .inl rfl⟩, k_part⟩
  obtain ⟨ds_part2, vd_part2, b_part⟩ := F_part.binds1 (ps := ["above", "below"]) 2 1 (by simp) rfl (fun T kV doc pm an cdv ct us its h1 h2 => match us, its, h1, h2 with | [_, _], [_], _, _ => ⟨_, rfl, rfl⟩)
  cases vd_part2
  have F_plus := fun_mk (st := s_plus) l_plus c_plus k_plus
  have F_minus := fun_mk (st := s_minus) l_minus c_minus k_minus
  have F_times := fun_mk (st := s_times) l_times c_times k_times
  have F_is_less := fun_mk (st := s_is_less) l_is_less c_is_less k_is_less
  have F_most := fun_mk (st := s_most) l_most c_most k_most
  have F_is_weight := fun_mk (st := s_is_weight) l_is_weight c_is_weight k_is_weight
  have F_is_number_to := fun_mk (st := s_is_number_to) l_is_number_to c_is_number_to k_is_number_to
  have F_is_part_to := fun_mk (st := s_is_part_to) l_is_part_to c_is_part_to k_is_part_to
  have F_row_holds := fun_mk (st := s_row_holds) l_row_holds c_row_holds k_row_holds
  have F_head_holds := fun_mk (st := s_head_holds) l_head_holds c_head_holds k_head_holds
  have F_voucher_holds := fun_mk (st := s_voucher_holds) l_voucher_holds c_voucher_holds k_voucher_holds
  have F_vouched := fun_mk (st := s_vouched) l_vouched c_vouched k_vouched
  have F_lpot := fun_mk (st := s_lpot) l_lpot c_lpot k_lpot
  have F_ldigit := fun_mk (st := s_ldigit) l_ldigit c_ldigit k_ldigit
  have F_llow := fun_mk (st := s_llow) l_llow c_llow k_llow
  have F_lplus := fun_mk (st := s_lplus) l_lplus c_lplus k_lplus
  have F_ltimes := fun_mk (st := s_ltimes) l_ltimes c_ltimes k_ltimes
  have F_lless := fun_mk (st := s_lless) l_lless c_lless k_lless
  have F_lmost := fun_mk (st := s_lmost) l_lmost c_lmost k_lmost
  have F_lis_whole := fun_mk (st := s_lis_whole) l_lis_whole c_lis_whole k_lis_whole
  have F_lis_part := fun_mk (st := s_lis_part) l_lis_part c_lis_part k_lis_part
  have F_lrow_holds := fun_mk (st := s_lrow_holds) l_lrow_holds c_lrow_holds k_lrow_holds
  have F_lholds := fun_mk (st := s_lholds) l_lholds c_lholds k_lholds
  have F_lnear := fun_mk (st := s_lnear) l_lnear c_lnear k_lnear
  have F_lrow := fun_mk (st := s_lrow) l_lrow c_lrow k_lrow
  have F_lweighing := fun_mk (st := s_lweighing) l_lweighing c_lweighing k_lweighing
  have F_lthing := fun_mk (st := s_lthing) l_lthing c_lthing k_lthing
  have F_lone := fun_mk (st := s_lone) l_lone c_lone k_lone
  have F_law := fun_mk (st := s_law) l_law c_law k_law
  exact ⟨_, fun s v => .of_eq rfl, fun base _ _ => ok_law (P := l.prog) (w := w) (base := base) ({
      f_is_whole := f_is_whole, d_is_whole := _, g_is_whole := PySem.W.mg_of X G a_is_whole, F_is_whole := F_is_whole, b_is_whole := F_is_whole.binds (ps := ["thing"]) (fun _ _ _ _ _ _ us hl => match us, hl with | [_], _ => rfl),
      f_greatest_common := f_greatest_common, d_greatest_common := _, g_greatest_common := PySem.W.mg_of X G a_greatest_common, F_greatest_common := F_greatest_common, b_greatest_common := F_greatest_common.binds (ps := ["one", "other"]) (fun _ _ _ _ _ _ us hl => match us, hl with | [_, _], _ => rfl),
      f_is_part := f_is_part, d_is_part := _, g_is_part := PySem.W.mg_of X G a_is_part, F_is_part := F_is_part, b_is_part := F_is_part.binds (ps := ["thing"]) (fun _ _ _ _ _ _ us hl => match us, hl with | [_], _ => rfl),
      f_part := f_part, d_part := _, g_part := PySem.W.mg_of X G a_part, F_part := F_part, b_part := b_part,
      f_plus := f_plus, d_plus := _, g_plus := PySem.W.mg_of X G a_plus, F_plus := F_plus, b_plus := F_plus.binds (ps := ["one", "other"]) (fun _ _ _ _ _ _ us hl => match us, hl with | [_, _], _ => rfl),
      f_minus := f_minus, d_minus := _, g_minus := PySem.W.mg_of X G a_minus, F_minus := F_minus, b_minus := F_minus.binds (ps := ["one", "other"]) (fun _ _ _ _ _ _ us hl => match us, hl with | [_, _], _ => rfl),
      f_times := f_times, d_times := _, g_times := PySem.W.mg_of X G a_times, F_times := F_times, b_times := F_times.binds (ps := ["one", "many"]) (fun _ _ _ _ _ _ us hl => match us, hl with | [_, _], _ => rfl),
      f_is_less := f_is_less, d_is_less := _, g_is_less := PySem.W.mg_of X G a_is_less, F_is_less := F_is_less, b_is_less := F_is_less.binds (ps := ["one", "other"]) (fun _ _ _ _ _ _ us hl => match us, hl with | [_, _], _ => rfl),
      f_most := f_most, d_most := _, g_most := PySem.W.mg_of X G a_most, F_most := F_most, b_most := F_most.binds (ps := ["weight", "seats", "many"]) (fun _ _ _ _ _ _ us hl => match us, hl with | [_, _, _], _ => rfl),
      f_is_weight := f_is_weight, d_is_weight := _, g_is_weight := PySem.W.mg_of X G a_is_weight, F_is_weight := F_is_weight, b_is_weight := F_is_weight.binds (ps := ["thing"]) (fun _ _ _ _ _ _ us hl => match us, hl with | [_], _ => rfl),
      f_is_number_to := f_is_number_to, d_is_number_to := _, g_is_number_to := PySem.W.mg_of X G a_is_number_to, F_is_number_to := F_is_number_to, b_is_number_to := F_is_number_to.binds (ps := ["thing", "last"]) (fun _ _ _ _ _ _ us hl => match us, hl with | [_, _], _ => rfl),
      f_is_part_to := f_is_part_to, d_is_part_to := _, g_is_part_to := PySem.W.mg_of X G a_is_part_to, F_is_part_to := F_is_part_to, b_is_part_to := F_is_part_to.binds (ps := ["thing", "last"]) (fun _ _ _ _ _ _ us hl => match us, hl with | [_, _], _ => rfl),
      f_row_holds := f_row_holds, d_row_holds := _, g_row_holds := PySem.W.mg_of X G a_row_holds, F_row_holds := F_row_holds, b_row_holds := F_row_holds.binds (ps := ["weight", "head", "thing"]) (fun _ _ _ _ _ _ us hl => match us, hl with | [_, _, _], _ => rfl),
      f_head_holds := f_head_holds, d_head_holds := _, g_head_holds := PySem.W.mg_of X G a_head_holds, F_head_holds := F_head_holds, b_head_holds := F_head_holds.binds (ps := ["weight", "seats", "many", "owed"]) (fun _ _ _ _ _ _ us hl => match us, hl with | [_, _, _, _], _ => rfl),
      f_voucher_holds := f_voucher_holds, d_voucher_holds := _, g_voucher_holds := PySem.W.mg_of X G a_voucher_holds, F_voucher_holds := F_voucher_holds, b_voucher_holds := F_voucher_holds.binds (ps := ["weight", "thing"]) (fun _ _ _ _ _ _ us hl => match us, hl with | [_, _], _ => rfl),
      f_vouched := f_vouched, d_vouched := _, g_vouched := PySem.W.mg_of X G a_vouched, F_vouched := F_vouched, b_vouched := F_vouched.binds (ps := ["voucher"]) (fun _ _ _ _ _ _ us hl => match us, hl with | [_], _ => rfl),
      f_lpot := f_lpot, d_lpot := _, g_lpot := PySem.W.mg_of X G a_lpot, F_lpot := F_lpot, b_lpot := F_lpot.binds (ps := ["_law_script", "_law_k"]) (fun _ _ _ _ _ _ us hl => match us, hl with | [_, _], _ => rfl),
      f_ldigit := f_ldigit, d_ldigit := _, g_ldigit := PySem.W.mg_of X G a_ldigit, F_ldigit := F_ldigit, b_ldigit := F_ldigit.binds (ps := ["_law_pot_here", "_law_many"]) (fun _ _ _ _ _ _ us hl => match us, hl with | [_, _], _ => rfl),
      f_llow := f_llow, d_llow := _, g_llow := PySem.W.mg_of X G a_llow, F_llow := F_llow, b_llow := F_llow.binds (ps := ["_law_above", "_law_below"]) (fun _ _ _ _ _ _ us hl => match us, hl with | [_, _], _ => rfl),
      f_lplus := f_lplus, d_lplus := _, g_lplus := PySem.W.mg_of X G a_lplus, F_lplus := F_lplus, b_lplus := F_lplus.binds (ps := ["_law_one_here", "_law_other"]) (fun _ _ _ _ _ _ us hl => match us, hl with | [_, _], _ => rfl),
      f_ltimes := f_ltimes, d_ltimes := _, g_ltimes := PySem.W.mg_of X G a_ltimes, F_ltimes := F_ltimes, b_ltimes := F_ltimes.binds (ps := ["_law_one_here", "_law_many"]) (fun _ _ _ _ _ _ us hl => match us, hl with | [_, _], _ => rfl),
      f_lless := f_lless, d_lless := _, g_lless := PySem.W.mg_of X G a_lless, F_lless := F_lless, b_lless := F_lless.binds (ps := ["_law_one_here", "_law_other"]) (fun _ _ _ _ _ _ us hl => match us, hl with | [_, _], _ => rfl),
      f_lmost := f_lmost, d_lmost := _, g_lmost := PySem.W.mg_of X G a_lmost, F_lmost := F_lmost, b_lmost := F_lmost.binds (ps := ["_law_weight", "_law_many", "_law_k"]) (fun _ _ _ _ _ _ us hl => match us, hl with | [_, _, _], _ => rfl),
      f_lis_whole := f_lis_whole, d_lis_whole := _, g_lis_whole := PySem.W.mg_of X G a_lis_whole, F_lis_whole := F_lis_whole, b_lis_whole := F_lis_whole.binds (ps := ["_law_thing_here"]) (fun _ _ _ _ _ _ us hl => match us, hl with | [_], _ => rfl),
      f_lis_part := f_lis_part, d_lis_part := _, g_lis_part := PySem.W.mg_of X G a_lis_part, F_lis_part := F_lis_part, b_lis_part := F_lis_part.binds (ps := ["_law_thing_here"]) (fun _ _ _ _ _ _ us hl => match us, hl with | [_], _ => rfl),
      f_lrow_holds := f_lrow_holds, d_lrow_holds := _, g_lrow_holds := PySem.W.mg_of X G a_lrow_holds, F_lrow_holds := F_lrow_holds, b_lrow_holds := F_lrow_holds.binds (ps := ["_law_weight", "_law_n", "_law_k", "_law_s", "_law_row_here"]) (fun _ _ _ _ _ _ us hl => match us, hl with | [_, _, _, _, _], _ => rfl),
      f_lholds := f_lholds, d_lholds := _, g_lholds := PySem.W.mg_of X G a_lholds, F_lholds := F_lholds, b_lholds := F_lholds.binds (ps := ["_law_weight", "_law_thing_here"]) (fun _ _ _ _ _ _ us hl => match us, hl with | [_, _], _ => rfl),
      f_lnear := f_lnear, d_lnear := _, g_lnear := PySem.W.mg_of X G a_lnear, F_lnear := F_lnear, b_lnear := F_lnear.binds (ps := ["_law_pot_here", "_law_bound"]) (fun _ _ _ _ _ _ us hl => match us, hl with | [_, _], _ => rfl),
      f_lrow := f_lrow, d_lrow := _, g_lrow := PySem.W.mg_of X G a_lrow, F_lrow := F_lrow, b_lrow := F_lrow.binds (ps := ["_law_pot_here", "_law_weight", "_law_n", "_law_k", "_law_a", "_law_b", "_law_weighs"]) (fun _ _ _ _ _ _ us hl => match us, hl with | [_, _, _, _, _, _, _], _ => rfl),
      f_lweighing := f_lweighing, d_lweighing := _, g_lweighing := PySem.W.mg_of X G a_lweighing, F_lweighing := F_lweighing, b_lweighing := F_lweighing.binds (ps := ["_law_pot_here", "_law_weight", "_law_many"]) (fun _ _ _ _ _ _ us hl => match us, hl with | [_, _, _], _ => rfl),
      f_lthing := f_lthing, d_lthing := _, g_lthing := PySem.W.mg_of X G a_lthing, F_lthing := F_lthing, b_lthing := F_lthing.binds (ps := ["_law_pot_here", "_law_weight"]) (fun _ _ _ _ _ _ us hl => match us, hl with | [_, _], _ => rfl),
      f_lone := f_lone, d_lone := _, g_lone := PySem.W.mg_of X G a_lone, F_lone := F_lone, b_lone := F_lone.binds (ps := ["_law_pot_here"]) (fun _ _ _ _ _ _ us hl => match us, hl with | [_], _ => rfl),
      f_law := _, d_law := _, g_law := PySem.W.mg_of X G a_law, F_law := F_law, b_law := F_law.binds (ps := ["_law_script"]) (fun _ _ _ _ _ _ us hl => match us, hl with | [_], _ => rfl),
      n_abs := PySem.W.mg_none_of X G n_abs,
      n_all := PySem.W.mg_none_of X G n_all,
      n_bool := PySem.W.mg_none_of X G n_bool,
      n_divmod := PySem.W.mg_none_of X G n_divmod,
      n_int := PySem.W.mg_none_of X G n_int,
      n_isinstance := PySem.W.mg_none_of X G n_isinstance,
      n_len := PySem.W.mg_none_of X G n_len,
      n_max := PySem.W.mg_none_of X G n_max,
      n_min := PySem.W.mg_none_of X G n_min,
      n_range := PySem.W.mg_none_of X G n_range,
      n_repr := PySem.W.mg_none_of X G n_repr,
      n_sum := PySem.W.mg_none_of X G n_sum,
      n_tuple := PySem.W.mg_none_of X G n_tuple,
      n_zip := PySem.W.mg_none_of X G n_zip } : Tx K mg) rfl⟩
end WS
open PySem PySem.W PyProof.Rows
set_option maxHeartbeats 0 in
theorem PySem.Challenge.cw_whoserves_k64_whole_what_holds_vouches_holds : PySem.Challenge.rw_whoserves_k64_whole_what_holds_vouches.Holds := by
  w_on; o_law; k_head; (case hw => w_witness2)
  k_fill
  refine WS.walk_G (l := PySem.Challenge.rw_whoserves_k64_whole_what_holds_vouches) (n := 63) (k := 8) (x := "_law_script") (sp := fun w => WS.spLaw _) rfl (by decide) rfl ⟨rfl, by decide, by decide⟩ (fun w h Y => PySem.W.kIn_of Y) ?F (fun _ _ a ns hl hS => ⟨a, ns, rfl, hS, hl, fun _ => rfl⟩)
  case F =>
    intro w mg fa h KX G hmg
    refine' WS.all_mk KX G hmg ?a_is_whole ?l_is_whole ?c_is_whole ?k_is_whole ?a_greatest_common ?l_greatest_common ?c_greatest_common ?k_greatest_common ?a_is_part ?l_is_part ?c_is_part ?k_is_part ?a_part ?l_part ?c_part ?k_part ?q_part ?a_plus ?l_plus ?c_plus ?k_plus ?a_minus ?l_minus ?c_minus ?k_minus ?a_times ?l_times ?c_times ?k_times ?a_is_less ?l_is_less ?c_is_less ?k_is_less ?a_most ?l_most ?c_most ?k_most ?a_is_weight ?l_is_weight ?c_is_weight ?k_is_weight ?a_is_number_to ?l_is_number_to ?c_is_number_to ?k_is_number_to ?a_is_part_to ?l_is_part_to ?c_is_part_to ?k_is_part_to ?a_row_holds ?l_row_holds ?c_row_holds ?k_row_holds ?a_head_holds ?l_head_holds ?c_head_holds ?k_head_holds ?a_voucher_holds ?l_voucher_holds ?c_voucher_holds ?k_voucher_holds ?a_vouched ?l_vouched ?c_vouched ?k_vouched ?a_lpot ?l_lpot ?c_lpot ?k_lpot ?a_ldigit ?l_ldigit ?c_ldigit ?k_ldigit ?a_llow ?l_llow ?c_llow ?k_llow ?a_lplus ?l_lplus ?c_lplus ?k_lplus ?a_ltimes ?l_ltimes ?c_ltimes ?k_ltimes ?a_lless ?l_lless ?c_lless ?k_lless ?a_lmost ?l_lmost ?c_lmost ?k_lmost ?a_lis_whole ?l_lis_whole ?c_lis_whole ?k_lis_whole ?a_lis_part ?l_lis_part ?c_lis_part ?k_lis_part ?a_lrow_holds ?l_lrow_holds ?c_lrow_holds ?k_lrow_holds ?a_lholds ?l_lholds ?c_lholds ?k_lholds ?a_lnear ?l_lnear ?c_lnear ?k_lnear ?a_lrow ?l_lrow ?c_lrow ?k_lrow ?a_lweighing ?l_lweighing ?c_lweighing ?k_lweighing ?a_lthing ?l_lthing ?c_lthing ?k_lthing ?a_lone ?l_lone ?c_lone ?k_lone ?a_law ?l_law ?c_law ?k_law ?n_abs ?n_all ?n_bool ?n_divmod ?n_int ?n_isinstance ?n_len ?n_max ?n_min ?n_range ?n_repr ?n_sum ?n_tuple ?n_zip
    (case a_is_whole => k_is)
    (case l_is_whole => k_is)
    (case c_is_whole => k_is)
    (case k_is_whole => k_is)
    (case a_greatest_common => k_is)
    (case l_greatest_common => k_is)
    (case c_greatest_common => k_is)
    (case k_greatest_common => k_is)
    (case a_is_part => k_is)
    (case l_is_part => k_is)
    (case c_is_part => k_is)
    (case k_is_part => k_is)
    (case a_part => k_is)
    (case l_part => k_is)
    (case c_part => k_is)
    (case k_part => k_is)
    (case q_part => k_is)
    (case a_plus => k_is)
    (case l_plus => k_is)
    (case c_plus => k_is)
    (case k_plus => k_is)
    (case a_minus => k_is)
    (case l_minus => k_is)
    (case c_minus => k_is)
    (case k_minus => k_is)
    (case a_times => k_is)
    (case l_times => k_is)
    (case c_times => k_is)
    (case k_times => k_is)
    (case a_is_less => k_is)
    (case l_is_less => k_is)
    (case c_is_less => k_is)
    (case k_is_less => k_is)
    (case a_most => k_is)
    (case l_most => k_is)
    (case c_most => k_is)
    (case k_most => k_is)
    (case a_is_weight => k_is)
    (case l_is_weight => k_is)
    (case c_is_weight => k_is)
    (case k_is_weight => k_is)
    (case a_is_number_to => k_is)
    (case l_is_number_to => k_is)
    (case c_is_number_to => k_is)
    (case k_is_number_to => k_is)
    (case a_is_part_to => k_is)
    (case l_is_part_to => k_is)
    (case c_is_part_to => k_is)
    (case k_is_part_to => k_is)
    (case a_row_holds => k_is)
    (case l_row_holds => k_is)
    (case c_row_holds => k_is)
    (case k_row_holds => k_is)
    (case a_head_holds => k_is)
    (case l_head_holds => k_is)
    (case c_head_holds => k_is)
    (case k_head_holds => k_is)
    (case a_voucher_holds => k_is)
    (case l_voucher_holds => k_is)
    (case c_voucher_holds => k_is)
    (case k_voucher_holds => k_is)
    (case a_vouched => k_is)
    (case l_vouched => k_is)
    (case c_vouched => k_is)
    (case k_vouched => k_is)
    (case a_lpot => k_is)
    (case l_lpot => k_is)
    (case c_lpot => k_is)
    (case k_lpot => k_is)
    (case a_ldigit => k_is)
    (case l_ldigit => k_is)
    (case c_ldigit => k_is)
    (case k_ldigit => k_is)
    (case a_llow => k_is)
    (case l_llow => k_is)
    (case c_llow => k_is)
    (case k_llow => k_is)
    (case a_lplus => k_is)
    (case l_lplus => k_is)
    (case c_lplus => k_is)
    (case k_lplus => k_is)
    (case a_ltimes => k_is)
    (case l_ltimes => k_is)
    (case c_ltimes => k_is)
    (case k_ltimes => k_is)
    (case a_lless => k_is)
    (case l_lless => k_is)
    (case c_lless => k_is)
    (case k_lless => k_is)
    (case a_lmost => k_is)
    (case l_lmost => k_is)
    (case c_lmost => k_is)
    (case k_lmost => k_is)
    (case a_lis_whole => k_is)
    (case l_lis_whole => k_is)
    (case c_lis_whole => k_is)
    (case k_lis_whole => k_is)
    (case a_lis_part => k_is)
    (case l_lis_part => k_is)
    (case c_lis_part => k_is)
    (case k_lis_part => k_is)
    (case a_lrow_holds => k_is)
    (case l_lrow_holds => k_is)
    (case c_lrow_holds => k_is)
    (case k_lrow_holds => k_is)
    (case a_lholds => k_is)
    (case l_lholds => k_is)
    (case c_lholds => k_is)
    (case k_lholds => k_is)
    (case a_lnear => k_is)
    (case l_lnear => k_is)
    (case c_lnear => k_is)
    (case k_lnear => k_is)
    (case a_lrow => k_is)
    (case l_lrow => k_is)
    (case c_lrow => k_is)
    (case k_lrow => k_is)
    (case a_lweighing => k_is)
    (case l_lweighing => k_is)
    (case c_lweighing => k_is)
    (case k_lweighing => k_is)
    (case a_lthing => k_is)
    (case l_lthing => k_is)
    (case c_lthing => k_is)
    (case k_lthing => k_is)
    (case a_lone => k_is)
    (case l_lone => k_is)
    (case c_lone => k_is)
    (case k_lone => k_is)
    (case a_law => k_is)
    (case l_law => k_is)
    (case c_law => k_is)
    (case k_law => k_is)
    (case n_abs => k_is)
    (case n_all => k_is)
    (case n_bool => k_is)
    (case n_divmod => k_is)
    (case n_int => k_is)
    (case n_isinstance => k_is)
    (case n_len => k_is)
    (case n_max => k_is)
    (case n_min => k_is)
    (case n_range => k_is)
    (case n_repr => k_is)
    (case n_sum => k_is)
    (case n_tuple => k_is)
    (case n_zip => k_is)

