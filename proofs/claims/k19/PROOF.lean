import PyProof.Rows.All
import Wide.All
import OpenK.AllK
import Wide.FinOn
import HandS.ForMost
import HandS.Wide
import HandS.WideBits
import HandS.Property
import HandS.OwnEq
import HandS.IsInst
import HandS.Style
import HandS.Codes
import HandS.SortInts
import PyProof.ReprRoads
import PyProof.Rows.RegReprOcc
import PyProof.ReprLen
import PyProof.Rows.StrRev
import KE.GoesMore
import HandS.Walk
import HandS.RaiseMore
import HandS.Conv
import PySem.Challenge.RW_lacekeys_k19_ranks_by_listing
set_option linter.all false
namespace Lk
/-! ### words as lists of letters: true is x -/
def nx (l : List Bool) : Nat := l.count true
def ny (l : List Bool) : Nat := l.count false
theorem nx_nil : nx [] = 0 := rfl
theorem ny_nil : ny [] = 0 := rfl
theorem nx_t (r : List Bool) : nx (true :: r) = nx r + 1 := by simp [nx]
theorem nx_f (r : List Bool) : nx (false :: r) = nx r := by simp [nx]
theorem ny_t (r : List Bool) : ny (true :: r) = ny r := by simp [ny]
theorem ny_f (r : List Bool) : ny (false :: r) = ny r + 1 := by simp [ny]
theorem nxy (l : List Bool) : nx l + ny l = l.length := by
  induction l with
  | nil => rfl
  | cons b r ih =>
    cases b
    · rw [nx_f, ny_f, List.length_cons]; omega
    · rw [nx_t, ny_t, List.length_cons]; omega
theorem nx_app (a b : List Bool) : nx (a ++ b) = nx a + nx b := by simp [nx, List.count_append]
theorem ny_app (a b : List Bool) : ny (a ++ b) = ny a + ny b := by simp [ny, List.count_append]
theorem nx_rt (n : Nat) : nx (List.replicate n true) = n := by simp [nx]
theorem nx_rf (n : Nat) : nx (List.replicate n false) = 0 := by simp [nx, List.count_replicate]
theorem ny_rt (n : Nat) : ny (List.replicate n true) = 0 := by simp [ny, List.count_replicate]
theorem ny_rf (n : Nat) : ny (List.replicate n false) = n := by simp [ny]
theorem nx_le (l : List Bool) : nx l ≤ l.length := by have := nxy l; omega
theorem ny_le (l : List Bool) : ny l ≤ l.length := by have := nxy l; omega
/-- the letters and their feet -/
def feetL : List Bool → List (Bool × Nat × Nat)
  | [] => []
  | b :: r => (b, nx r, ny r) :: feetL r
theorem feetL_len (l : List Bool) : (feetL l).length = l.length := by
  induction l with
  | nil => rfl
  | cons b r ih => simp [feetL, ih]
theorem feetL_get : ∀ (l : List Bool) (k : Nat) (h : k < l.length), (feetL l)[k]? = some (l[k], nx (l.drop (k + 1)), ny (l.drop (k + 1)))
  | b :: r, 0, _ => rfl
  | b :: r, k + 1, h => by
    show (feetL r)[k]? = _
    rw [feetL_get r k (by simpa using h)]
    rfl
/-- the key of a cell -/
def keyL : List Bool → Nat → Nat → Nat
  | [], _, _ => 0
  | true :: r, x, y => x / 2 ^ nx r % 2 * 2 ^ r.length + keyL r x y
  | false :: r, x, y => y / 2 ^ ny r % 2 * 2 ^ r.length + keyL r x y
def xOf : List Bool → Nat → Nat
  | [], _ => 0
  | true :: r, k => k / 2 ^ r.length % 2 * 2 ^ nx r + xOf r k
  | false :: r, k => xOf r k
def yOf : List Bool → Nat → Nat
  | [], _ => 0
  | true :: r, k => yOf r k
  | false :: r, k => k / 2 ^ r.length % 2 * 2 ^ ny r + yOf r k
theorem bit_lt {d k : Nat} (n : Nat) (hd : d < 2) (hk : k < 2 ^ n) : d * 2 ^ n + k < 2 ^ (n + 1) := by
  have h1 : d * 2 ^ n ≤ 1 * 2 ^ n := Nat.mul_le_mul_right _ (by omega)
  rw [Nat.pow_succ]
  omega
theorem two_pos (n : Nat) : 0 < 2 ^ n := Nat.pow_pos (by decide)
theorem keyL_lt : ∀ (l : List Bool) (x y : Nat), keyL l x y < 2 ^ l.length
  | [], _, _ => Nat.zero_lt_one
  | true :: r, x, y => bit_lt _ (Nat.mod_lt _ (by decide)) (keyL_lt r x y)
  | false :: r, x, y => bit_lt _ (Nat.mod_lt _ (by decide)) (keyL_lt r x y)
theorem xOf_lt : ∀ (l : List Bool) (k : Nat), xOf l k < 2 ^ nx l
  | [], _ => Nat.zero_lt_one
  | true :: r, k => by
    rw [nx_t]
    exact bit_lt _ (Nat.mod_lt _ (by decide)) (xOf_lt r k)
  | false :: r, k => by
    rw [nx_f]
    exact xOf_lt r k
theorem yOf_lt : ∀ (l : List Bool) (k : Nat), yOf l k < 2 ^ ny l
  | [], _ => Nat.zero_lt_one
  | true :: r, k => by
    rw [ny_t]
    exact yOf_lt r k
  | false :: r, k => by
    rw [ny_f]
    exact bit_lt _ (Nat.mod_lt _ (by decide)) (yOf_lt r k)
theorem top_bit {c k : Nat} (n : Nat) : (c * 2 ^ (n + 1) + k) / 2 ^ n % 2 = k / 2 ^ n % 2 := by
  rw [Nat.pow_succ, show c * (2 ^ n * 2) + k = k + 2 ^ n * (2 * c) by
    rw [Nat.mul_comm c, Nat.mul_assoc]
    omega]
  rw [Nat.add_mul_div_left _ _ (two_pos n), Nat.add_mul_mod_self_left]
theorem xOf_high : ∀ (l : List Bool) (c k : Nat), xOf l (c * 2 ^ l.length + k) = xOf l k
  | [], _, _ => rfl
  | true :: r, c, k => by
    show (c * 2 ^ (r.length + 1) + k) / 2 ^ r.length % 2 * 2 ^ nx r + xOf r (c * 2 ^ (r.length + 1) + k) = _
    rw [top_bit, show c * 2 ^ (r.length + 1) = c * 2 * 2 ^ r.length by rw [Nat.pow_succ, Nat.mul_comm (2 ^ r.length), Nat.mul_assoc], xOf_high r]
    rfl
  | false :: r, c, k => by
    show xOf r (c * 2 ^ (r.length + 1) + k) = _
    rw [show c * 2 ^ (r.length + 1) = c * 2 * 2 ^ r.length by rw [Nat.pow_succ, Nat.mul_comm (2 ^ r.length), Nat.mul_assoc], xOf_high r]
    rfl
theorem yOf_high : ∀ (l : List Bool) (c k : Nat), yOf l (c * 2 ^ l.length + k) = yOf l k
  | [], _, _ => rfl
  | false :: r, c, k => by
    show (c * 2 ^ (r.length + 1) + k) / 2 ^ r.length % 2 * 2 ^ ny r + yOf r (c * 2 ^ (r.length + 1) + k) = _
    rw [top_bit, show c * 2 ^ (r.length + 1) = c * 2 * 2 ^ r.length by rw [Nat.pow_succ, Nat.mul_comm (2 ^ r.length), Nat.mul_assoc], yOf_high r]
    rfl
  | true :: r, c, k => by
    show yOf r (c * 2 ^ (r.length + 1) + k) = _
    rw [show c * 2 ^ (r.length + 1) = c * 2 * 2 ^ r.length by rw [Nat.pow_succ, Nat.mul_comm (2 ^ r.length), Nat.mul_assoc], yOf_high r]
    rfl
theorem lead_bit {d k : Nat} (n : Nat) (hd : d < 2) (hk : k < 2 ^ n) : (d * 2 ^ n + k) / 2 ^ n % 2 = d := by
  rw [Nat.add_comm, Nat.add_mul_div_right _ _ (two_pos n), Nat.div_eq_of_lt hk, Nat.zero_add, Nat.mod_eq_of_lt hd]
theorem mod_succ (x n : Nat) : x % 2 ^ (n + 1) = x / 2 ^ n % 2 * 2 ^ n + x % 2 ^ n := by
  rw [Nat.mod_pow_succ, Nat.add_comm, Nat.mul_comm]
theorem xOf_key : ∀ (l : List Bool) (x y : Nat), xOf l (keyL l x y) = x % 2 ^ nx l
  | [], x, _ => by
    rw [nx_nil, Nat.pow_zero, Nat.mod_one]
    rfl
  | true :: r, x, y => by
    show (x / 2 ^ nx r % 2 * 2 ^ r.length + keyL r x y) / 2 ^ r.length % 2 * 2 ^ nx r + xOf r (x / 2 ^ nx r % 2 * 2 ^ r.length + keyL r x y) = _
    rw [lead_bit _ (Nat.mod_lt _ (by decide)) (keyL_lt r x y), xOf_high, xOf_key r, nx_t, mod_succ]
  | false :: r, x, y => by
    show xOf r (y / 2 ^ ny r % 2 * 2 ^ r.length + keyL r x y) = _
    rw [xOf_high, xOf_key r, nx_f]
theorem yOf_key : ∀ (l : List Bool) (x y : Nat), yOf l (keyL l x y) = y % 2 ^ ny l
  | [], x, y => by
    rw [ny_nil, Nat.pow_zero, Nat.mod_one]
    rfl
  | false :: r, x, y => by
    show (y / 2 ^ ny r % 2 * 2 ^ r.length + keyL r x y) / 2 ^ r.length % 2 * 2 ^ ny r + yOf r (y / 2 ^ ny r % 2 * 2 ^ r.length + keyL r x y) = _
    rw [lead_bit _ (Nat.mod_lt _ (by decide)) (keyL_lt r x y), yOf_high, yOf_key r, ny_f, mod_succ]
  | true :: r, x, y => by
    show yOf r (x / 2 ^ nx r % 2 * 2 ^ r.length + keyL r x y) = _
    rw [yOf_high, yOf_key r, ny_t]
/-- a key hangs on the low digits alone -/
theorem digit_high {c x : Nat} {n m : Nat} (h : n < m) : (c * 2 ^ m + x) / 2 ^ n % 2 = x / 2 ^ n % 2 := by
  obtain ⟨d, rfl⟩ : ∃ d, m = d + (n + 1) := ⟨m - (n + 1), by omega⟩
  rw [Nat.pow_add, ← Nat.mul_assoc]
  exact top_bit n
theorem keyL_high : ∀ (l : List Bool) (c d x y n m : Nat), nx l ≤ n → ny l ≤ m → keyL l (c * 2 ^ n + x) (d * 2 ^ m + y) = keyL l x y
  | [], _, _, _, _, _, _, _, _ => rfl
  | true :: r, c, d, x, y, n, m, hn, hm => by
    rw [nx_t] at hn
    rw [ny_t] at hm
    show (c * 2 ^ n + x) / 2 ^ nx r % 2 * 2 ^ r.length + keyL r (c * 2 ^ n + x) (d * 2 ^ m + y) = _
    rw [digit_high (by omega), keyL_high r c d x y n m (by omega) hm]
    rfl
  | false :: r, c, d, x, y, n, m, hn, hm => by
    rw [nx_f] at hn
    rw [ny_f] at hm
    show (d * 2 ^ m + y) / 2 ^ ny r % 2 * 2 ^ r.length + keyL r (c * 2 ^ n + x) (d * 2 ^ m + y) = _
    rw [digit_high (by omega), keyL_high r c d x y n m hn (by omega)]
    rfl
theorem keyL_mod (l : List Bool) (x y : Nat) : keyL l x y = keyL l (x % 2 ^ nx l) (y % 2 ^ ny l) := by
  have h := keyL_high l (x / 2 ^ nx l) (y / 2 ^ ny l) (x % 2 ^ nx l) (y % 2 ^ ny l) (nx l) (ny l) (Nat.le_refl _) (Nat.le_refl _)
  rw [Nat.mul_comm, Nat.div_add_mod, Nat.mul_comm, Nat.div_add_mod] at h
  exact h
/-- two words, one behind the other -/
theorem keyL_app : ∀ (a b : List Bool) (x y : Nat), keyL (a ++ b) x y = keyL a (x / 2 ^ nx b) (y / 2 ^ ny b) * 2 ^ b.length + keyL b x y
  | [], b, x, y => by
    show keyL b x y = 0 * 2 ^ b.length + keyL b x y
    rw [Nat.zero_mul, Nat.zero_add]
  | true :: r, b, x, y => by
    show x / 2 ^ nx (r ++ b) % 2 * 2 ^ (r ++ b).length + keyL (r ++ b) x y = (x / 2 ^ nx b / 2 ^ nx r % 2 * 2 ^ r.length + keyL r (x / 2 ^ nx b) (y / 2 ^ ny b)) * 2 ^ b.length + keyL b x y
    rw [keyL_app r b, nx_app, List.length_append, Nat.div_div_eq_div_mul, ← Nat.pow_add, Nat.add_comm (nx b), Nat.add_mul, Nat.pow_add 2 r.length, Nat.mul_assoc]
    omega
  | false :: r, b, x, y => by
    show y / 2 ^ ny (r ++ b) % 2 * 2 ^ (r ++ b).length + keyL (r ++ b) x y = (y / 2 ^ ny b / 2 ^ ny r % 2 * 2 ^ r.length + keyL r (x / 2 ^ nx b) (y / 2 ^ ny b)) * 2 ^ b.length + keyL b x y
    rw [keyL_app r b, ny_app, List.length_append, Nat.div_div_eq_div_mul, ← Nat.pow_add, Nat.add_comm (ny b), Nat.add_mul, Nat.pow_add 2 r.length, Nat.mul_assoc]
    omega
theorem keyL_rt : ∀ (n x y : Nat), keyL (List.replicate n true) x y = x % 2 ^ n
  | 0, x, y => by
    rw [Nat.pow_zero, Nat.mod_one]
    rfl
  | n + 1, x, y => by
    rw [List.replicate_succ]
    show x / 2 ^ nx (List.replicate n true) % 2 * 2 ^ (List.replicate n true).length + keyL (List.replicate n true) x y = _
    rw [nx_rt, List.length_replicate, keyL_rt n, mod_succ]
theorem keyL_rf : ∀ (n x y : Nat), keyL (List.replicate n false) x y = y % 2 ^ n
  | 0, x, y => by
    rw [Nat.pow_zero, Nat.mod_one]
    rfl
  | n + 1, x, y => by
    rw [List.replicate_succ]
    show y / 2 ^ ny (List.replicate n false) % 2 * 2 ^ (List.replicate n false).length + keyL (List.replicate n false) x y = _
    rw [ny_rf, List.length_replicate, keyL_rf n, mod_succ]
def rowsL (n m : Nat) : List Bool := List.replicate m false ++ List.replicate n true
def colsL (n m : Nat) : List Bool := List.replicate n true ++ List.replicate m false
theorem nx_rows (n m : Nat) : nx (rowsL n m) = n := by rw [rowsL, nx_app, nx_rf, nx_rt, Nat.zero_add]
theorem ny_rows (n m : Nat) : ny (rowsL n m) = m := by rw [rowsL, ny_app, ny_rf, ny_rt, Nat.add_zero]
theorem nx_cols (n m : Nat) : nx (colsL n m) = n := by rw [colsL, nx_app, nx_rf, nx_rt, Nat.add_zero]
theorem ny_cols (n m : Nat) : ny (colsL n m) = m := by rw [colsL, ny_app, ny_rf, ny_rt, Nat.zero_add]
theorem len_rows (n m : Nat) : (rowsL n m).length = n + m := by rw [← nxy, nx_rows, ny_rows]
theorem len_cols (n m : Nat) : (colsL n m).length = n + m := by rw [← nxy, nx_cols, ny_cols]
theorem key_rows (n m x y : Nat) : keyL (rowsL n m) x y = y % 2 ^ m * 2 ^ n + x % 2 ^ n := by
  rw [rowsL, keyL_app, keyL_rf, keyL_rt, ny_rt, List.length_replicate, Nat.pow_zero, Nat.div_one]
theorem key_cols (n m x y : Nat) : keyL (colsL n m) x y = x % 2 ^ n * 2 ^ m + y % 2 ^ m := by
  rw [colsL, keyL_app, keyL_rf, keyL_rt, nx_rf, List.length_replicate, Nat.pow_zero, Nat.div_one]
/-- the parts of a key as they are summed up -/
theorem keyL_drop (l : List Bool) (k : Nat) (h : k < l.length) (x y : Nat) :
    keyL (l.drop k) x y = (if l[k] = true then x / 2 ^ nx (l.drop (k + 1)) % 2 else y / 2 ^ ny (l.drop (k + 1)) % 2) * 2 ^ (nx (l.drop (k + 1)) + ny (l.drop (k + 1))) + keyL (l.drop (k + 1)) x y := by
  rw [List.drop_eq_getElem_cons h, nxy]
  cases l[k] <;> rfl
theorem xOf_drop (l : List Bool) (k : Nat) (h : k < l.length) (q : Nat) :
    xOf (l.drop k) q = (if l[k] = true then q / 2 ^ (nx (l.drop (k + 1)) + ny (l.drop (k + 1))) % 2 * 2 ^ nx (l.drop (k + 1)) else 0) + xOf (l.drop (k + 1)) q := by
  rw [List.drop_eq_getElem_cons h, nxy]
  cases l[k]
  · rw [if_neg (by decide), Nat.zero_add]
    rfl
  · rfl
theorem yOf_drop (l : List Bool) (k : Nat) (h : k < l.length) (q : Nat) :
    yOf (l.drop k) q = (if l[k] = true then 0 else q / 2 ^ (nx (l.drop (k + 1)) + ny (l.drop (k + 1))) % 2 * 2 ^ ny (l.drop (k + 1))) + yOf (l.drop (k + 1)) q := by
  rw [List.drop_eq_getElem_cons h, nxy]
  cases l[k]
  · rfl
  · rw [if_pos rfl, Nat.zero_add]
    rfl
theorem nx_drop (l : List Bool) (k : Nat) (h : k < l.length) : nx (l.drop k) = nx (l.drop (k + 1)) + (if l[k] = true then 1 else 0) := by
  rw [List.drop_eq_getElem_cons h]
  cases l[k]
  · rw [nx_f]
    rfl
  · rw [nx_t, if_pos rfl]
theorem ny_drop (l : List Bool) (k : Nat) (h : k < l.length) : ny (l.drop k) = ny (l.drop (k + 1)) + (if l[k] = true then 0 else 1) := by
  rw [List.drop_eq_getElem_cons h]
  cases l[k]
  · rw [ny_f, if_neg (by decide)]
  · rw [ny_t]
    rfl
def yxs : Nat → List Bool
  | 0 => []
  | t + 1 => false :: true :: yxs t
theorem flat_yx (t : Nat) : (List.replicate t [false, true]).flatten = yxs t := by
  induction t with
  | zero => rfl
  | succ t ih =>
    rw [List.replicate_succ, List.flatten_cons, ih]
    rfl
theorem yxs_succ (t : Nat) : yxs (t + 1) = yxs t ++ [false, true] := by
  induction t with
  | zero => rfl
  | succ t ih =>
    have e : yxs (t + 1 + 1) = false :: true :: yxs (t + 1) := rfl
    rw [e]
    conv => lhs; rw [ih]
    rfl
theorem nx_yxs (t : Nat) : nx (yxs t) = t := by
  induction t with
  | zero => rfl
  | succ t ih =>
    show nx (false :: true :: yxs t) = _
    rw [nx_f, nx_t, ih]
theorem ny_yxs (t : Nat) : ny (yxs t) = t := by
  induction t with
  | zero => rfl
  | succ t ih =>
    show ny (false :: true :: yxs t) = _
    rw [ny_f, ny_t, ih]
def lacedL (n m : Nat) : List Bool := List.replicate (n - min n m) true ++ List.replicate (m - min n m) false ++ yxs (min n m)
theorem nx_laced (n m : Nat) : nx (lacedL n m) = n := by
  rw [lacedL, nx_app, nx_app, nx_rt, nx_rf, nx_yxs]
  omega
theorem ny_laced (n m : Nat) : ny (lacedL n m) = m := by
  rw [lacedL, ny_app, ny_app, ny_rt, ny_rf, ny_yxs]
  omega
def tiledL (n m a b : Nat) : List Bool := rowsL (n - a) (m - b) ++ rowsL a b
theorem nx_tiled {n m a b : Nat} (ha : a ≤ n) : nx (tiledL n m a b) = n := by
  rw [tiledL, nx_app, nx_rows, nx_rows]
  omega
theorem ny_tiled {n m a b : Nat} (hb : b ≤ m) : ny (tiledL n m a b) = m := by
  rw [tiledL, ny_app, ny_rows, ny_rows]
  omega
theorem key_tiled {n m a b x y : Nat} (ha : a ≤ n) (hb : b ≤ m) (hx : x < 2 ^ n) (hy : y < 2 ^ m) :
    keyL (tiledL n m a b) x y = (y / 2 ^ b * 2 ^ (n - a) + x / 2 ^ a) * 2 ^ (a + b) + (y % 2 ^ b * 2 ^ a + x % 2 ^ a) := by
  rw [tiledL, keyL_app, key_rows, key_rows, nx_rows, ny_rows, len_rows]
  have h1 : y / 2 ^ b < 2 ^ (m - b) := by
    rw [Nat.div_lt_iff_lt_mul (two_pos b), ← Nat.pow_add]
    rw [show m - b + b = m by omega]
    exact hy
  have h2 : x / 2 ^ a < 2 ^ (n - a) := by
    rw [Nat.div_lt_iff_lt_mul (two_pos a), ← Nat.pow_add]
    rw [show n - a + a = n by omega]
    exact hx
  rw [Nat.mod_eq_of_lt h1, Nat.mod_eq_of_lt h2]
theorem tiled00 (n m : Nat) : tiledL n m 0 0 = rowsL n m := by
  show rowsL (n - 0) (m - 0) ++ [] = _
  rw [List.append_nil, Nat.sub_zero, Nat.sub_zero]
theorem tilednm (n m : Nat) : tiledL n m n m = rowsL n m := by
  show rowsL (n - n) (m - m) ++ rowsL n m = _
  rw [Nat.sub_self, Nat.sub_self]
  rfl
theorem ne_nil_of {l : List Bool} (h : 1 ≤ nx l + ny l) : l ≠ [] := by
  intro e
  subst e
  rw [nx_nil, ny_nil] at h
  omega
end Lk

set_option Elab.async false
set_option linter.all false
set_option maxRecDepth 100000
set_option maxHeartbeats 4000000
namespace Lk
open PySem PySem.Spec PyProof.Rows L2
/-! ### rules of our own -/
section
variable {X : Cx}
/-- a power of a great base -/
def CPowB (i j : Int) : Prop := ∃ b : Nat, i.natAbs < 2 ^ b ∧ 0 ≤ j ∧ (b : Int) * j ≤ 100000
theorem op_powB : OpR X (binaryOp .Pow) (rI CPowB fun i j => .int (i ^ j.toNat)) :=
  opI fun i j _ _ _ _ _ hc q => by
    obtain ⟨b, h1, h2, h3⟩ := hc
    refine pow_int h2 ?_ q
    have h4 := intBits_le h1
    have h5 : ((Builtin.Int.intBits i : Nat) : Int) * j ≤ (b : Int) * j := Int.mul_le_mul_of_nonneg_right (by omega) h2
    omega
/-- a text times a number -/
def rMulS : R2 := fun x y H Q => ∃ (a : Str) (n : Int), x = .str a ∧ y = .int n ∧ a.length ≤ 1000 ∧ -1000 ≤ n ∧ n ≤ 1000 ∧ Q (.str (Txt.mul a n)) H
theorem op_mulS : OpR X (binaryOp .Mult) rMulS := by
  intro pins s σ H x y v u Q I rx ry h
  obtain ⟨a, n, rfl, rfl, h1, h2, h3, q⟩ := h
  obtain ⟨t, rfl⟩ := rx
  obtain ⟨t', rfl⟩ := ry
  exact SB.mul (mulOk_of 1000 1000 h1 h3 (by omega) (by decide) (by decide)) fun t1 k => ⟨.str (Txt.mul a n), H, I.tok k, ⟨t1, rfl⟩, q⟩
/-- repr of data -/
def rRepr (K : PySem.W.Frag) : List V → Hp → VK → Prop := fun xs H Q => ∃ (a : Addr) (d : PyData), xs = [.ref a] ∧ Dp K H (.ref a) d ∧ d.showable = true ∧ d.hasDict = false ∧ d.depth ≤ 8 ∧ d.shown.length ≤ sizeLine ∧ Q (.str d.shown) H
theorem call_reprD (hg : X.A.guards = some []) (hu : X.A.units + 64 < cLine) : CallR X (.builtin "repr") (rRepr X.K) := by
  intro pins s σ H xs us Q I r h
  obtain ⟨a, d, rfl, hd, h1, h2, h3, h4, q⟩ := h
  obtain ⟨u, rfl, ru⟩ : ∃ u, us = [u] ∧ RelV (.ref a) u := by
    cases r with
    | cons r1 r2 =>
      cases r2
      exact ⟨_, rfl, r1⟩
  obtain ⟨as, hr⟩ := Dp.reads I d _ u hd ru
  obtain rfl : u = Value.ref a := ru
  refine repr_of_reads' hr h1 (fun z => by rw [h2] at z; cases z) hg (by omega) (fun b o e => e) (fun h' t tk kept => ?_) h4
  exact ⟨.str d.shown, H, I.kept kept, ⟨t, rfl⟩, q⟩
end

theorem kitOne_self (K : PySem.W.Frag) (v : Value) : PySem.W.kitOne K v v = some true := by
  unfold PySem.W.kitOne
  rw [if_pos (beq_self_eq_true v)]

/-! ### defs that are called where no repr is under way -/
structure FnG (P : Program) (w : World) (K : PySem.W.Frag) (mg : Str → Option Value) (base : Heap) (k : Nat) (f : Addr) (fd : FuncData) (ps : List Str) (sp : Sp) : Prop where
  wide : ∀ vs H Q E, sp vs H Q E → vs.length = ps.length
  goes : ∀ (A : Around) (outer : List Env) (s : Shared) (H : Hp) (args : Args) (us : List Value) (vs : List V) (Q : VK) (E : XK), A.guards = some [] → Room k A →
    Env0 P w K mg base A outer s H → BindsTo s fd args (ps.zip us) → Vals vs us → sp vs H Q E → codeAny (model P w) A (.call (.ref f) args) (CR CX0 outer P w H s Q E) s
section
variable {P : Program} {w : World} {K : PySem.W.Frag} {mg : Str → Option Value} {base : Heap} {k : Nat} {f : Addr} {fd : FuncData} {ps : List Str} {sp : Sp}
theorem FnG.mono {j : Nat} (F : FnG P w K mg base j f fd ps sp) (h : j ≤ k) : FnG P w K mg base k f fd ps sp :=
  ⟨F.wide, fun A outer s H args us vs Q E hg hr => F.goes A outer s H args us vs Q E hg (hr.mono h)⟩
theorem okG {x qual : Str} {st : Stmt} {N : List Str} (F : Fun K x qual st f fd) (S : FnScope N ps (defScope st)) (len : ∀ vs H Q E, sp vs H Q E → vs.length = ps.length)
    (hbody : ∀ (cdv : Value) (A : Around) (outer : List Env) (s : Shared) (H : Hp) (vs : List V) (Q : VK) (E : XK), A.guards = some [] → Room k (A.deeper (envOfC qual (defScope st) s.heap.objs.size f cdv)) → sp vs H Q E →
      ∃ t, PSs (cxOf CX0 P w K mg base N qual (defScope st) f cdv A outer s H E).nox (defBody st) t ∧ t { nx := fun _ H' => Q .non H', rt := Q } (start N vs) H) : FnG P w K mg base (k + 1) f fd ps sp := by
  obtain ⟨oc, od, kV, doc, pm, an, cdv, ct, osl, rfl, lk, hcd⟩ := F.ex
  refine ⟨len, fun A outer s H args us vs Q E hg hr e0 hb r hsp => ?_⟩
  have KX : K.In s.heap := e0.mod.kin.keeps fun b o e => (e0.bs b o e).1
  have kinds : ∀ y ∈ ps.zip us, (defScope st).names.lookup y.1 = some .local ∨ ((defScope st).names.lookup y.1 = some .cell ∧ ((cellsFrom (s.heap.objs.size + 1) (defScope st).names []).lookup y.1).isSome = true) := by
    rintro ⟨n, v⟩ hy
    rcases S.par n (List.of_mem_zip hy).1 with z | z
    · exact .inl z
    · exact .inr ⟨z, PySem.W.cellsFrom_some _ _ _ (.inl z)⟩
  refine codeAny_call_function hr.depth (KX _ _ lk) rfl S.co S.gen rfl (PySem.W.codeRec_of KX hcd) (hb _ _ _ _ ?_)
  refine wpAny_newFunctionEnv_cells S.kind kinds fun env he s1 x => ?_
  subst he
  refine ⟨(e0.mod.nolimit.keeps fun b o e => (e0.bs b o e).1).keeps x.toInCall.keep, codeAny_func ?_⟩
  obtain ⟨t, ht, hq⟩ := hbody cdv A outer s H vs Q E hg (hr.deeper _) hsp
  have I := inv_start (CX := CX0) (E := E) S hr.hd e0 (len _ _ _ _ hsp) r x
  refine wpAny_mono (ht.nox.run [] s1 _ H _ I hq) (fun fl s' hs => ?_) fun e s' hs => hs
  cases fl with
  | ret u =>
    obtain ⟨v, σ', H', J, rv, q⟩ := hs
    exact ⟨v, H', J.os, J.bare, J.base, J.hok, rv, q⟩
  | next =>
    obtain ⟨σ', H', J, q⟩ := hs
    exact ⟨V.non, H', J.os, J.bare, J.base, J.hok, rfl, q⟩
  | brk => exact hs.elim fun _ z => z.elim fun _ z => z.2.elim
  | cont => exact hs.elim fun _ z => z.elim fun _ z => z.2.elim
end
section
variable {X : Cx} {k : Nat} {f : Addr} {fd : FuncData} {ps : List Str} {sp : Sp} {x : Str} {p pos : Pos} {e : Expr} {es : List Expr} {t : TA}
theorem pe_callG (F : FnG X.prog X.w X.K X.mg X.base k f fd ps sp) (hgd : X.A.guards = some []) (hr : Room k X.A) (hg : Gl X x) (hm : X.mg x = some (.ref f)) (hk : PySem.W.keepIn X.K (.ref f) = true) (hb : Binds X.K fd ps [])
    (ha : PA X (e :: es) t) (hdb : (x == ("__debug__" : Str)) = false := by decide) (he : starEach (e :: es) X.env = (false, eval e X.env) :: starEach es X.env := by rfl)
    (hpl : (backTo pos (starEach es X.env)).any (·.1) = false := by rfl) : PE X (.Call (.Name x p) (e :: es) [] pos) (tCall sp [] E0 t) := by
  refine ⟨fun pins s σ H Q I h => wpAny_Call_Name_kw (ld_glob I hg hm ?_ hdb)⟩
  refine PySem.W.callWith_K (h₀ := X.base) I.ok.mod.kin hk (thn (ha.run pos pins s σ H _ I h) fun us s1 hus => ?_) he hpl
  obtain ⟨vs, H1, I1, r, q⟩ := hus
  refine ⟨I1.kIn, wpAny_call (codeAny_mono (F.goes X.A X.stack s1 H1 ⟨us, []⟩ us vs Q E0 hgd hr I1.env0 ?_ r ?_) fun r s' hq => ?_)⟩
  · have l : us.length = ps.length := by
      rw [← r.length]
      have := F.wide _ _ _ _ q
      rw [List.append_nil] at this
      exact this
    have z := hb s1 us I1.kIn (by rw [List.append_nil]; exact l)
    rw [List.append_nil] at z
    exact z
  · have z := q
    rw [List.append_nil] at z
    exact z
  · cases r with
    | error e => exact hq.elim
    | ok fl =>
      cases fl with
      | ret u => exact I1.after hq
      | next => exact False.elim hq
      | brk => exact False.elim hq
      | cont => exact False.elim hq
end

/-! ### the law's own end -/
theorem callG {P : Program} {w : World} {K : PySem.W.Frag} {mg mb : Str → Option Value} {k : Nat} {fa a : Addr} {fd : FuncData} {x : Str} {sp : Sp} {s₁ : Shared} {vs : List Value} {ns : List Int}
    (KX : K.In s₁.heap) (hns : s₁.heap.Ns mainGlobals mg) (hb : s₁.heap.Ns builtinsNs mb) (hbb : ∀ x : Str, x ≠ "__name__" → mb x = bootBuiltins x) (hlim : s₁.heap.NoLimit) (hg : s₁.gens = #[])
    (ha : s₁.heap.get? a = some { cls := .type "list", data := .seq vs.toArray }) (hi : IntsAre vs ns) (hl : ns.length ≤ sizeLine) (hr : Room k callerA)
    (F : ∀ base : Heap, K.In base → base.Ns mainGlobals mg → FnG P w K mg base k fa fd [x] sp) (hbind : ∀ (s : Shared) (u : Value), BindsTo s fd ⟨[u], []⟩ [(x, u)])
    (hsp : ∀ H : Hp, Only H → SqL K H a (ns.map V.int) → sp [.ref a] H (fun v _ => v = .bl true) fun _ _ _ => False) :
    codeAny (model P w) callerA (.call (.ref fa) ⟨[.ref a], []⟩) (fun r s' => r = .ok (.ret (.bool true)) ∧ OldK s₁.heap s'.heap ∧ s'.os = s₁.os ∧ AllBare s'.gens) s₁ := by
  let o₁ : Obj := { cls := .type "list", data := .seq vs.toArray }
  -- what is tracked at the start: the script, unless it is an object of the module's
  obtain ⟨H, hO, hS, hok, hA, hKa⟩ : ∃ H : Hp, Only H ∧ SqL K H a (ns.map V.int) ∧ HOk P w H s₁.heap ∧ (∀ b, H b ≠ none → b = a) ∧ (H a ≠ none → K.lookup a = none) := by
    have lv : (ns.map V.int).length ≤ sizeLine := by
      rw [List.length_map]
      exact hl
    cases hk : K.lookup a with
    | some o =>
      have eo := (KX a o hk).symm.trans ha
      cases eo
      refine ⟨fun _ => none, fun _ => .inl rfl, .inr ⟨_, vs.toArray, _, hk, rfl, rfl, rfl, ?_, ?_⟩, ?_, ?_, ?_⟩
      · rw [List.size_toArray, hi.length]
        exact hl
      · exact vals_ints hi
      · intro b u z
        exact absurd (show (none : Option HO) = some u from z) (by intro y; cases y)
      · intro b z
        exact absurd rfl z
      · intro z
        exact absurd rfl z
    | none =>
      have at_a : (fun b => if b = a then some (HO.frz o₁ (.lst (ns.map V.int))) else none : Hp) a = some (HO.frz o₁ (.lst (ns.map V.int))) := if_pos rfl
      have off : ∀ b, b ≠ a → (fun b => if b = a then some (HO.frz o₁ (.lst (ns.map V.int))) else none : Hp) b = none := fun b hb => if_neg hb
      refine ⟨fun b => if b = a then some (.frz o₁ (.lst (ns.map V.int))) else none, fun b => ?_, .inl (.inr ⟨o₁, at_a⟩), fun b u z => ?_, fun b z => ?_, fun _ => rfl⟩
      · by_cases hb : b = a
        · subst hb
          exact .inr ⟨_, _, at_a⟩
        · exact .inl (off b hb)
      · by_cases hb : b = a
        · subst hb
          have z2 := at_a.symm.trans z
          cases z2
          exact ⟨ha, lv, vs, _, vals_ints hi, ha⟩
        · have z2 := (off b hb).symm.trans z
          cases z2
      · by_cases hb : b = a
        · exact hb
        · exact absurd (off b hb) z
  have nodict : ∀ {b : Addr} {o : Obj} {es : Array DictEntry} {ep : Nat}, s₁.heap.get? b = some o → o.data = .dict es ep → H b = none := by
    intro b o es ep eo ed
    cases q : H b with
    | none => rfl
    | some u =>
      have hb : b = a := hA b (by rw [q]; intro z; cases z)
      subst hb
      have z := ha.symm.trans eo
      cases z
      cases ed
  have nsK : ∀ {b : Addr} {m : Str → Option Value}, s₁.heap.Ns b m → (hidT s₁.heap H).Ns b m := by
    rintro b m ⟨o, es, ep, eo, ed, r⟩
    exact ⟨o, es, ep, hidT_get eo (nodict eo ed), ed, r⟩
  have KB : K.In (hidT s₁.heap H) := by
    intro b o eo
    refine hidT_get (KX b o eo) ?_
    cases q : H b with
    | none => rfl
    | some u =>
      have hb : b = a := hA b (by rw [q]; intro z; cases z)
      subst hb
      have z := hKa (by rw [q]; intro z; cases z)
      rw [eo] at z
      cases z
  have M : Mod K mg (hidT s₁.heap H) := by
    obtain ⟨mc, l1, l2⟩ := hlim
    exact ⟨KB, nsK hns, ⟨mb, nsK hb, hbb⟩, ⟨mc, nsK l1, l2⟩⟩
  have e0 : Env0 P w K mg (hidT s₁.heap H) callerA [] s₁ H := by
    refine ⟨rfl, M, fun b o e => of_hidT e, Nat.le_of_eq (hidT_size _ _), trivial, fun b hb => ?_, hok, .of_eq hg⟩
    exact absurd (show b ∈ ([] : List Addr) from hb) List.not_mem_nil
  refine codeAny_mono ((F _ KB (nsK hns)).goes callerA [] s₁ H ⟨[.ref a], []⟩ [.ref a] [.ref a] _ _ rfl hr e0 (hbind s₁ (.ref a)) (.cons rfl .nil) (hsp H hO hS)) fun r s' h => ?_
  cases r with
  | error e => exact h.elim
  | ok fl =>
    cases fl with
    | next => exact False.elim h
    | brk => exact False.elim h
    | cont => exact False.elim h
    | ret u =>
      obtain ⟨v, H', os, bare, un, hok', rv, (hv : v = .bl true)⟩ := h
      subst hv
      obtain rfl : u = Value.bool true := rv
      refine ⟨rfl, OldK.of_keep fun b o eo => ?_, os, bare⟩
      cases q : H b with
      | none => exact un.keep b o eo q (fun z => List.not_mem_nil z) List.not_mem_nil
      | some u =>
        rcases hO b with z | ⟨ob, xs, z⟩
        · rw [q] at z
          cases z
        · obtain ⟨e1, _⟩ := hok b _ z
          obtain ⟨e2, _⟩ := hok' b _ (un.frzs b ob _ z)
          have e3 := eo.symm.trans e1
          cases e3
          exact e2
theorem walkG {l : PySem.W.OpenLaw} {n k : Nat} {q : Program} {loose : List Str} {XP : (Str → Option Value) → Heap → Prop} {YP : World → Heap → Prop} {d : DefRec} {K : Params → PySem.W.Frag} {sp : World → Sp} {x : Str}
    (hn : l.most = some n) (hn2 : n ≤ sizeLine) (hdf : d.params.defaults = []) (hr : Room k callerA) (hY : ∀ (w : World) (h : Heap), YP w h → (K w.params).In h)
    (F : ∀ (w : World) (mg : Str → Option Value) (fa : Addr) (h : Heap), (K w.params).In h → h.Ns mainGlobals mg → mg d.name = some (.ref fa) →
      ∃ fd : FuncData, (∀ (s : Shared) (u : Value), BindsTo s fd ⟨[u], []⟩ [(x, u)]) ∧ ∀ base : Heap, (K w.params).In base → base.Ns mainGlobals mg → FnG l.prog w (K w.params) mg base k fa fd [x] (sp w))
    (hsp : ∀ (w : World) (H : Hp) (a : Addr) (ns : List Int), ns.length ≤ n → Only H → SqL (K w.params) H a (ns.map V.int) → sp w [.ref a] H (fun v _ => v = .bl true) fun _ _ _ => False) :
    PySem.W.WalkO q loose XP YP l.row.toRowW d [] (fun f vs => PySem.call f vs) := by
  refine Att.attach_call hn hdf fun w s₀ s₁ mg mb fa o pm cd doc a vs ns G Y ho hd hcd hmg hobj hints hlen hg => ?_
  obtain ⟨fd, hb, hF⟩ := F w mg fa _ (hY w _ Y) G.T.g hmg
  exact callG (hY w _ Y) G.T.g G.T.b G.T.builtins G.T.nolimit hg hobj hints (Nat.le_trans hlen hn2) hr hF hb fun H hO hS => hsp w H a ns hlen hO hS
end Lk

set_option Elab.async false
set_option linter.all false
set_option maxRecDepth 100000
set_option maxHeartbeats 4000000
namespace Lk
open PySem PySem.Spec PyProof.Rows L2
/-! ### the texts of words -/
def sg (b : Bool) : Nat := if b = true then 120 else 121
def wS (l : List Bool) : Str := ⟨(l.map sg).toArray⟩
theorem wS_len (l : List Bool) : (wS l).length = l.length := by simp [wS, Str.length]
theorem wS_x : (("x" : Str)) = wS [true] := by decide +kernel
theorem wS_y : (("y" : Str)) = wS [false] := by decide +kernel
theorem wS_yx : (("yx" : Str)) = wS [false, true] := by decide +kernel
theorem wS_nil : (("" : Str)) = wS [] := by decide +kernel
theorem wS_empty : Str.empty = wS [] := rfl
theorem wS_app (a b : List Bool) : wS a ++ wS b = wS (a ++ b) := by
  show (⟨(a.map sg).toArray ++ (b.map sg).toArray⟩ : Str) = ⟨((a ++ b).map sg).toArray⟩
  rw [List.map_append, List.append_toArray]
theorem sg_inj {a b : Bool} (h : sg a = sg b) : a = b := by
  cases a <;> cases b <;> first | rfl | (exact absurd h (by decide))
theorem map_sg_inj : ∀ {a b : List Bool}, a.map sg = b.map sg → a = b
  | [], [], _ => rfl
  | [], _ :: _, h => by cases h
  | _ :: _, [], h => by cases h
  | x :: a, y :: b, h => by
    injection h with h1 h2
    rw [sg_inj h1, map_sg_inj h2]
theorem wS_inj {a b : List Bool} (h : wS a = wS b) : a = b := by
  have h1 : (a.map sg).toArray = (b.map sg).toArray := congrArg Str.cps h
  exact map_sg_inj (by simpa using h1)
theorem wS_mul (l : List Bool) (n : Nat) : Txt.mul (wS l) (n : Int) = wS (List.replicate n l).flatten := by
  unfold Txt.mul
  by_cases h : (n : Int) < 1
  · have e : n = 0 := by omega
    subst e
    rw [if_pos h]
    rfl
  · rw [if_neg h]
    have key : ∀ (k : Nat) (acc : Array Nat), (List.replicate k (wS l).cps).foldl (· ++ ·) acc = acc ++ ((List.replicate k l).flatten.map sg).toArray := by
      intro k
      induction k with
      | zero => intro acc; simp
      | succ k ih =>
        intro acc
        rw [List.replicate_succ, List.foldl_cons, ih, List.replicate_succ, List.flatten_cons, List.map_append, ← List.append_toArray, Array.append_assoc]
        rfl
    split
    · rename_i hc
      rw [Bool.or_eq_true, beq_iff_eq, beq_iff_eq] at hc
      rcases hc with hc | hc
      · have e : n = 1 := by omega
        subst e
        show wS l = wS (l ++ [])
        rw [List.append_nil]
      · have e : l = [] := by
          rw [wS_len] at hc
          exact List.length_eq_zero_iff.mp hc
        subst e
        have : (List.replicate n ([] : List Bool)).flatten = [] := by simp
        rw [this]
    · show (⟨(List.replicate n (wS l).cps).foldl (· ++ ·) #[]⟩ : Str) = _
      rw [key]
      simp [wS]
theorem flat_one (n : Nat) (b : Bool) : (List.replicate n [b]).flatten = List.replicate n b := by
  induction n with
  | zero => rfl
  | succ n ih =>
    rw [List.replicate_succ, List.flatten_cons, ih, List.replicate_succ]
    rfl
theorem mul_x (n : Nat) : Txt.mul ("x" : Str) (n : Int) = wS (List.replicate n true) := by rw [wS_x, wS_mul, flat_one]
theorem mul_y (n : Nat) : Txt.mul ("y" : Str) (n : Int) = wS (List.replicate n false) := by rw [wS_y, wS_mul, flat_one]
theorem wS_list (l : List Bool) : (wS l).cps.toList = l.map sg := by simp [wS]
theorem count_x (l : List Bool) : Txt.count (wS l) ("x" : Str) = (nx l : Int) := by
  rw [show ("x" : Str) = ⟨#[120]⟩ by decide +kernel, count_cnt, wS_list]
  induction l with
  | nil => rfl
  | cons b r ih =>
    rw [List.map_cons, cnt_cons, ih]
    cases b
    · rw [nx_f, if_neg (by decide)]
      omega
    · rw [nx_t, if_pos (by decide)]
      omega
theorem count_y (l : List Bool) : Txt.count (wS l) ("y" : Str) = (ny l : Int) := by
  rw [show ("y" : Str) = ⟨#[121]⟩ by decide +kernel, count_cnt, wS_list]
  induction l with
  | nil => rfl
  | cons b r ih =>
    rw [List.map_cons, cnt_cons, ih]
    cases b
    · rw [ny_f, if_pos (by decide)]
      omega
    · rw [ny_t, if_neg (by decide)]
      omega
/-- one letter -/
def lt (b : Bool) : Str := ⟨#[sg b]⟩
theorem lt_x : lt true = ("x" : Str) := by decide +kernel
theorem lt_y : lt false = ("y" : Str) := by decide +kernel
theorem lt_is (b : Bool) : decide (V.str (lt b) = V.str ("x" : Str)) = b := by cases b <;> decide +kernel
theorem wS_at (l : List Bool) (k : Nat) (h : k < l.length) : (wS l).cps[k]? = some (sg l[k]) := by
  simp [wS, h]
theorem wS_size (l : List Bool) : (wS l).cps.size = l.length := wS_len l
theorem small_line {n : Nat} (h : n ≤ 100000) : n ≤ sizeLine := Nat.le_trans h (by decide)
theorem small_line' {n : Nat} (h : n ≤ 100000) : n < sizeLine := Nat.lt_of_le_of_lt h (by decide)
theorem hu_of' {X : Cx} {k : Nat} (hr : Room k X.A) : X.A.units + 64 < cLine := hr.units

/-! ### heaps -/
theorem same_new {H H' : Hp} {p : Addr} {o : HO} (e : Same H H') (h : H' p = none) : Same H (upd H' p o) := fun b x q => by
  rw [upd_ne (ne_of_none (e b x q) h)]
  exact e b x q
theorem same_mut {H H' : Hp} {p : Addr} {o : HO} (e : Same H H') (h : H p = none) : Same H (upd H' p o) := fun b x q => by
  rw [upd_ne (ne_of_none q h)]
  exact e b x q
theorem Same.seqT {K : PySem.W.Frag} {H H' : Hp} {a : Addr} {xs : List V} (e : Same H H') (h : SqT K H a xs) : SqT K H' a xs := by
  rcases h with (h | ⟨o, h⟩) | h
  · exact .inl (.inl (e _ _ h))
  · exact .inl (.inr ⟨o, e _ _ h⟩)
  · exact .inr h
/-- all but the object at r -/
def But (r : Addr) (H H' : Hp) : Prop := ∀ b o, b ≠ r → H b = some o → H' b = some o
theorem But.refl {r : Addr} {H : Hp} : But r H H := fun _ _ _ q => q
theorem But.trans {r : Addr} {H H1 H2 : Hp} (a : But r H H1) (b : But r H1 H2) : But r H H2 := fun c o n q => b c o n (a c o n q)
theorem Same.but {r : Addr} {H H' : Hp} (e : Same H H') : But r H H' := fun b o _ q => e b o q
theorem But.upd {r : Addr} {H : Hp} {o : HO} : But r H (upd H r o) := fun b x n q => by
  rw [upd_ne n]
  exact q
theorem But.free {r : Addr} {H H' : Hp} (e : But r H H') {p : Addr} (h : H' p = none) (n : p ≠ r) : H p = none := by
  cases q : H p with
  | none => rfl
  | some o =>
    rw [e p o n q] at h
    cases h
/-- the reel: three numbers; the third is at most n -/
def Reel (H : Hp) (r : Addr) (n : Nat) : Prop := ∃ a b c : Int, H r = some (.lst [.int a, .int b, .int c]) ∧ 0 ≤ a ∧ 0 ≤ b ∧ b < 2 ^ 200 ∧ 0 ≤ c ∧ c ≤ (n : Int)
theorem Reel.same {H H' : Hp} {r : Addr} {n : Nat} (e : Same H H') (h : Reel H r n) : Reel H' r n := by
  obtain ⟨a, b, c, h1, h2⟩ := h
  exact ⟨a, b, c, e _ _ h1, h2⟩
theorem Reel.le {H : Hp} {r : Addr} {n m : Nat} (h : Reel H r n) (hm : n ≤ m) : Reel H r m := by
  obtain ⟨a, b, c, h1, h2, h3, h4, h5, h6⟩ := h
  exact ⟨a, b, c, h1, h2, h3, h4, h5, by omega⟩
/-- a Layout -/
def lf (l : List Bool) : List (Str × V) := [("_word", .str (wS l)), ("_x_bits", .int (nx l)), ("_y_bits", .int (ny l))]
def Lay (C : Addr) (H : Hp) (p : Addr) (l : List Bool) : Prop := ∃ dx, H p = some (.ins C dx (lf l))
theorem Lay.same {C : Addr} {H H' : Hp} {p : Addr} {l : List Bool} (e : Same H H') (h : Lay C H p l) : Lay C H' p l := by
  obtain ⟨dx, h⟩ := h
  exact ⟨dx, e _ _ h⟩
theorem Lay.but {C r : Addr} {H H' : Hp} {p : Addr} {l : List Bool} (e : But r H H') (n : p ≠ r) (h : Lay C H p l) : Lay C H' p l := by
  obtain ⟨dx, h⟩ := h
  exact ⟨dx, e _ _ n h⟩
theorem lf_word (l : List Bool) : (lf l).lookup ("_word" : Str) = some (.str (wS l)) := rfl
theorem lf_x (l : List Bool) : (lf l).lookup ("_x_bits" : Str) = some (.int (nx l)) := rfl
theorem lf_y (l : List Bool) : (lf l).lookup ("_y_bits" : Str) = some (.int (ny l)) := rfl
/-- a word as Layout takes it -/
def GoodW (l : List Bool) : Prop := l ≠ [] ∧ nx l ≤ 100 ∧ ny l ≤ 100
theorem GoodW.len {l : List Bool} (h : GoodW l) : l.length ≤ 200 := by
  have := nxy l
  have := h.2
  omega
theorem good_of {l : List Bool} {n m : Nat} (h1 : nx l = n) (h2 : ny l = m) (hn : n ≤ 100) (hm : m ≤ 100) (h : 1 ≤ n + m) : GoodW l := ⟨ne_nil_of (by omega), by omega, by omega⟩
theorem made_same {C x dx : Addr} {H H' : Hp} (n1 : H x = none) (n2 : H dx = none) (e : But x (upd (upd H dx (.own x)) x (.ins C dx [])) H') : Same H H' := fun b o q => by
  have nb : b ≠ x := ne_of_none q n1
  refine e b o nb ?_
  rw [upd_ne nb, upd_ne (ne_of_none q n2)]
  exact q
theorem len_x : ("x" : Str).length ≤ 1000 := by decide +kernel
theorem len_y : ("y" : Str).length ≤ 1000 := by decide +kernel
theorem len_yx : ("yx" : Str).length ≤ 1000 := by decide +kernel
theorem mul_yx (n : Nat) : Txt.mul ("yx" : Str) (n : Int) = wS (yxs n) := by rw [wS_yx, wS_mul, flat_yx]
theorem add_yx {n m : Nat} (hn : n ≤ 100) (hm : m ≤ 100) : (Txt.mul ("y" : Str) (m : Int)).length + (Txt.mul ("x" : Str) (n : Int)).length ≤ sizeLine := by
  rw [mul_x, mul_y, wS_len, wS_len, List.length_replicate, List.length_replicate]
  exact small_line (by omega)
theorem add_xy {n m : Nat} (hn : n ≤ 100) (hm : m ≤ 100) : (Txt.mul ("x" : Str) (n : Int)).length + (Txt.mul ("y" : Str) (m : Int)).length ≤ sizeLine := by
  rw [mul_x, mul_y, wS_len, wS_len, List.length_replicate, List.length_replicate]
  exact small_line (by omega)
theorem small_pow {k : Nat} (h : k ≤ 1000000) : k < 2 ^ 1000 := Nat.lt_of_le_of_lt h (by decide +kernel)
theorem pw {x : Nat} (h : x ≤ 999) : 2 ^ x < 2 ^ 1000 := Nat.pow_lt_pow_right (by decide) (by omega)
theorem pwl {a n m : Nat} (h : a < 2 ^ n) (hn : n ≤ m) : a < 2 ^ m := Nat.lt_of_lt_of_le h (Nat.pow_le_pow_right (by decide) hn)
theorem cmulN {a b : Nat} (ha : a < 2 ^ 1000) (hb : b < 2 ^ 1000) : CMulW (a : Int) (b : Int) :=
  wide_mul (a := 1000) (b := 1000) (by rw [Int.natAbs_natCast]; exact ha) (by rw [Int.natAbs_natCast]; exact hb) (by decide) (by decide) (by decide)
theorem cdivN {a : Int} {b : Nat} (h0 : 0 < b) (hb : b < 2 ^ 1000) : CDivW a (b : Int) :=
  wide_div (b := 1000) (by omega) (by rw [Int.natAbs_natCast]; exact hb) (by decide) (by decide)
theorem Reel.ne {H : Hp} {r p : Addr} {n : Nat} (h : Reel H r n) (hp : H p = none) : p ≠ r := fun z => by
  obtain ⟨_, _, _, e, _⟩ := h
  rw [z, e] at hp
  cases hp
@[elab_as_elim] theorem to_any {p : Hp → Prop} {H H' : Hp} (e : Same H H') (h : ∀ H2, Same H H2 → p H2) : p H' := h H' e
theorem modNat (a b : Nat) : ((a : Int)).fmod (b : Int) = ((a % b : Nat) : Int) := by
  rw [Int.fmod_eq_emod_of_nonneg _ (by omega)]
  rfl
theorem divNat (a b : Nat) : ((a : Int)) / (b : Int) = ((a / b : Nat) : Int) := rfl
theorem fdivNat (a b : Nat) : ((a : Int)).fdiv (b : Int) = ((a / b : Nat) : Int) := by
  rw [Int.fdiv_eq_ediv_of_nonneg _ (by omega)]
  rfl
theorem join0 : ∀ (ys : List (List Bool)), Txt.join ("" : Str) (ys.map wS) = wS ys.flatten
  | [] => by decide +kernel
  | y :: r => by
    have key : ∀ (r : List (List Bool)) (acc : List Bool), (r.map wS).foldl (fun acc p => acc ++ ("" : Str).cps ++ p.cps) (wS acc).cps = (wS (acc ++ r.flatten)).cps := by
      intro r
      induction r with
      | nil =>
        intro acc
        simp
      | cons z r ih =>
        intro acc
        have e0 : ("" : Str).cps = #[] := by decide +kernel
        rw [List.map_cons, List.foldl_cons, e0, Array.append_empty]
        have e1 : (wS acc).cps ++ (wS z).cps = (wS (acc ++ z)).cps := congrArg Str.cps (wS_app acc z)
        rw [e1]
        have := ih (acc ++ z)
        rw [e0] at this
        rw [this, List.flatten_cons, List.append_assoc]
    show (⟨(r.map wS).foldl (fun acc p => acc ++ ("" : Str).cps ++ p.cps) (wS y).cps⟩ : Str) = _
    rw [key r y, List.flatten_cons]
/-- the feet as they stand -/
def FeetAt (H : Hp) (p : Addr) (ts : List Addr) (fl : List (Bool × Nat × Nat)) : Prop :=
  H p = some (.lst (ts.map V.ref)) ∧ ts.length = fl.length ∧ ∀ (k : Nat) (t : Addr) (f : Bool × Nat × Nat), ts[k]? = some t → fl[k]? = some f → H t = some (.tup [.str (lt f.1), .int (f.2.1 : Nat), .int (f.2.2 : Nat)])
theorem FeetAt.same {H H' : Hp} {p : Addr} {ts : List Addr} {fl : List (Bool × Nat × Nat)} (e : Same H H') (h : FeetAt H p ts fl) : FeetAt H' p ts fl :=
  ⟨e _ _ h.1, h.2.1, fun k t f h1 h2 => e _ _ (h.2.2 k t f h1 h2)⟩
theorem iteT' {A B : Prop} {c : Bool} (e : c = true) (h : A) : if c = true then A else B := by
  rw [if_pos e]
  exact h
theorem iteF' {A B : Prop} {c : Bool} (e : c = false) (h : B) : if c = true then A else B := by
  rw [e, if_neg Bool.false_ne_true]
  exact h
end Lk

set_option Elab.async false
set_option linter.all false
set_option maxRecDepth 100000
set_option maxHeartbeats 4000000
namespace Lk
open PySem PySem.Spec PyProof.Rows L2
/-! ### plain data: numbers of a thousand bits, short words -/
def Atm : PyData → Prop
  | .int i => i.natAbs < 2 ^ 1000
  | .str x => ∃ l : List Bool, x = wS l ∧ l.length ≤ 1000
  | .none => True
  | .bool _ => True
  | _ => False
theorem sg_lt (b : Bool) : sg b < 128 := by cases b <;> decide
theorem wS_cp {l : List Bool} {c : Nat} (h : c ∈ (wS l).cps.toList) : c < 128 := by
  rw [wS_list] at h
  obtain ⟨b, _, e⟩ := List.mem_map.mp h
  rw [← e]
  exact sg_lt b
theorem ofString_len (s : String) : (Str.ofString s).length = s.length := by
  rw [Str.ofString_eq_toList]
  show (s.toList.map Char.toNat).toArray.size = _
  rw [List.size_toArray, List.length_map]
  first
    | rfl
    | exact String.length_toList
    | exact s.length_toList
    | exact (String.length_toList s)
theorem atm_ok (d : PyData) (h : Atm d) : d.showable = true ∧ d.hasDict = false ∧ d.depth = 0 ∧ d.canLay0 = true ∧ d.leavesShort 1002 = true ∧ d.weight ≤ 1000 := by
  cases d with
  | none => simp [PyData.showable, PyData.hasDict, PyData.depth, PyData.canLay0, PyData.leavesShort, PyData.weight]
  | bool b => simp [PyData.showable, PyData.hasDict, PyData.depth, PyData.canLay0, PyData.leavesShort, PyData.weight]
  | int i =>
    have h' : i.natAbs < 2 ^ 1000 := h
    have hl : i.natAbs.log2 < 1000 := PySem.Flt.log2_lt_of (by decide) h'
    refine ⟨?_, by simp only [PyData.hasDict], by simp only [PyData.depth], by simp only [PyData.canLay0], ?_, ?_⟩
    · simp only [PyData.showable]
      exact decide_eq_true (by omega)
    · simp only [PyData.leavesShort, PyData.shown]
      refine decide_eq_true ?_
      rw [ofString_len]
      have := int_text_length_le (by decide) hl
      omega
    · simp only [PyData.weight]
      split <;> omega
  | str x =>
    obtain ⟨l, rfl, hl⟩ : ∃ l : List Bool, x = wS l ∧ l.length ≤ 1000 := h
    refine ⟨by simp only [PyData.showable], by simp only [PyData.hasDict], by simp only [PyData.depth], ?_, ?_, ?_⟩
    · simp only [PyData.canLay0]
      show (wS l).cps.all (· < 0x110000) = true
      rw [← Array.all_toList, List.all_eq_true]
      intro c hc
      exact decide_eq_true (Nat.lt_trans (wS_cp hc) (by decide))
    · simp only [PyData.leavesShort]
      rw [List.all_eq_true]
      intro c hc
      exact decide_eq_true (Nat.lt_trans (wS_cp hc) (by decide))
    · simp only [PyData.weight]
      rw [wS_size]
      exact hl
  | list _ => exact h.elim
  | tuple _ => exact h.elim
  | dict _ => exact h.elim
theorem atms_ok : ∀ ds : List PyData, (∀ d ∈ ds, Atm d) → PyData.showableAll ds = true ∧ PyData.hasDictAll ds = false ∧ PyData.depthAll ds = 0 ∧ PyData.canLayAll0 ds = true ∧ PyData.leavesShortAll 1002 ds = true ∧ PyData.weightAll ds ≤ 1001 * ds.length
  | [], _ => by simp [PyData.showableAll, PyData.hasDictAll, PyData.depthAll, PyData.canLayAll0, PyData.leavesShortAll, PyData.weightAll]
  | d :: ds, h => by
    obtain ⟨a1, a2, a3, a4, a5, a6⟩ := atm_ok d (h d List.mem_cons_self)
    obtain ⟨b1, b2, b3, b4, b5, b6⟩ := atms_ok ds fun e he => h e (List.mem_cons_of_mem _ he)
    refine ⟨?_, ?_, ?_, ?_, ?_, ?_⟩
    · simp only [PyData.showableAll, a1, b1, Bool.and_self]
    · simp only [PyData.hasDictAll, a2, b2, Bool.or_self]
    · simp only [PyData.depthAll, a3, b3, Nat.max_self]
    · simp only [PyData.canLayAll0, a4, b4, Bool.and_self]
    · simp only [PyData.leavesShortAll, a5, b5, Bool.and_self]
    · simp only [PyData.weightAll, List.length_cons]
      omega
/-- what repr and == ask of a list or tuple of such -/
def RpOk (d : PyData) : Prop := d.showable = true ∧ d.hasDict = false ∧ d.depth ≤ 8 ∧ d.shown.length ≤ sizeLine
theorem rp_list {ds : List PyData} (h : ∀ d ∈ ds, Atm d) (hl : ds.length ≤ 10) : RpOk (.list ds) := by
  obtain ⟨b1, b2, b3, b4, b5, b6⟩ := atms_ok ds h
  refine ⟨by simpa only [PyData.showable] using b1, by simpa only [PyData.hasDict] using b2, ?_, ?_⟩
  · simp only [PyData.depth, b3]
    omega
  · have s := PyData.shown_le 1002 (by decide) (.list ds) (by simpa only [PyData.leavesShort] using b5)
    have e : (PyData.list ds).weight = PyData.weightAll ds := by simp only [PyData.weight]
    rw [e] at s
    have : sizeLine = 16777216 := sizeLine_eq
    omega
theorem rp_tup {ds : List PyData} (h : ∀ d ∈ ds, Atm d) (hl : ds.length ≤ 10) : RpOk (.tuple ds) := by
  obtain ⟨b1, b2, b3, b4, b5, b6⟩ := atms_ok ds h
  refine ⟨by simpa only [PyData.showable] using b1, by simpa only [PyData.hasDict] using b2, ?_, ?_⟩
  · simp only [PyData.depth, b3]
    omega
  · have s := PyData.shown_le 1002 (by decide) (.tuple ds) (by simpa only [PyData.leavesShort] using b5)
    have e : (PyData.tuple ds).weight = PyData.weightAll ds := by simp only [PyData.weight]
    rw [e] at s
    have : sizeLine = 16777216 := sizeLine_eq
    omega
theorem shaped_list {ds : List PyData} (h : ∀ d ∈ ds, Atm d) : SeqAt.shaped (.list ds) = true := by
  obtain ⟨b1, b2, b3, b4, b5, b6⟩ := atms_ok ds h
  unfold SeqAt.shaped
  rw [Bool.and_eq_true]
  refine ⟨by simpa only [PyData.canLay0] using b4, decide_eq_true ?_⟩
  simp only [PyData.depth, b3]
  omega
theorem shaped_tup {ds : List PyData} (h : ∀ d ∈ ds, Atm d) : SeqAt.shaped (.tuple ds) = true := by
  obtain ⟨b1, b2, b3, b4, b5, b6⟩ := atms_ok ds h
  unfold SeqAt.shaped
  rw [Bool.and_eq_true]
  refine ⟨by simpa only [PyData.canLay0] using b4, decide_eq_true ?_⟩
  simp only [PyData.depth, b3]
  omega
theorem all1 {p : PyData → Prop} {a : PyData} (ha : p a) : ∀ d ∈ [a], p d := fun d hd => by
  rw [List.mem_singleton.mp hd]
  exact ha
theorem allc {p : PyData → Prop} {a : PyData} {r : List PyData} (ha : p a) (hr : ∀ d ∈ r, p d) : ∀ d ∈ a :: r, p d := fun d hd => by
  rcases List.mem_cons.mp hd with e | e
  · rw [e]
    exact ha
  · exact hr d e
theorem alln {p : PyData → Prop} : ∀ d ∈ ([] : List PyData), p d := fun d hd => absurd hd List.not_mem_nil
theorem atm_w {l : List Bool} (h : l.length ≤ 1000) : Atm (.str (wS l)) := ⟨l, rfl, h⟩
theorem atm_n {n : Nat} (h : n < 2 ^ 1000) : Atm (.int (n : Int)) := by
  show (n : Int).natAbs < 2 ^ 1000
  rw [Int.natAbs_natCast]
  exact h
theorem eqv_same {d : PyData} (h : SeqAt.shaped d = true) : PyData.eqv d d = true := SeqAt.eqv_refl d (SeqAt.canLay_of_shaped h)
def cn (l : List Bool) (i : Nat) : Nat := if i = 0 then nx l else ny l
theorem cn_le {l : List Bool} (h : GoodW l) (i : Nat) : cn l i ≤ 100 := by
  unfold cn
  split
  · exact h.2.1
  · exact h.2.2
theorem xy_at {i c : Nat} (h : (("xy" : Str)).cps[i]? = some c) (l : List Bool) : i < 2 ∧ Txt.count (wS l) ⟨#[c]⟩ = ((cn l i : Nat) : Int) := by
  have e : ("xy" : Str) = ⟨#[120, 121]⟩ := by decide +kernel
  rw [e] at h
  rcases i with _ | _ | i
  · have hc : c = 120 := (Option.some.inj h).symm
    subst hc
    refine ⟨by omega, ?_⟩
    rw [show (⟨#[120]⟩ : Str) = ("x" : Str) by decide +kernel, count_x]
    rfl
  · have hc : c = 121 := (Option.some.inj h).symm
    subst hc
    refine ⟨by omega, ?_⟩
    rw [show (⟨#[121]⟩ : Str) = ("y" : Str) by decide +kernel, count_y]
    rfl
  · simp at h
theorem xy_size : (("xy" : Str)).cps.size = 2 := by decide +kernel
theorem eqv2 (a b c d : Int) : PyData.eqv (.list [.int a, .int b]) (.list [.int c, .int d]) = (a == c && b == d) := by
  simp only [PyData.eqv, PyData.eqvAll, Bool.and_true]
def pick (u v ax : Nat) : Nat := if ax = 0 then u else v
theorem at2 {u v ax : Nat} (h : ax ≤ 1) : atI [V.int (u : Int), V.int (v : Int)] (ax : Int) = some (V.int ((pick u v ax : Nat) : Int)) := by
  rcases ax with _ | _ | ax
  · rfl
  · rfl
  · omega
end Lk

set_option Elab.async false
set_option linter.all false
set_option maxRecDepth 100000
set_option maxHeartbeats 4000000
namespace Lk
open PySem PySem.Spec PyProof.Rows L2
/-! ### a text backwards -/
def tRevS (te : TE) : TE := fun σ H Q => te σ H fun x H1 => ∃ z : Str, x = .str z ∧ z.length ≤ sizeLine ∧ Q (.str ⟨z.cps.reverse⟩) H1
section
variable {X : Cx}
theorem rev_picked (z : Str) : ((Builtin.Str.strSliceIndices none none (-1) z.length).filterMap (z.cps[·]?)).toArray = z.cps.reverse := by
  rw [picked_rev]
  apply Array.ext'
  rw [List.toList_toArray, Array.toList_reverse]
  obtain ⟨⟨l⟩⟩ := z
  show ((List.range l.length).map fun k => l.length - 1 - k).filterMap (fun i => (l.toArray)[i]?) = l.reverse
  apply List.ext_getElem?
  intro i
  rw [filterMap_get]
  · rw [List.map_map, List.getElem?_map]
    by_cases hi : i < l.length
    · rw [List.getElem?_range hi, List.getElem?_reverse hi]
      show some (l.toArray.getD (l.length - 1 - i) 0) = _
      have h2 : l.length - 1 - i < l.length := by omega
      rw [List.getElem?_eq_getElem h2]
      simp [Array.getD, h2]
    · rw [List.getElem?_eq_none (by simpa using hi), List.getElem?_eq_none (by simpa using hi)]
      rfl
  · intro j hj
    obtain ⟨k, hk, rfl⟩ := List.mem_map.mp hj
    have := List.mem_range.mp hk
    show l.length - 1 - k < l.toArray.size
    rw [List.size_toArray]
    omega
theorem pe_revS {e : Expr} {te : TE} {k : Nat} {p1 p2 p3 pos : Pos} (he : PE X e te) : PE X (.Subscript e (.Slice none none (some (.UnaryOp .USub (.Constant (.int 1) k p1) p2)) p3) pos) (tRevS te) := by
  refine ⟨fun pins s0 σ H0 Q I0 h0 => ?_⟩
  refine Subscript_ (thn (he.run pins s0 σ H0 _ I0 h0) fun v s1 got => ?_)
  obtain ⟨x, H1, I1, rx, z, rfl, hz, q⟩ := got
  obtain ⟨t, rfl⟩ := rx
  have minus : PO X (some (.UnaryOp .USub (.Constant (.int 1) k p1) p2)) (tPart (tUn (rU fun i => .int (-i)) (tC (.int 1)))) := po_some (pe_un un_neg pe_int)
  refine wpAny_Slice (thn (po_none.run pins s1 σ H1 (fun o Hx => o = none ∧ Hx = H1) I1 ⟨rfl, rfl⟩) fun va s2 ga => ?_)
  obtain ⟨oa, Ha, Ia, pa, rfl, rfl⟩ := ga
  refine thn (po_none.run pins s2 σ Ha (fun o Hx => o = none ∧ Hx = Ha) Ia ⟨rfl, rfl⟩) fun vb s3 gb => ?_
  obtain ⟨ob, Hb, Ib, pb, rfl, rfl⟩ := gb
  refine thn (minus.run pins s3 σ Hb (fun o Hx => o = some (-1) ∧ Hx = Hb) Ib ⟨1, rfl, -1, rfl, rfl, rfl⟩) fun vc s4 gc => ?_
  obtain ⟨oc, Hc, Ic, pc, rfl, rfl⟩ := gc
  have Id : Inv X pins σ Hc { s4 with heap := s4.heap.push { cls := .type "slice", data := .fields #[va, vb, vc] } } := Ic.kept (t' := s4.toks) fun b ob qq => Heap.get?_push_of_some _ qq
  obtain ⟨la, rfl, ea⟩ := IsPart.raw pa
  obtain ⟨lb, rfl, eb⟩ := IsPart.raw pb
  obtain ⟨lc, rfl, ec⟩ := IsPart.raw pc
  obtain rfl : la = none := by
    cases la with
    | none => rfl
    | some y => cases ea
  obtain rfl : lb = none := by
    cases lb with
    | none => rfl
    | some y => cases eb
  obtain ⟨uu, rfl⟩ : ∃ uu, lc = some (-1, uu) := by
    cases lc with
    | none => cases ec
    | some y =>
      obtain ⟨y1, y2⟩ := y
      have : y1 = -1 := Option.some.inj ec
      subst this
      exact ⟨y2, rfl⟩
  refine tail_any (typeIs_str _ _ _) PySem.F.slot_str_getitem.lookup ?_ (by with_unfolding_all rfl)
  refine wpAny_getItem_str_slice (l := none) (u := none) (st := some (-1, uu)) ⟨_, Heap.get?_push_size _ rfl, rfl, rfl⟩ rfl ?_
  have hp := rev_picked z
  unfold sliceMade
  show Made.post (if ((-1 : Int) == 1 && (Builtin.Str.strSliceIndices none none (-1) z.length).length == z.length) = true then Made.val (.str z t) else Made.str ⟨((Builtin.Str.strSliceIndices none none (-1) z.length).filterMap (z.cps[·]?)).toArray⟩) _ _
  rw [if_neg (by simp), hp]
  refine ⟨?_, .str ⟨z.cps.reverse⟩, Hc, Id.tok _, ⟨_, rfl⟩, q⟩
  show z.cps.reverse.size ≤ sizeLine
  rw [Array.size_reverse]
  exact hz
end
end Lk

set_option Elab.async false
set_option linter.all false
set_option maxRecDepth 100000
set_option maxHeartbeats 4000000
namespace Lk
open PySem PySem.Spec PyProof.Rows L2
/-! ### enumerate of a text -/
def Itx (z : Str) : It :=
  ⟨fun i _ => i < z.cps.size, fun i H v H' => ∃ T c, v = .ref T ∧ H T = none ∧ z.cps[i]? = some c ∧ H' = upd H T (.tup [.int (i : Nat), .str ⟨#[c]⟩]), fun i _ => i = z.cps.size⟩
theorem turn_enumT {P : Program} {w : World} {K : PySem.W.Frag} {elts : List Expr} {kk : Nat} {tpos : Pos} (z : Str) (t : Tok) (e it : Addr) :
    Turn P w K (.Tuple elts kk tpos) (Itx z) [e, it] e (fun i h => (∃ old, IsEnum h e it ((i : Nat) : Int) old) ∧ h.IsStrIter it (strIterType z) z t i ∧ e ≠ it) where
  mem := by simp
  obj := fun i h st b hb => by
    obtain ⟨⟨old, he⟩, ⟨o, ho, hc, hd⟩, _⟩ := st
    have e' : b = e ∨ b = it := by simpa using hb
    rcases e' with y | y
    · rw [y]; exact ⟨_, he, fun v q => nomatch q⟩
    · rw [y]; exact ⟨o, ho, fun v q => by rw [hd] at q; cases q⟩
  keep := fun i h h' st k => let ⟨⟨old, he⟩, ⟨o, ho, r⟩, hne⟩ := st; ⟨⟨old, k e (by simp) _ he⟩, ⟨o, k it (by simp) o ho, r⟩, hne⟩
  item := by
    intro X hP hw hK hc i pins s σ H E I hf st hg
    subst hP hw hK
    obtain ⟨⟨old, he⟩, hit, hne⟩ := st
    have hel : e < s.heap.objs.size := Heap.lt_size he
    have hil : it < s.heap.objs.size := by obtain ⟨_, q, _⟩ := hit; exact Heap.lt_size q
    refine wpAny_pyNext_enum_itemD (St := fun i h => h.IsStrIter it (strIterType z) z t i) (Draws.text (show X.A.in1.handled = none from I.ok.hd hc) it z t) he hit hg hne (by simpa using hne) fun x h' tk hx ho hit' hT hsz hk => ?_
    obtain ⟨c, u, hcx, rfl⟩ := hx
    refine ⟨_, rfl, wpAny_letOwnedTupleGo_enum (s := { s with heap := h', toks := tk + 1 }) ho fun h'' he' sb => ?_⟩
    have hT2 : h''.get? s.heap.objs.size = some { cls := .type "tuple", data := .seq #[.int i tk, .str ⟨#[c]⟩ u] } := (sb.2 _ (Nat.ne_of_gt hel)).trans hT
    have new : ObjOk X.prog X.w (upd H s.heap.objs.size (.tup [.int (i : Nat), .str ⟨#[c]⟩])) h'' s.heap.objs.size (.tup [.int (i : Nat), .str ⟨#[c]⟩]) :=
      ⟨by show 2 ≤ sizeLine; decide, [.int i tk, .str ⟨#[c]⟩ u], .cons ⟨_, rfl⟩ (.cons ⟨_, rfl⟩ .nil), ⟨_, hT2, rfl, _, rfl⟩⟩
    have I1 : Inv X pins σ (upd H s.heap.objs.size (.tup [.int (i : Nat), .str ⟨#[c]⟩])) { s with heap := h'', toks := tk + 1 } :=
      I.turnedNew (ch := [e, it]) (fun b ob hb q => (sb.2 b (fun y => hb (by simp [y]))).trans (hk b ob (fun y => hb (by simp [y])) (fun y => hb (by simp [y])) q)) hf (Nat.le_refl _) new
    refine ⟨.ref s.heap.objs.size, _, I1, rfl, ⟨_, c, rfl, I.hok.fresh (Nat.le_refl _), hcx, rfl⟩, ⟨⟨.str ⟨#[c]⟩ u, ?_⟩, ?_, hne⟩, fun b hb => ?_⟩
    · have e1 : ((i + 1 : Nat) : Int) = (i : Int) + 1 := by omega
      rw [e1]; exact he'
    · obtain ⟨o, q1, q2⟩ := hit'
      exact ⟨o, (sb.2 it (Ne.symm hne)).trans q1, q2⟩
    · have hb' : b < s.heap.objs.size := by
        have e' : b = e ∨ b = it := by simpa using hb
        rcases e' with y | y
        · rw [y]; exact hel
        · rw [y]; exact hil
      rw [upd_ne (Nat.ne_of_lt hb')]
      exact (hf b hb).1
  done := by
    intro X hP hw hK hc i pins s σ H E I hf st hg
    subst hP hw hK
    obtain ⟨⟨old, he⟩, hit, hne⟩ := st
    obtain ⟨f0, f1, f2, f3, f4, f5⟩ := hf it (by simp)
    have hi : i = z.cps.size := hg
    subst hi
    exact wpAny_pyNext_enum_endD (St := fun i h => h.IsStrIter it (strIterType z) z t i) (Draws.text (show X.A.in1.handled = none from I.ok.hd hc) it z t) he hit fun h' eb => ⟨rfl, I.turned (t' := s.toks) (fun b o hb q => eb b o hb q) f0 f1 f3 f4 f5⟩
  self := fun A i s Q E st h => let ⟨⟨_, he⟩, _⟩ := st; wpAny_pyIter_enum he h
def iEnumT (ta : TA) : TI := fun σ H R => ta σ H fun vs H1 => ∃ z : Str, vs = [.str z] ∧ R (Itx z) H1
theorem pi_enumT {X : Cx} {e : Expr} {ta : TA} {p pos tpos : Pos} {elts : List Expr} {kk : Nat} (hg : Gl X "enumerate") (hm : X.mg "enumerate" = none) (ha : PA X [e] ta) (hs : starEach [e] X.env = [(false, eval e X.env)] := by rfl) :
    PI X (.Tuple elts kk tpos) (.Call (.Name "enumerate" p) [e] [] pos) (iEnumT ta) := by
  refine ⟨fun pins s σ H R I h => ?_⟩
  refine Call_ (ld_blt I hg hm boot_enumerate (PyProof.Rows.callWith_type1 (thn (ha.run pos pins s σ H _ I h) fun us s1 ⟨vs, H1, I1, r1, q1⟩ => ?_) hs rfl))
  obtain ⟨z, ex, q⟩ := q1
  subst ex
  cases r1 with
  | cons r rr =>
    cases rr
    obtain ⟨t, rfl⟩ := (show ∃ t, _ = Value.str z t from r)
    refine call_enumerate_str fun h' he hit hsz hk => wpAny_pyIter_enum he ?_
    have I2 : Inv X pins σ H1 { s1 with heap := h' } := I1.kept (t' := s1.toks) hk
    refine ⟨s1.heap.objs.size + 1, [s1.heap.objs.size + 1, s1.heap.objs.size], _, _, H1, rfl, I2, turn_enumT z t (s1.heap.objs.size + 1) s1.heap.objs.size, ⟨⟨.none, he⟩, hit, Nat.succ_ne_self _⟩, fun b hb => ?_, q⟩
    have e' : b = s1.heap.objs.size + 1 ∨ b = s1.heap.objs.size := by simpa using hb
    have hle : s1.heap.objs.size ≤ b := by
      rcases e' with y | y
      · rw [y]; exact Nat.le_add_right _ _
      · rw [y]; exact Nat.le_refl _
    exact I1.fpOk hle (I1.hok.fresh hle)
theorem walk_enumT {z : Str} : Walk (Itx z) z.cps.size (fun _ => True) (fun i H v H' => ∃ T c, v = .ref T ∧ H T = none ∧ z.cps[i]? = some c ∧ H' = upd H T (.tup [.int (i : Nat), .str ⟨#[c]⟩])) :=
  ⟨fun _ _ hi _ => hi, fun _ _ => rfl, fun _ _ _ _ _ _ y => y⟩
/-! ### == and != by an own __eq__ -/
section
variable {X : Cx} {n : Nat}
/-- what == asks: x an instance of the class at C, y of a type that is not below C, the promise of the own __eq__ with a truth value -/
def rOEq (K : PySem.W.Frag) (C : Addr) (sp : Sp) (f : Bool → Bool) : R2 := fun x y H Q => ∃ a dx fs t, x = .ref a ∧ H a = some (.ins C dx fs) ∧ TyX K H y t ∧ PySem.W.notFirst K C t = true ∧
  sp [.ref a, y] H (fun z H' => ∃ b, z = .bl b ∧ Q (.bl (f b)) H') fun _ _ _ => False
theorem fn_call {CX : CXT} {g : Addr} {fd : FuncData} {ps : List Str} {sp : Sp} (Fo : FnOk X.prog X.w X.K X.mg X.base CX n g fd ps sp) (hb : Binds X.K fd ps []) (hx : Passes CX X fun _ _ _ => False)
    {A : Around} {pins : List (Addr × Obj)} {s : Shared} {σ : L2.St} {H : Hp} {vs : List V} {us : List Value} {Q : VK} (hr : Room n A) (hfr : A.frames = X.A.frames) (I : Inv X pins σ H s) (rv : Vals vs us) (h : sp vs H Q fun _ _ _ => False) :
    wpAny (model X.prog X.w) A (call (.ref g) us) (fun w s' => ∃ z H', Inv X pins σ H' s' ∧ RelV z w ∧ Q z H') X.xe s := by
  have e0 : Env0 X.prog X.w X.K X.mg X.base A X.stack s H := by
    have e := I.env0
    exact ⟨by rw [hfr]; exact e.frames, e.mod, e.bs, e.bsz, e.funs, e.frf, e.hok, e.bare⟩
  have hl := Fo.len _ _ _ _ h
  have hl2 : us.length = ps.length := by rw [← rv.length]; exact hl
  refine wpAny_call (codeAny_mono (Fo.run A X.stack s H ⟨us, []⟩ us vs Q _ hr e0 (by
    have := hb s us I.kIn (by simpa using hl2)
    simpa using this) rv h) fun r s' hq => ?_)
  cases r with
  | error e => exact hx pins σ H s e s' I hq
  | ok fl =>
    cases fl with
    | ret w =>
      obtain ⟨z, H', I', rz, q⟩ := I.after hq
      exact ⟨z, H', I', rz, q⟩
    | next => exact False.elim hq
    | brk => exact False.elim hq
    | cont => exact False.elim hq
theorem op_oeq {K : PySem.W.Frag} {CX : CXT} {C g : Addr} {fd : FuncData} {ps : List Str} {sp : Sp} (hK : X.K = K) (Fo : FnOk X.prog X.w X.K X.mg X.base CX n g fd ps sp)
    (hs : PySem.W.findIn X.K (.ref C) "__eq__" = some (some (.ref g))) (hf : PySem.W.isFn X.K (.ref g) = true) (hb : Binds X.K fd ps []) (hx : Passes CX X fun _ _ _ => False) (hr : Room n X.A) : OpR X (compareOp .Eq) (rOEq K C sp id) := by
  subst hK
  intro pins s σ H x y v u Q I rx ry h
  obtain ⟨a, dx, fs, t, rfl, ha, ty, hn, q⟩ := h
  cases (show v = Value.ref a from rx)
  obtain ⟨mA, J, _⟩ := ins_get I.hok ha
  obtain ⟨od, J, _⟩ := J.look
  obtain ⟨P, Z, p, _⟩ := kit_of I ry ty
  obtain ⟨m, hF⟩ := I.fr
  show wpAny (model X.prog X.w) X.A (richCompare .Eq (.ref a) u) (EP X pins σ Q) X.xe s
  refine PySem.W.cmp_K (op := .Eq) (tb := t) hr.units0 hF I.ok.mod.kin J (Z.ty _ _ I.kIn p) hn hs hf ?_
  refine wpAny_mono (fn_call Fo hb hx hr rfl (vs := [V.ref a, y]) (us := [Value.ref a, u]) I (.cons rfl (.cons ry .nil)) q) (fun w s' z => ?_) fun _ _ x => x
  obtain ⟨z', H', I', rz, b, rfl, qz⟩ := z
  cases (show w = Value.bool b from rz)
  exact ⟨.bl b, H', I', rfl, qz⟩
theorem ifB_ne {M : Model} {A : Around} {E : Value → Shared → Prop} {s : Shared} {K : PySem.W.Frag} {x C : Addr} {ox : Obj} {od : Option Obj} {args : List Value} {Q : Option Value → Shared → Prop} (Xk : K.In s.heap) (I : PySem.W.InstAt s.heap x ox C od)
    (hs : PySem.W.findIn K (.ref C) "__ne__" = some (some (.builtin "object.__ne__")))
    (h : wpAny M A (call (.builtin "object.__ne__") (.ref x :: args)) (fun v => Q (some v)) E s) : wpAny M A (callSpecialIfBound? (.ref x) "__ne__" args) Q E s := by
  simp only [callSpecialIfBound?, bindSpecialIfBound?]
  refine wpAny_holding (wpAny_bind (wpAny_bind (wpAny_bind (I.type.here ((PySem.W.looks_findIn Xk hs).here ?_)))))
  refine wpAny_bind (wpAny_askSetting (wpAny_ite ?_))
  have fin : wpAny M A (call (.builtin "object.__ne__") ([.ref x] ++ args) >>= fun v => pure (some v)) Q E s := wpAny_bind (wpAny_mono h (fun v s' h' => wpAny_pure h') fun _ _ h' => h')
  split
  · exact wpAny_bind (wpAny_of_eq (F.cmp_object.ne.bind _) (wpAny_pure (by exact fin)))
  · exact wpAny_tryCatch (wpAny_bind (wpAny_of_eq (F.cmp_object.ne.bind _) (wpAny_pure (by exact fin))))
theorem ne_entry {prog : Program} {w : World} {A : Around} {E : Value → Shared → Prop} {s : Shared} {K : PySem.W.Frag} {x C g : Addr} {b : Value} {ox : Obj} {od : Option Obj} {Q : Fin → Shared → Prop} (hu : A.units < cLine) (Xk : K.In s.heap) (I : PySem.W.InstAt s.heap x ox C od)
    (hs : PySem.W.findIn K (.ref C) "__eq__" = some (some (.ref g))) (hf : PySem.W.isFn K (.ref g) = true)
    (hcall : wpAny (model prog w) A (call (.ref g) [.ref x, b]) (fun v s' => ∃ r, v = .bool r ∧ Q (.done (.ret (.bool (!r)))) s') E s) :
    wpAny (model prog w) A (Builtin.«object.__ne__» ⟨[.ref x, b], []⟩) Q E s := by
  unfold Builtin.«object.__ne__»
  repeat (first
    | with_reducible refine wpAny_cRoomFor hu ?_
    | (refine wpAny_bind (m := callSpecialIfBound? (.ref x) (Str.ofString "__eq__") [b])
        (PySem.W.ifBound_K Xk I hs hf (wpAny_mono hcall (fun r s' hr => by
          obtain ⟨b, rfl, hq⟩ := hr
          repeat (first | exact hq | exact wpAny_pure hq | exact wpAny_truthy_bool hq | (refine wpAny_bind (m := truthy (.bool _)) (wpAny_truthy_bool ?_)) | wp_step)) fun _ _ e => e)))
    | wp_step)
theorem op_one {K : PySem.W.Frag} {CX : CXT} {C g : Addr} {fd : FuncData} {ps : List Str} {sp : Sp} (hK : X.K = K) (Fo : FnOk X.prog X.w X.K X.mg X.base CX n g fd ps sp) (hm : PySem.W.mroIn X.K C (.type "object") = some true)
    (hs : PySem.W.findIn X.K (.ref C) "__eq__" = some (some (.ref g))) (hne : PySem.W.findIn X.K (.ref C) "__ne__" = some (some (.builtin "object.__ne__"))) (hf : PySem.W.isFn X.K (.ref g) = true) (hb : Binds X.K fd ps []) (hx : Passes CX X fun _ _ _ => False) (hr : Room (n + 1) X.A) : OpR X (compareOp .NotEq) (rOEq K C sp not) := by
  subst hK
  intro pins s σ H x y v u Q I rx ry h
  obtain ⟨a, dx, fs, t, rfl, ha, ty, hn, q⟩ := h
  cases (show v = Value.ref a from rx)
  obtain ⟨mA, J, _⟩ := ins_get I.hok ha
  obtain ⟨od, J, _⟩ := J.look
  obtain ⟨P, Z, p, _⟩ := kit_of I ry ty
  show wpAny (model X.prog X.w) X.A (richCompare .NotEq (.ref a) u) (EP X pins σ Q) X.xe s
  have Xk := I.kIn
  have one : wpAny (model X.prog X.w) X.A (tryCompare (.ref a) "__ne__" u) (fun r s' => ∃ v, r = some v ∧ EP X pins σ Q v s') X.xe s := by
    unfold tryCompare
    refine wpAny_bind (ifB_ne Xk J hne (wpAny_call (codeAny_call_builtin F.cmp_object.ne.plain F.cmpEntry_ne (PySem.W.check_slot F.cmpKind_ne F.cmpSplit_ne (J.type.andThen (PySem.W.looks_mroIn Xk hm)) (F.cmpArgs_ne _ _) (ne_entry (hr.in1).units0 Xk J hs hf ?_)))))
    refine wpAny_mono (fn_call Fo hb hx hr.in1 rfl (vs := [V.ref a, y]) (us := [Value.ref a, u]) I (.cons rfl (.cons ry .nil)) q) (fun w s' z => ?_) fun _ _ x => x
    obtain ⟨z', H', I', rz, b, rfl, qz⟩ := z
    cases (show w = Value.bool b from rz)
    exact ⟨b, rfl, wpAny_pure ⟨_, rfl, .bl (!b), H', I', rfl, qz⟩⟩
  unfold richCompare
  simp only [oneThing_ref]
  refine wpAny_holding (wpAny_bind (wpAny_cRoomFor hr.units0 ?_))
  refine wpAny_bind (J.type.here (wpAny_bind ((Z.ty _ _ Xk p).here ?_)))
  split
  · rename_i q
    have e : PySem.W.subIn X.K t (.ref C) = some false := by
      rcases Bool.or_eq_true_iff.mp hn with e | e
      · rw [beq_iff_eq.mp e] at q; simp at q
      · exact beq_iff_eq.mp e
    refine wpAny_bind ((PySem.W.looks_subIn Xk e).here ?_)
    simp only [Bool.false_eq_true, if_false]
    refine wpAny_bind (wpAny_mono one (fun r s' z => ?_) fun _ _ e => e)
    obtain ⟨v, rfl, hq⟩ := z
    exact wpAny_pure hq
  · refine wpAny_bind (wpAny_pure ?_)
    simp only [Bool.false_eq_true, if_false]
    refine wpAny_bind (wpAny_mono one (fun r s' z => ?_) fun _ _ e => e)
    obtain ⟨v, rfl, hq⟩ := z
    exact wpAny_pure hq
end
/-! ### a chain of three comparisons -/
section
variable {X : Cx}
def tChain3 (r r' r'' : R2) (ta tb tc td : TE) : TE := fun σ H Q => ta σ H fun x H1 => tb σ H1 fun y H2 => r x y H2 fun z H3 => ∃ k, z = .bl k ∧
  (if k = true then tc σ H3 fun w' H4 => r' y w' H4 fun z2 H5 => ∃ k2, z2 = .bl k2 ∧ (if k2 = true then td σ H5 fun v' H6 => r'' w' v' H6 Q else Q (.bl false) H5) else Q (.bl false) H3)
theorem pe_chain3 {a b c d : Expr} {ta tb tc td : TE} {pos : Pos} {op op' op'' : CmpOp} {r r' r'' : R2} (ho : OpR X (compareOp op) r) (ho' : OpR X (compareOp op') r') (ho'' : OpR X (compareOp op'') r'') (ha : PE X a ta) (hb : PE X b tb) (hc : PE X c tc) (hd : PE X d td)
    (hm : lastMarks [op, op', op''] [b, c, d] = false := by with_unfolding_all rfl) : PE X (.Compare a [op, op', op''] [b, c, d] pos) (tChain3 r r' r'' ta tb tc td) := by
  refine ⟨fun pins s σ H Q I h => ?_⟩
  refine Compare_chain (thn (ha.run pins s σ H _ I h) fun v s1 ⟨x, H1, I1, r1, q1⟩ => chain_link (thn (hb.run pins s1 σ H1 _ I1 q1) fun u s2 ⟨y, H2, I2, r2, q2⟩ =>
    thn (ho pins s2 σ H2 x y v u _ I2 r1 r2 q2) fun d s3 ⟨z, H3, I3, r3, k, e, q3⟩ => ?_)) hm
  subst e
  cases r3
  refine wpAny_truthy_bool ?_
  cases k with
  | false => exact ite_ff ⟨.bl false, H3, I3, rfl, q3⟩
  | true =>
    refine ite_tt (chain_link (thn (hc.run pins s3 σ H3 _ I3 q3) fun w' s4 ⟨z', H4, I4, r4, q4⟩ => thn (ho' pins s4 σ H4 y z' u w' _ I4 r2 r4 q4) fun d5 s5 ⟨z5, H5, I5, r5, k2, e2, q5⟩ => ?_))
    subst e2
    cases r5
    refine wpAny_truthy_bool ?_
    cases k2 with
    | false => exact ite_ff ⟨.bl false, H5, I5, rfl, q5⟩
    | true => exact ite_tt (chain_last (thn (hd.run pins s5 σ H5 _ I5 q5) fun w6 s6 ⟨z6, H6, I6, r6, q6⟩ => ho'' pins s6 σ H6 z' z6 w' w6 Q I6 r4 r6 q6))
end
end Lk

set_option Elab.async false
set_option linter.all false
set_option maxRecDepth 100000
set_option maxHeartbeats 4000000
namespace Lk
open PySem PySem.Spec PyProof.Rows L2
/-! ### keys and cells, more -/
theorem keyL_x (l : List Bool) (c x y n : Nat) (h : nx l ≤ n) : keyL l (c * 2 ^ n + x) y = keyL l x y := by
  have := keyL_high l c 0 x y n (ny l) h (Nat.le_refl _)
  rw [Nat.zero_mul, Nat.zero_add] at this
  exact this
theorem keyL_y (l : List Bool) (d x y m : Nat) (h : ny l ≤ m) : keyL l x (d * 2 ^ m + y) = keyL l x y := by
  have := keyL_high l 0 d x y (nx l) m (Nat.le_refl _) h
  rw [Nat.zero_mul, Nat.zero_add] at this
  exact this
theorem key_mod (k n : Nat) (h : k < 2 ^ (n + 1)) : k / 2 ^ n % 2 * 2 ^ n + k % 2 ^ n = k := by
  rw [← mod_succ, Nat.mod_eq_of_lt h]
theorem xOf_mod (l : List Bool) (k : Nat) : xOf l (k % 2 ^ l.length) = xOf l k := by
  have := xOf_high l (k / 2 ^ l.length) (k % 2 ^ l.length)
  rw [Nat.mul_comm, Nat.div_add_mod] at this
  exact this.symm
theorem yOf_mod (l : List Bool) (k : Nat) : yOf l (k % 2 ^ l.length) = yOf l k := by
  have := yOf_high l (k / 2 ^ l.length) (k % 2 ^ l.length)
  rw [Nat.mul_comm, Nat.div_add_mod] at this
  exact this.symm
theorem keyL_cell : ∀ (l : List Bool) (k : Nat), keyL l (xOf l k) (yOf l k) = k % 2 ^ l.length
  | [], k => by
    show 0 = k % 1
    omega
  | true :: r, k => by
    show (k / 2 ^ r.length % 2 * 2 ^ nx r + xOf r k) / 2 ^ nx r % 2 * 2 ^ r.length + keyL r (k / 2 ^ r.length % 2 * 2 ^ nx r + xOf r k) (yOf r k) = k % 2 ^ (r.length + 1)
    rw [lead_bit _ (Nat.mod_lt _ (by decide)) (xOf_lt r k), keyL_x r _ _ _ _ (Nat.le_refl _), keyL_cell r k, ← mod_succ]
  | false :: r, k => by
    show (k / 2 ^ r.length % 2 * 2 ^ ny r + yOf r k) / 2 ^ ny r % 2 * 2 ^ r.length + keyL r (xOf r k) (k / 2 ^ r.length % 2 * 2 ^ ny r + yOf r k) = k % 2 ^ (r.length + 1)
    rw [lead_bit _ (Nat.mod_lt _ (by decide)) (yOf_lt r k), keyL_y r _ _ _ _ (Nat.le_refl _), keyL_cell r k, ← mod_succ]
theorem nx_drop_lt {l : List Bool} {j : Nat} (h : j < l.length) (e : l[j] = true) : nx (l.drop (j + 1)) < nx l := by
  have h1 := nx_drop l j h
  rw [if_pos e] at h1
  have h2 : nx l = nx (l.take j) + nx (l.drop j) := by rw [← nx_app, List.take_append_drop]
  omega
theorem ny_drop_lt {l : List Bool} {j : Nat} (h : j < l.length) (e : l[j] = false) : ny (l.drop (j + 1)) < ny l := by
  have h1 := ny_drop l j h
  rw [e, if_neg (by decide)] at h1
  have h2 : ny l = ny (l.take j) + ny (l.drop j) := by rw [← ny_app, List.take_append_drop]
  omega
theorem digit_x : ∀ (l : List Bool) (k j : Nat) (h : j < l.length), l[j] = true → xOf l k / 2 ^ nx (l.drop (j + 1)) % 2 = k / 2 ^ (l.length - 1 - j) % 2
  | true :: r, k, 0, _, _ => by
    show (k / 2 ^ r.length % 2 * 2 ^ nx r + xOf r k) / 2 ^ nx r % 2 = k / 2 ^ r.length % 2
    exact lead_bit _ (Nat.mod_lt _ (by decide)) (xOf_lt r k)
  | false :: r, k, 0, _, e => by cases e
  | true :: r, k, j + 1, h, e => by
    have hj : j < r.length := by simpa using h
    have e' : r[j] = true := e
    show (k / 2 ^ r.length % 2 * 2 ^ nx r + xOf r k) / 2 ^ nx (r.drop (j + 1)) % 2 = k / 2 ^ (r.length + 1 - 1 - (j + 1)) % 2
    rw [digit_high (nx_drop_lt hj e'), digit_x r k j hj e', show r.length + 1 - 1 - (j + 1) = r.length - 1 - j by omega]
  | false :: r, k, j + 1, h, e => by
    have hj : j < r.length := by simpa using h
    have e' : r[j] = true := e
    show xOf r k / 2 ^ nx (r.drop (j + 1)) % 2 = k / 2 ^ (r.length + 1 - 1 - (j + 1)) % 2
    rw [digit_x r k j hj e', show r.length + 1 - 1 - (j + 1) = r.length - 1 - j by omega]
theorem digit_y : ∀ (l : List Bool) (k j : Nat) (h : j < l.length), l[j] = false → yOf l k / 2 ^ ny (l.drop (j + 1)) % 2 = k / 2 ^ (l.length - 1 - j) % 2
  | false :: r, k, 0, _, _ => by
    show (k / 2 ^ r.length % 2 * 2 ^ ny r + yOf r k) / 2 ^ ny r % 2 = k / 2 ^ r.length % 2
    exact lead_bit _ (Nat.mod_lt _ (by decide)) (yOf_lt r k)
  | true :: r, k, 0, _, e => by cases e
  | false :: r, k, j + 1, h, e => by
    have hj : j < r.length := by simpa using h
    have e' : r[j] = false := e
    show (k / 2 ^ r.length % 2 * 2 ^ ny r + yOf r k) / 2 ^ ny (r.drop (j + 1)) % 2 = k / 2 ^ (r.length + 1 - 1 - (j + 1)) % 2
    rw [digit_high (ny_drop_lt hj e'), digit_y r k j hj e', show r.length + 1 - 1 - (j + 1) = r.length - 1 - j by omega]
  | true :: r, k, j + 1, h, e => by
    have hj : j < r.length := by simpa using h
    have e' : r[j] = false := e
    show yOf r k / 2 ^ ny (r.drop (j + 1)) % 2 = k / 2 ^ (r.length + 1 - 1 - (j + 1)) % 2
    rw [digit_y r k j hj e', show r.length + 1 - 1 - (j + 1) = r.length - 1 - j by omega]
/-! ### a sorted list of all numbers of a range -/
theorem inc_len : ∀ (ns : List Int) (a b : Int), ns.Pairwise (· < ·) → (∀ n ∈ ns, a ≤ n ∧ n < b) → (ns.length : Int) ≤ max 0 (b - a)
  | [], a, b, _, _ => by simp; omega
  | n :: r, a, b, hp, hr => by
    obtain ⟨h1, h2⟩ := List.pairwise_cons.mp hp
    have hn := hr n List.mem_cons_self
    have ih := inc_len r (n + 1) b h2 fun m hm => ⟨h1 m hm, (hr m (List.mem_cons_of_mem _ hm)).2⟩
    rw [List.length_cons]
    omega
theorem inc_all : ∀ (ns : List Int) (a : Int) (k : Nat), ns.Pairwise (· < ·) → (∀ n ∈ ns, a ≤ n ∧ n < a + k) → ns.length = k → ns = (List.range k).map fun i => a + ((i : Nat) : Int)
  | [], a, k, _, _, h => by
    subst h
    rfl
  | n :: r, a, k, hp, hr, h => by
    obtain ⟨h1, h2⟩ := List.pairwise_cons.mp hp
    have hn := hr n List.mem_cons_self
    have hr2 : ∀ m ∈ r, n + 1 ≤ m ∧ m < a + k := fun m hm => ⟨h1 m hm, (hr m (List.mem_cons_of_mem _ hm)).2⟩
    have il := inc_len r (n + 1) (a + k) h2 hr2
    rw [List.length_cons] at h
    obtain ⟨k, rfl⟩ : ∃ k', k = k' + 1 := ⟨r.length, h.symm⟩
    have en : n = a := by omega
    subst en
    rw [List.range_succ_eq_map, List.map_cons, List.map_map, inc_all r (n + 1) k h2 (fun m hm => ⟨(hr2 m hm).1, by have := (hr2 m hm).2; omega⟩) (by omega)]
    congr 1
    · omega
    · apply List.map_congr_left
      intro i _
      show n + 1 + ((i : Nat) : Int) = n + ((i + 1 : Nat) : Int)
      omega
theorem sorted_all {ns ms : List Int} {k : Nat} (hp : ns.Perm ms) (hs : ns.Pairwise (· ≤ ·)) (hd : ms.Nodup) (hb : ∀ n ∈ ms, 0 ≤ n ∧ n < (k : Int)) (hl : ms.length = k) : ns = (List.range k).map fun i => ((i : Nat) : Int) := by
  have nd : ns.Nodup := hp.nodup_iff.mpr hd
  have lt : ns.Pairwise (· < ·) := (hs.and nd).imp fun {a b} h => by have h1 := h.1; have h2 : a ≠ b := h.2; omega
  have := inc_all ns 0 k lt (fun n hn => by have := hb n (hp.mem_iff.mp hn); omega) (hp.length_eq.trans hl)
  rw [this]
  apply List.map_congr_left
  intro i _
  omega
/-- the keys of the cells, column after column -/
def keyAt (l : List Bool) (c : Nat) : Int := ((keyL l (c / 2 ^ ny l) (c % 2 ^ ny l) : Nat) : Int)
theorem keyAt_inj {l : List Bool} {c d : Nat} (hc : c < 2 ^ nx l * 2 ^ ny l) (hd : d < 2 ^ nx l * 2 ^ ny l) (h : keyAt l c = keyAt l d) : c = d := by
  have e : keyL l (c / 2 ^ ny l) (c % 2 ^ ny l) = keyL l (d / 2 ^ ny l) (d % 2 ^ ny l) := Int.ofNat.inj h
  have ex := congrArg (xOf l) e
  have ey := congrArg (yOf l) e
  rw [xOf_key, xOf_key] at ex
  rw [yOf_key, yOf_key] at ey
  have px := two_pos (ny l)
  have bc : c / 2 ^ ny l < 2 ^ nx l := Nat.div_lt_of_lt_mul (by rw [Nat.mul_comm]; exact hc)
  have bd : d / 2 ^ ny l < 2 ^ nx l := Nat.div_lt_of_lt_mul (by rw [Nat.mul_comm]; exact hd)
  rw [Nat.mod_eq_of_lt bc, Nat.mod_eq_of_lt bd] at ex
  rw [Nat.mod_mod, Nat.mod_mod] at ey
  rw [← Nat.div_add_mod c (2 ^ ny l), ← Nat.div_add_mod d (2 ^ ny l), ex, ey]
theorem keys_nodup (l : List Bool) : ((List.range (2 ^ nx l * 2 ^ ny l)).map (keyAt l)).Nodup := by
  refine List.pairwise_map.mpr ?_
  refine List.Pairwise.imp_of_mem (R := (· ≠ ·)) (fun {a b} ha hb hne h => hne (keyAt_inj (List.mem_range.mp ha) (List.mem_range.mp hb) h)) List.nodup_range
theorem keys_bound (l : List Bool) : ∀ n ∈ (List.range (2 ^ nx l * 2 ^ ny l)).map (keyAt l), 0 ≤ n ∧ n < ((2 ^ nx l * 2 ^ ny l : Nat) : Int) := by
  intro n hn
  obtain ⟨c, _, rfl⟩ := List.mem_map.mp hn
  have := keyL_lt l (c / 2 ^ ny l) (c % 2 ^ ny l)
  rw [← Nat.pow_add, nxy]
  unfold keyAt
  omega
theorem keys_step (l : List Bool) (x : Nat) : (List.range (x * 2 ^ ny l)).map (keyAt l) ++ (List.range (2 ^ ny l)).map (fun y => ((keyL l x y : Nat) : Int)) = (List.range ((x + 1) * 2 ^ ny l)).map (keyAt l) := by
  rw [Nat.succ_mul, List.range_add, List.map_append, List.map_map]
  congr 1
  apply List.map_congr_left
  intro y hy
  have hy := List.mem_range.mp hy
  show _ = ((keyL l ((x * 2 ^ ny l + y) / 2 ^ ny l) ((x * 2 ^ ny l + y) % 2 ^ ny l) : Nat) : Int)
  rw [Nat.mul_comm x, Nat.mul_add_div (two_pos _), Nat.div_eq_of_lt hy, Nat.mul_add_mod, Nat.mod_eq_of_lt hy, Nat.add_zero]
/-! ### a word backwards -/
theorem wS_rev (l : List Bool) : (⟨(wS l).cps.reverse⟩ : Str) = wS l.reverse := by
  show (⟨(l.map sg).toArray.reverse⟩ : Str) = ⟨(l.reverse.map sg).toArray⟩
  rw [List.map_reverse, List.reverse_toArray]
theorem good_rev {l : List Bool} (g : GoodW l) : GoodW l.reverse := ⟨fun h => g.1 (List.reverse_eq_nil_iff.mp h), by unfold nx; rw [List.count_reverse]; exact g.2.1, by unfold ny; rw [List.count_reverse]; exact g.2.2⟩
theorem rev_at (l : List Bool) {i : Nat} (h : i < l.length) : (wS l.reverse).cps[i]? = some (sg (l[l.length - 1 - i]'(by omega))) := by
  rw [wS_at _ _ (by rw [List.length_reverse]; exact h), List.getElem_reverse]
theorem wS_dec (a b : List Bool) : decide (V.str (wS a) = V.str (wS b)) = decide (a = b) := by
  by_cases h : a = b
  · rw [decide_eq_true h, h]
    exact decide_eq_true rfl
  · rw [decide_eq_false h]
    exact decide_eq_false fun e => h (wS_inj (V.str.inj e))
/-! ### heaps, more -/
@[elab_as_elim] theorem to_any2 {p : Hp → Prop} {H H' : Hp} (q : Hp → Prop) (e : Same H H') (h : q H') (k : ∀ H2, Same H H2 → q H2 → p H2) : p H' := k H' e h
theorem But.mut {r D : Addr} {H H' : Hp} {o : HO} (b : But r H H') (hD : H D = none) : But r H (L2.upd H' D o) := fun c x nc hc => by
  rw [L2.upd_ne (ne_of_none hc hD)]
  exact b c x nc hc
theorem Reel.mut {r D : Addr} {H : Hp} {n : Nat} {o : HO} (R : Reel H r n) (h : D ≠ r) : Reel (upd H D o) r n := by
  obtain ⟨a, b, c, h1, h2⟩ := R
  exact ⟨a, b, c, by rw [upd_ne h.symm]; exact h1, h2⟩
def CellsAt (r : Addr) (l : List Bool) (H : Hp) (ts : List Addr) : Prop := ∀ t ∈ ts, t ≠ r ∧ ∃ X Y : Nat, X < 2 ^ nx l ∧ Y < 2 ^ ny l ∧ H t = some (.tup [.int X, .int Y])
theorem CellsAt.but {r : Addr} {l : List Bool} {H H' : Hp} {ts : List Addr} (b : But r H H') (h : CellsAt r l H ts) : CellsAt r l H' ts := fun t ht => by
  obtain ⟨h1, X, Y, hX, hY, k⟩ := h t ht
  exact ⟨h1, X, Y, hX, hY, b _ _ h1 k⟩
theorem CellsAt.mut {r D : Addr} {l : List Bool} {H : Hp} {ts : List Addr} {o : HO} (h : CellsAt r l H ts) (n : ∀ t ∈ ts, t ≠ D) : CellsAt r l (upd H D o) ts := fun t ht => by
  obtain ⟨h1, X, Y, hX, hY, k⟩ := h t ht
  exact ⟨h1, X, Y, hX, hY, by rw [upd_ne (n t ht)]; exact k⟩
theorem CellsAt.nil {r : Addr} {l : List Bool} {H : Hp} : CellsAt r l H [] := fun t ht => absurd ht List.not_mem_nil
theorem CellsAt.cons {r t : Addr} {l : List Bool} {H : Hp} {ts : List Addr} {X Y : Nat} (n : t ≠ r) (hX : X < 2 ^ nx l) (hY : Y < 2 ^ ny l) (k : H t = some (.tup [.int X, .int Y])) (h : CellsAt r l H ts) : CellsAt r l H (t :: ts) := fun u hu => by
  rcases List.mem_cons.mp hu with e | e
  · rw [e]
    exact ⟨n, X, Y, hX, hY, k⟩
  · exact h u e
theorem CellsAt.app {r : Addr} {l : List Bool} {H : Hp} {ts us : List Addr} (h : CellsAt r l H ts) (h' : CellsAt r l H us) : CellsAt r l H (ts ++ us) := fun u hu => by
  rcases List.mem_append.mp hu with e | e
  · exact h u e
  · exact h' u e
/-! ### built-in types and own classes -/
theorem sub_bt {K : PySem.W.Frag} {T : String} {C : Addr} (h : T ∈ ["NoneType", "str", "int", "list", "tuple"]) : PySem.W.subIn K (.type T) (.ref C) = some false := by
  have key : ∀ T ∈ ["NoneType", "str", "int", "list", "tuple"], ∃ l : List Value, fastBuiltinMro T = some l ∧ ∀ v ∈ l, ∃ t, v = Value.type t := by
    intro T hT
    simp only [List.mem_cons, List.not_mem_nil, or_false] at hT
    rcases hT with rfl | rfl | rfl | rfl | rfl
    · exact ⟨[.type "NoneType", .type "object"], by decide +kernel, by simp⟩
    · exact ⟨[.type "str", .type "object"], by decide +kernel, by simp⟩
    · exact ⟨[.type "int", .type "object"], by decide +kernel, by simp⟩
    · exact ⟨[.type "list", .type "object"], by decide +kernel, by simp⟩
    · exact ⟨[.type "tuple", .type "object"], by decide +kernel, by simp⟩
  obtain ⟨l, e, hl⟩ := key T h
  show (fastBuiltinMro T).map (·.contains (.ref C)) = some false
  rw [e]
  show some (l.contains (.ref C)) = some false
  congr 1
  rw [Bool.eq_false_iff]
  intro hc
  rw [List.contains_iff_exists_mem_beq] at hc
  obtain ⟨v, hv, e⟩ := hc
  obtain ⟨t, rfl⟩ := hl v hv
  have := eq_of_beq e
  cases this
theorem nf_bt {K : PySem.W.Frag} {T : String} {C : Addr} (h : T ∈ ["NoneType", "str", "int", "list", "tuple"]) : PySem.W.notFirst K C (.type T) = true := by
  unfold PySem.W.notFirst
  rw [sub_bt h]
  simp
theorem kit_bt {K : PySem.W.Frag} {T : String} {C : Addr} (h : T ∈ ["NoneType", "str", "int", "list", "tuple"]) (c : Cls K C) (tc : PySem.W.typeIn K (.ref C) = some (.type "type")) : PySem.W.kitOne K (.type T) (.ref C) = some false := by
  obtain ⟨cd, hc, _⟩ := PySem.W.any_some c.hd
  unfold PySem.W.kitOne
  rw [if_neg (by simp)]
  show (if ((PySem.W.clsIn K C).isSome && PySem.W.typeIn K (.ref C) == some (.type "type")) = true then PySem.W.subIn K (.type T) (.ref C) else none) = some false
  rw [if_pos (by rw [hc, tc]; simp), sub_bt h]
/-! ### lists of numbers as data -/
theorem dp_ints {K : PySem.W.Frag} {H : Hp} : ∀ ns : List Int, DpAll K H (ns.map V.int) (ns.map PyData.int)
  | [] => .nil
  | n :: r => .cons (.int n) (dp_ints r)
theorem shaped_ints (ns : List Int) (h : ∀ n ∈ ns, n.natAbs < 2 ^ 1000) : SeqAt.shaped (.list (ns.map PyData.int)) = true := shaped_list fun d hd => by
  obtain ⟨n, hn, rfl⟩ := List.mem_map.mp hd
  exact h n hn
theorem rgV_nat (N : Nat) : rgV 0 (N : Int) = ((List.range N).map fun i => ((i : Nat) : Int)).map V.int := by
  unfold rgV
  rw [List.map_map, show ((N : Int) - 0).toNat = N by omega]
  apply List.map_congr_left
  intro i _
  show V.int (0 + ((i : Nat) : Int)) = V.int ((i : Nat) : Int)
  rw [Int.zero_add]
end Lk

set_option Elab.async false
set_option linter.all false
set_option maxRecDepth 100000
set_option maxHeartbeats 4000000
namespace Lk
open PySem PySem.Spec PyProof.Rows L2
/-! ### counting multiples -/
def cmI (d : Nat) (lo hi : Int) : Int := if hi < lo then 0 else hi / 2 ^ d - (lo - 1) / 2 ^ d
def bordI (d : Nat) (lo hi : Int) : Int := cmI d (lo + 1) hi - cmI (d + 1) (lo + 1) hi
def spanI (d : Nat) (lo hi : Int) : Int := cmI d lo (hi - 2 ^ d + 1)
theorem step_div (M : Int) (hM : 0 < M) (z : Int) : z / M - (z - 1) / M = if z % M = 0 then 1 else 0 := by
  have h1 := Int.mul_ediv_add_emod z M
  have h2 := Int.emod_nonneg z (Int.ne_of_gt hM)
  have h3 := Int.emod_lt_of_pos z hM
  by_cases h : z % M = 0
  · rw [if_pos h]
    have := ((Int.ediv_emod_unique (a := z - 1) (r := M - 1) (q := z / M - 1) hM).mpr ⟨by rw [Int.mul_sub, Int.mul_one]; omega, by omega, by omega⟩).1
    rw [this]
    omega
  · rw [if_neg h]
    have := ((Int.ediv_emod_unique (a := z - 1) (r := z % M - 1) (q := z / M) hM).mpr ⟨by omega, by omega, by omega⟩).1
    rw [this]
    omega
def mlt (d lo n : Nat) : Nat := (List.range n).countP fun k => decide ((lo + k) % 2 ^ d = 0)
theorem mlt_eq (d lo : Nat) : ∀ n : Nat, ((mlt d lo n : Nat) : Int) = ((lo : Int) + (n : Int) - 1) / 2 ^ d - ((lo : Int) - 1) / 2 ^ d
  | 0 => by
    show (0 : Int) = _
    rw [show (lo : Int) + ((0 : Nat) : Int) - 1 = (lo : Int) - 1 by omega, Int.sub_self]
  | n + 1 => by
    have ih := mlt_eq d lo n
    have pos : (0 : Int) < 2 ^ d := Int.pow_pos (by decide)
    have st := step_div (2 ^ d) pos ((lo : Int) + (n : Int))
    have em : ((lo : Int) + (n : Int)) % 2 ^ d = (((lo + n) % 2 ^ d : Nat) : Int) := by
      rw [Int.natCast_emod, Int.natCast_add, Int.natCast_pow]
      rfl
    unfold mlt at ih ⊢
    rw [List.range_succ, List.countP_append, Int.natCast_add, ih, List.countP_singleton]
    rw [show (lo : Int) + ((n + 1 : Nat) : Int) - 1 = (lo : Int) + (n : Int) by omega]
    by_cases h : (lo + n) % 2 ^ d = 0
    · rw [if_pos (by rw [em, h]; rfl)] at st
      rw [if_pos (decide_eq_true h)]
      omega
    · rw [if_neg (by rw [em]; omega)] at st
      rw [if_neg (by rw [decide_eq_false h]; decide)]
      omega
theorem cm_mlt (d lo n : Nat) : cmI d lo ((lo : Int) + (n : Int) - 1) = ((mlt d lo n : Nat) : Int) := by
  unfold cmI
  by_cases h : (lo : Int) + (n : Int) - 1 < (lo : Int)
  · rw [if_pos h]
    have : n = 0 := by omega
    subst this
    rfl
  · rw [if_neg h, mlt_eq]
/-- odd multiples of 2 ^ d -/
theorem odd_iff (z d : Nat) : z % 2 ^ (d + 1) = 2 ^ d ↔ z % 2 ^ d = 0 ∧ z / 2 ^ d % 2 = 1 := by
  rw [mod_succ]
  have h1 := Nat.mod_lt z (two_pos d)
  have h2 := Nat.mod_lt (z / 2 ^ d) (show 0 < 2 by decide)
  have p := two_pos d
  rcases (show z / 2 ^ d % 2 = 0 ∨ z / 2 ^ d % 2 = 1 by omega) with e | e
  · rw [e, Nat.zero_mul, Nat.zero_add]
    omega
  · rw [e, Nat.one_mul]
    omega
theorem even_iff (z d : Nat) : z % 2 ^ (d + 1) = 0 ↔ z % 2 ^ d = 0 ∧ z / 2 ^ d % 2 = 0 := by
  rw [mod_succ]
  have h1 := Nat.mod_lt z (two_pos d)
  have h2 := Nat.mod_lt (z / 2 ^ d) (show 0 < 2 by decide)
  have p := two_pos d
  rcases (show z / 2 ^ d % 2 = 0 ∨ z / 2 ^ d % 2 = 1 by omega) with e | e
  · rw [e, Nat.zero_mul, Nat.zero_add]
    omega
  · rw [e, Nat.one_mul]
    omega
def oddm (d lo n : Nat) : Nat := (List.range n).countP fun k => decide ((lo + k) % 2 ^ (d + 1) = 2 ^ d)
theorem oddm_eq (d lo : Nat) : ∀ n, oddm d lo n + mlt (d + 1) lo n = mlt d lo n
  | 0 => rfl
  | n + 1 => by
    have ih := oddm_eq d lo n
    unfold oddm mlt at ih ⊢
    rw [List.range_succ, List.countP_append, List.countP_append, List.countP_append, ← ih, List.countP_singleton, List.countP_singleton, List.countP_singleton]
    have h1 := odd_iff (lo + n) d
    have h2 := even_iff (lo + n) d
    have h3 := Nat.mod_lt ((lo + n) / 2 ^ d) (show 0 < 2 by decide)
    by_cases a : (lo + n) % 2 ^ d = 0
    · by_cases b : (lo + n) / 2 ^ d % 2 = 1
      · have c1 := h1.mpr ⟨a, b⟩
        have c2 : ¬ (lo + n) % 2 ^ (d + 1) = 0 := fun z => by have := (h2.mp z).2; omega
        rw [decide_eq_true a, decide_eq_true c1, decide_eq_false c2]
        simp
        omega
      · have c1 : ¬ (lo + n) % 2 ^ (d + 1) = 2 ^ d := fun z => b (h1.mp z).2
        have c2 := h2.mpr ⟨a, by omega⟩
        rw [decide_eq_true a, decide_eq_false c1, decide_eq_true c2]
        simp
        omega
    · have c1 : ¬ (lo + n) % 2 ^ (d + 1) = 2 ^ d := fun z => a (h1.mp z).1
      have c2 : ¬ (lo + n) % 2 ^ (d + 1) = 0 := fun z => a (h2.mp z).1
      rw [decide_eq_false a, decide_eq_false c1, decide_eq_false c2]
      simp
theorem bord_eq {x1 x2 : Nat} (d : Nat) (h : x1 ≤ x2) : bordI d x1 x2 = ((oddm d (x1 + 1) (x2 - x1) : Nat) : Int) := by
  unfold bordI
  have e1 := cm_mlt d (x1 + 1) (x2 - x1)
  have e2 := cm_mlt (d + 1) (x1 + 1) (x2 - x1)
  have e3 : (((x1 + 1 : Nat) : Int)) + ((x2 - x1 : Nat) : Int) - 1 = (x2 : Int) := by omega
  rw [e3] at e1 e2
  have e4 : ((x1 + 1 : Nat) : Int) = (x1 : Int) + 1 := rfl
  rw [e4] at e1 e2
  rw [e1, e2]
  have := oddm_eq d (x1 + 1) (x2 - x1)
  omega
/-- how many y of y1 .. y2 are multiples of 2 ^ d with y + 2 ^ d ≤ y2 + 1 -/
def full (d y1 y2 : Nat) : Nat := (List.range (y2 + 1 - y1)).countP fun k => decide ((y1 + k) % 2 ^ d = 0) && decide (y1 + k + 2 ^ d ≤ y2 + 1)
theorem countP_none {p : Nat → Bool} : ∀ l : List Nat, (∀ x ∈ l, p x = false) → l.countP p = 0 := fun l h => by
  rw [List.countP_eq_zero]
  intro x hx
  rw [h x hx]
  decide
theorem span_eq {y1 y2 : Nat} (d : Nat) (h : y1 ≤ y2) : spanI d y1 y2 = ((full d y1 y2 : Nat) : Int) := by
  unfold spanI full
  have p := two_pos d
  have cp : ((2 : Int) ^ d) = ((2 ^ d : Nat) : Int) := by rw [Int.natCast_pow]; rfl
  by_cases hc : y1 + 2 ^ d ≤ y2 + 1
  · obtain ⟨n, hn⟩ : ∃ n, n = y2 + 1 - 2 ^ d + 1 - y1 := ⟨_, rfl⟩
    obtain ⟨m, hm⟩ : ∃ m, y2 + 1 - y1 = n + m := ⟨y2 + 1 - y1 - n, by omega⟩
    have e1 := cm_mlt d y1 n
    rw [show (y1 : Int) + (n : Int) - 1 = (y2 : Int) - 2 ^ d + 1 by rw [cp]; omega] at e1
    rw [e1, hm, List.range_add, List.countP_append, List.countP_map]
    rw [countP_none (List.range m) (p := _ ∘ _) (fun x hx => by
      show (decide ((y1 + (n + x)) % 2 ^ d = 0) && decide (y1 + (n + x) + 2 ^ d ≤ y2 + 1)) = false
      rw [decide_eq_false (p := y1 + (n + x) + 2 ^ d ≤ y2 + 1) (by omega), Bool.and_false])]
    unfold mlt
    rw [Nat.add_zero]
    congr 1
    apply List.countP_congr
    intro x hx
    have := List.mem_range.mp hx
    rw [decide_eq_true (p := y1 + x + 2 ^ d ≤ y2 + 1) (by omega), Bool.and_true]
  · have : cmI d y1 ((y2 : Int) - 2 ^ d + 1) = 0 := by
      unfold cmI
      rw [if_pos (by rw [cp]; omega)]
    rw [this, countP_none]
    · rfl
    · intro x _
      rw [decide_eq_false (p := y1 + x + 2 ^ d ≤ y2 + 1) (by omega), Bool.and_false]
end Lk

set_option Elab.async false
set_option linter.all false
set_option maxRecDepth 100000
set_option maxHeartbeats 4000000
namespace Lk
open PySem PySem.Spec PyProof.Rows L2
/-! ### a key and the one before it -/
theorem keyL_zero : ∀ l : List Bool, keyL l 0 0 = 0
  | [] => rfl
  | true :: r => by
    show 0 / 2 ^ nx r % 2 * 2 ^ r.length + keyL r 0 0 = 0
    rw [keyL_zero r, Nat.zero_div, Nat.zero_mod, Nat.zero_mul]
  | false :: r => by
    show 0 / 2 ^ ny r % 2 * 2 ^ r.length + keyL r 0 0 = 0
    rw [keyL_zero r, Nat.zero_div, Nat.zero_mod, Nat.zero_mul]
theorem pow_split (n : Nat) : 2 ^ (n + 1) - 1 = 1 * 2 ^ n + (2 ^ n - 1) := by
  have := two_pos n
  rw [Nat.pow_succ]
  omega
theorem keyL_ones : ∀ l : List Bool, keyL l (2 ^ nx l - 1) (2 ^ ny l - 1) + 1 = 2 ^ l.length
  | [] => rfl
  | true :: r => by
    have p := two_pos (nx r)
    have ih := keyL_ones r
    rw [nx_t, ny_t, pow_split]
    show (1 * 2 ^ nx r + (2 ^ nx r - 1)) / 2 ^ nx r % 2 * 2 ^ r.length + keyL r (1 * 2 ^ nx r + (2 ^ nx r - 1)) (2 ^ ny r - 1) + 1 = 2 ^ (r.length + 1)
    rw [lead_bit _ (by decide) (by omega), keyL_x r _ _ _ _ (Nat.le_refl _), Nat.pow_succ]
    omega
  | false :: r => by
    have p := two_pos (ny r)
    have ih := keyL_ones r
    rw [nx_f, ny_f, pow_split]
    show (1 * 2 ^ ny r + (2 ^ ny r - 1)) / 2 ^ ny r % 2 * 2 ^ r.length + keyL r (2 ^ nx r - 1) (1 * 2 ^ ny r + (2 ^ ny r - 1)) + 1 = 2 ^ (r.length + 1)
    rw [lead_bit _ (by decide) (by omega), keyL_y r _ _ _ _ (Nat.le_refl _), Nat.pow_succ]
    omega
theorem xOf_zero : ∀ l : List Bool, xOf l 0 = 0
  | [] => rfl
  | true :: r => by
    show 0 / 2 ^ r.length % 2 * 2 ^ nx r + xOf r 0 = 0
    rw [xOf_zero r, Nat.zero_div, Nat.zero_mod, Nat.zero_mul]
  | false :: r => xOf_zero r
theorem yOf_zero : ∀ l : List Bool, yOf l 0 = 0
  | [] => rfl
  | true :: r => yOf_zero r
  | false :: r => by
    show 0 / 2 ^ r.length % 2 * 2 ^ ny r + yOf r 0 = 0
    rw [yOf_zero r, Nat.zero_div, Nat.zero_mod, Nat.zero_mul]
/-- an odd multiple of 2 ^ i and the number before it -/
theorem odd_pre {x i : Nat} (h : x % 2 ^ (i + 1) = 2 ^ i) : 1 ≤ x ∧ x % 2 ^ i = 0 ∧ x / 2 ^ i % 2 = 1 ∧ (x - 1) / 2 ^ (i + 1) = x / 2 ^ (i + 1) ∧ (x - 1) / 2 ^ i % 2 = 0 ∧ (x - 1) % 2 ^ i = 2 ^ i - 1 := by
  have p := two_pos i
  obtain ⟨a, b⟩ := (odd_iff x i).mp h
  have e1 := Nat.div_add_mod x (2 ^ (i + 1))
  rw [h] at e1
  obtain ⟨q, hq⟩ : ∃ q, q = x / 2 ^ (i + 1) := ⟨_, rfl⟩
  rw [← hq] at e1
  have e2 : x - 1 = (2 * q) * 2 ^ i + (2 ^ i - 1) := by
    rw [← e1, Nat.pow_succ, Nat.mul_comm (2 ^ i) 2, Nat.mul_assoc, Nat.mul_comm (2 ^ i) q, ← Nat.mul_assoc]
    omega
  have e3 : x - 1 = 2 ^ (i + 1) * q + (2 ^ i - 1) := by omega
  have lt1 : 2 ^ i - 1 < 2 ^ i := by omega
  have lt2 : 2 ^ i - 1 < 2 ^ (i + 1) := by rw [Nat.pow_succ]; omega
  refine ⟨by omega, a, b, ?_, ?_, ?_⟩
  · rw [← hq, e3, Nat.mul_add_div (two_pos _), Nat.div_eq_of_lt lt2, Nat.add_zero]
  · rw [e2, Nat.mul_comm _ (2 ^ i), Nat.mul_add_div p, Nat.div_eq_of_lt lt1, Nat.add_zero, Nat.mul_mod_right]
  · rw [e2, Nat.mul_comm _ (2 ^ i), Nat.mul_add_mod, Nat.mod_eq_of_lt lt1]
theorem mul_post {y j : Nat} (h : y % 2 ^ j = 0) : (y + 2 ^ j - 1) / 2 ^ j = y / 2 ^ j ∧ (y + 2 ^ j - 1) % 2 ^ j = 2 ^ j - 1 := by
  have p := two_pos j
  have e1 := Nat.div_add_mod y (2 ^ j)
  rw [h, Nat.add_zero] at e1
  obtain ⟨q, hq⟩ : ∃ q, q = y / 2 ^ j := ⟨_, rfl⟩
  rw [← hq] at e1 ⊢
  have e2 : y + 2 ^ j - 1 = 2 ^ j * q + (2 ^ j - 1) := by omega
  have lt1 : 2 ^ j - 1 < 2 ^ j := by omega
  rw [e2]
  exact ⟨by rw [Nat.mul_add_div p, Nat.div_eq_of_lt lt1, Nat.add_zero], by rw [Nat.mul_add_mod, Nat.mod_eq_of_lt lt1]⟩
theorem pre_x (pre suf : List Bool) {x y : Nat} (hx : x % 2 ^ (nx suf + 1) = 2 ^ nx suf) (hy : y % 2 ^ ny suf = 0) :
    keyL (pre ++ true :: suf) x y % 2 ^ (suf.length + 1) = 2 ^ suf.length ∧ keyL (pre ++ true :: suf) (x - 1) (y + 2 ^ ny suf - 1) + 1 = keyL (pre ++ true :: suf) x y := by
  obtain ⟨h1, h2, h3, h4, h5, h6⟩ := odd_pre hx
  obtain ⟨k1, k2⟩ := mul_post hy
  have p := two_pos suf.length
  have ones := keyL_ones suf
  have a1 : keyL (true :: suf) x y = 2 ^ suf.length := by
    show x / 2 ^ nx suf % 2 * 2 ^ suf.length + keyL suf x y = _
    rw [h3, keyL_mod suf x y, h2, hy, keyL_zero, Nat.one_mul, Nat.add_zero]
  have a2 : keyL (true :: suf) (x - 1) (y + 2 ^ ny suf - 1) + 1 = 2 ^ suf.length := by
    show (x - 1) / 2 ^ nx suf % 2 * 2 ^ suf.length + keyL suf (x - 1) (y + 2 ^ ny suf - 1) + 1 = _
    rw [h5, keyL_mod suf (x - 1), h6, k2, Nat.zero_mul, Nat.zero_add]
    exact ones
  have len : (true :: suf).length = suf.length + 1 := rfl
  rw [keyL_app, keyL_app, nx_t, ny_t, h4, k1, len, a1]
  refine ⟨?_, by omega⟩
  rw [Nat.mul_comm, Nat.mul_add_mod, Nat.mod_eq_of_lt (by rw [Nat.pow_succ]; omega)]
theorem rank_x (pre suf : List Bool) {x y : Nat} (h : keyL (pre ++ true :: suf) x y % 2 ^ (suf.length + 1) = 2 ^ suf.length) : x % 2 ^ (nx suf + 1) = 2 ^ nx suf ∧ y % 2 ^ ny suf = 0 := by
  have p := two_pos suf.length
  have len : (true :: suf).length = suf.length + 1 := rfl
  have lt := keyL_lt (true :: suf) x y
  rw [len] at lt
  rw [keyL_app, len, Nat.mul_comm, Nat.mul_add_mod, Nat.mod_eq_of_lt lt] at h
  have h : x / 2 ^ nx suf % 2 * 2 ^ suf.length + keyL suf x y = 2 ^ suf.length := h
  have l2 := keyL_lt suf x y
  have b2 := Nat.mod_lt (x / 2 ^ nx suf) (show 0 < 2 by decide)
  have b1 : x / 2 ^ nx suf % 2 = 1 := by
    rcases (show x / 2 ^ nx suf % 2 = 0 ∨ x / 2 ^ nx suf % 2 = 1 by omega) with e | e
    · rw [e, Nat.zero_mul] at h
      omega
    · exact e
  rw [b1, Nat.one_mul] at h
  have k0 : keyL suf x y = 0 := by omega
  have ex := xOf_key suf x y
  have ey := yOf_key suf x y
  rw [k0, xOf_zero] at ex
  rw [k0, yOf_zero] at ey
  exact ⟨(odd_iff _ _).mpr ⟨ex.symm, b1⟩, ey.symm⟩
theorem pre_y (pre suf : List Bool) {x y : Nat} (hy : y % 2 ^ (ny suf + 1) = 2 ^ ny suf) (hx : x % 2 ^ nx suf = 0) :
    keyL (pre ++ false :: suf) x y % 2 ^ (suf.length + 1) = 2 ^ suf.length ∧ keyL (pre ++ false :: suf) (x + 2 ^ nx suf - 1) (y - 1) + 1 = keyL (pre ++ false :: suf) x y := by
  obtain ⟨h1, h2, h3, h4, h5, h6⟩ := odd_pre hy
  obtain ⟨k1, k2⟩ := mul_post hx
  have p := two_pos suf.length
  have ones := keyL_ones suf
  have a1 : keyL (false :: suf) x y = 2 ^ suf.length := by
    show y / 2 ^ ny suf % 2 * 2 ^ suf.length + keyL suf x y = _
    rw [h3, keyL_mod suf x y, h2, hx, keyL_zero, Nat.one_mul, Nat.add_zero]
  have a2 : keyL (false :: suf) (x + 2 ^ nx suf - 1) (y - 1) + 1 = 2 ^ suf.length := by
    show (y - 1) / 2 ^ ny suf % 2 * 2 ^ suf.length + keyL suf (x + 2 ^ nx suf - 1) (y - 1) + 1 = _
    rw [h5, keyL_mod suf (x + 2 ^ nx suf - 1), h6, k2, Nat.zero_mul, Nat.zero_add]
    exact ones
  have len : (false :: suf).length = suf.length + 1 := rfl
  rw [keyL_app, keyL_app, nx_f, ny_f, h4, k1, len, a1]
  refine ⟨?_, by omega⟩
  rw [Nat.mul_comm, Nat.mul_add_mod, Nat.mod_eq_of_lt (by rw [Nat.pow_succ]; omega)]
theorem rank_y (pre suf : List Bool) {x y : Nat} (h : keyL (pre ++ false :: suf) x y % 2 ^ (suf.length + 1) = 2 ^ suf.length) : y % 2 ^ (ny suf + 1) = 2 ^ ny suf ∧ x % 2 ^ nx suf = 0 := by
  have p := two_pos suf.length
  have len : (false :: suf).length = suf.length + 1 := rfl
  have lt := keyL_lt (false :: suf) x y
  rw [len] at lt
  rw [keyL_app, len, Nat.mul_comm, Nat.mul_add_mod, Nat.mod_eq_of_lt lt] at h
  have h : y / 2 ^ ny suf % 2 * 2 ^ suf.length + keyL suf x y = 2 ^ suf.length := h
  have l2 := keyL_lt suf x y
  have b2 := Nat.mod_lt (y / 2 ^ ny suf) (show 0 < 2 by decide)
  have b1 : y / 2 ^ ny suf % 2 = 1 := by
    rcases (show y / 2 ^ ny suf % 2 = 0 ∨ y / 2 ^ ny suf % 2 = 1 by omega) with e | e
    · rw [e, Nat.zero_mul] at h
      omega
    · exact e
  rw [b1, Nat.one_mul] at h
  have k0 : keyL suf x y = 0 := by omega
  have ex := xOf_key suf x y
  have ey := yOf_key suf x y
  rw [k0, xOf_zero] at ex
  rw [k0, yOf_zero] at ey
  exact ⟨(odd_iff _ _).mpr ⟨ey.symm, b1⟩, ex.symm⟩
theorem key_inj {l : List Bool} {x y x' y' : Nat} (hx : x < 2 ^ nx l) (hy : y < 2 ^ ny l) (hx' : x' < 2 ^ nx l) (hy' : y' < 2 ^ ny l) (h : keyL l x y = keyL l x' y') : x = x' ∧ y = y' := by
  have ex := congrArg (xOf l) h
  have ey := congrArg (yOf l) h
  rw [xOf_key, xOf_key, Nat.mod_eq_of_lt hx, Nat.mod_eq_of_lt hx'] at ex
  rw [yOf_key, yOf_key, Nat.mod_eq_of_lt hy, Nat.mod_eq_of_lt hy'] at ey
  exact ⟨ex, ey⟩
/-- the cell (x, y)'s key has the one before it in the box -/
structure Bx (l : List Bool) (x1 y1 x2 y2 : Nat) : Prop where
  x : x1 ≤ x2
  y : y1 ≤ y2
  bx : x2 < 2 ^ nx l
  by_ : y2 < 2 ^ ny l
def InB (x1 y1 x2 y2 x y : Nat) : Prop := x1 ≤ x ∧ x ≤ x2 ∧ y1 ≤ y ∧ y ≤ y2
def HasPre (l : List Bool) (x1 y1 x2 y2 K : Nat) : Prop := ∃ x y, InB x1 y1 x2 y2 x y ∧ keyL l x y + 1 = K
theorem has_x {pre suf : List Bool} {x1 y1 x2 y2 x y : Nat} (b : Bx (pre ++ true :: suf) x1 y1 x2 y2) (i : InB x1 y1 x2 y2 x y) :
    (HasPre (pre ++ true :: suf) x1 y1 x2 y2 (keyL (pre ++ true :: suf) x y) ∧ keyL (pre ++ true :: suf) x y % 2 ^ (suf.length + 1) = 2 ^ suf.length) ↔ ((x1 + 1 ≤ x ∧ x % 2 ^ (nx suf + 1) = 2 ^ nx suf) ∧ (y % 2 ^ ny suf = 0 ∧ y + 2 ^ ny suf ≤ y2 + 1)) := by
  obtain ⟨i1, i2, i3, i4⟩ := i
  obtain ⟨b1, b2, b3, b4⟩ := b
  have p := two_pos (ny suf)
  constructor
  · rintro ⟨⟨x', y', ⟨j1, j2, j3, j4⟩, e⟩, hr⟩
    obtain ⟨hx, hy⟩ := rank_x pre suf hr
    obtain ⟨_, e2⟩ := pre_x pre suf hx hy
    have hx1 := (odd_pre hx).1
    have hyl : y + 2 ^ ny suf - 1 < 2 ^ ny (pre ++ true :: suf) := by
      have := (mul_post hy).1
      have e3 : ny (pre ++ true :: suf) = ny pre + ny suf := by rw [ny_app, ny_t]
      rw [e3, Nat.pow_add, Nat.mul_comm]
      refine (Nat.div_lt_iff_lt_mul p).mp ?_ |> fun h => by rw [Nat.mul_comm]; exact h
      rw [this]
      refine Nat.div_lt_of_lt_mul ?_
      rw [Nat.mul_comm, ← Nat.pow_add, ← e3]
      omega
    obtain ⟨z1, z2⟩ := key_inj (l := pre ++ true :: suf) (x := x') (y := y') (x' := x - 1) (y' := y + 2 ^ ny suf - 1) (by omega) (by omega) (by omega) hyl (by omega)
    omega
  · rintro ⟨⟨c1, c2⟩, c3, c4⟩
    obtain ⟨e1, e2⟩ := pre_x pre suf c2 c3
    exact ⟨⟨x - 1, y + 2 ^ ny suf - 1, ⟨by omega, by omega, by omega, by omega⟩, e2⟩, e1⟩
theorem has_y {pre suf : List Bool} {x1 y1 x2 y2 x y : Nat} (b : Bx (pre ++ false :: suf) x1 y1 x2 y2) (i : InB x1 y1 x2 y2 x y) :
    (HasPre (pre ++ false :: suf) x1 y1 x2 y2 (keyL (pre ++ false :: suf) x y) ∧ keyL (pre ++ false :: suf) x y % 2 ^ (suf.length + 1) = 2 ^ suf.length) ↔ ((x % 2 ^ nx suf = 0 ∧ x + 2 ^ nx suf ≤ x2 + 1) ∧ (y1 + 1 ≤ y ∧ y % 2 ^ (ny suf + 1) = 2 ^ ny suf)) := by
  obtain ⟨i1, i2, i3, i4⟩ := i
  obtain ⟨b1, b2, b3, b4⟩ := b
  have p := two_pos (nx suf)
  constructor
  · rintro ⟨⟨x', y', ⟨j1, j2, j3, j4⟩, e⟩, hr⟩
    obtain ⟨hy, hx⟩ := rank_y pre suf hr
    obtain ⟨_, e2⟩ := pre_y pre suf hy hx
    have hy1 := (odd_pre hy).1
    have hxl : x + 2 ^ nx suf - 1 < 2 ^ nx (pre ++ false :: suf) := by
      have := (mul_post hx).1
      have e3 : nx (pre ++ false :: suf) = nx pre + nx suf := by rw [nx_app, nx_f]
      rw [e3, Nat.pow_add, Nat.mul_comm]
      refine (Nat.div_lt_iff_lt_mul p).mp ?_ |> fun h => by rw [Nat.mul_comm]; exact h
      rw [this]
      refine Nat.div_lt_of_lt_mul ?_
      rw [Nat.mul_comm, ← Nat.pow_add, ← e3]
      omega
    obtain ⟨z1, z2⟩ := key_inj (l := pre ++ false :: suf) (x := x') (y := y') (x' := x + 2 ^ nx suf - 1) (y' := y - 1) (by omega) (by omega) hxl (by omega) (by omega)
    omega
  · rintro ⟨⟨c1, c2⟩, c3, c4⟩
    obtain ⟨e1, e2⟩ := pre_y pre suf c4 c1
    exact ⟨⟨x + 2 ^ nx suf - 1, y - 1, ⟨by omega, by omega, by omega, by omega⟩, e2⟩, e1⟩
end Lk

set_option Elab.async false
set_option linter.all false
set_option maxRecDepth 100000
set_option maxHeartbeats 4000000
namespace Lk
open PySem PySem.Spec PyProof.Rows L2
/-! ### the keys of a box -/
def boxN (l : List Bool) (x1 y1 w h : Nat) : List Nat := (List.range w).flatMap fun a => (List.range h).map fun b => keyL l (x1 + a) (y1 + b)
theorem boxN_succ (l : List Bool) (x1 y1 w h : Nat) : boxN l x1 y1 (w + 1) h = boxN l x1 y1 w h ++ (List.range h).map fun b => keyL l (x1 + w) (y1 + b) := by
  unfold boxN
  rw [List.range_succ, List.flatMap_append, List.flatMap_singleton]
theorem boxN_len (l : List Bool) (x1 y1 h : Nat) : ∀ w, (boxN l x1 y1 w h).length = w * h
  | 0 => by rw [Nat.zero_mul]; rfl
  | w + 1 => by rw [boxN_succ, List.length_append, boxN_len l x1 y1 h w, List.length_map, List.length_range, Nat.succ_mul]
theorem boxN_mem {l : List Bool} {x1 y1 w h K : Nat} : K ∈ boxN l x1 y1 w h ↔ ∃ a b, a < w ∧ b < h ∧ keyL l (x1 + a) (y1 + b) = K := by
  unfold boxN
  rw [List.mem_flatMap]
  constructor
  · rintro ⟨a, ha, h2⟩
    obtain ⟨b, hb, e⟩ := List.mem_map.mp h2
    exact ⟨a, b, List.mem_range.mp ha, List.mem_range.mp hb, e⟩
  · rintro ⟨a, b, ha, hb, e⟩
    exact ⟨a, List.mem_range.mpr ha, List.mem_map.mpr ⟨b, List.mem_range.mpr hb, e⟩⟩
/-- a count over the keys of a box, where it asks of x and of y apart -/
theorem boxN_count {l : List Bool} {x1 y1 h : Nat} {P : Nat → Bool} {px py : Nat → Bool} : ∀ w, (∀ a b, a < w → b < h → P (keyL l (x1 + a) (y1 + b)) = (px a && py b)) →
    (boxN l x1 y1 w h).countP P = (List.range w).countP px * (List.range h).countP py
  | 0, _ => by
    show 0 = 0 * _
    rw [Nat.zero_mul]
  | w + 1, hp => by
    rw [boxN_succ, List.countP_append, boxN_count w fun a b ha hb => hp a b (by omega) hb, List.range_succ, List.countP_append, Nat.add_mul, List.countP_singleton, List.countP_map]
    congr 1
    cases e : px w with
    | true =>
      rw [if_pos rfl, Nat.one_mul]
      apply List.countP_congr
      intro b hb
      show P (keyL l (x1 + w) (y1 + b)) = true ↔ py b = true
      rw [hp w b (by omega) (List.mem_range.mp hb), e, Bool.true_and]
    | false =>
      rw [if_neg (by decide), Nat.zero_mul]
      apply countP_none
      intro b hb
      show P (keyL l (x1 + w) (y1 + b)) = false
      rw [hp w b (by omega) (List.mem_range.mp hb), e, Bool.false_and]
theorem boxN_nodup {l : List Bool} {x1 y1 h : Nat} (hy : y1 + h ≤ 2 ^ ny l) : ∀ w, x1 + w ≤ 2 ^ nx l → (boxN l x1 y1 w h).Nodup
  | 0, _ => List.nodup_nil
  | w + 1, hx => by
    rw [boxN_succ]
    refine List.nodup_append.mpr ⟨boxN_nodup hy w (by omega), ?_, ?_⟩
    · refine List.pairwise_map.mpr (List.Pairwise.imp_of_mem (R := (· ≠ ·)) (fun {a b} ha hb hne e => ?_) List.nodup_range)
      have ha := List.mem_range.mp ha
      have hb := List.mem_range.mp hb
      have := (key_inj (l := l) (x := x1 + w) (y := y1 + a) (x' := x1 + w) (y' := y1 + b) (by omega) (by omega) (by omega) (by omega) e).2
      omega
    · intro a ha b hb e
      obtain ⟨c, d, hc, hd, e1⟩ := boxN_mem.mp ha
      obtain ⟨f, hf, e2⟩ := List.mem_map.mp hb
      have hf := List.mem_range.mp hf
      have := (key_inj (l := l) (x := x1 + c) (y := y1 + d) (x' := x1 + w) (y' := y1 + f) (by omega) (by omega) (by omega) (by omega) (by omega)).1
      omega
/-! ### neighbours in a list -/
def pred (ks : List Nat) (K : Nat) : Bool := ks.any fun k => decide (k + 1 = K)
theorem pred_iff {ks : List Nat} {K : Nat} : pred ks K = true ↔ ∃ k ∈ ks, k + 1 = K := by
  unfold pred
  rw [List.any_eq_true]
  simp only [decide_eq_true_eq]
theorem pred_not {ks : List Nat} {K : Nat} (h : ¬ ∃ k ∈ ks, k + 1 = K) : pred ks K = false := by
  rw [Bool.eq_false_iff]
  exact fun z => h (pred_iff.mp z)
theorem pred_eq {ks ks' : List Nat} {K K' : Nat} (h : (∃ k ∈ ks, k + 1 = K) ↔ (∃ k ∈ ks', k + 1 = K')) : pred ks K = pred ks' K' := by
  rw [Bool.eq_iff_iff, pred_iff, pred_iff]
  exact h
/-- how many of the list's items are one more than the item before, and as p asks -/
def adj (p : Nat → Bool) : List Nat → Nat
  | [] => 0
  | [_] => 0
  | a :: b :: r => (if decide (b = a + 1) && p b then 1 else 0) + adj p (b :: r)
theorem adj_cons2 (p : Nat → Bool) (a b : Nat) (r : List Nat) : adj p (a :: b :: r) = (if decide (b = a + 1) && p b then 1 else 0) + adj p (b :: r) := rfl
theorem adj_count (p : Nat → Bool) : ∀ ks : List Nat, ks.Pairwise (· < ·) → adj p ks = ks.countP fun K => pred ks K && p K
  | [], _ => rfl
  | [a], _ => by
    show 0 = _
    rw [List.countP_singleton]
    have : ¬ ∃ k ∈ [a], k + 1 = a := by
      rintro ⟨k, hk, e⟩
      have := List.mem_singleton.mp hk
      omega
    rw [pred_not this]
    rfl
  | a :: b :: r, hp => by
    obtain ⟨h1, h2⟩ := List.pairwise_cons.mp hp
    obtain ⟨h3, h4⟩ := List.pairwise_cons.mp h2
    have ih := adj_count p (b :: r) h2
    have hab := h1 b List.mem_cons_self
    rw [adj_cons2, ih]
    have na : ¬ ∃ k ∈ a :: b :: r, k + 1 = a := by
      rintro ⟨k, hk, e⟩
      rcases List.mem_cons.mp hk with z | z
      · omega
      · have := h1 k z
        omega
    have nb : ¬ ∃ k ∈ b :: r, k + 1 = b := by
      rintro ⟨k, hk, e⟩
      rcases List.mem_cons.mp hk with z | z
      · omega
      · have := h3 k z
        omega
    have eb : (∃ k ∈ a :: b :: r, k + 1 = b) ↔ b = a + 1 := by
      constructor
      · rintro ⟨k, hk, e⟩
        rcases List.mem_cons.mp hk with z | z
        · omega
        · exact absurd ⟨k, z, e⟩ nb
      · intro e
        exact ⟨a, List.mem_cons_self, e.symm⟩
    rw [List.countP_cons, List.countP_cons, List.countP_cons]
    rw [pred_not na, pred_not nb, Bool.false_and, Bool.false_and]
    have tl : r.countP (fun K => pred (a :: b :: r) K && p K) = r.countP (fun K => pred (b :: r) K && p K) := by
      apply List.countP_congr
      intro K hK
      have hbK := h3 K hK
      have : (∃ k ∈ a :: b :: r, k + 1 = K) ↔ (∃ k ∈ b :: r, k + 1 = K) := by
        constructor
        · rintro ⟨k, hk, e⟩
          rcases List.mem_cons.mp hk with z | z
          · omega
          · exact ⟨k, z, e⟩
        · rintro ⟨k, hk, e⟩
          exact ⟨k, List.mem_cons_of_mem _ hk, e⟩
      rw [pred_eq this]
    have eb2 : pred (a :: b :: r) b = decide (b = a + 1) := by
      rw [Bool.eq_iff_iff, pred_iff, decide_eq_true_eq]
      exact eb
    rw [tl, eb2]
    simp
    omega
/-! ### what a letter saves -/
def savI (b : Bool) (i j : Nat) (x1 y1 x2 y2 : Nat) : Int := if b = true then bordI i x1 x2 * spanI j y1 y2 else bordI j y1 y2 * spanI i x1 x2
theorem hasPre_iff {l : List Bool} {x1 y1 x2 y2 K : Nat} (hx : x1 ≤ x2) (hy : y1 ≤ y2) : HasPre l x1 y1 x2 y2 K ↔ ∃ k ∈ boxN l x1 y1 (x2 + 1 - x1) (y2 + 1 - y1), k + 1 = K := by
  constructor
  · rintro ⟨x, y, ⟨h1, h2, h3, h4⟩, e⟩
    exact ⟨_, boxN_mem.mpr ⟨x - x1, y - y1, by omega, by omega, rfl⟩, by rw [show x1 + (x - x1) = x by omega, show y1 + (y - y1) = y by omega]; exact e⟩
  · rintro ⟨k, hk, e⟩
    obtain ⟨a, b, ha, hb, e2⟩ := boxN_mem.mp hk
    exact ⟨x1 + a, y1 + b, ⟨by omega, by omega, by omega, by omega⟩, by omega⟩
/-- an odd multiple behind the first -/
theorem odd_count {x1 x2 : Nat} (d : Nat) (h : x1 ≤ x2) : (List.range (x2 + 1 - x1)).countP (fun a => decide (x1 + 1 ≤ x1 + a) && decide ((x1 + a) % 2 ^ (d + 1) = 2 ^ d)) = oddm d (x1 + 1) (x2 - x1) := by
  rw [show x2 + 1 - x1 = (x2 - x1) + 1 by omega, List.range_succ_eq_map, List.countP_cons, List.countP_map]
  rw [decide_eq_false (show ¬ x1 + 1 ≤ x1 + 0 by omega), Bool.false_and, if_neg (by decide), Nat.add_zero]
  unfold oddm
  apply List.countP_congr
  intro a _
  show (decide (x1 + 1 ≤ x1 + (a + 1)) && decide ((x1 + (a + 1)) % 2 ^ (d + 1) = 2 ^ d)) = true ↔ _
  rw [decide_eq_true (show x1 + 1 ≤ x1 + (a + 1) by omega), Bool.true_and, show x1 + (a + 1) = x1 + 1 + a by omega]
theorem sav_count {l : List Bool} {x1 y1 x2 y2 : Nat} (b : Bx l x1 y1 x2 y2) {t : Nat} (ht : t < l.length) :
    (((boxN l x1 y1 (x2 + 1 - x1) (y2 + 1 - y1)).countP (fun K => pred (boxN l x1 y1 (x2 + 1 - x1) (y2 + 1 - y1)) K && decide (K % 2 ^ (l.length - 1 - t + 1) = 2 ^ (l.length - 1 - t))) : Nat) : Int) = savI l[t] (nx (l.drop (t + 1))) (ny (l.drop (t + 1))) x1 y1 x2 y2 := by
  have sp : l = l.take t ++ l[t] :: l.drop (t + 1) := by rw [← List.drop_eq_getElem_cons ht, List.take_append_drop]
  have ls : (l.drop (t + 1)).length = l.length - 1 - t := by rw [List.length_drop]; omega
  generalize hpre : l.take t = pre at sp
  generalize hsuf : l.drop (t + 1) = suf at sp ls ⊢
  generalize hb : l[t] = c at sp ⊢
  have bb := b
  rw [sp] at bb
  rw [← ls]
  cases c with
  | true =>
    unfold savI
    rw [if_pos rfl, bord_eq _ b.x, span_eq _ b.y, ← odd_count _ b.x]
    unfold full
    rw [← Int.natCast_mul]
    congr 1
    refine boxN_count _ fun a d ha hd => ?_
    have key := has_x bb (x := x1 + a) (y := y1 + d) ⟨by omega, by omega, by omega, by omega⟩
    rw [← sp] at key
    rw [Bool.eq_iff_iff]
    simp only [Bool.and_eq_true, decide_eq_true_eq]
    rw [pred_iff, ← hasPre_iff b.x b.y]
    exact key
  | false =>
    unfold savI
    rw [if_neg (by decide), bord_eq _ b.y, span_eq _ b.x, ← odd_count _ b.y]
    unfold full
    rw [← Int.natCast_mul, Nat.mul_comm]
    congr 1
    refine boxN_count _ fun a d ha hd => ?_
    have key := has_y bb (x := x1 + a) (y := y1 + d) ⟨by omega, by omega, by omega, by omega⟩
    rw [← sp] at key
    rw [Bool.eq_iff_iff]
    simp only [Bool.and_eq_true, decide_eq_true_eq]
    rw [pred_iff, ← hasPre_iff b.x b.y]
    exact key
def savL (l : List Bool) (x1 y1 x2 y2 : Nat) : List Int := (feetL l).map fun f => savI f.1 f.2.1 f.2.2 x1 y1 x2 y2
theorem savL_get (l : List Bool) {x1 y1 x2 y2 i : Nat} (h : i < l.length) : (savL l x1 y1 x2 y2)[i]?.toList = [savI l[i] (nx (l.drop (i + 1))) (ny (l.drop (i + 1))) x1 y1 x2 y2] := by
  unfold savL
  rw [List.getElem?_map, feetL_get l i h]
  rfl
theorem oddm_le (d lo n : Nat) : oddm d lo n ≤ n := by
  unfold oddm
  exact Nat.le_trans List.countP_le_length (Nat.le_of_eq List.length_range)
theorem full_le (d y1 y2 : Nat) : full d y1 y2 ≤ y2 + 1 - y1 := by
  unfold full
  exact Nat.le_trans List.countP_le_length (Nat.le_of_eq List.length_range)
theorem sav_mul {i j x1 y1 x2 y2 : Nat} (h1 : x1 ≤ x2) (h2 : y1 ≤ y2) (hx : x2 < 2 ^ 100) (hy : y2 < 2 ^ 100) : CMulW (bordI i x1 x2) (spanI j y1 y2) := by
  rw [bord_eq i h1, span_eq j h2]
  have a := oddm_le i (x1 + 1) (x2 - x1)
  have b := full_le j y1 y2
  exact cmulN (Nat.lt_of_le_of_lt (show oddm i (x1 + 1) (x2 - x1) ≤ 2 ^ 100 by omega) (pw (x := 100) (by omega))) (Nat.lt_of_le_of_lt (show full j y1 y2 ≤ 2 ^ 100 by omega) (pw (x := 100) (by omega)))
end Lk

set_option Elab.async false
set_option linter.all false
set_option maxRecDepth 100000
set_option maxHeartbeats 4000000
namespace Lk
open PySem PySem.Spec PyProof.Rows L2
/-! ### ranks -/
theorem rank_ex : ∀ (K : Nat), 1 ≤ K → ∃ r, K % 2 ^ (r + 1) = 2 ^ r ∧ 2 ^ r ≤ K := by
  intro K
  induction K using Nat.strongRecOn with
  | _ K ih =>
    intro hK
    by_cases h : K % 2 = 1
    · exact ⟨0, h, hK⟩
    · obtain ⟨r, h1, h2⟩ := ih (K / 2) (by omega) (by omega)
      refine ⟨r + 1, ?_, ?_⟩
      · have e : K = 2 * (K / 2) := by omega
        rw [e, Nat.pow_succ 2 (r + 1), Nat.mul_comm _ 2, Nat.mul_mod_mul_left, h1, Nat.pow_succ, Nat.mul_comm]
      · rw [Nat.pow_succ]
        omega
theorem rank_low {K d t : Nat} (h : K % 2 ^ (d + 1) = 2 ^ d) (ht : t < d) : K / 2 ^ t % 2 = 0 := by
  obtain ⟨a, _⟩ := (odd_iff K d).mp h
  have e : K = 2 ^ d * (K / 2 ^ d) := by
    have := Nat.div_add_mod K (2 ^ d)
    omega
  obtain ⟨c, rfl⟩ : ∃ c, d = t + 1 + c := ⟨d - t - 1, by omega⟩
  rw [e, Nat.pow_add, Nat.pow_succ, Nat.mul_assoc, Nat.mul_assoc, Nat.mul_div_right _ (two_pos t), Nat.mul_mod_right]
theorem rank_one {K d d' : Nat} (h : K % 2 ^ (d + 1) = 2 ^ d) (h' : K % 2 ^ (d' + 1) = 2 ^ d') : d = d' := by
  rcases Nat.lt_trichotomy d d' with z | z | z
  · have := rank_low h' z
    have := ((odd_iff K d).mp h).2
    omega
  · exact z
  · have := rank_low h z
    have := ((odd_iff K d').mp h').2
    omega
/-! ### from sorted ints to naturals -/
theorem nat_list {ns : List Int} {ms : List Nat} (hp : ns.Perm (ms.map fun m => ((m : Nat) : Int))) (hs : ns.Pairwise (· ≤ ·)) (hd : ms.Nodup) : ∃ ks : List Nat, ns = ks.map (fun m => ((m : Nat) : Int)) ∧ ks.Perm ms ∧ ks.Pairwise (· < ·) := by
  have e : ns = (ns.map Int.toNat).map fun m => ((m : Nat) : Int) := by
    rw [List.map_map]
    apply List.ext_getElem?
    intro i
    rw [List.getElem?_map]
    cases h : ns[i]? with
    | none => rfl
    | some n =>
      have hm := hp.mem_iff.mp (List.mem_of_getElem? h)
      obtain ⟨m, _, rfl⟩ := List.mem_map.mp hm
      rfl
  have p : (ns.map Int.toNat).Perm ms := by
    have := hp.map Int.toNat
    rw [List.map_map] at this
    have e2 : ms.map (Int.toNat ∘ fun m : Nat => ((m : Nat) : Int)) = ms := by
      conv => rhs; rw [← List.map_id ms]
      apply List.map_congr_left
      intro m _
      rfl
    rw [e2] at this
    exact this
  refine ⟨ns.map Int.toNat, e, p, ?_⟩
  have nd := p.nodup_iff.mpr hd
  have le : (ns.map Int.toNat).Pairwise (· ≤ ·) := by
    refine List.pairwise_map.mpr (hs.imp fun {a b} h => ?_)
    exact Int.toNat_le_toNat h
  exact (le.and nd).imp fun {a b} h => Nat.lt_of_le_of_ne h.1 h.2
/-! ### the counts of the letters, pair by pair -/
def pT (n t : Nat) (K : Nat) : Bool := decide (K % 2 ^ (n - 1 - t + 1) = 2 ^ (n - 1 - t))
theorem adj_snoc (p : Nat → Bool) (a b : Nat) : ∀ l : List Nat, adj p (l ++ [a, b]) = adj p (l ++ [a]) + (if decide (b = a + 1) && p b then 1 else 0)
  | [] => by
    show (if _ then 1 else 0) + 0 = 0 + _
    omega
  | [c] => by
    show (if _ then 1 else 0) + ((if _ then 1 else 0) + 0) = ((if _ then 1 else 0) + 0) + _
    omega
  | c :: d :: r => by
    have ih := adj_snoc p a b (d :: r)
    show (if _ then 1 else 0) + adj p (d :: r ++ [a, b]) = ((if _ then 1 else 0) + adj p (d :: r ++ [a])) + _
    rw [ih]
    omega
theorem adj_take (p : Nat → Bool) {ks : List Nat} {i a b : Nat} (ha : ks[i]? = some a) (hb : ks[i + 1]? = some b) : adj p (ks.take (i + 2)) = adj p (ks.take (i + 1)) + (if decide (b = a + 1) && p b then 1 else 0) := by
  have e1 : ks.take (i + 1) = ks.take i ++ [a] := by rw [List.take_succ, ha]; rfl
  have e2 : ks.take (i + 2) = ks.take i ++ [a, b] := by rw [List.take_succ, hb, e1, List.append_assoc]; rfl
  rw [e1, e2, adj_snoc]
def dueL (n : Nat) (ks : List Nat) (i : Nat) : List Int := (List.range n).map fun t => ((adj (pT n t) (ks.take (i + 1)) : Nat) : Int)
theorem dueL_len (n : Nat) (ks : List Nat) (i : Nat) : (dueL n ks i).length = n := by
  unfold dueL
  rw [List.length_map, List.length_range]
theorem dueL_get {n : Nat} (ks : List Nat) (i : Nat) {t : Nat} (ht : t < n) : (dueL n ks i)[t]? = some ((adj (pT n t) (ks.take (i + 1)) : Nat) : Int) := by
  unfold dueL
  rw [List.getElem?_map, List.getElem?_range ht]
  rfl
theorem dueL_start (n : Nat) (ks : List Nat) : dueL n ks 0 = List.replicate n 0 := by
  unfold dueL
  have e : ∀ p, adj p (ks.take 1) = 0 := by
    intro p
    cases ks with
    | nil => rfl
    | cons a r => rfl
  rw [show (fun t => ((adj (pT n t) (ks.take (0 + 1)) : Nat) : Int)) = fun _ => (0 : Int) by
    funext t
    rw [e]
    rfl]
  rw [List.map_const', List.length_range]
theorem dueL_no {n : Nat} {ks : List Nat} {i a b : Nat} (ha : ks[i]? = some a) (hb : ks[i + 1]? = some b) (h : b ≠ a + 1) : dueL n ks (i + 1) = dueL n ks i := by
  unfold dueL
  apply List.map_congr_left
  intro t _
  rw [adj_take _ ha hb, decide_eq_false h, Bool.false_and]
  rfl
theorem dueL_yes {n : Nat} {ks : List Nat} {i a b r : Nat} (ha : ks[i]? = some a) (hb : ks[i + 1]? = some b) (h : b = a + 1) (hr : b % 2 ^ (r + 1) = 2 ^ r) (hn : r < n) :
    (dueL n ks i).set (n - 1 - r) (((adj (pT n (n - 1 - r)) (ks.take (i + 1)) : Nat) : Int) + 1) = dueL n ks (i + 1) := by
  apply List.ext_getElem?
  intro t
  by_cases ht : t < n
  · rw [dueL_get ks (i + 1) ht, adj_take _ ha hb, decide_eq_true h, Bool.true_and, List.getElem?_set]
    by_cases e : n - 1 - r = t
    · subst e
      rw [if_pos rfl, if_pos (by rw [dueL_len]; exact ht)]
      have : pT n (n - 1 - r) b = true := by
        unfold pT
        rw [show n - 1 - (n - 1 - r) = r by omega]
        exact decide_eq_true hr
      rw [this, if_pos rfl]
      rfl
    · rw [if_neg e, dueL_get ks i ht]
      have : pT n t b = false := by
        unfold pT
        refine decide_eq_false fun z => e ?_
        have := rank_one hr z
        omega
      rw [this]
      rfl
  · rw [List.getElem?_eq_none (by rw [List.length_set, dueL_len]; omega), List.getElem?_eq_none (by rw [dueL_len]; omega)]
theorem pred_perm {ks ms : List Nat} (h : ks.Perm ms) (K : Nat) : pred ks K = pred ms K := pred_eq ⟨fun ⟨k, h1, h2⟩ => ⟨k, h.mem_iff.mp h1, h2⟩, fun ⟨k, h1, h2⟩ => ⟨k, h.mem_iff.mpr h1, h2⟩⟩
theorem adj_box {l : List Bool} {x1 y1 x2 y2 : Nat} (b : Bx l x1 y1 x2 y2) {ks : List Nat} (hs : ks.Pairwise (· < ·)) (hp : ks.Perm (boxN l x1 y1 (x2 + 1 - x1) (y2 + 1 - y1))) {t : Nat} (ht : t < l.length) :
    ((adj (pT l.length t) ks : Nat) : Int) = savI l[t] (nx (l.drop (t + 1))) (ny (l.drop (t + 1))) x1 y1 x2 y2 := by
  rw [adj_count _ ks hs, hp.countP_eq, ← sav_count b ht]
  congr 2
  funext K
  rw [pred_perm hp]
  rfl
theorem due_end {l : List Bool} {x1 y1 x2 y2 : Nat} (b : Bx l x1 y1 x2 y2) {ks : List Nat} (hs : ks.Pairwise (· < ·)) (hp : ks.Perm (boxN l x1 y1 (x2 + 1 - x1) (y2 + 1 - y1))) {i : Nat} (hi : ks.length ≤ i + 1) : dueL l.length ks i = savL l x1 y1 x2 y2 := by
  apply List.ext_getElem?
  intro t
  by_cases ht : t < l.length
  · rw [dueL_get ks i ht, List.take_of_length_le hi, adj_box b hs hp ht]
    unfold savL
    rw [List.getElem?_map, feetL_get l t ht]
    rfl
  · rw [List.getElem?_eq_none (by rw [dueL_len]; omega), List.getElem?_eq_none (by unfold savL; rw [List.length_map, feetL_len]; omega)]
theorem adj_le (p : Nat → Bool) : ∀ ks : List Nat, adj p ks ≤ ks.length
  | [] => Nat.le_refl _
  | [_] => Nat.zero_le _
  | a :: b :: r => by
    have := adj_le p (b :: r)
    rw [adj_cons2]
    rw [List.length_cons]
    split <;> omega
theorem ix_nat' {n j : Nat} (hj : j < n) : ixN n (j : Int) = some j := by
  unfold ixN
  rw [if_pos (by omega), if_pos (by omega), Int.toNat_natCast]
end Lk

set_option Elab.async false
set_option linter.all false
set_option maxRecDepth 100000
set_option maxHeartbeats 4000000
namespace Lk
open PySem PySem.Spec PyProof.Rows L2
/-! ### all letters together -/
theorem sum_ind : ∀ n m : Nat, ((List.range n).map fun t => if t = m then (1 : Int) else 0).sum = if m < n then 1 else 0
  | 0, m => by
    rw [if_neg (by omega)]
    rfl
  | n + 1, m => by
    rw [List.range_succ, List.map_append, List.sum_append, sum_ind n m, List.map_singleton, List.sum_singleton]
    by_cases h : m < n
    · rw [if_pos h, if_neg (by omega), if_pos (by omega)]
      rfl
    · rw [if_neg h]
      by_cases e : n = m
      · rw [if_pos e, if_pos (by omega)]
        rfl
      · rw [if_neg e, if_neg (by omega)]
        rfl
theorem pT_sum {n K : Nat} (h1 : 1 ≤ K) (h2 : K < 2 ^ n) : ((List.range n).map fun t => if pT n t K = true then (1 : Int) else 0).sum = 1 := by
  obtain ⟨r, hr1, hr2⟩ := rank_ex K h1
  have hrl : r < n := by
    rcases Nat.lt_or_ge r n with z | z
    · exact z
    · have := Nat.pow_le_pow_right (n := 2) (by decide) z
      omega
  have e : ((List.range n).map fun t => if pT n t K = true then (1 : Int) else 0) = (List.range n).map fun t => if t = n - 1 - r then (1 : Int) else 0 := by
    apply List.map_congr_left
    intro t ht
    have ht := List.mem_range.mp ht
    by_cases h : t = n - 1 - r
    · rw [if_pos h]
      unfold pT
      rw [if_pos (decide_eq_true (by rw [h, show n - 1 - (n - 1 - r) = r by omega]; exact hr1))]
    · rw [if_neg h, if_neg]
      intro z
      have := rank_one hr1 (of_decide_eq_true z)
      omega
  rw [e, sum_ind, if_pos (by omega)]
theorem map_sum_add (f g : Nat → Int) : ∀ l : List Nat, (l.map fun t => f t + g t).sum = (l.map f).sum + (l.map g).sum
  | [] => rfl
  | a :: r => by
    rw [List.map_cons, List.map_cons, List.map_cons, List.sum_cons, List.sum_cons, List.sum_cons, map_sum_add f g r]
    omega
theorem map_sum_zero : ∀ l : List Nat, (l.map fun _ => (0 : Int)).sum = 0
  | [] => rfl
  | a :: r => by
    rw [List.map_cons, List.sum_cons, map_sum_zero r]
    rfl
theorem adj_sum {n : Nat} : ∀ ks : List Nat, (∀ k ∈ ks, k < 2 ^ n) → ((List.range n).map fun t => ((adj (pT n t) ks : Nat) : Int)).sum = ((adj (fun _ => true) ks : Nat) : Int)
  | [], _ => map_sum_zero _
  | [_], _ => map_sum_zero _
  | a :: b :: r, h => by
    have ih := adj_sum (b :: r) fun k hk => h k (List.mem_cons_of_mem _ hk)
    have hb := h b (List.mem_cons_of_mem _ List.mem_cons_self)
    rw [adj_cons2]
    by_cases e : b = a + 1
    · have e1 : (fun t => ((adj (pT n t) (a :: b :: r) : Nat) : Int)) = fun t => (if pT n t b = true then (1 : Int) else 0) + ((adj (pT n t) (b :: r) : Nat) : Int) := by
        funext t
        rw [adj_cons2, decide_eq_true e, Bool.true_and]
        split <;> simp
      rw [e1, map_sum_add, pT_sum (by omega) hb, ih, decide_eq_true e]
      simp
    · have e1 : (fun t => ((adj (pT n t) (a :: b :: r) : Nat) : Int)) = fun t => ((adj (pT n t) (b :: r) : Nat) : Int) := by
        funext t
        rw [adj_cons2, decide_eq_false e, Bool.false_and]
        simp
      rw [e1, ih, decide_eq_false e]
      simp
theorem sav_sum {l : List Bool} {x1 y1 x2 y2 : Nat} (b : Bx l x1 y1 x2 y2) {ks : List Nat} (hs : ks.Pairwise (· < ·)) (hp : ks.Perm (boxN l x1 y1 (x2 + 1 - x1) (y2 + 1 - y1))) : (savL l x1 y1 x2 y2).sum = ((adj (fun _ => true) ks : Nat) : Int) := by
  rw [← due_end b hs hp (i := ks.length) (by omega)]
  unfold dueL
  rw [List.take_of_length_le (by omega)]
  refine adj_sum ks fun k hk => ?_
  obtain ⟨u, v, _, _, e⟩ := boxN_mem.mp (hp.mem_iff.mp hk)
  rw [← e]
  exact keyL_lt _ _ _
/-! ### the least and the greatest key -/
theorem z_one {A B : Nat} (h1 : A < B) (h2 : B < 2) : A = 0 ∧ B = 1 := ⟨by omega, by omega⟩
theorem key_mono : ∀ (l : List Bool) {x y x' y' : Nat}, x ≤ x' → y ≤ y' → x' < 2 ^ nx l → y' < 2 ^ ny l → keyL l x y ≤ keyL l x' y'
  | [], _, _, _, _, _, _, _, _ => Nat.le_refl _
  | true :: r, x, y, x', y', hx, hy, bx, by' => by
    rw [nx_t, Nat.pow_succ] at bx
    rw [ny_t] at by'
    have p := two_pos (nx r)
    have e1 := Nat.div_add_mod x (2 ^ nx r)
    have e2 := Nat.div_add_mod x' (2 ^ nx r)
    have m1 := Nat.mod_lt x p
    have m2 := Nat.mod_lt x' p
    have d1 : x / 2 ^ nx r ≤ x' / 2 ^ nx r := Nat.div_le_div_right hx
    have d2 : x' / 2 ^ nx r < 2 := Nat.div_lt_of_lt_mul bx
    show x / 2 ^ nx r % 2 * 2 ^ r.length + keyL r x y ≤ x' / 2 ^ nx r % 2 * 2 ^ r.length + keyL r x' y'
    rw [Nat.mod_eq_of_lt d2, Nat.mod_eq_of_lt (show x / 2 ^ nx r < 2 by omega)]
    have q := keyL_lt r x y
    rcases Nat.lt_or_ge (x / 2 ^ nx r) (x' / 2 ^ nx r) with z | z
    · obtain ⟨w1, w2⟩ := z_one z d2
      rw [w1, w2]
      omega
    · have z' : x / 2 ^ nx r = x' / 2 ^ nx r := by omega
      rw [z'] at e1 ⊢
      have := key_mono r (x := x % 2 ^ nx r) (y := y) (x' := x' % 2 ^ nx r) (y' := y') (by omega) hy m2 by'
      have k1 : keyL r (x % 2 ^ nx r) y = keyL r x y := by
        have := keyL_x r (x / 2 ^ nx r) (x % 2 ^ nx r) y (nx r) (Nat.le_refl _)
        rw [Nat.mul_comm, Nat.div_add_mod] at this
        exact this.symm
      have k2 : keyL r (x' % 2 ^ nx r) y' = keyL r x' y' := by
        have := keyL_x r (x' / 2 ^ nx r) (x' % 2 ^ nx r) y' (nx r) (Nat.le_refl _)
        rw [Nat.mul_comm, Nat.div_add_mod] at this
        exact this.symm
      omega
  | false :: r, x, y, x', y', hx, hy, bx, by' => by
    rw [ny_f, Nat.pow_succ] at by'
    rw [nx_f] at bx
    have p := two_pos (ny r)
    have e1 := Nat.div_add_mod y (2 ^ ny r)
    have e2 := Nat.div_add_mod y' (2 ^ ny r)
    have m1 := Nat.mod_lt y p
    have m2 := Nat.mod_lt y' p
    have d1 : y / 2 ^ ny r ≤ y' / 2 ^ ny r := Nat.div_le_div_right hy
    have d2 : y' / 2 ^ ny r < 2 := Nat.div_lt_of_lt_mul by'
    show y / 2 ^ ny r % 2 * 2 ^ r.length + keyL r x y ≤ y' / 2 ^ ny r % 2 * 2 ^ r.length + keyL r x' y'
    rw [Nat.mod_eq_of_lt d2, Nat.mod_eq_of_lt (show y / 2 ^ ny r < 2 by omega)]
    have q := keyL_lt r x y
    rcases Nat.lt_or_ge (y / 2 ^ ny r) (y' / 2 ^ ny r) with z | z
    · obtain ⟨w1, w2⟩ := z_one z d2
      rw [w1, w2]
      omega
    · have z' : y / 2 ^ ny r = y' / 2 ^ ny r := by omega
      rw [z'] at e1 ⊢
      have := key_mono r (x := x) (y := y % 2 ^ ny r) (x' := x') (y' := y' % 2 ^ ny r) hx (by omega) bx m2
      have k1 : keyL r x (y % 2 ^ ny r) = keyL r x y := by
        have := keyL_y r (y / 2 ^ ny r) x (y % 2 ^ ny r) (ny r) (Nat.le_refl _)
        rw [Nat.mul_comm, Nat.div_add_mod] at this
        exact this.symm
      have k2 : keyL r x' (y' % 2 ^ ny r) = keyL r x' y' := by
        have := keyL_y r (y' / 2 ^ ny r) x' (y' % 2 ^ ny r) (ny r) (Nat.le_refl _)
        rw [Nat.mul_comm, Nat.div_add_mod] at this
        exact this.symm
      omega
theorem least_key {l : List Bool} {x1 y1 x2 y2 : Nat} (b : Bx l x1 y1 x2 y2) {ks : List Nat} (hs : ks.Pairwise (· < ·)) (hp : ks.Perm (boxN l x1 y1 (x2 + 1 - x1) (y2 + 1 - y1))) : ks[0]? = some (keyL l x1 y1) := by
  obtain ⟨b1, b2, b3, b4⟩ := b
  have hm : keyL l x1 y1 ∈ ks := hp.mem_iff.mpr (boxN_mem.mpr ⟨0, 0, by omega, by omega, rfl⟩)
  cases ks with
  | nil => exact absurd hm List.not_mem_nil
  | cons a r =>
    obtain ⟨u, v, hu, hv, e⟩ := boxN_mem.mp (hp.mem_iff.mp List.mem_cons_self)
    have le := key_mono l (x := x1) (y := y1) (x' := x1 + u) (y' := y1 + v) (by omega) (by omega) (by omega) (by omega)
    rcases List.mem_cons.mp hm with z | z
    · rw [z]
      rfl
    · have := (List.pairwise_cons.mp hs).1 _ z
      omega
theorem last_max : ∀ (ks : List Nat) {m : Nat}, ks.Pairwise (· < ·) → m ∈ ks → (∀ k ∈ ks, k ≤ m) → ks[ks.length - 1]? = some m
  | [a], m, _, hm, _ => by
    rw [List.mem_singleton.mp hm]
    rfl
  | a :: b :: r, m, hs, hm, hle => by
    obtain ⟨h1, h2⟩ := List.pairwise_cons.mp hs
    have hb := hle b (List.mem_cons_of_mem _ List.mem_cons_self)
    have hab := h1 b List.mem_cons_self
    have hm2 : m ∈ b :: r := by
      rcases List.mem_cons.mp hm with z | z
      · omega
      · exact z
    exact last_max (b :: r) h2 hm2 fun k hk => hle k (List.mem_cons_of_mem _ hk)
theorem great_key {l : List Bool} {x1 y1 x2 y2 : Nat} (b : Bx l x1 y1 x2 y2) {ks : List Nat} (hs : ks.Pairwise (· < ·)) (hp : ks.Perm (boxN l x1 y1 (x2 + 1 - x1) (y2 + 1 - y1))) : ks[ks.length - 1]? = some (keyL l x2 y2) := by
  obtain ⟨b1, b2, b3, b4⟩ := b
  refine last_max ks hs (hp.mem_iff.mpr (boxN_mem.mpr ⟨x2 - x1, y2 - y1, by omega, by omega, by rw [show x1 + (x2 - x1) = x2 by omega, show y1 + (y2 - y1) = y2 by omega]⟩)) fun k hk => ?_
  obtain ⟨u, v, hu, hv, e⟩ := boxN_mem.mp (hp.mem_iff.mp hk)
  rw [← e]
  exact key_mono l (by omega) (by omega) b3 b4
/-! ### the whole grid -/
theorem adj_range (p : Nat → Bool) (hp : ∀ k, p k = true) : ∀ n a : Nat, adj p (List.range' a (n + 1)) = n
  | 0, _ => rfl
  | n + 1, a => by
    have ih := adj_range p hp n (a + 1)
    show (if decide (a + 1 = a + 1) && p (a + 1) then 1 else 0) + adj p (List.range' (a + 1) (n + 1)) = n + 1
    rw [ih, hp]
    simp
    omega
theorem whole_perm (l : List Bool) : (List.range' 0 (2 ^ l.length)).Perm (boxN l 0 0 (2 ^ nx l - 1 + 1 - 0) (2 ^ ny l - 1 + 1 - 0)) := by
  have px := two_pos (nx l)
  have py := two_pos (ny l)
  refine (List.perm_ext_iff_of_nodup List.nodup_range' (boxN_nodup (by omega) _ (by omega))).mpr fun K => ?_
  rw [boxN_mem]
  constructor
  · intro hK
    have hlt : K < 2 ^ l.length := by
      have := List.mem_range'.mp hK
      obtain ⟨i, h1, h2⟩ := this
      omega
    refine ⟨xOf l K, yOf l K, by have := xOf_lt l K; omega, by have := yOf_lt l K; omega, ?_⟩
    rw [Nat.zero_add, Nat.zero_add, keyL_cell, Nat.mod_eq_of_lt hlt]
  · rintro ⟨u, v, _, _, e⟩
    rw [← e]
    exact List.mem_range'.mpr ⟨keyL l (0 + u) (0 + v), keyL_lt l _ _, by omega⟩
theorem whole_box (l : List Bool) : Bx l 0 0 (2 ^ nx l - 1) (2 ^ ny l - 1) := by
  have px := two_pos (nx l)
  have py := two_pos (ny l)
  exact ⟨by omega, by omega, by omega, by omega⟩
theorem whole_runs (l : List Bool) : (((2 ^ nx l - 1 + 1 - 0) * (2 ^ ny l - 1 + 1 - 0) : Nat) : Int) - (savL l 0 0 (2 ^ nx l - 1) (2 ^ ny l - 1)).sum = 1 := by
  have hp := whole_perm l
  have hs : (List.range' 0 (2 ^ l.length)).Pairwise (· < ·) := List.pairwise_lt_range'
  have px := two_pos (nx l)
  have py := two_pos (ny l)
  have pl := two_pos l.length
  rw [sav_sum (whole_box l) hs hp]
  obtain ⟨m, hm⟩ : ∃ m, 2 ^ l.length = m + 1 := ⟨2 ^ l.length - 1, by omega⟩
  rw [hm, adj_range _ (fun _ => rfl)]
  have : (2 ^ nx l - 1 + 1 - 0) * (2 ^ ny l - 1 + 1 - 0) = m + 1 := by
    rw [show 2 ^ nx l - 1 + 1 - 0 = 2 ^ nx l by omega, show 2 ^ ny l - 1 + 1 - 0 = 2 ^ ny l by omega, ← Nat.pow_add, nxy, hm]
  rw [this]
  omega
/-! ### stretches -/
theorem adj_all_take {ks : List Nat} {i a b : Nat} (ha : ks[i]? = some a) (hb : ks[i + 1]? = some b) : adj (fun _ => true) (ks.take (i + 2)) = adj (fun _ => true) (ks.take (i + 1)) + (if b = a + 1 then 1 else 0) := by
  rw [adj_take _ ha hb]
  simp
theorem shaped_pairs (ps : List (Int × Int)) (h : ∀ p ∈ ps, p.1.natAbs < 2 ^ 1000 ∧ p.2.natAbs < 2 ^ 1000) : SeqAt.shaped (.list (ps.map fun p => .tuple [.int p.1, .int p.2])) = true := by
  have key : ∀ ps : List (Int × Int), (∀ p ∈ ps, p.1.natAbs < 2 ^ 1000 ∧ p.2.natAbs < 2 ^ 1000) → PyData.canLayAll0 (ps.map fun p => .tuple [.int p.1, .int p.2]) = true ∧ PyData.depthAll (ps.map fun p => .tuple [.int p.1, .int p.2]) ≤ 1 := by
    intro ps
    induction ps with
    | nil =>
      intro _
      simp [PyData.canLayAll0, PyData.depthAll]
    | cons p r ih =>
      intro h
      obtain ⟨i1, i2⟩ := ih fun q hq => h q (List.mem_cons_of_mem _ hq)
      have hs := shaped_tup (ds := [.int p.1, .int p.2]) (allc (h p List.mem_cons_self).1 (all1 (h p List.mem_cons_self).2))
      unfold SeqAt.shaped at hs
      have hc := (Bool.and_eq_true_iff.mp hs).1
      constructor
      · rw [List.map_cons]
        simp only [PyData.canLayAll0, hc, i1, Bool.and_self]
      · rw [List.map_cons]
        simp only [PyData.depthAll, PyData.depth]
        omega
  obtain ⟨k1, k2⟩ := key ps h
  unfold SeqAt.shaped
  rw [Bool.and_eq_true]
  refine ⟨by simpa only [PyData.canLay0] using k1, decide_eq_true ?_⟩
  simp only [PyData.depth]
  omega
/-! ### pairs as they stand -/
def TupsAt (H : Hp) : List Addr → List (Int × Int) → Prop
  | [], [] => True
  | t :: ts, p :: ps => H t = some (.tup [.int p.1, .int p.2]) ∧ TupsAt H ts ps
  | _, _ => False
theorem TupsAt.imp {H H' : Hp} (e : ∀ t a b, H t = some (.tup [.int a, .int b]) → H' t = some (.tup [.int a, .int b])) : ∀ {ts : List Addr} {ps : List (Int × Int)}, TupsAt H ts ps → TupsAt H' ts ps
  | [], [], _ => True.intro
  | t :: ts, p :: ps, h => ⟨e _ _ _ h.1, TupsAt.imp e h.2⟩
  | [], _ :: _, h => h.elim
  | _ :: _, [], h => h.elim
theorem TupsAt.snoc {H : Hp} {t : Addr} {p : Int × Int} (ht : H t = some (.tup [.int p.1, .int p.2])) : ∀ {ts : List Addr} {ps : List (Int × Int)}, TupsAt H ts ps → TupsAt H (ts ++ [t]) (ps ++ [p])
  | [], [], _ => ⟨ht, True.intro⟩
  | _ :: _, _ :: _, h => ⟨h.1, TupsAt.snoc ht h.2⟩
  | [], _ :: _, h => h.elim
  | _ :: _, [], h => h.elim
theorem TupsAt.len {H : Hp} : ∀ {ts : List Addr} {ps : List (Int × Int)}, TupsAt H ts ps → ts.length = ps.length
  | [], [], _ => rfl
  | _ :: _, _ :: _, h => congrArg (· + 1) (TupsAt.len h.2)
  | [], _ :: _, h => h.elim
  | _ :: _, [], h => h.elim
theorem TupsAt.dp {K : PySem.W.Frag} {H : Hp} : ∀ {ts : List Addr} {ps : List (Int × Int)}, TupsAt H ts ps → DpAll K H (ts.map V.ref) (ps.map fun p => .tuple [.int p.1, .int p.2])
  | [], [], _ => .nil
  | _ :: _, _ :: _, h => .cons (Dp.tup (SqT.of h.1) (.cons (.int _) (.cons (.int _) .nil))) (TupsAt.dp h.2)
  | [], _ :: _, h => h.elim
  | _ :: _, [], h => h.elim
theorem ix_last {n : Nat} : ixN (n + 1) (-1) = some n := by
  unfold ixN
  rw [if_neg (by decide), if_pos (by omega)]
  congr 1
  omega
theorem at_last {xs : List V} {v : V} : atI (xs ++ [v]) (-1) = some v := by
  unfold atI
  rw [List.length_append, List.length_singleton, ix_last]
  show (xs ++ [v])[xs.length]? = some v
  simp
theorem set_last {xs : List V} {v w : V} : (xs ++ [v]).set xs.length w = xs ++ [w] := by
  rw [List.set_append_right _ _ (Nat.le_refl _), Nat.sub_self]
  rfl
theorem eqv_nil {ps : List (Int × Int)} {p : Int × Int} : PyData.eqv (.list ((ps ++ [p]).map fun p => .tuple [.int p.1, .int p.2])) (.list []) = false := by
  cases ps with
  | nil => simp [PyData.eqv, PyData.eqvAll]
  | cons q r => simp [PyData.eqv, PyData.eqvAll]
end Lk

set_option Elab.async false
set_option linter.all false
set_option maxRecDepth 100000
set_option maxHeartbeats 4000000
namespace Lk
open PySem PySem.Spec PyProof.Rows L2
/-! ### any box: its keys in order, its runs -/
def sortB (l : List Bool) (x1 y1 x2 y2 : Nat) : List Nat := (List.range' 0 (2 ^ l.length)).filter fun k => (boxN l x1 y1 (x2 + 1 - x1) (y2 + 1 - y1)).contains k
theorem sortB_lt (l : List Bool) (x1 y1 x2 y2 : Nat) : (sortB l x1 y1 x2 y2).Pairwise (· < ·) := List.Pairwise.filter _ List.pairwise_lt_range'
theorem sortB_perm {l : List Bool} {x1 y1 x2 y2 : Nat} (b : Bx l x1 y1 x2 y2) : (sortB l x1 y1 x2 y2).Perm (boxN l x1 y1 (x2 + 1 - x1) (y2 + 1 - y1)) := by
  obtain ⟨b1, b2, b3, b4⟩ := b
  refine (List.perm_ext_iff_of_nodup (List.Pairwise.filter _ List.nodup_range') (boxN_nodup (by omega) _ (by omega))).mpr fun K => ?_
  rw [List.mem_filter, List.contains_iff_mem]
  constructor
  · exact fun h => h.2
  · intro h
    refine ⟨?_, h⟩
    obtain ⟨u, v, _, _, e⟩ := boxN_mem.mp h
    rw [← e]
    exact List.mem_range'.mpr ⟨_, keyL_lt l (x1 + u) (y1 + v), by omega⟩
def runsZ (l : List Bool) (x1 y1 x2 y2 : Nat) : Int := (((x2 + 1 - x1) * (y2 + 1 - y1) : Nat) : Int) - (savL l x1 y1 x2 y2).sum
theorem adj_lt (p : Nat → Bool) : ∀ ks : List Nat, ks ≠ [] → adj p ks < ks.length
  | [], h => absurd rfl h
  | [_], _ => Nat.zero_lt_one
  | a :: b :: r, _ => by
    have := adj_lt p (b :: r) (by simp)
    rw [adj_cons2, List.length_cons]
    split <;> omega
/-- how many cells of the box have a neighbour before them in the box -/
def nb (l : List Bool) (x1 y1 x2 y2 : Nat) : Nat := (boxN l x1 y1 (x2 + 1 - x1) (y2 + 1 - y1)).countP fun K => pred (boxN l x1 y1 (x2 + 1 - x1) (y2 + 1 - y1)) K
theorem nb_adj {l : List Bool} {x1 y1 x2 y2 : Nat} (b : Bx l x1 y1 x2 y2) : adj (fun _ => true) (sortB l x1 y1 x2 y2) = nb l x1 y1 x2 y2 := by
  rw [adj_count _ _ (sortB_lt l x1 y1 x2 y2), (sortB_perm b).countP_eq]
  unfold nb
  congr 1
  funext K
  rw [pred_perm (sortB_perm b), Bool.and_true]
theorem runs_nb {l : List Bool} {x1 y1 x2 y2 : Nat} (b : Bx l x1 y1 x2 y2) : runsZ l x1 y1 x2 y2 = (((x2 + 1 - x1) * (y2 + 1 - y1) : Nat) : Int) - ((nb l x1 y1 x2 y2 : Nat) : Int) := by
  unfold runsZ
  rw [sav_sum b (sortB_lt l x1 y1 x2 y2) (sortB_perm b), nb_adj b]
theorem runs_between {l : List Bool} {x1 y1 x2 y2 : Nat} (b : Bx l x1 y1 x2 y2) : 1 ≤ runsZ l x1 y1 x2 y2 ∧ runsZ l x1 y1 x2 y2 ≤ (((x2 + 1 - x1) * (y2 + 1 - y1) : Nat) : Int) := by
  rw [runs_nb b, ← nb_adj b]
  have hl : (sortB l x1 y1 x2 y2).length = (x2 + 1 - x1) * (y2 + 1 - y1) := by rw [(sortB_perm b).length_eq, boxN_len]
  have pos : 0 < (x2 + 1 - x1) * (y2 + 1 - y1) := Nat.mul_pos (by have := b.x; omega) (by have := b.y; omega)
  have := adj_lt (fun _ => true) (sortB l x1 y1 x2 y2) (fun z => by rw [z] at hl; simp at hl; omega)
  omega
/-! ### a box cut in two -/
theorem boxN_add (l : List Bool) (x1 y1 h a : Nat) : ∀ c, boxN l x1 y1 (a + c) h = boxN l x1 y1 a h ++ boxN l (x1 + a) y1 c h
  | 0 => by
    show boxN l x1 y1 a h = boxN l x1 y1 a h ++ []
    rw [List.append_nil]
  | c + 1 => by rw [← Nat.add_assoc, boxN_succ, boxN_add l x1 y1 h a c, boxN_succ, List.append_assoc, Nat.add_assoc]
theorem pred_app (ks ms : List Nat) (K : Nat) : pred (ks ++ ms) K = (pred ks K || pred ms K) := by
  unfold pred
  rw [List.any_append]
theorem countP_or (p q : Nat → Bool) : ∀ l : List Nat, l.countP (fun k => p k || q k) ≤ l.countP p + l.countP q
  | [] => Nat.le_refl _
  | a :: r => by
    have := countP_or p q r
    rw [List.countP_cons, List.countP_cons, List.countP_cons]
    cases p a <;> cases q a <;> simp <;> omega
theorem countP_orl (p q : Nat → Bool) : ∀ l : List Nat, l.countP p ≤ l.countP (fun k => p k || q k)
  | [] => Nat.le_refl _
  | a :: r => by
    have := countP_orl p q r
    rw [List.countP_cons, List.countP_cons]
    cases p a <;> cases q a <;> simp <;> omega
theorem nodup_le : ∀ (n : Nat) (l : List Nat), l.Nodup → (∀ x ∈ l, x < n) → l.length ≤ n
  | 0, l, _, h => by
    cases l with
    | nil => exact Nat.le_refl _
    | cons a r => exact absurd (h a List.mem_cons_self) (Nat.not_lt_zero _)
  | n + 1, l, hd, h => by
    have ih := nodup_le n (l.filter fun x => decide (x ≠ n)) (List.Pairwise.filter _ hd) (fun x hx => by
      obtain ⟨h1, h2⟩ := List.mem_filter.mp hx
      have := h x h1
      have := of_decide_eq_true h2
      omega)
    have hc : l.count n ≤ 1 := List.nodup_iff_count.mp hd n
    have e1 := List.length_eq_countP_add_countP (p := fun x => decide (x ≠ n)) (l := l)
    rw [← List.countP_eq_length_filter] at ih
    have e2 : l.countP (fun x => ¬ decide (x ≠ n)) = l.count n := by
      unfold List.count
      apply List.countP_congr
      intro x _
      simp
    omega
/-- a count of keys that y tells apart -/
theorem count_le_h {l : List Bool} {x1 y1 w h : Nat} {p : Nat → Bool} (hx : x1 + w ≤ 2 ^ nx l) (hy : y1 + h ≤ 2 ^ ny l)
    (inj : ∀ x y x' : Nat, x1 ≤ x → x < x1 + w → x1 ≤ x' → x' < x1 + w → y1 ≤ y → y < y1 + h → p (keyL l x y) = true → p (keyL l x' y) = true → x = x') : (boxN l x1 y1 w h).countP p ≤ h := by
  rw [List.countP_eq_length_filter, ← List.length_map (f := fun K => yOf l K - y1)]
  refine nodup_le h _ ?_ ?_
  · refine List.pairwise_map.mpr ?_
    refine List.Pairwise.imp_of_mem (R := (· ≠ ·)) (fun {a b} ha hb hne e => hne ?_) (List.Pairwise.filter _ (boxN_nodup hy w hx))
    obtain ⟨ha1, ha2⟩ := List.mem_filter.mp ha
    obtain ⟨hb1, hb2⟩ := List.mem_filter.mp hb
    obtain ⟨u, v, hu, hv, ea⟩ := boxN_mem.mp ha1
    obtain ⟨u', v', hu', hv', eb⟩ := boxN_mem.mp hb1
    have e : yOf l a - y1 = yOf l b - y1 := e
    rw [← ea, ← eb, yOf_key, yOf_key, Nat.mod_eq_of_lt (by omega), Nat.mod_eq_of_lt (by omega)] at e
    have hvv : v = v' := by omega
    subst hvv
    rw [← ea] at ha2
    rw [← eb] at hb2
    have := inj (x1 + u) (y1 + v) (x1 + u') (by omega) (by omega) (by omega) (by omega) (by omega) (by omega) ha2 hb2
    rw [← ea, ← eb, this]
  · intro z hz
    obtain ⟨K, hK, rfl⟩ := List.mem_map.mp hz
    obtain ⟨u, v, hu, hv, e⟩ := boxN_mem.mp (List.mem_filter.mp hK).1
    rw [← e, yOf_key, Nat.mod_eq_of_lt (by omega)]
    omega
theorem ylet_one {l : List Bool} {t t' : Nat} (h : t < l.length) (h' : t' < l.length) (e : l[t] = false) (e' : l[t'] = false) (n : ny (l.drop (t + 1)) = ny (l.drop (t' + 1))) : t = t' := by
  have key : ∀ t t' : Nat, ∀ (h : t < l.length) (h' : t' < l.length), l[t'] = false → t < t' → ny (l.drop (t' + 1)) < ny (l.drop (t + 1)) := by
    intro t t' h h' e' lt
    have hl : t' - (t + 1) < (l.drop (t + 1)).length := by rw [List.length_drop]; omega
    have := ny_drop_lt (l := l.drop (t + 1)) (j := t' - (t + 1)) hl (by rw [List.getElem_drop]; rw [← e']; congr 1; omega)
    rw [List.drop_drop, show t + 1 + (t' - (t + 1) + 1) = t' + 1 by omega] at this
    exact this
  rcases Nat.lt_trichotomy t t' with z | z | z
  · have := key t t' h h' e' z
    omega
  · exact z
  · have := key t' t h' h e z
    omega
/-- where the cell of the key before lies -/
theorem prev_cell {l : List Bool} {x y x' y' : Nat} (hx : x < 2 ^ nx l) (hy : y < 2 ^ ny l) (hx' : x' < 2 ^ nx l) (hy' : y' < 2 ^ ny l) (h : keyL l x' y' + 1 = keyL l x y) :
    x' + 1 = x ∨ ∃ (t : Nat) (ht : t < l.length), l[t] = false ∧ y % 2 ^ (ny (l.drop (t + 1)) + 1) = 2 ^ ny (l.drop (t + 1)) ∧ x % 2 ^ nx (l.drop (t + 1)) = 0 ∧ x' + 1 = x + 2 ^ nx (l.drop (t + 1)) := by
  obtain ⟨r, hr1, hr2⟩ := rank_ex (keyL l x y) (by omega)
  have lt := keyL_lt l x y
  have hrl : r < l.length := by
    rcases Nat.lt_or_ge r l.length with z | z
    · exact z
    · have := Nat.pow_le_pow_right (n := 2) (by decide) z
      omega
  have ht : l.length - 1 - r < l.length := by omega
  have sp : l = l.take (l.length - 1 - r) ++ l[l.length - 1 - r] :: l.drop (l.length - 1 - r + 1) := by rw [← List.drop_eq_getElem_cons ht, List.take_append_drop]
  have ls : (l.drop (l.length - 1 - r + 1)).length = r := by rw [List.length_drop]; omega
  cases hc : l[l.length - 1 - r] with
  | true =>
    rw [hc] at sp
    generalize l.take (l.length - 1 - r) = pre at sp
    generalize l.drop (l.length - 1 - r + 1) = suf at sp ls
    have hr : keyL (pre ++ true :: suf) x y % 2 ^ (suf.length + 1) = 2 ^ suf.length := by rw [← sp, ls]; exact hr1
    obtain ⟨a1, a2⟩ := rank_x pre suf hr
    obtain ⟨_, a3⟩ := pre_x pre suf a1 a2
    rw [← sp] at a3
    have x1 := (odd_pre a1).1
    have p := two_pos (ny suf)
    have hyl : y + 2 ^ ny suf - 1 < 2 ^ ny l := by
      have := (mul_post a2).1
      have e3 : ny l = ny pre + ny suf := by rw [sp, ny_app, ny_t]
      rw [e3, Nat.pow_add, Nat.mul_comm]
      refine (Nat.div_lt_iff_lt_mul p).mp ?_ |> fun h => by rw [Nat.mul_comm]; exact h
      rw [this]
      refine Nat.div_lt_of_lt_mul ?_
      rw [Nat.mul_comm, ← Nat.pow_add, ← e3]
      omega
    obtain ⟨z1, z2⟩ := key_inj (l := l) (x := x') (y := y') (x' := x - 1) (y' := y + 2 ^ ny suf - 1) hx' hy' (by omega) hyl (by omega)
    exact .inl (by omega)
  | false =>
    refine .inr ⟨l.length - 1 - r, ht, hc, ?_⟩
    rw [hc] at sp
    generalize l.take (l.length - 1 - r) = pre at sp
    generalize l.drop (l.length - 1 - r + 1) = suf at sp ls
    have hr : keyL (pre ++ false :: suf) x y % 2 ^ (suf.length + 1) = 2 ^ suf.length := by rw [← sp, ls]; exact hr1
    obtain ⟨a1, a2⟩ := rank_y pre suf hr
    obtain ⟨_, a3⟩ := pre_y pre suf a1 a2
    rw [← sp] at a3
    have y1 := (odd_pre a1).1
    have p := two_pos (nx suf)
    have hxl : x + 2 ^ nx suf - 1 < 2 ^ nx l := by
      have := (mul_post a2).1
      have e3 : nx l = nx pre + nx suf := by rw [sp, nx_app, nx_f]
      rw [e3, Nat.pow_add, Nat.mul_comm]
      refine (Nat.div_lt_iff_lt_mul p).mp ?_ |> fun h => by rw [Nat.mul_comm]; exact h
      rw [this]
      refine Nat.div_lt_of_lt_mul ?_
      rw [Nat.mul_comm, ← Nat.pow_add, ← e3]
      omega
    obtain ⟨z1, z2⟩ := key_inj (l := l) (x := x') (y := y') (x' := x + 2 ^ nx suf - 1) (y' := y - 1) hx' hy' hxl (by omega) (by omega)
    exact ⟨a1, a2, by omega⟩
theorem mul_in {x m i : Nat} (h : x % 2 ^ i = 0) (h1 : x ≤ m) (h2 : m < x + 2 ^ i) : x = 2 ^ i * (m / 2 ^ i) := by
  have p := two_pos i
  have e := Nat.div_add_mod x (2 ^ i)
  rw [h, Nat.add_zero] at e
  have q : m / 2 ^ i = x / 2 ^ i := by
    have e2 : m = 2 ^ i * (x / 2 ^ i) + (m - x) := by omega
    rw [e2, Nat.mul_add_div p, Nat.div_eq_of_lt (show m - x < 2 ^ i by omega), Nat.add_zero]
  rw [q]
  exact e.symm
theorem cut_runs {l : List Bool} {x1 y1 x2 y2 m : Nat} (b : Bx l x1 y1 x2 y2) (hm1 : x1 ≤ m) (hm2 : m < x2) :
    runsZ l x1 y1 x2 y2 ≤ runsZ l x1 y1 m y2 + runsZ l (m + 1) y1 x2 y2 ∧ runsZ l x1 y1 m y2 + runsZ l (m + 1) y1 x2 y2 ≤ runsZ l x1 y1 x2 y2 + 2 * ((y2 : Int) - (y1 : Int) + 1) := by
  obtain ⟨b1, b2, b3, b4⟩ := id b
  have bL : Bx l x1 y1 m y2 := ⟨hm1, b2, by omega, b4⟩
  have bR : Bx l (m + 1) y1 x2 y2 := ⟨by omega, b2, b3, b4⟩
  rw [runs_nb b, runs_nb bL, runs_nb bR]
  have ew : x2 + 1 - x1 = (m + 1 - x1) + (x2 + 1 - (m + 1)) := by omega
  have ea : (x2 + 1 - x1) * (y2 + 1 - y1) = (m + 1 - x1) * (y2 + 1 - y1) + (x2 + 1 - (m + 1)) * (y2 + 1 - y1) := by rw [ew, Nat.add_mul]
  have eb : boxN l x1 y1 (x2 + 1 - x1) (y2 + 1 - y1) = boxN l x1 y1 (m + 1 - x1) (y2 + 1 - y1) ++ boxN l (m + 1) y1 (x2 + 1 - (m + 1)) (y2 + 1 - y1) := by
    rw [ew, boxN_add, show x1 + (m + 1 - x1) = m + 1 by omega]
  have en : nb l x1 y1 x2 y2 = (boxN l x1 y1 (m + 1 - x1) (y2 + 1 - y1)).countP (fun K => pred (boxN l x1 y1 (m + 1 - x1) (y2 + 1 - y1)) K || pred (boxN l (m + 1) y1 (x2 + 1 - (m + 1)) (y2 + 1 - y1)) K) + (boxN l (m + 1) y1 (x2 + 1 - (m + 1)) (y2 + 1 - y1)).countP (fun K => pred (boxN l (m + 1) y1 (x2 + 1 - (m + 1)) (y2 + 1 - y1)) K || pred (boxN l x1 y1 (m + 1 - x1) (y2 + 1 - y1)) K) := by
    unfold nb
    rw [eb, List.countP_append]
    congr 1
    · congr 1
      funext K
      exact pred_app _ _ K
    · congr 1
      funext K
      rw [pred_app, Bool.or_comm]
  have nL : nb l x1 y1 m y2 = (boxN l x1 y1 (m + 1 - x1) (y2 + 1 - y1)).countP (pred (boxN l x1 y1 (m + 1 - x1) (y2 + 1 - y1))) := rfl
  have nR : nb l (m + 1) y1 x2 y2 = (boxN l (m + 1) y1 (x2 + 1 - (m + 1)) (y2 + 1 - y1)).countP (pred (boxN l (m + 1) y1 (x2 + 1 - (m + 1)) (y2 + 1 - y1))) := rfl
  have l1 := countP_orl (pred (boxN l x1 y1 (m + 1 - x1) (y2 + 1 - y1))) (pred (boxN l (m + 1) y1 (x2 + 1 - (m + 1)) (y2 + 1 - y1))) (boxN l x1 y1 (m + 1 - x1) (y2 + 1 - y1))
  have l2 := countP_orl (pred (boxN l (m + 1) y1 (x2 + 1 - (m + 1)) (y2 + 1 - y1))) (pred (boxN l x1 y1 (m + 1 - x1) (y2 + 1 - y1))) (boxN l (m + 1) y1 (x2 + 1 - (m + 1)) (y2 + 1 - y1))
  have u1 := countP_or (pred (boxN l x1 y1 (m + 1 - x1) (y2 + 1 - y1))) (pred (boxN l (m + 1) y1 (x2 + 1 - (m + 1)) (y2 + 1 - y1))) (boxN l x1 y1 (m + 1 - x1) (y2 + 1 - y1))
  have u2 := countP_or (pred (boxN l (m + 1) y1 (x2 + 1 - (m + 1)) (y2 + 1 - y1))) (pred (boxN l x1 y1 (m + 1 - x1) (y2 + 1 - y1))) (boxN l (m + 1) y1 (x2 + 1 - (m + 1)) (y2 + 1 - y1))
  have c1 : (boxN l x1 y1 (m + 1 - x1) (y2 + 1 - y1)).countP (pred (boxN l (m + 1) y1 (x2 + 1 - (m + 1)) (y2 + 1 - y1))) ≤ y2 + 1 - y1 := by
    refine count_le_h (by omega) (by omega) fun x y z hx1 hx2 hz1 hz2 hy1 hy2 hp hq => ?_
    obtain ⟨k, hk, ek⟩ := pred_iff.mp hp
    obtain ⟨k', hk', ek'⟩ := pred_iff.mp hq
    obtain ⟨u, v, hu, hv, e⟩ := boxN_mem.mp hk
    obtain ⟨u', v', hu', hv', e'⟩ := boxN_mem.mp hk'
    rcases prev_cell (l := l) (x := x) (y := y) (x' := m + 1 + u) (y' := y1 + v) (by omega) (by omega) (by omega) (by omega) (by omega) with q1 | ⟨t, ht, q2, q3, q4, q5⟩
    · omega
    rcases prev_cell (l := l) (x := z) (y := y) (x' := m + 1 + u') (y' := y1 + v') (by omega) (by omega) (by omega) (by omega) (by omega) with w1 | ⟨t', ht', w2, w3, w4, w5⟩
    · omega
    have tt := ylet_one ht ht' q2 w2 (rank_one q3 w3)
    subst tt
    rw [mul_in (m := m) q4 (by omega) (by omega), mul_in (m := m) w4 (by omega) (by omega)]
  have c2 : (boxN l (m + 1) y1 (x2 + 1 - (m + 1)) (y2 + 1 - y1)).countP (pred (boxN l x1 y1 (m + 1 - x1) (y2 + 1 - y1))) ≤ y2 + 1 - y1 := by
    refine count_le_h (by omega) (by omega) fun x y z hx1 hx2 hz1 hz2 hy1 hy2 hp hq => ?_
    obtain ⟨k, hk, ek⟩ := pred_iff.mp hp
    obtain ⟨k', hk', ek'⟩ := pred_iff.mp hq
    obtain ⟨u, v, hu, hv, e⟩ := boxN_mem.mp hk
    obtain ⟨u', v', hu', hv', e'⟩ := boxN_mem.mp hk'
    rcases prev_cell (l := l) (x := x) (y := y) (x' := x1 + u) (y' := y1 + v) (by omega) (by omega) (by omega) (by omega) (by omega) with q1 | ⟨t, ht, q2, q3, q4, q5⟩
    · rcases prev_cell (l := l) (x := z) (y := y) (x' := x1 + u') (y' := y1 + v') (by omega) (by omega) (by omega) (by omega) (by omega) with w1 | ⟨t', ht', w2, w3, w4, w5⟩
      · omega
      · have := two_pos (nx (l.drop (t' + 1)))
        omega
    · have := two_pos (nx (l.drop (t + 1)))
      omega
  omega
/-! ### rows and columns -/
def savS (l : List Bool) (x1 y1 x2 y2 : Nat) : Int := (savL l x1 y1 x2 y2).sum
theorem savS_cons (b : Bool) (r : List Bool) (x1 y1 x2 y2 : Nat) : savS (b :: r) x1 y1 x2 y2 = savI b (nx r) (ny r) x1 y1 x2 y2 + savS r x1 y1 x2 y2 := by
  unfold savS savL
  show ((savI b (nx r) (ny r) x1 y1 x2 y2) :: (feetL r).map _).sum = _
  rw [List.sum_cons]
theorem span_zero {y1 y2 : Nat} (h : y1 ≤ y2) : spanI 0 y1 y2 = (y2 : Int) + 1 - (y1 : Int) := by
  unfold spanI cmI
  rw [Int.pow_zero, if_neg (by omega), Int.ediv_one, Int.ediv_one]
  omega
/-- the multiples of 2 ^ n behind x1, up to x2 -/
theorem bord_cm {x1 x2 : Nat} (n : Nat) : bordI n x1 x2 = cmI n ((x1 : Int) + 1) x2 - cmI (n + 1) ((x1 : Int) + 1) x2 := rfl
theorem cm_zero {x1 x2 : Nat} (h : x1 ≤ x2) : cmI 0 ((x1 : Int) + 1) x2 = (x2 : Int) - (x1 : Int) := by
  unfold cmI
  by_cases e : (x2 : Int) < (x1 : Int) + 1
  · rw [if_pos e]
    omega
  · rw [if_neg e, Int.pow_zero, Int.ediv_one, Int.ediv_one]
    omega
theorem cm_none {x1 x2 n : Nat} (h : x1 ≤ x2) (hx : x2 < 2 ^ n) : cmI n ((x1 : Int) + 1) x2 = 0 := by
  unfold cmI
  by_cases e : (x2 : Int) < (x1 : Int) + 1
  · rw [if_pos e]
  · rw [if_neg e, show (x1 : Int) + 1 - 1 = (x1 : Int) by omega]
    have cp : ((2 : Int) ^ n) = ((2 ^ n : Nat) : Int) := by rw [Int.natCast_pow]; rfl
    rw [cp]
    have e1 : ((x2 : Nat) : Int) / ((2 ^ n : Nat) : Int) = ((x2 / 2 ^ n : Nat) : Int) := divNat _ _
    have e2 : ((x1 : Nat) : Int) / ((2 ^ n : Nat) : Int) = ((x1 / 2 ^ n : Nat) : Int) := divNat _ _
    rw [e1, e2, Nat.div_eq_of_lt hx, Nat.div_eq_of_lt (by omega)]
    rfl
theorem savS_xs {x1 y1 x2 y2 : Nat} (h1 : x1 ≤ x2) (h2 : y1 ≤ y2) : ∀ n : Nat, savS (List.replicate n true) x1 y1 x2 y2 = (cmI 0 ((x1 : Int) + 1) x2 - cmI n ((x1 : Int) + 1) x2) * ((y2 : Int) + 1 - (y1 : Int))
  | 0 => by
    rw [Int.sub_self, Int.zero_mul]
    rfl
  | n + 1 => by
    rw [List.replicate_succ, savS_cons, savS_xs h1 h2 n, nx_rt, ny_rt]
    unfold savI
    rw [if_pos rfl, bord_cm, span_zero h2, ← Int.add_mul]
    congr 1
    omega
theorem savS_ys {x1 y1 x2 y2 : Nat} (h1 : x1 ≤ x2) (h2 : y1 ≤ y2) : ∀ n : Nat, savS (List.replicate n false) x1 y1 x2 y2 = (cmI 0 ((y1 : Int) + 1) y2 - cmI n ((y1 : Int) + 1) y2) * ((x2 : Int) + 1 - (x1 : Int))
  | 0 => by
    rw [Int.sub_self, Int.zero_mul]
    rfl
  | n + 1 => by
    rw [List.replicate_succ, savS_cons, savS_ys h1 h2 n, nx_rf, ny_rf]
    unfold savI
    rw [if_neg (by decide), bord_cm, span_zero h1, ← Int.add_mul]
    congr 1
    omega
theorem savS_rows {x1 y1 x2 y2 : Nat} (h1 : x1 ≤ x2) (h2 : y1 ≤ y2) (n : Nat) : ∀ m : Nat, savS (rowsL n m) x1 y1 x2 y2 = (cmI 0 ((y1 : Int) + 1) y2 - cmI m ((y1 : Int) + 1) y2) * spanI n x1 x2 + savS (List.replicate n true) x1 y1 x2 y2
  | 0 => by
    show savS (List.replicate n true) x1 y1 x2 y2 = _
    rw [Int.sub_self, Int.zero_mul, Int.zero_add]
  | m + 1 => by
    have ih := savS_rows h1 h2 n m
    have e : rowsL n (m + 1) = false :: rowsL n m := rfl
    rw [e, savS_cons, ih, nx_rows, ny_rows]
    unfold savI
    rw [if_neg (by decide), bord_cm, ← Int.add_assoc, ← Int.add_mul]
    congr 2
    omega
theorem savS_cols {x1 y1 x2 y2 : Nat} (h1 : x1 ≤ x2) (h2 : y1 ≤ y2) (m : Nat) : ∀ n : Nat, savS (colsL n m) x1 y1 x2 y2 = (cmI 0 ((x1 : Int) + 1) x2 - cmI n ((x1 : Int) + 1) x2) * spanI m y1 y2 + savS (List.replicate m false) x1 y1 x2 y2
  | 0 => by
    show savS (List.replicate m false) x1 y1 x2 y2 = _
    rw [Int.sub_self, Int.zero_mul, Int.zero_add]
  | n + 1 => by
    have ih := savS_cols h1 h2 m n
    have e : colsL (n + 1) m = true :: colsL n m := rfl
    rw [e, savS_cons, ih, nx_cols, ny_cols]
    unfold savI
    rw [if_pos rfl, bord_cm, ← Int.add_assoc, ← Int.add_mul]
    congr 2
    omega
theorem span_whole {n x1 x2 : Nat} (h1 : x1 ≤ x2) (hx : x2 < 2 ^ n) : spanI n x1 x2 = if x2 + 1 - x1 = 2 ^ n then 1 else 0 := by
  unfold spanI cmI
  have cp : ((2 : Int) ^ n) = ((2 ^ n : Nat) : Int) := by rw [Int.natCast_pow]; rfl
  rw [cp]
  by_cases e : x2 + 1 - x1 = 2 ^ n
  · have ex : x1 = 0 := by omega
    subst ex
    rw [if_pos e, if_neg (by omega), show (x2 : Int) - ((2 ^ n : Nat) : Int) + 1 = 0 by omega, Int.zero_ediv, show ((0 : Nat) : Int) - 1 = -1 by rfl]
    have p := two_pos n
    have : (-1 : Int) / ((2 ^ n : Nat) : Int) = -1 := ((Int.ediv_emod_unique (a := -1) (r := ((2 ^ n : Nat) : Int) - 1) (q := -1) (by omega)).mpr ⟨by rw [Int.mul_neg, Int.mul_one]; omega, by omega, by omega⟩).1
    rw [this]
    rfl
  · rw [if_neg e, if_pos (by omega)]
theorem rows_runs {n m x1 y1 x2 y2 : Nat} (h1 : x1 ≤ x2) (h2 : y1 ≤ y2) (hx : x2 < 2 ^ n) (hy : y2 < 2 ^ m) : runsZ (rowsL n m) x1 y1 x2 y2 = if x2 + 1 - x1 = 2 ^ n then 1 else (y2 : Int) + 1 - (y1 : Int) := by
  have e := savS_rows h1 h2 n m
  rw [savS_xs h1 h2 n, cm_zero h1, cm_zero h2, cm_none h1 hx, cm_none h2 hy, span_whole h1 hx] at e
  unfold savS at e
  unfold runsZ
  rw [e, Int.natCast_mul, show ((x2 + 1 - x1 : Nat) : Int) = ((x2 : Int) - (x1 : Int)) + 1 by omega, show ((y2 + 1 - y1 : Nat) : Int) = (y2 : Int) + 1 - (y1 : Int) by omega, Int.add_mul, Int.one_mul, Int.sub_zero, Int.sub_zero]
  by_cases w : x2 + 1 - x1 = 2 ^ n
  · rw [if_pos w, if_pos w, Int.mul_one]
    omega
  · rw [if_neg w, if_neg w, Int.mul_zero]
    omega
theorem cols_runs {n m x1 y1 x2 y2 : Nat} (h1 : x1 ≤ x2) (h2 : y1 ≤ y2) (hx : x2 < 2 ^ n) (hy : y2 < 2 ^ m) : runsZ (colsL n m) x1 y1 x2 y2 = if y2 + 1 - y1 = 2 ^ m then 1 else (x2 : Int) + 1 - (x1 : Int) := by
  have e := savS_cols h1 h2 m n
  rw [savS_ys h1 h2 m, cm_zero h1, cm_zero h2, cm_none h1 hx, cm_none h2 hy, span_whole h2 hy] at e
  unfold savS at e
  unfold runsZ
  rw [e, Int.natCast_mul, Int.mul_comm, show ((x2 + 1 - x1 : Nat) : Int) = (x2 : Int) + 1 - (x1 : Int) by omega, show ((y2 + 1 - y1 : Nat) : Int) = ((y2 : Int) - (y1 : Int)) + 1 by omega, Int.add_mul, Int.one_mul, Int.sub_zero, Int.sub_zero]
  by_cases w : y2 + 1 - y1 = 2 ^ m
  · rw [if_pos w, if_pos w, Int.mul_one]
    omega
  · rw [if_neg w, if_neg w, Int.mul_zero]
    omega
end Lk

set_option Elab.async false
set_option linter.all false
set_option maxRecDepth 100000
set_option maxHeartbeats 4000000
namespace Lk
open PySem PySem.Spec PyProof.Rows L2
theorem leaf_int {i : Int} (h : i.natAbs < 2 ^ 220) : (PyData.int i).leavesShort 224 = true := by
  have hl : i.natAbs.log2 < 220 := PySem.Flt.log2_lt_of (by decide) h
  simp only [PyData.leavesShort, PyData.shown]
  refine decide_eq_true ?_
  rw [ofString_len]
  have := int_text_length_le (by decide) hl
  omega
theorem leaf_ints : ∀ ns : List Int, (∀ n ∈ ns, n.natAbs < 2 ^ 220) → PyData.leavesShortAll 224 (ns.map PyData.int) = true ∧ PyData.weightAll (ns.map PyData.int) ≤ 222 * ns.length
  | [], _ => by simp [PyData.leavesShortAll, PyData.weightAll]
  | n :: r, h => by
    obtain ⟨a, b⟩ := leaf_ints r fun m hm => h m (List.mem_cons_of_mem _ hm)
    have c := leaf_int (h n List.mem_cons_self)
    constructor
    · rw [List.map_cons]
      simp only [PyData.leavesShortAll, a, c, Bool.and_self]
    · have hl : n.natAbs.log2 < 220 := PySem.Flt.log2_lt_of (by decide) (h n List.mem_cons_self)
      rw [List.map_cons]
      simp only [PyData.weightAll, PyData.weight, List.length_cons]
      split <;> omega
theorem rp_ints (ns : List Int) (h : ∀ n ∈ ns, n.natAbs < 2 ^ 220) (hl : ns.length ≤ 300) : RpOk (.list (ns.map PyData.int)) := by
  have p1000 : ∀ n ∈ ns, n.natAbs < 2 ^ 1000 := fun n hn => Nat.lt_of_lt_of_le (h n hn) (Nat.pow_le_pow_right (by decide) (by decide))
  obtain ⟨b1, b2, b3, b4, b5, b6⟩ := atms_ok (ns.map PyData.int) (fun d hd => by
    obtain ⟨n, hn, rfl⟩ := List.mem_map.mp hd
    exact p1000 n hn)
  obtain ⟨c5, c6⟩ := leaf_ints ns h
  refine ⟨by simpa only [PyData.showable] using b1, by simpa only [PyData.hasDict] using b2, ?_, ?_⟩
  · simp only [PyData.depth, b3]
    omega
  · have s := PyData.shown_le 224 (by decide) (.list (ns.map PyData.int)) (by simpa only [PyData.leavesShort] using c5)
    have e : (PyData.list (ns.map PyData.int)).weight = PyData.weightAll (ns.map PyData.int) := by simp only [PyData.weight]
    rw [e] at s
    have : sizeLine = 16777216 := sizeLine_eq
    omega
theorem sav_nat {l : List Bool} {x1 y1 x2 y2 : Nat} (b : Bx l x1 y1 x2 y2) (g1 : nx l ≤ 100) (g2 : ny l ≤ 100) : ∀ z ∈ savL l x1 y1 x2 y2, z.natAbs < 2 ^ 220 := by
  intro z hz
  rw [← due_end b (sortB_lt l x1 y1 x2 y2) (sortB_perm b) (i := (sortB l x1 y1 x2 y2).length) (by omega)] at hz
  obtain ⟨t, _, rfl⟩ := List.mem_map.mp hz
  have h1 := adj_le (pT l.length t) ((sortB l x1 y1 x2 y2).take ((sortB l x1 y1 x2 y2).length + 1))
  rw [List.take_of_length_le (by omega)] at h1 ⊢
  rw [Int.natAbs_natCast]
  have h2 : (sortB l x1 y1 x2 y2).length ≤ 2 ^ l.length := by
    unfold sortB
    exact Nat.le_trans (List.length_filter_le _ _) (Nat.le_of_eq List.length_range')
  have h3 : 2 ^ l.length ≤ 2 ^ 200 := Nat.pow_le_pow_right (by decide) (by have := nxy l; omega)
  have h4 : (2 : Nat) ^ 200 < 2 ^ 220 := by decide
  omega
end Lk

set_option linter.all false
namespace Lk
/-! ### cells of a box that have a property, and halves of a block -/
def cntB (P : Nat → Nat → Bool) (x y : Nat) : Nat → Nat → Nat
  | 0, _ => 0
  | w + 1, h => cntB P x y w h + (List.range h).countP (fun b => P (x + w) (y + b))
theorem cntB_congr {P Q : Nat → Nat → Bool} {x y x' y' h : Nat} : ∀ w, (∀ a b, a < w → b < h → P (x + a) (y + b) = Q (x' + a) (y' + b)) → cntB P x y w h = cntB Q x' y' w h
  | 0, _ => rfl
  | w + 1, e => by
    show cntB P x y w h + _ = cntB Q x' y' w h + _
    rw [cntB_congr w fun a b ha hb => e a b (by omega) hb]
    congr 1
    apply List.countP_congr
    intro b hb
    rw [e w b (by omega) (List.mem_range.mp hb)]
theorem cntB_addw (P : Nat → Nat → Bool) (x y h a : Nat) : ∀ c, cntB P x y (a + c) h = cntB P x y a h + cntB P (x + a) y c h
  | 0 => rfl
  | c + 1 => by
    show cntB P x y (a + c) h + (List.range h).countP (fun b => P (x + (a + c)) (y + b)) = cntB P x y a h + (cntB P (x + a) y c h + (List.range h).countP (fun b => P (x + a + c) (y + b)))
    rw [cntB_addw P x y h a c, Nat.add_assoc x a c, Nat.add_assoc]
theorem cntB_addh (P : Nat → Nat → Bool) (x y a c : Nat) : ∀ w, cntB P x y w (a + c) = cntB P x y w a + cntB P x (y + a) w c
  | 0 => rfl
  | w + 1 => by
    show cntB P x y w (a + c) + (List.range (a + c)).countP (fun b => P (x + w) (y + b)) = cntB P x y w a + (List.range a).countP (fun b => P (x + w) (y + b)) + (cntB P x (y + a) w c + (List.range c).countP (fun b => P (x + w) (y + a + b)))
    rw [cntB_addh P x y a c w, List.range_add, List.countP_append, List.countP_map]
    have : (List.range c).countP ((fun b => P (x + w) (y + b)) ∘ fun x => a + x) = (List.range c).countP (fun b => P (x + w) (y + a + b)) := by
      apply List.countP_congr
      intro b _
      show P (x + w) (y + (a + b)) = true ↔ _
      rw [Nat.add_assoc]
    rw [this]
    omega
theorem cntB_true {P : Nat → Nat → Bool} {x y h : Nat} : ∀ w, (∀ a b, a < w → b < h → P (x + a) (y + b) = true) → cntB P x y w h = w * h
  | 0, _ => by rw [Nat.zero_mul]; rfl
  | w + 1, e => by
    show cntB P x y w h + _ = _
    rw [cntB_true w fun a b ha hb => e a b (by omega) hb, Nat.succ_mul]
    congr 1
    rw [List.countP_eq_length.mpr (fun b hb => e w b (by omega) (List.mem_range.mp hb)), List.length_range]
theorem cntB_false {P : Nat → Nat → Bool} {x y h : Nat} : ∀ w, (∀ a b, a < w → b < h → P (x + a) (y + b) = false) → cntB P x y w h = 0
  | 0, _ => rfl
  | w + 1, e => by
    show cntB P x y w h + _ = _
    rw [cntB_false w fun a b ha hb => e a b (by omega) hb, List.countP_eq_zero.mpr (fun b hb => by rw [e w b (by omega) (List.mem_range.mp hb)]; decide)]
theorem cntB_le {P : Nat → Nat → Bool} {x y h : Nat} : ∀ w, cntB P x y w h ≤ w * h
  | 0 => Nat.zero_le _
  | w + 1 => by
    have h1 : cntB P x y w h ≤ w * h := cntB_le w
    have h2 := List.countP_le_length (p := fun b => P (x + w) (y + b)) (l := List.range h)
    rw [List.length_range] at h2
    show cntB P x y w h + _ ≤ _
    rw [Nat.succ_mul]
    omega
theorem cntB_mono {P Q : Nat → Nat → Bool} {x y h : Nat} : ∀ w, (∀ a b, a < w → b < h → P (x + a) (y + b) = true → Q (x + a) (y + b) = true) → cntB P x y w h ≤ cntB Q x y w h
  | 0, _ => Nat.le_refl _
  | w + 1, e => by
    have h1 := cntB_mono w fun a b ha hb => e a b (by omega) hb
    have h2 : (List.range h).countP (fun b => P (x + w) (y + b)) ≤ (List.range h).countP (fun b => Q (x + w) (y + b)) := List.countP_mono_left fun b hb => e w b (by omega) (List.mem_range.mp hb)
    show cntB P x y w h + _ ≤ cntB Q x y w h + _
    omega
/-- a box, counted from the first cell of a block -/
abbrev P4 := Nat × Nat × Nat × Nat
def wP (p : P4) : Nat := p.2.2.1 + 1 - p.1
def hP (p : P4) : Nat := p.2.2.2 + 1 - p.2.1
def InBlk (l : List Bool) (p : P4) : Prop := p.1 ≤ p.2.2.1 ∧ p.2.1 ≤ p.2.2.2 ∧ p.2.2.1 < 2 ^ nx l ∧ p.2.2.2 < 2 ^ ny l
def loP (b : Bool) (i j : Nat) (p : P4) : Option P4 :=
  if b = true then (if p.1 < 2 ^ i then some (p.1, p.2.1, min p.2.2.1 (2 ^ i - 1), p.2.2.2) else none)
  else (if p.2.1 < 2 ^ j then some (p.1, p.2.1, p.2.2.1, min p.2.2.2 (2 ^ j - 1)) else none)
def hiP (b : Bool) (i j : Nat) (p : P4) : Option P4 :=
  if b = true then (if 2 ^ i ≤ p.2.2.1 then some (p.1 - 2 ^ i, p.2.1, p.2.2.1 - 2 ^ i, p.2.2.2) else none)
  else (if 2 ^ j ≤ p.2.2.2 then some (p.1, p.2.1 - 2 ^ j, p.2.2.1, p.2.2.2 - 2 ^ j) else none)
def areaP : Option P4 → Nat
  | none => 0
  | some p => wP p * hP p
def InO (l : List Bool) (o : Option P4) : Prop := ∀ p, o = some p → InBlk l p
theorem lo_in {b : Bool} {r : List Bool} {p : P4} (h : InBlk (b :: r) p) : InO r (loP b (nx r) (ny r) p) := by
  obtain ⟨x1, y1, x2, y2⟩ := p
  obtain ⟨h1, h2, h3, h4⟩ := h
  intro q e
  have px := two_pos (nx r)
  have py := two_pos (ny r)
  simp only at h1 h2 h3 h4
  unfold loP at e
  cases b with
  | true =>
    rw [if_pos rfl] at e
    rw [ny_t] at h4
    by_cases c : x1 < 2 ^ nx r
    · rw [if_pos c] at e
      cases e
      refine ⟨?_, h2, ?_, h4⟩ <;> simp only <;> omega
    · rw [if_neg c] at e
      cases e
  | false =>
    rw [if_neg (by decide)] at e
    rw [nx_f] at h3
    by_cases c : y1 < 2 ^ ny r
    · rw [if_pos c] at e
      cases e
      refine ⟨h1, ?_, h3, ?_⟩ <;> simp only <;> omega
    · rw [if_neg c] at e
      cases e
theorem hi_in {b : Bool} {r : List Bool} {p : P4} (h : InBlk (b :: r) p) : InO r (hiP b (nx r) (ny r) p) := by
  obtain ⟨x1, y1, x2, y2⟩ := p
  obtain ⟨h1, h2, h3, h4⟩ := h
  intro q e
  have px := two_pos (nx r)
  have py := two_pos (ny r)
  simp only at h1 h2 h3 h4
  unfold hiP at e
  cases b with
  | true =>
    rw [if_pos rfl] at e
    rw [ny_t] at h4
    rw [nx_t, Nat.pow_succ] at h3
    by_cases c : 2 ^ nx r ≤ x2
    · rw [if_pos c] at e
      cases e
      refine ⟨?_, h2, ?_, h4⟩ <;> simp only <;> omega
    · rw [if_neg c] at e
      cases e
  | false =>
    rw [if_neg (by decide)] at e
    rw [nx_f] at h3
    rw [ny_f, Nat.pow_succ] at h4
    by_cases c : 2 ^ ny r ≤ y2
    · rw [if_pos c] at e
      cases e
      refine ⟨h1, ?_, h3, ?_⟩ <;> simp only <;> omega
    · rw [if_neg c] at e
      cases e
/-- a count over a part, where the property is asked of the cells of the block -/
def cntP (P : Nat → Nat → Bool) (p : P4) : Nat := cntB P p.1 p.2.1 (wP p) (hP p)
def cntO (P : Nat → Nat → Bool) : Option P4 → Nat
  | none => 0
  | some p => cntP P p
def shX (b : Bool) (i : Nat) : Nat := if b = true then 2 ^ i else 0
def shY (b : Bool) (j : Nat) : Nat := if b = true then 0 else 2 ^ j
theorem cnt_halves {b : Bool} {r : List Bool} {p : P4} (h : InBlk (b :: r) p) (P : Nat → Nat → Bool) :
    cntP P p = cntO P (loP b (nx r) (ny r) p) + cntO (fun x y => P (shX b (nx r) + x) (shY b (ny r) + y)) (hiP b (nx r) (ny r) p) := by
  obtain ⟨x1, y1, x2, y2⟩ := p
  obtain ⟨h1, h2, h3, h4⟩ := h
  have px := two_pos (nx r)
  have py := two_pos (ny r)
  simp only at h1 h2 h3 h4
  unfold loP hiP shX shY
  cases b with
  | true =>
    rw [nx_t, Nat.pow_succ] at h3
    simp only [if_pos]
    by_cases c : x1 < 2 ^ nx r
    · rw [if_pos c]
      by_cases d : 2 ^ nx r ≤ x2
      · rw [if_pos d]
        show cntB P x1 y1 (x2 + 1 - x1) (y2 + 1 - y1) = cntB P x1 y1 (min x2 (2 ^ nx r - 1) + 1 - x1) (y2 + 1 - y1) + cntB _ (x1 - 2 ^ nx r) y1 (x2 - 2 ^ nx r + 1 - (x1 - 2 ^ nx r)) (y2 + 1 - y1)
        rw [show x2 + 1 - x1 = (min x2 (2 ^ nx r - 1) + 1 - x1) + (x2 - 2 ^ nx r + 1 - (x1 - 2 ^ nx r)) by omega, cntB_addw]
        congr 1
        apply cntB_congr
        intro a b _ _
        rw [show x1 + (min x2 (2 ^ nx r - 1) + 1 - x1) + a = 2 ^ nx r + (x1 - 2 ^ nx r + a) by omega, Nat.zero_add]
      · rw [if_neg d]
        show cntB P x1 y1 (x2 + 1 - x1) (y2 + 1 - y1) = cntB P x1 y1 (min x2 (2 ^ nx r - 1) + 1 - x1) (y2 + 1 - y1) + 0
        rw [show min x2 (2 ^ nx r - 1) = x2 by omega]
        rfl
    · rw [if_neg c, if_pos (by omega)]
      show cntB P x1 y1 (x2 + 1 - x1) (y2 + 1 - y1) = 0 + cntB _ (x1 - 2 ^ nx r) y1 (x2 - 2 ^ nx r + 1 - (x1 - 2 ^ nx r)) (y2 + 1 - y1)
      rw [Nat.zero_add, show x2 - 2 ^ nx r + 1 - (x1 - 2 ^ nx r) = x2 + 1 - x1 by omega]
      apply cntB_congr
      intro a b _ _
      rw [show x1 + a = 2 ^ nx r + (x1 - 2 ^ nx r + a) by omega, Nat.zero_add]
  | false =>
    rw [ny_f, Nat.pow_succ] at h4
    simp only [Bool.false_eq_true, if_false]
    by_cases c : y1 < 2 ^ ny r
    · rw [if_pos c]
      by_cases d : 2 ^ ny r ≤ y2
      · rw [if_pos d]
        show cntB P x1 y1 (x2 + 1 - x1) (y2 + 1 - y1) = cntB P x1 y1 (x2 + 1 - x1) (min y2 (2 ^ ny r - 1) + 1 - y1) + cntB _ x1 (y1 - 2 ^ ny r) (x2 + 1 - x1) (y2 - 2 ^ ny r + 1 - (y1 - 2 ^ ny r))
        rw [show y2 + 1 - y1 = (min y2 (2 ^ ny r - 1) + 1 - y1) + (y2 - 2 ^ ny r + 1 - (y1 - 2 ^ ny r)) by omega, cntB_addh]
        congr 1
        apply cntB_congr
        intro a b _ _
        rw [show y1 + (min y2 (2 ^ ny r - 1) + 1 - y1) + b = 2 ^ ny r + (y1 - 2 ^ ny r + b) by omega, Nat.zero_add]
      · rw [if_neg d]
        show cntB P x1 y1 (x2 + 1 - x1) (y2 + 1 - y1) = cntB P x1 y1 (x2 + 1 - x1) (min y2 (2 ^ ny r - 1) + 1 - y1) + 0
        rw [show min y2 (2 ^ ny r - 1) = y2 by omega]
        rfl
    · rw [if_neg c, if_pos (by omega)]
      show cntB P x1 y1 (x2 + 1 - x1) (y2 + 1 - y1) = 0 + cntB _ x1 (y1 - 2 ^ ny r) (x2 + 1 - x1) (y2 - 2 ^ ny r + 1 - (y1 - 2 ^ ny r))
      rw [Nat.zero_add, show y2 - 2 ^ ny r + 1 - (y1 - 2 ^ ny r) = y2 + 1 - y1 by omega]
      apply cntB_congr
      intro a b _ _
      rw [show y1 + b = 2 ^ ny r + (y1 - 2 ^ ny r + b) by omega, Nat.zero_add]
theorem cntP_true {P : Nat → Nat → Bool} {p : P4} (h : ∀ x y, x ≤ p.2.2.1 → y ≤ p.2.2.2 → P x y = true) : cntP P p = wP p * hP p := cntB_true _ fun a b ha hb => h _ _ (by unfold wP at ha; omega) (by unfold hP at hb; omega)
theorem cntP_congr {P Q : Nat → Nat → Bool} {p : P4} (h : ∀ x y, x ≤ p.2.2.1 → y ≤ p.2.2.2 → P x y = Q x y) : cntP P p = cntP Q p := cntB_congr _ fun a b ha hb => h _ _ (by unfold wP at ha; omega) (by unfold hP at hb; omega)
theorem cntP_false {P : Nat → Nat → Bool} {p : P4} (h : ∀ x y, x ≤ p.2.2.1 → y ≤ p.2.2.2 → P x y = false) : cntP P p = 0 := cntB_false _ fun a b ha hb => h _ _ (by unfold wP at ha; omega) (by unfold hP at hb; omega)
theorem area_halves {b : Bool} {r : List Bool} {p : P4} (h : InBlk (b :: r) p) : wP p * hP p = areaP (loP b (nx r) (ny r) p) + areaP (hiP b (nx r) (ny r) p) := by
  have key : ∀ (o : Option P4) (P : Nat → Nat → Bool), (∀ x y, P x y = true) → cntO P o = areaP o := by
    intro o P hP
    cases o with
    | none => rfl
    | some q => exact cntP_true fun x y _ _ => hP x y
  rw [← cntP_true (P := fun _ _ => true) (p := p) (fun _ _ _ _ => rfl), cnt_halves h, key _ _ (fun _ _ => rfl), key _ _ (fun _ _ => rfl)]
/-- keys within the halves -/
theorem key_lo {b : Bool} {r : List Bool} {p q : P4} (h : InBlk (b :: r) p) (e : loP b (nx r) (ny r) p = some q) {x y : Nat} (hx : x ≤ q.2.2.1) (hy : y ≤ q.2.2.2) : keyL (b :: r) x y = keyL r x y := by
  obtain ⟨x1, y1, x2, y2⟩ := p
  obtain ⟨_, _, g3, g4⟩ := lo_in h q e
  unfold loP at e
  cases b with
  | true =>
    show x / 2 ^ nx r % 2 * 2 ^ r.length + keyL r x y = keyL r x y
    rw [Nat.div_eq_of_lt (by omega)]
    simp
  | false =>
    show y / 2 ^ ny r % 2 * 2 ^ r.length + keyL r x y = keyL r x y
    rw [Nat.div_eq_of_lt (by omega)]
    simp
theorem key_hi {b : Bool} {r : List Bool} {p q : P4} (h : InBlk (b :: r) p) (e : hiP b (nx r) (ny r) p = some q) {x y : Nat} (hx : x ≤ q.2.2.1) (hy : y ≤ q.2.2.2) : keyL (b :: r) (shX b (nx r) + x) (shY b (ny r) + y) = 2 ^ r.length + keyL r x y := by
  obtain ⟨_, _, g3, g4⟩ := hi_in h q e
  cases b with
  | true =>
    show (2 ^ nx r + x) / 2 ^ nx r % 2 * 2 ^ r.length + keyL r (2 ^ nx r + x) (0 + y) = 2 ^ r.length + keyL r x y
    have k := keyL_high r 1 0 x y (nx r) (ny r) (Nat.le_refl _) (Nat.le_refl _)
    rw [Nat.one_mul, Nat.zero_mul] at k
    rw [k, Nat.add_div_left _ (two_pos _), Nat.div_eq_of_lt (by omega)]
    simp
  | false =>
    show (2 ^ ny r + y) / 2 ^ ny r % 2 * 2 ^ r.length + keyL r (0 + x) (2 ^ ny r + y) = 2 ^ r.length + keyL r x y
    have k := keyL_high r 0 1 x y (nx r) (ny r) (Nat.le_refl _) (Nat.le_refl _)
    rw [Nat.one_mul, Nat.zero_mul] at k
    rw [k, Nat.add_div_left _ (two_pos _), Nat.div_eq_of_lt (by omega)]
    simp
/-- how many cells of a part have keys that are less -/
def lessO (r : List Bool) (o : Option P4) (k : Nat) : Nat := cntO (fun x y => decide (keyL r x y < k)) o
theorem less_halves {b : Bool} {r : List Bool} {p : P4} (h : InBlk (b :: r) p) {k : Nat} (hk : k < 2 ^ (r.length + 1)) :
    lessO (b :: r) (some p) k = if k / 2 ^ r.length % 2 = 1 then areaP (loP b (nx r) (ny r) p) + lessO r (hiP b (nx r) (ny r) p) (k % 2 ^ r.length) else lessO r (loP b (nx r) (ny r) p) (k % 2 ^ r.length) := by
  show cntP _ p = _
  rw [cnt_halves h]
  rw [Nat.pow_succ] at hk
  have pl := two_pos r.length
  by_cases c : k < 2 ^ r.length
  · rw [Nat.div_eq_of_lt c, if_neg (by decide), Nat.mod_eq_of_lt c]
    have e1 : cntO (fun x y => decide (keyL (b :: r) x y < k)) (loP b (nx r) (ny r) p) = lessO r (loP b (nx r) (ny r) p) k := by
      cases e : loP b (nx r) (ny r) p with
      | none => rfl
      | some q => exact cntP_congr fun x y hx hy => by rw [key_lo h e hx hy]
    have e2 : cntO (fun x y => decide (keyL (b :: r) (shX b (nx r) + x) (shY b (ny r) + y) < k)) (hiP b (nx r) (ny r) p) = 0 := by
      cases e : hiP b (nx r) (ny r) p with
      | none => rfl
      | some q => exact cntP_false fun x y hx hy => by rw [key_hi h e hx hy]; exact decide_eq_false (by omega)
    rw [e1, e2, Nat.add_zero]
  · obtain ⟨k', rfl⟩ : ∃ k', k = 2 ^ r.length + k' := ⟨k - 2 ^ r.length, by omega⟩
    have hk' : k' < 2 ^ r.length := by omega
    rw [Nat.add_div_left _ pl, Nat.div_eq_of_lt hk', if_pos (by decide), Nat.add_mod_left, Nat.mod_eq_of_lt hk']
    have e1 : cntO (fun x y => decide (keyL (b :: r) x y < 2 ^ r.length + k')) (loP b (nx r) (ny r) p) = areaP (loP b (nx r) (ny r) p) := by
      cases e : loP b (nx r) (ny r) p with
      | none => rfl
      | some q => exact cntP_true fun x y hx hy => by rw [key_lo h e hx hy]; exact decide_eq_true (by have := keyL_lt r x y; omega)
    have e2 : cntO (fun x y => decide (keyL (b :: r) (shX b (nx r) + x) (shY b (ny r) + y) < 2 ^ r.length + k')) (hiP b (nx r) (ny r) p) = lessO r (hiP b (nx r) (ny r) p) k' := by
      cases e : hiP b (nx r) (ny r) p with
      | none => rfl
      | some q => exact cntP_congr fun x y hx hy => by rw [key_hi h e hx hy]; exact decide_eq_decide.mpr (by omega)
    rw [e1, e2]
theorem less_le (r : List Bool) (o : Option P4) (k : Nat) : lessO r o k ≤ areaP o := by
  cases o with
  | none => exact Nat.le_refl _
  | some p => exact cntB_le _
theorem less_all {r : List Bool} {o : Option P4} {k : Nat} (h : 2 ^ r.length ≤ k) : lessO r o k = areaP o := by
  cases o with
  | none => rfl
  | some p => exact cntP_true fun x y _ _ => decide_eq_true (by have := keyL_lt r x y; omega)
/-- a key of a part -/
def keyIn (r : List Bool) (o : Option P4) (K : Nat) : Prop := ∃ p x y, o = some p ∧ p.1 ≤ x ∧ x ≤ p.2.2.1 ∧ p.2.1 ≤ y ∧ y ≤ p.2.2.2 ∧ keyL r x y = K
theorem keyIn_lt {r : List Bool} {o : Option P4} {K : Nat} (h : keyIn r o K) : K < 2 ^ r.length := by
  obtain ⟨p, x, y, _, _, _, _, _, e⟩ := h
  rw [← e]
  exact keyL_lt r x y
theorem keyIn_lo {b : Bool} {r : List Bool} {p : P4} (h : InBlk (b :: r) p) {K : Nat} (hk : keyIn r (loP b (nx r) (ny r) p) K) : keyIn (b :: r) (some p) K := by
  obtain ⟨q, x, y, e, g1, g2, g3, g4, ek⟩ := hk
  refine ⟨p, x, y, rfl, ?_⟩
  rw [key_lo h e g2 g4]
  obtain ⟨x1, y1, x2, y2⟩ := p
  unfold loP at e
  cases b with
  | true =>
    rw [if_pos rfl] at e
    split at e
    · cases e
      simp only at g1 g2 g3 g4 ⊢
      exact ⟨by omega, by omega, by omega, by omega, ek⟩
    · cases e
  | false =>
    rw [if_neg (by decide)] at e
    split at e
    · cases e
      simp only at g1 g2 g3 g4 ⊢
      exact ⟨by omega, by omega, by omega, by omega, ek⟩
    · cases e
theorem keyIn_hi {b : Bool} {r : List Bool} {p : P4} (h : InBlk (b :: r) p) {K : Nat} (hk : keyIn r (hiP b (nx r) (ny r) p) K) : keyIn (b :: r) (some p) (2 ^ r.length + K) := by
  obtain ⟨q, x, y, e, g1, g2, g3, g4, ek⟩ := hk
  refine ⟨p, shX b (nx r) + x, shY b (ny r) + y, rfl, ?_⟩
  rw [key_hi h e g2 g4]
  obtain ⟨x1, y1, x2, y2⟩ := p
  unfold hiP at e
  unfold shX shY
  cases b with
  | true =>
    rw [if_pos rfl] at e
    by_cases c : 2 ^ nx r ≤ x2
    · rw [if_pos c] at e
      cases e
      simp only [if_pos] at g1 g2 g3 g4 ⊢
      exact ⟨by omega, by omega, by omega, by omega, by omega⟩
    · rw [if_neg c] at e
      cases e
  | false =>
    rw [if_neg (by decide)] at e
    by_cases c : 2 ^ ny r ≤ y2
    · rw [if_pos c] at e
      cases e
      rw [if_neg (by decide), if_neg (by decide)]
      simp only at g1 g2 g3 g4 ⊢
      exact ⟨by omega, by omega, by omega, by omega, by omega⟩
    · rw [if_neg c] at e
      cases e
/-- less, from the halves -/
theorem less_lo {b : Bool} {r : List Bool} {p : P4} (h : InBlk (b :: r) p) {k : Nat} (hk : k < 2 ^ r.length) : lessO (b :: r) (some p) k = lessO r (loP b (nx r) (ny r) p) k := by
  rw [less_halves h (by rw [Nat.pow_succ]; omega), Nat.div_eq_of_lt hk, if_neg (by decide), Nat.mod_eq_of_lt hk]
theorem less_hi {b : Bool} {r : List Bool} {p : P4} (h : InBlk (b :: r) p) {k : Nat} (hk : k < 2 ^ r.length) : lessO (b :: r) (some p) (2 ^ r.length + k) = areaP (loP b (nx r) (ny r) p) + lessO r (hiP b (nx r) (ny r) p) k := by
  rw [less_halves h (by rw [Nat.pow_succ]; omega), Nat.add_div_left _ (two_pos _), Nat.div_eq_of_lt hk, if_pos (by decide), Nat.add_mod_left, Nat.mod_eq_of_lt hk]
end Lk

set_option linter.all false
namespace Lk
/-! ### the law's own draws: the turn comes at which a wanted digit is drawn -/
def mixF (c t : Int) : Int := (c % 2147483629 * 48271 + t * 69621 + 12345) % 2147483647
def mixS (c t : Int) : Int := (mixF c t * mixF c t + t * 40692) % 2147483587
def mixD (c t : Int) : Int := (mixF c t * 2147483587 + mixS c t) / 32
theorem crt1 (A : Int) : (A + 139242 * (((2147483647 - A % 2147483647) * 369758553) % 2147483647)) % 2147483647 = 0 := by omega
theorem crt2 (B g : Int) (h : 0 ≤ g) (h2 : g < 100) : (B + 81384 * (((g + 2147483587 - B % 2147483587) * 463066321) % 2147483587)) % 2147483587 = g := by omega
theorem crt3 (k1 k2 : Int) : (k1 + 2147483647 * (((k2 - k1) * 608453683) % 2147483587)) % 2147483587 = k2 % 2147483587 := by omega
theorem crt4 (A k1 m : Int) (h : (A + 139242 * k1) % 2147483647 = 0) : (A + 139242 * (k1 + 2147483647 * m)) % 2147483647 = 0 := by omega
theorem crt5 (B k k2 g : Int) (h : (B + 81384 * k2) % 2147483587 = g) (e : k % 2147483587 = k2 % 2147483587) : (B + 81384 * k) % 2147483587 = g := by omega
theorem crt_all (A B : Int) (g : Nat) (hg : g < 2) : ∃ k : Nat, k < 4611685889393295289 ∧ (A + 139242 * (k : Int)) % 2147483647 = 0 ∧ (B + 81384 * (k : Int)) % 2147483587 = 32 * (g : Int) := by
  obtain ⟨k1, e1⟩ : ∃ k1, k1 = ((2147483647 - A % 2147483647) * 369758553) % 2147483647 := ⟨_, rfl⟩
  obtain ⟨k2, e2⟩ : ∃ k2, k2 = ((32 * (g : Int) + 2147483587 - B % 2147483587) * 463066321) % 2147483587 := ⟨_, rfl⟩
  obtain ⟨m, e3⟩ : ∃ m, m = ((k2 - k1) * 608453683) % 2147483587 := ⟨_, rfl⟩
  have h1 : (A + 139242 * k1) % 2147483647 = 0 := by rw [e1]; exact crt1 A
  have h2 : (B + 81384 * k2) % 2147483587 = 32 * (g : Int) := by rw [e2]; exact crt2 B (32 * g) (by omega) (by omega)
  have h3 : (k1 + 2147483647 * m) % 2147483587 = k2 % 2147483587 := by rw [e3]; exact crt3 k1 k2
  have h4 := crt4 A k1 m h1
  have h5 := crt5 B (k1 + 2147483647 * m) k2 _ h2 h3
  have b1 : 0 ≤ k1 ∧ k1 < 2147483647 := by rw [e1]; exact ⟨Int.emod_nonneg _ (by decide), Int.emod_lt_of_pos _ (by decide)⟩
  have b2 : 0 ≤ m ∧ m < 2147483587 := by rw [e3]; exact ⟨Int.emod_nonneg _ (by decide), Int.emod_lt_of_pos _ (by decide)⟩
  clear e1 e2 e3 h1 h2 h3
  obtain ⟨k, ek⟩ : ∃ k, k = k1 + 2147483647 * m := ⟨_, rfl⟩
  rw [← ek] at h4 h5
  have bk : 0 ≤ k ∧ k < 4611685889393295289 := by omega
  have e : ((k.toNat : Nat) : Int) = k := by omega
  exact ⟨k.toNat, by omega, by rw [e]; exact h4, by rw [e]; exact h5⟩
theorem turn_ex (c t : Int) (g : Nat) (hg : g < 2) : ∃ k : Nat, k < 4611685889393295289 ∧ mixD c (t + 2 * (k : Int)) % 2 = (g : Int) := by
  obtain ⟨k, hk, h4, h5⟩ := crt_all (c % 2147483629 * 48271 + t * 69621 + 12345) (t * 40692) g hg
  refine ⟨k, hk, ?_⟩
  have f0 : mixF c (t + 2 * (k : Int)) = 0 := by
    unfold mixF
    have e : c % 2147483629 * 48271 + (t + 2 * (k : Int)) * 69621 + 12345 = (c % 2147483629 * 48271 + t * 69621 + 12345) + 139242 * (k : Int) := by
      generalize c % 2147483629 = z
      omega
    rw [e]
    exact h4
  have s0 : mixS c (t + 2 * (k : Int)) = 32 * (g : Int) := by
    unfold mixS
    rw [f0]
    have e : (0 : Int) * 0 + (t + 2 * (k : Int)) * 40692 = (t * 40692) + 81384 * (k : Int) := by clear f0 h4 h5; omega
    rw [e]
    exact h5
  unfold mixD
  rw [f0, s0]
  clear f0 s0 h4 h5
  rw [Int.zero_mul, Int.zero_add]
  omega
end Lk

set_option Elab.async false
set_option linter.all false
set_option maxRecDepth 100000
set_option maxHeartbeats 4000000
namespace Lk
open PySem PySem.Spec PyProof.Rows L2
/-! ### ranks and listed keys -/
theorem boxN_cntB (l : List Bool) (Q : Nat → Bool) (x1 y1 h : Nat) : ∀ w, (boxN l x1 y1 w h).countP Q = cntB (fun x y => Q (keyL l x y)) x1 y1 w h
  | 0 => rfl
  | w + 1 => by
    rw [boxN_succ, List.countP_append, boxN_cntB l Q x1 y1 h w, List.countP_map]
    rfl
/-- the keys of a box, row by row -/
def boxR (l : List Bool) (x1 y1 w h : Nat) : List Nat := (List.range h).flatMap fun b => (List.range w).map fun a => keyL l (x1 + a) (y1 + b)
theorem boxR_succ (l : List Bool) (x1 y1 w h : Nat) : boxR l x1 y1 w (h + 1) = boxR l x1 y1 w h ++ (List.range w).map fun a => keyL l (x1 + a) (y1 + h) := by
  unfold boxR
  rw [List.range_succ, List.flatMap_append, List.flatMap_singleton]
theorem boxR_len (l : List Bool) (x1 y1 w : Nat) : ∀ h, (boxR l x1 y1 w h).length = h * w
  | 0 => by rw [Nat.zero_mul]; rfl
  | h + 1 => by rw [boxR_succ, List.length_append, boxR_len l x1 y1 w h, List.length_map, List.length_range, Nat.succ_mul]
theorem boxR_mem {l : List Bool} {x1 y1 w h K : Nat} : K ∈ boxR l x1 y1 w h ↔ ∃ a b, a < w ∧ b < h ∧ keyL l (x1 + a) (y1 + b) = K := by
  unfold boxR
  rw [List.mem_flatMap]
  constructor
  · rintro ⟨b, hb, h2⟩
    obtain ⟨a, ha, e⟩ := List.mem_map.mp h2
    exact ⟨a, b, List.mem_range.mp ha, List.mem_range.mp hb, e⟩
  · rintro ⟨a, b, ha, hb, e⟩
    exact ⟨b, List.mem_range.mpr hb, List.mem_map.mpr ⟨a, List.mem_range.mpr ha, e⟩⟩
theorem boxR_nodup {l : List Bool} {x1 y1 w : Nat} (hx : x1 + w ≤ 2 ^ nx l) : ∀ h, y1 + h ≤ 2 ^ ny l → (boxR l x1 y1 w h).Nodup
  | 0, _ => List.nodup_nil
  | h + 1, hy => by
    rw [boxR_succ]
    refine List.nodup_append.mpr ⟨boxR_nodup hx h (by omega), ?_, ?_⟩
    · refine List.pairwise_map.mpr (List.Pairwise.imp_of_mem (R := (· ≠ ·)) (fun {a b} ha hb hne e => ?_) List.nodup_range)
      have ha := List.mem_range.mp ha
      have hb := List.mem_range.mp hb
      have := (key_inj (l := l) (x := x1 + a) (y := y1 + h) (x' := x1 + b) (y' := y1 + h) (by omega) (by omega) (by omega) (by omega) e).1
      omega
    · intro a ha b hb e
      obtain ⟨c, d, hc, hd, e1⟩ := boxR_mem.mp ha
      obtain ⟨f, hf, e2⟩ := List.mem_map.mp hb
      have hf := List.mem_range.mp hf
      have := (key_inj (l := l) (x := x1 + c) (y := y1 + d) (x' := x1 + f) (y' := y1 + h) (by omega) (by omega) (by omega) (by omega) (by rw [e1, e2, e])).2
      omega
theorem boxR_perm {l : List Bool} {x1 y1 w h : Nat} (hx : x1 + w ≤ 2 ^ nx l) (hy : y1 + h ≤ 2 ^ ny l) : (boxR l x1 y1 w h).Perm (boxN l x1 y1 w h) := by
  refine (List.perm_ext_iff_of_nodup (boxR_nodup hx h hy) (boxN_nodup hy w hx)).mpr fun K => ?_
  rw [boxR_mem, boxN_mem]
/-- the sorted keys of a box -/
def Sorts (l : List Bool) (x1 y1 x2 y2 : Nat) (ks : List Nat) : Prop := ks.Pairwise (· < ·) ∧ ks.Perm (boxN l x1 y1 (x2 + 1 - x1) (y2 + 1 - y1))
theorem Sorts.len {l : List Bool} {x1 y1 x2 y2 : Nat} {ks : List Nat} (h : Sorts l x1 y1 x2 y2 ks) : ks.length = (x2 + 1 - x1) * (y2 + 1 - y1) := by rw [h.2.length_eq, boxN_len]
theorem Sorts.lt {l : List Bool} {x1 y1 x2 y2 : Nat} {ks : List Nat} (h : Sorts l x1 y1 x2 y2 ks) : ∀ k ∈ ks, k < 2 ^ l.length := fun k hk => by
  obtain ⟨u, v, _, _, e⟩ := boxN_mem.mp (h.2.mem_iff.mp hk)
  rw [← e]
  exact keyL_lt l _ _
theorem Sorts.mem {l : List Bool} {x1 y1 x2 y2 : Nat} {ks : List Nat} (h : Sorts l x1 y1 x2 y2 ks) (b : Bx l x1 y1 x2 y2) {K : Nat} : K ∈ ks ↔ keyIn l (some (x1, y1, x2, y2)) K := by
  obtain ⟨b1, b2, _, _⟩ := b
  rw [h.2.mem_iff, boxN_mem]
  constructor
  · rintro ⟨u, v, hu, hv, e⟩
    exact ⟨_, x1 + u, y1 + v, rfl, by simp only; omega, by simp only; omega, by simp only; omega, by simp only; omega, e⟩
  · rintro ⟨p, x, y, e, h1, h2, h3, h4, ek⟩
    cases e
    simp only at h1 h2 h3 h4
    exact ⟨x - x1, y - y1, by omega, by omega, by rw [show x1 + (x - x1) = x by omega, show y1 + (y - y1) = y by omega]; exact ek⟩
def lessN (ks : List Nat) (k : Nat) : Nat := ks.countP fun K => decide (K < k)
theorem Sorts.less {l : List Bool} {x1 y1 x2 y2 : Nat} {ks : List Nat} (h : Sorts l x1 y1 x2 y2 ks) (k : Nat) : lessO l (some (x1, y1, x2, y2)) k = lessN ks k := by
  unfold lessN
  rw [h.2.countP_eq, boxN_cntB]
  rfl
theorem less_get : ∀ {ks : List Nat} {s k : Nat}, ks.Pairwise (· < ·) → ks[s]? = some k → lessN ks k = s
  | [], _, _, _, h => by simp at h
  | a :: r, 0, k, hp, h => by
    have e : a = k := Option.some.inj h
    subst e
    obtain ⟨h1, _⟩ := List.pairwise_cons.mp hp
    unfold lessN
    rw [List.countP_cons, if_neg (by simp), List.countP_eq_zero.mpr (fun b hb => by have := h1 b hb; simp; omega)]
  | a :: r, s + 1, k, hp, h => by
    obtain ⟨h1, h2⟩ := List.pairwise_cons.mp hp
    have hk : k ∈ r := List.mem_of_getElem? h
    have ih := less_get h2 h
    unfold lessN at ih ⊢
    rw [List.countP_cons, ih, if_pos (by have := h1 k hk; simpa using this)]
theorem less_mem {ks : List Nat} {k : Nat} (hp : ks.Pairwise (· < ·)) (h : k ∈ ks) : ks[lessN ks k]? = some k := by
  obtain ⟨s, hs⟩ := List.getElem?_of_mem h
  rw [less_get hp hs]
  exact hs
theorem lessN_le (ks : List Nat) (k : Nat) : lessN ks k ≤ ks.length := List.countP_le_length
theorem lessN_zero (ks : List Nat) : lessN ks 0 = 0 := List.countP_eq_zero.mpr fun _ _ => by simp
theorem lessN_all {ks : List Nat} {k : Nat} (h : ∀ K ∈ ks, K < k) : lessN ks k = ks.length := List.countP_eq_length.mpr fun K hK => decide_eq_true (h K hK)
theorem less_step : ∀ {ks : List Nat} {k : Nat}, ks.Pairwise (· < ·) → lessN ks (k + 1) = lessN ks k + (if ks[lessN ks k]? = some k then 1 else 0)
  | [], k, _ => by simp [lessN]
  | a :: r, k, hp => by
    obtain ⟨h1, h2⟩ := List.pairwise_cons.mp hp
    have ih := less_step (k := k) h2
    unfold lessN at ih ⊢
    rw [List.countP_cons, List.countP_cons]
    by_cases c : a < k
    · rw [if_pos (by simp; omega), if_pos (by simp; omega), ih, List.getElem?_cons_succ]
      omega
    · have z : r.countP (fun K => decide (K < k)) = 0 := List.countP_eq_zero.mpr fun b hb => by have := h1 b hb; simp; omega
      have z1 : r.countP (fun K => decide (K < k + 1)) = 0 := List.countP_eq_zero.mpr fun b hb => by have := h1 b hb; simp; omega
      rw [z, z1]
      by_cases d : a = k
      · subst d
        rw [if_pos (by simp), if_neg (by simp)]
        simp
      · rw [if_neg (by simp; omega), if_neg (by simp; omega)]
        simp [d]
end Lk

set_option Elab.async false
set_option linter.all false
set_option maxRecDepth 100000
set_option maxHeartbeats 4000000
namespace Lk
open PySem PySem.Spec PyProof.Rows L2
/-! ### the bag of the draws -/
def BagX (H : Hp) (r : Addr) (a c k : Int) : Prop := H r = some (.lst [.int a, .int c, .int k])
def Bag (H : Hp) (r : Addr) : Prop := ∃ a c k : Int, BagX H r a c k ∧ 0 ≤ a
theorem Bag.same {H H' : Hp} {r : Addr} (e : Same H H') (h : Bag H r) : Bag H' r := by
  obtain ⟨a, c, k, h1, h2⟩ := h
  exact ⟨a, c, k, e _ _ h1, h2⟩
theorem Bag.ne {H : Hp} {r p : Addr} (h : Bag H r) (hp : H p = none) : p ≠ r := fun z => by
  obtain ⟨_, _, _, e, _⟩ := h
  rw [z, e] at hp
  cases hp
theorem Bag.mut {r D : Addr} {H : Hp} {o : HO} (R : Bag H r) (h : D ≠ r) : Bag (upd H D o) r := by
  obtain ⟨a, c, k, h1, h2⟩ := R
  exact ⟨a, c, k, by unfold BagX; rw [upd_ne h.symm]; exact h1, h2⟩
/-- what a pick gives -/
def pickV (a c k : Int) (many : Nat) : Int :=
  if 0 < a then a.fmod many else (if (many : Int) > 1000000000000000 then mixD c (k + 1) ^ 8 + mixS c (k + 1) else mixD c (k + 1)).fmod many
theorem mixF_b (c t : Int) : 0 ≤ mixF c t ∧ mixF c t < 2147483647 := ⟨Int.emod_nonneg _ (by decide), Int.emod_lt_of_pos _ (by decide)⟩
theorem mixS_b (c t : Int) : 0 ≤ mixS c t ∧ mixS c t < 2147483587 := ⟨Int.emod_nonneg _ (by decide), Int.emod_lt_of_pos _ (by decide)⟩
theorem mixD_b (c t : Int) : 0 ≤ mixD c t ∧ mixD c t < 288230376151711744 := by
  have h1 := mixF_b c t
  have h2 := mixS_b c t
  unfold mixD
  omega
def gw (u : Nat) : Nat := if u = 0 then 1 else 0
theorem gw_lt (u : Nat) : gw u < 2 := by unfold gw; split <;> omega
theorem pick2 (c k : Int) : pickV 0 c k 2 = mixD c (k + 1) % 2 := by
  unfold pickV
  rw [if_neg (by decide), if_neg (by decide), Int.fmod_eq_emod_of_nonneg _ (by decide)]
  rfl
/-- how far it is to the wanted turn -/
def Far (a c k : Int) (u : Nat) (j : Nat) : Prop := j ≤ 4611685889393295289 ∧ (a = 0 → mixD c (k + 1 + 2 * (j : Int)) % 2 = (gw u : Int)) ∧ (0 < a → j = 4611685889393295289)
theorem far_ex (a c k : Int) (u : Nat) (ha : 0 ≤ a) : ∃ j, Far a c k u j ∧ (a = 0 → j < 4611685889393295289) := by
  by_cases h : a = 0
  · obtain ⟨j, hj, e⟩ := turn_ex c (k + 1) (gw u) (gw_lt u)
    exact ⟨j, ⟨by omega, fun _ => e, fun z => by omega⟩, fun _ => hj⟩
  · exact ⟨4611685889393295289, ⟨Nat.le_refl _, fun z => absurd z h, fun _ => rfl⟩, fun z => absurd z h⟩
/-- an unlucky turn brings it nearer -/
theorem far_step {a c k : Int} {u v sp j : Nat} (ha : 0 ≤ a) (F : Far a c k u j) (hs : (sp : Int) = pickV a c k 2) (hsp : sp < 2) (hz : pick u v sp = 0) (huv : 1 ≤ u + v) :
    ∃ j', Far (a / 2 / 60) c (k + 1 + 1) u j' ∧ (a / 2 / 60).toNat + j' < a.toNat + j := by
  obtain ⟨h1, h2, h3⟩ := F
  by_cases h : a = 0
  · subst h
    have h2 := h2 rfl
    rw [pick2] at hs
    have hg : sp ≠ gw u := by
      unfold gw
      unfold pick at hz
      intro e
      split at e <;> split at hz <;> omega
    have hj : j ≠ 0 := by
      intro e
      subst e
      rw [Int.natCast_zero, Int.mul_zero, Int.add_zero, ← hs] at h2
      omega
    refine ⟨j - 1, ⟨by omega, fun _ => ?_, fun z => absurd z (by decide)⟩, ?_⟩
    · rw [show k + 1 + 1 + 1 + 2 * ((j - 1 : Nat) : Int) = k + 1 + 2 * (j : Int) by omega]
      exact h2
    · rw [show (0 : Int) / 2 / 60 = 0 by decide]
      omega
  · have h3 := h3 (by omega)
    obtain ⟨j', F', hj'⟩ := far_ex (a / 2 / 60) c (k + 1 + 1) u (by omega)
    refine ⟨j', F', ?_⟩
    have := F'.1
    omega
theorem far_more {a0 a c k : Int} {u S S' M : Nat} (h : S' + 1 ≤ S) (ha : 0 ≤ a) (h2 : a ≤ a0) : ∃ j, Far a c k u j ∧ S' * (a0.toNat + 4611685889393295289 + 3) + (a.toNat + j) < S * (a0.toNat + 4611685889393295289 + 3) + M := by
  obtain ⟨j, F, _⟩ := far_ex a c k u ha
  refine ⟨j, F, ?_⟩
  have h3 := Nat.mul_le_mul_right (a0.toNat + 4611685889393295289 + 3) h
  rw [Nat.add_mul, Nat.one_mul] at h3
  have := F.1
  omega
theorem pick_weak {H : Hp} {r : Addr} {many : Nat} {vs : List V} {R : Nat → Hp → Prop} (B : Bag H r) (hv : vs = [.ref r, .int (many : Int)]) (h1 : 1 ≤ many) (h2 : many < 2 ^ 1000) (q : ∀ (d : Nat) (H' : Hp), d < many → But r H H' → Bag H' r → R d H') :
    ∃ (r' : Addr) (a c k : Int) (many' : Nat), vs = [.ref r', .int many'] ∧ BagX H r' a c k ∧ 0 ≤ a ∧ 1 ≤ many' ∧ many' < 2 ^ 1000 ∧ ∀ (d : Nat) (H' : Hp), d < many' → (d : Int) = pickV a c k many' → But r' H H' → BagX H' r' (a / (many' : Int)) c (k + 1) → R d H' := by
  obtain ⟨a, c, k, hB, ha⟩ := B
  refine ⟨r, a, c, k, many, hv, hB, ha, h1, h2, fun d H' hd _ b hB' => q d H' hd b ⟨_, _, _, hB', Int.ediv_nonneg ha (by omega)⟩⟩
end Lk

set_option Elab.async false
set_option linter.all false
set_option maxRecDepth 100000
set_option maxHeartbeats 4000000
namespace Lk
open PySem PySem.Spec PyProof.Rows L2
theorem ix_tupK {X : Cx} {K : PySem.W.Frag} (h : X.K = K) : IxR X (rIxT K) := by
  subst h
  exact ix_tup
theorem ix_listK {X : Cx} {K : PySem.W.Frag} (h : X.K = K) : IxR X (rIxL K) := by
  subst h
  exact ix_list
theorem cshlN {a k : Nat} (ha : a < 2 ^ 1000) (hk : k ≤ 1000) : CShl (a : Int) (k : Int) := by
  refine ⟨by omega, ?_⟩
  have := intBits_le (a := (a : Int)) (k := 1000) (by rw [Int.natAbs_natCast]; exact ha)
  omega
/-! ### loops over a word -/
theorem for_word {l : List Bool} {g : TG} {tb : TS} {D : Ends} {σ : L2.St} {H : Hp} (Pv : Nat → L2.St → Hp → Prop) (h0 : Pv 0 σ H)
    (hs : ∀ i (hi : i < l.length) σ H, Pv i σ H → g (.str (lt l[i])) σ H fun σ2 H2 => tb { D with nx := Pv (i + 1), ct := Pv (i + 1), bk := D.nx } σ2 H2) (hd : ∀ σ H, Pv l.length σ H → D.nx σ H) :
    ∃ W : Nat → Nat → L2.St → Hp → Prop, (∃ m, W 0 m σ H) ∧ ∀ i m σ H, W i m σ H →
      ((Its (wS l)).stop i H ∧ D.nx σ H) ∨ ((Its (wS l)).go i H ∧ ∃ N : L2.St → Hp → Prop, (∀ σ' H', N σ' H' → ∃ m', m' < m ∧ W (i + 1) m' σ' H') ∧ ∀ x H', (Its (wS l)).yld i H x H' → g x σ H' fun σ2 H2 => tb { D with nx := N, ct := N, bk := D.nx } σ2 H2) := by
  refine ⟨fun i m σ H => m = l.length - i ∧ i ≤ l.length ∧ Pv i σ H, ⟨l.length, by simp, Nat.zero_le _, h0⟩, ?_⟩
  rintro i m σ H ⟨rfl, hi, p⟩
  by_cases hlt : i < l.length
  · refine .inr ⟨by show i < (wS l).cps.size; rw [wS_size]; exact hlt, Pv (i + 1), fun σ' H' p' => ⟨l.length - (i + 1), by omega, rfl, hlt, p'⟩, fun x H' y => ?_⟩
    obtain ⟨e, c, hc, rfl⟩ := y
    subst e
    rw [wS_at l i hlt] at hc
    cases hc
    exact hs i hlt σ _ p
  · have e : i = l.length := by omega
    subst e
    exact .inl ⟨by show (wS l).cps.size ≤ l.length; rw [wS_size]; exact Nat.le_refl _, hd σ H p⟩
theorem for_enumW {l : List Bool} {g : TG} {tb : TS} {D : Ends} {σ : L2.St} {H : Hp} (Pv : Nat → L2.St → Hp → Prop) (h0 : Pv 0 σ H)
    (hs : ∀ i (hi : i < l.length) σ H T, H T = none → Pv i σ H → g (.ref T) σ (upd H T (.tup [.int (i : Nat), .str (lt l[i])])) fun σ2 H2 => tb { D with nx := Pv (i + 1), ct := Pv (i + 1), bk := D.nx } σ2 H2) (hd : ∀ σ H, Pv l.length σ H → D.nx σ H) :
    ∃ W : Nat → Nat → L2.St → Hp → Prop, (∃ m, W 0 m σ H) ∧ ∀ i m σ H, W i m σ H →
      ((Itx (wS l)).stop i H ∧ D.nx σ H) ∨ ((Itx (wS l)).go i H ∧ ∃ N : L2.St → Hp → Prop, (∀ σ' H', N σ' H' → ∃ m', m' < m ∧ W (i + 1) m' σ' H') ∧ ∀ x H', (Itx (wS l)).yld i H x H' → g x σ H' fun σ2 H2 => tb { D with nx := N, ct := N, bk := D.nx } σ2 H2) := by
  refine ⟨fun i m σ H => m = l.length - i ∧ i ≤ l.length ∧ Pv i σ H, ⟨l.length, by simp, Nat.zero_le _, h0⟩, ?_⟩
  rintro i m σ H ⟨rfl, hi, p⟩
  by_cases hlt : i < l.length
  · refine .inr ⟨by show i < (wS l).cps.size; rw [wS_size]; exact hlt, Pv (i + 1), fun σ' H' p' => ⟨l.length - (i + 1), by omega, rfl, hlt, p'⟩, fun x H' y => ?_⟩
    obtain ⟨T, c, rfl, nT, hc, rfl⟩ := y
    rw [wS_at l i hlt] at hc
    cases hc
    exact hs i hlt σ _ T nT p
  · have e : i = l.length := by omega
    subst e
    exact .inl ⟨by show l.length = (wS l).cps.size; rw [wS_size], hd σ H p⟩
/-- over the feet of a word -/
theorem for_feet {K : PySem.W.Frag} {f : Addr} {ts : List Addr} {l : List Bool} {H2 : Hp} {g : TG} {tb : TS} {D : Ends} {σ : L2.St} (F : FeetAt H2 f ts (feetL l)) (Pv : Nat → L2.St → Hp → Prop) (hP : ∀ i σ H, Pv i σ H → Same H2 H) (h0 : Pv 0 σ H2)
    (hs : ∀ i (hi : i < l.length) t σ H, H t = some (.tup [.str (lt l[i]), .int (nx (l.drop (i + 1)) : Nat), .int (ny (l.drop (i + 1)) : Nat)]) → Pv i σ H → g (.ref t) σ H fun σ2 H2 => tb { D with nx := Pv (i + 1), ct := Pv (i + 1), bk := D.nx } σ2 H2) (hd : ∀ σ H, Pv l.length σ H → D.nx σ H) :
    ∃ W : Nat → Nat → L2.St → Hp → Prop, (∃ m, W 0 m σ H2) ∧ ∀ i m σ H, W i m σ H →
      ((Itl K f).stop i H ∧ D.nx σ H) ∨ ((Itl K f).go i H ∧ ∃ N : L2.St → Hp → Prop, (∀ σ' H', N σ' H' → ∃ m', m' < m ∧ W (i + 1) m' σ' H') ∧ ∀ x H', (Itl K f).yld i H x H' → g x σ H' fun σ2 H2 => tb { D with nx := N, ct := N, bk := D.nx } σ2 H2) := by
  have lenT : ts.length = l.length := F.2.1.trans (feetL_len l)
  refine for_list (K := K) (a := f) (xs := ts.map V.ref) Pv h0 (fun i σ H _ W => SqL.of (hP i σ H W _ _ F.1)) (fun i v σ H hv W => ?_) (fun σ H W => ?_)
  · obtain ⟨t, ht, rfl⟩ : ∃ t, ts[i]? = some t ∧ v = V.ref t := by
      rw [List.getElem?_map] at hv
      cases e : ts[i]? with
      | none => rw [e] at hv; cases hv
      | some t => rw [e] at hv; exact ⟨t, rfl, (Option.some.inj hv).symm⟩
    have hi : i < l.length := by rw [← lenT]; exact (List.getElem?_eq_some_iff.mp ht).1
    exact hs i hi t σ H (hP i σ H W _ _ (F.2.2 i t _ ht (feetL_get l i hi))) W
  · rw [List.length_map, lenT] at W
    exact hd σ H W
theorem nx_drop_le (l : List Bool) (i : Nat) : nx (l.drop i) ≤ nx l := by
  have := nx_app (l.take i) (l.drop i)
  rw [List.take_append_drop] at this
  omega
theorem ny_drop_le (l : List Bool) (i : Nat) : ny (l.drop i) ≤ ny l := by
  have := ny_app (l.take i) (l.drop i)
  rw [List.take_append_drop] at this
  omega
theorem len_drop1 (l : List Bool) {i : Nat} (h : i < l.length) : l.length - i = (l.drop (i + 1)).length + 1 := by
  rw [List.length_drop]
  omega
theorem drop_cons (l : List Bool) {i : Nat} (h : i < l.length) : l.drop i = l[i] :: l.drop (i + 1) := (List.getElem_cons_drop h).symm
end Lk

set_option Elab.async false
set_option linter.all false
set_option maxRecDepth 100000
set_option maxHeartbeats 4000000
namespace Lk
open PySem PySem.Spec PyProof.Rows L2
/-! ### parts as they stand -/
def PartAt (H : Hp) (v : V) : Option P4 → Prop
  | none => v = .non
  | some p => ∃ a, v = .ref a ∧ H a = some (.tup [.int (p.1 : Nat), .int (p.2.1 : Nat), .int (p.2.2.1 : Nat), .int (p.2.2.2 : Nat)])
theorem PartAt.same {H H' : Hp} {v : V} {o : Option P4} (e : Same H H') (h : PartAt H v o) : PartAt H' v o := by
  cases o with
  | none => exact h
  | some p =>
    obtain ⟨a, h1, h2⟩ := h
    exact ⟨a, h1, e _ _ h2⟩
theorem PartAt.non {H : Hp} {v : V} {o : Option P4} (h : PartAt H v o) : decide (v = .non) = o.isNone := by
  cases o with
  | none => exact decide_eq_true h
  | some p =>
    obtain ⟨a, rfl, h2⟩ := h
    exact decide_eq_false (by intro z; cases z)
theorem two_toNat (n : Nat) : (1 * 2 ^ (n : Int).toNat : Int) = ((2 ^ n : Nat) : Int) := by
  rw [Int.one_mul, Int.toNat_natCast, Int.natCast_pow]
  rfl
theorem less_next {b : Bool} {r : List Bool} {p : P4} (h : InBlk (b :: r) p) (k : Nat) :
    lessO (b :: r) (some p) (k % 2 ^ (b :: r).length) = if k / 2 ^ r.length % 2 = 1 then areaP (loP b (nx r) (ny r) p) + lessO r (hiP b (nx r) (ny r) p) (k % 2 ^ r.length) else lessO r (loP b (nx r) (ny r) p) (k % 2 ^ r.length) := by
  have e1 := top_bit (c := k / 2 ^ (r.length + 1)) (k := k % 2 ^ (r.length + 1)) r.length
  rw [Nat.mul_comm, Nat.div_add_mod] at e1
  have e2 : k % 2 ^ (r.length + 1) % 2 ^ r.length = k % 2 ^ r.length := Nat.mod_mod_of_dvd _ (Nat.pow_dvd_pow 2 (Nat.le_succ _))
  have e3 := less_halves h (k := k % 2 ^ (r.length + 1)) (Nat.mod_lt _ (two_pos _))
  rw [← e1, e2] at e3
  exact e3
end Lk

set_option Elab.async false
set_option linter.all false
set_option maxRecDepth 100000
set_option maxHeartbeats 4000000
namespace Lk
open PySem PySem.Spec PyProof.Rows L2
/-! ### repr of lists of pairs -/
theorem leaf_int60 {i : Int} (h : i.natAbs < 2 ^ 60) : (PyData.int i).leavesShort 64 = true := by
  have hl : i.natAbs.log2 < 60 := PySem.Flt.log2_lt_of (by decide) h
  simp only [PyData.leavesShort, PyData.shown]
  refine decide_eq_true ?_
  rw [ofString_len]
  have := int_text_length_le (by decide) hl
  omega
def pairD (p : Int × Int) : PyData := .tuple [.int p.1, .int p.2]
theorem leaf_pairs : ∀ ps : List (Int × Int), (∀ p ∈ ps, p.1.natAbs < 2 ^ 60 ∧ p.2.natAbs < 2 ^ 60) → PyData.showableAll (ps.map pairD) = true ∧ PyData.hasDictAll (ps.map pairD) = false ∧ PyData.depthAll (ps.map pairD) ≤ 1 ∧ PyData.leavesShortAll 64 (ps.map pairD) = true ∧ PyData.weightAll (ps.map pairD) ≤ 160 * ps.length
  | [], _ => by simp [PyData.showableAll, PyData.hasDictAll, PyData.depthAll, PyData.leavesShortAll, PyData.weightAll]
  | p :: r, h => by
    obtain ⟨a1, a2, a3, a4, a5⟩ := leaf_pairs r fun m hm => h m (List.mem_cons_of_mem _ hm)
    obtain ⟨h1, h2⟩ := h p List.mem_cons_self
    have hp : ∀ d ∈ [PyData.int p.1, .int p.2], Atm d := allc (show p.1.natAbs < 2 ^ 1000 from Nat.lt_of_lt_of_le h1 (Nat.pow_le_pow_right (by decide) (by decide))) (all1 (show p.2.natAbs < 2 ^ 1000 from Nat.lt_of_lt_of_le h2 (Nat.pow_le_pow_right (by decide) (by decide))))
    obtain ⟨b1, b2, b3, b4, b5, b6⟩ := atms_ok _ hp
    have c1 := leaf_int60 h1
    have c2 := leaf_int60 h2
    have l1 : p.1.natAbs.log2 < 60 := PySem.Flt.log2_lt_of (by decide) h1
    have l2 : p.2.natAbs.log2 < 60 := PySem.Flt.log2_lt_of (by decide) h2
    refine ⟨?_, ?_, ?_, ?_, ?_⟩
    · rw [List.map_cons]
      simp only [PyData.showableAll, pairD, PyData.showable, a1, Bool.and_true]
      simpa only [PyData.showableAll, PyData.showable, Bool.and_true] using b1
    · rw [List.map_cons]
      simp only [PyData.hasDictAll, pairD, PyData.hasDict, a2, Bool.or_false]
    · rw [List.map_cons]
      simp only [PyData.depthAll, pairD, PyData.depth]
      omega
    · rw [List.map_cons]
      simp only [PyData.leavesShortAll, pairD, a4, Bool.and_true]
      simp only [PyData.leavesShort, PyData.leavesShortAll, Bool.and_true, Bool.and_eq_true] at c1 c2 ⊢
      exact ⟨c1, c2⟩
    · rw [List.map_cons]
      simp only [PyData.weightAll, pairD, PyData.weight, List.length_cons]
      split <;> split <;> omega
theorem rp_pairs (ps : List (Int × Int)) (h : ∀ p ∈ ps, p.1.natAbs < 2 ^ 60 ∧ p.2.natAbs < 2 ^ 60) (hl : ps.length ≤ 300) : RpOk (.list (ps.map pairD)) := by
  obtain ⟨a1, a2, a3, a4, a5⟩ := leaf_pairs ps h
  refine ⟨by simpa only [PyData.showable] using a1, by simpa only [PyData.hasDict] using a2, ?_, ?_⟩
  · simp only [PyData.depth]
    omega
  · have s := PyData.shown_le 64 (by decide) (.list (ps.map pairD)) (by simpa only [PyData.leavesShort] using a4)
    have e : (PyData.list (ps.map pairD)).weight = PyData.weightAll (ps.map pairD) := by simp only [PyData.weight]
    rw [e] at s
    have : sizeLine = 16777216 := sizeLine_eq
    omega
/-! ### a comprehension that makes pairs -/
def AccT (A : Addr) (H0 Hc : Hp) (ps : List (Int × Int)) : Prop := But A H0 Hc ∧ ∃ ts : List Addr, Hc A = some (.lst (ts.map V.ref)) ∧ TupsAt Hc ts ps
theorem AccT.nil {A : Addr} {H0 : Hp} : AccT A H0 (upd H0 A (.lst [])) [] := ⟨But.upd, [], upd_same, True.intro⟩
theorem AccT.snoc {A : Addr} {H0 Hc H' : Hp} {ps : List (Int × Int)} {t : Addr} {a b : Int} (h : AccT A H0 Hc ps) (e : Same Hc H') (kt : H' t = some (.tup [.int a, .int b])) :
    ∃ acc, H' A = some (.lst acc) ∧ acc.length = ps.length ∧ AccT A H0 (upd H' A (.lst (acc ++ [.ref t]))) (ps ++ [(a, b)]) := by
  obtain ⟨b0, ts, hA, hT⟩ := h
  have hA' := e _ _ hA
  have keep : ∀ (u : Addr) (x y : Int), H' u = some (.tup [.int x, .int y]) → (upd H' A (.lst (ts.map V.ref ++ [.ref t]))) u = some (.tup [.int x, .int y]) := fun u x y hu => by
    rw [upd_ne (fun z => by rw [z, hA'] at hu; cases hu)]
    exact hu
  refine ⟨_, hA', by rw [List.length_map, hT.len], But.trans (b0.trans (Same.but e)) But.upd, ts ++ [t], ?_, TupsAt.snoc (keep _ _ _ kt) (TupsAt.imp (fun u x y hu => keep _ _ _ (e _ _ hu)) hT)⟩
  rw [upd_same, List.map_append]
  rfl
theorem AccT.dp {K : PySem.W.Frag} {A : Addr} {H0 Hc : Hp} {ps : List (Int × Int)} (h : AccT A H0 Hc ps) : Dp K Hc (.ref A) (.list (ps.map pairD)) := by
  obtain ⟨b0, ts, hA, hT⟩ := h
  exact Dp.lst (SqL.of hA) hT.dp
def cellP (l : List Bool) (k : Nat) : Int × Int := (((xOf l k : Nat) : Int), ((yOf l k : Nat) : Int))
theorem rp_cells {l : List Bool} (h1 : nx l ≤ 30) (h2 : ny l ≤ 30) {ks : List Nat} (hl : ks.length ≤ 300) : RpOk (.list ((ks.map (cellP l)).map pairD)) := by
  refine rp_pairs _ (fun p hp => ?_) (by rw [List.length_map]; exact hl)
  obtain ⟨k, _, rfl⟩ := List.mem_map.mp hp
  have e1 : xOf l k < 2 ^ 60 := pwl (xOf_lt l k) (by omega)
  have e2 : yOf l k < 2 ^ 60 := pwl (yOf_lt l k) (by omega)
  exact ⟨by show (((xOf l k : Nat) : Int)).natAbs < _; rw [Int.natAbs_natCast]; exact e1, by show (((yOf l k : Nat) : Int)).natAbs < _; rw [Int.natAbs_natCast]; exact e2⟩
theorem take_snoc {ks : List Nat} {j k : Nat} (h : ks[j]? = some k) : ks.take (j + 1) = ks.take j ++ [k] := by
  rw [List.take_succ, h]
  rfl
theorem cut_int {ns : List Int} {lo hi : Option Int} {v : V} (h : v ∈ cutV (ns.map V.int) lo hi ++ [V.int 0]) : ∃ c : Int, v = .int c := by
  rcases List.mem_append.mp h with z | z
  · unfold cutV at z
    have z1 := List.mem_of_mem_drop (List.mem_of_mem_take z)
    obtain ⟨c, _, e⟩ := List.mem_map.mp z1
    exact ⟨c, e.symm⟩
  · exact ⟨0, List.mem_singleton.mp z⟩
theorem bag_new {H : Hp} {r : Addr} {c : Int} (h : BagX H r (if c - 1000000000000000000 > 0 then c - 1000000000000000000 else 0) c 0) : Bag H r := ⟨_, _, _, h, by split <;> omega⟩
end Lk
namespace Lk
open PySem PySem.Spec PyProof.Rows L2
theorem ex19 : ∀ x ∈ [1, 2], ∀ y ∈ [0, 1, 2, 3], lessO [false, true, false, true] (some (1, 0, 2, 3)) (keyL [false, true, false, true] x y) = 4 → xOf [false, true, false, true] (keyL [false, true, false, true] x y) = 1 ∧ yOf [false, true, false, true] (keyL [false, true, false, true] x y) = 2 := by decide +kernel
theorem ex19' {K : Nat} (h : keyIn [false, true, false, true] (some (1, 0, 2, 3)) K) (h2 : lessO [false, true, false, true] (some (1, 0, 2, 3)) K = 4) : xOf [false, true, false, true] K = 1 ∧ yOf [false, true, false, true] K = 2 := by
  obtain ⟨p, x, y, e, h1, h3, h4, h5, ek⟩ := h
  cases e
  simp only at h1 h3 h4 h5
  rw [← ek] at h2 ⊢
  refine ex19 x ?_ y ?_ h2
  · rcases (show x = 1 ∨ x = 2 by omega) with rfl | rfl <;> decide
  · rcases (show y = 0 ∨ y = 1 ∨ y = 2 ∨ y = 3 by omega) with rfl | rfl | rfl | rfl <;> decide
end Lk

set_option Elab.async false
set_option linter.all false
set_option maxRecDepth 100000
set_option maxHeartbeats 4000000
namespace Lk
open PySem PySem.Spec PyProof.Rows L2

local macro_rules | `(tactic| walk_at "sd") => `(tactic| first
  | exact (by assumption)
  | exact Nat.le_of_ble_eq_true rfl
  | decide
  | exact .inl ⟨by decide, by decide⟩
  | exact .inr ⟨by decide, by decide⟩
  | exact ⟨by decide, by decide, by decide⟩
  | exact ⟨by decide, by decide⟩
  | exact .inl ⟨rfl, _, SqL.of (by assumption)⟩
  | exact ⟨Int.natCast_nonneg _, by omega, by decide⟩
  | exact ⟨by omega, by omega, by omega⟩
  | omega)
local macro_rules | `(tactic| walk_at "rd1") => `(tactic| first
  | refine ⟨_, rfl, ?_⟩
  | refine ⟨_, _, rfl, rfl, ?_⟩
  | refine .inl ⟨_, rfl, ?_⟩
  | refine .inl ⟨_, _, rfl, rfl, ?_⟩
  | refine .inr ⟨_, rfl, ?_⟩
  | refine ⟨_, _, rfl, ?_⟩
  | refine ⟨_, _, _, rfl, ?_⟩
  | refine ⟨_, _, _, _, rfl, rfl, SqL.of (by assumption), rfl, ?_⟩
  | refine ⟨_, _, _, _, rfl, rfl, SqT.of (by assumption), rfl, ?_⟩
  | refine ⟨_, _, rfl, SqT.of (by assumption), rfl, ?_⟩
  | refine ⟨_, _, rfl, SqT.of upd_same, rfl, ?_⟩
  | refine ⟨_, _, rfl, SqL.of (by assumption), rfl, ?_⟩
  | refine ⟨_, _, _, _, rfl, rfl, (by assumption), rfl, ?_⟩
  | refine ⟨_, _, _, rfl, (by assumption), ?_⟩
  | refine ⟨_, _, rfl, ⟨_, (by assumption)⟩, ?_⟩
  | refine ⟨rfl, ?_⟩
  | refine And.intro (by walk_at "sd") ?_)
local macro_rules | `(tactic| walk_at "rd") => `(tactic| repeat walk_at "rd1")
def topS (i : Nat) : Stmt := PySem.Challenge.pw_lacekeys_k19_ranks_by_listing.main.body.getD i (.Pass ⟨0, 0, 0, 0⟩)
abbrev sis_word : Stmt := topS 22
theorem scis_word : FnScope ["value", "x_bits", "y_bits"] ["value"] (defScope sis_word) := ⟨rfl, rfl, rfl, by decide +kernel, rfl, by decide +kernel, by decide +kernel⟩
abbrev sLayoutU_initU : Stmt := inClass (topS 27) 0
theorem scLayoutU_initU : FnScope ["self", "word"] ["self", "word"] (defScope sLayoutU_initU) := ⟨rfl, rfl, rfl, by decide +kernel, rfl, by decide +kernel, by decide +kernel⟩
abbrev slaw_bag : Stmt := topS 35
theorem sclaw_bag : FnScope ["cell"] ["cell"] (defScope slaw_bag) := ⟨rfl, rfl, rfl, by decide +kernel, rfl, by decide +kernel, by decide +kernel⟩
abbrev slaw_pick : Stmt := topS 36
theorem sclaw_pick : FnScope ["bag", "many", "told", "seed", "turn", "first", "second", "drawn"] ["bag", "many"] (defScope slaw_pick) := ⟨rfl, rfl, rfl, by decide +kernel, rfl, by decide +kernel, by decide +kernel⟩
abbrev slaw_bits : Stmt := topS 38
theorem sclaw_bits : FnScope ["bag", "most", "x_bits", "y_bits"] ["bag", "most"] (defScope slaw_bits) := ⟨rfl, rfl, rfl, by decide +kernel, rfl, by decide +kernel, by decide +kernel⟩
abbrev slaw_side : Stmt := topS 41
theorem sclaw_side : FnScope ["bag", "bits", "top", "low", "high", "way", "power", "first"] ["bag", "bits"] (defScope slaw_side) := ⟨rfl, rfl, rfl, by decide +kernel, rfl, by decide +kernel, by decide +kernel⟩
abbrev slaw_box : Stmt := topS 42
theorem sclaw_box : FnScope ["bag", "x_bits", "y_bits", "one", "other"] ["bag", "x_bits", "y_bits"] (defScope slaw_box) := ⟨rfl, rfl, rfl, by decide +kernel, rfl, by decide +kernel, by decide +kernel⟩
abbrev slaw_cell : Stmt := topS 40
theorem sclaw_cell : FnScope ["word", "key", "x", "y", "i", "j", "spot", "letter"] ["word", "key"] (defScope slaw_cell) := ⟨rfl, rfl, rfl, by decide +kernel, rfl, by decide +kernel, by decide +kernel⟩
abbrev slaw_key : Stmt := topS 39
theorem sclaw_key : FnScope ["word", "x", "y", "found", "i", "j", "letter"] ["word", "x", "y"] (defScope slaw_key) := ⟨rfl, rfl, rfl, by decide +kernel, rfl, by decide +kernel, by decide +kernel⟩
abbrev slaw_keys : Stmt := topS 43
theorem sclaw_keys : FnScope ["word", "box", "found", "y", "x"] ["word", "box"] (defScope slaw_keys) := ⟨rfl, rfl, rfl, by decide +kernel, rfl, by decide +kernel, by decide +kernel⟩
abbrev slaw_word : Stmt := topS 37
theorem sclaw_word : FnScope ["bag", "x_bits", "y_bits", "way", "left", "found", "spot", "many"] ["bag", "x_bits", "y_bits"] (defScope slaw_word) := ⟨rfl, rfl, rfl, by decide +kernel, rfl, by decide +kernel, by decide +kernel⟩
abbrev sis_integer : Stmt := topS 12
theorem scis_integer : FnScope ["value"] ["value"] (defScope sis_integer) := ⟨rfl, rfl, rfl, by decide +kernel, rfl, by decide +kernel, by decide +kernel⟩
abbrev sis_between : Stmt := topS 13
theorem scis_between : FnScope ["value", "low", "high"] ["value", "low", "high"] (defScope sis_between) := ⟨rfl, rfl, rfl, by decide +kernel, rfl, by decide +kernel, by decide +kernel⟩
abbrev scheck_key : Stmt := topS 18
theorem sccheck_key : FnScope ["key", "x_bits", "y_bits"] ["key", "x_bits", "y_bits"] (defScope scheck_key) := ⟨rfl, rfl, rfl, by decide +kernel, rfl, by decide +kernel, by decide +kernel⟩
abbrev sfeet : Stmt := topS 23
theorem scfeet : FnScope ["word", "i", "j", "found", "letter"] ["word"] (defScope sfeet) := ⟨rfl, rfl, rfl, by decide +kernel, rfl, by decide +kernel, by decide +kernel⟩
abbrev sLayout_cell : Stmt := inClass (topS 27) 6
theorem scLayout_cell : FnScope ["self", "key", "x", "y", "letter", "i", "j", "digit"] ["self", "key"] (defScope sLayout_cell) := ⟨rfl, rfl, rfl, by decide +kernel, rfl, by decide +kernel, by decide +kernel⟩
abbrev sLayout_word : Stmt := inClass (topS 27) 2
theorem scLayout_word : FnScope ["self"] ["self"] (defScope sLayout_word) := ⟨rfl, rfl, rfl, by decide +kernel, rfl, by decide +kernel, by decide +kernel⟩
abbrev sarea_of : Stmt := topS 1
theorem scarea_of : FnScope ["box", "x1", "y1", "x2", "y2"] ["box"] (defScope sarea_of) := ⟨rfl, rfl, rfl, by decide +kernel, rfl, by decide +kernel, by decide +kernel⟩
abbrev sarea_of_part : Stmt := topS 33
theorem scarea_of_part : FnScope ["part"] ["part"] (defScope sarea_of_part) := ⟨rfl, rfl, rfl, by decide +kernel, rfl, by decide +kernel, by decide +kernel⟩
abbrev scheck_index : Stmt := topS 20
theorem sccheck_index : FnScope ["index", "many"] ["index", "many"] (defScope scheck_index) := ⟨rfl, rfl, rfl, by decide +kernel, rfl, by decide +kernel, by decide +kernel⟩
abbrev sLayout_x_bits : Stmt := inClass (topS 27) 3
theorem scLayout_x_bits : FnScope ["self"] ["self"] (defScope sLayout_x_bits) := ⟨rfl, rfl, rfl, by decide +kernel, rfl, by decide +kernel, by decide +kernel⟩
abbrev sLayout_y_bits : Stmt := inClass (topS 27) 4
theorem scLayout_y_bits : FnScope ["self"] ["self"] (defScope sLayout_y_bits) := ⟨rfl, rfl, rfl, by decide +kernel, rfl, by decide +kernel, by decide +kernel⟩
abbrev sare_integers : Stmt := topS 14
theorem scare_integers : FnScope ["value", "many", "part"] ["value", "many"] (defScope sare_integers) := ⟨rfl, rfl, rfl, by decide +kernel, rfl, by decide +kernel, by decide +kernel⟩
abbrev sis_box : Stmt := topS 16
theorem scis_box : FnScope ["value", "x_bits", "y_bits", "x1", "y1", "x2", "y2"] ["value", "x_bits", "y_bits"] (defScope sis_box) := ⟨rfl, rfl, rfl, by decide +kernel, rfl, by decide +kernel, by decide +kernel⟩
abbrev scheck_box : Stmt := topS 19
theorem sccheck_box : FnScope ["box", "x_bits", "y_bits"] ["box", "x_bits", "y_bits"] (defScope scheck_box) := ⟨rfl, rfl, rfl, by decide +kernel, rfl, by decide +kernel, by decide +kernel⟩
abbrev scheck_layout : Stmt := topS 28
theorem sccheck_layout : FnScope ["layout"] ["layout"] (defScope scheck_layout) := ⟨rfl, rfl, rfl, by decide +kernel, rfl, by decide +kernel, by decide +kernel⟩
abbrev scheck_layout_and_box : Stmt := topS 29
theorem sccheck_layout_and_box : FnScope ["layout", "box"] ["layout", "box"] (defScope scheck_layout_and_box) := ⟨rfl, rfl, rfl, by decide +kernel, rfl, by decide +kernel, by decide +kernel⟩
abbrev shalve : Stmt := topS 25
theorem schalve : FnScope ["letter", "i", "j", "part", "x1", "y1", "x2", "y2", "low", "high", "middle"] ["letter", "i", "j", "part"] (defScope shalve) := ⟨rfl, rfl, rfl, by decide +kernel, rfl, by decide +kernel, by decide +kernel⟩
abbrev scell_at : Stmt := topS 32
theorem sccell_at : FnScope ["layout", "box", "index", "part", "key", "left", "letter", "i", "j", "low", "high", "many"] ["layout", "box", "index"] (defScope scell_at) := ⟨rfl, rfl, rfl, by decide +kernel, rfl, by decide +kernel, by decide +kernel⟩
abbrev srank : Stmt := topS 31
theorem scrank : FnScope ["layout", "box", "key", "part", "less", "letter", "i", "j", "low", "high"] ["layout", "box", "key"] (defScope srank) := ⟨rfl, rfl, rfl, by decide +kernel, rfl, by decide +kernel, by decide +kernel⟩
abbrev slaw_right : Stmt := topS 44
theorem sclaw_right : FnScope ["bag", "x_bits", "y_bits", "word", "box", "keys", "one", "due", "many", "key", "told", "spot"] ["bag"] (defScope slaw_right) := ⟨rfl, rfl, rfl, by decide +kernel, rfl, by decide +kernel, by decide +kernel⟩
abbrev slaw : Stmt := topS 45
theorem sclaw : FnScope ["script", "cell", "bag", "turn", "z"] ["script"] (defScope slaw) := ⟨rfl, rfl, rfl, by decide +kernel, rfl, by decide +kernel, by decide +kernel⟩
structure Ads where
  C_Layout : Addr
  f_is_word : Addr
  d_is_word : FuncData
  f_LayoutU_initU : Addr
  d_LayoutU_initU : FuncData
  f_law_bag : Addr
  d_law_bag : FuncData
  f_law_pick : Addr
  d_law_pick : FuncData
  f_law_bits : Addr
  d_law_bits : FuncData
  f_law_side : Addr
  d_law_side : FuncData
  f_law_box : Addr
  d_law_box : FuncData
  f_law_cell : Addr
  d_law_cell : FuncData
  f_law_key : Addr
  d_law_key : FuncData
  f_law_keys : Addr
  d_law_keys : FuncData
  f_law_word : Addr
  d_law_word : FuncData
  f_is_integer : Addr
  d_is_integer : FuncData
  f_is_between : Addr
  d_is_between : FuncData
  f_check_key : Addr
  d_check_key : FuncData
  f_feet : Addr
  d_feet : FuncData
  f_Layout_cell : Addr
  d_Layout_cell : FuncData
  f_Layout_word : Addr
  d_Layout_word : FuncData
  p_Layout_word : Addr
  f_area_of : Addr
  d_area_of : FuncData
  f_area_of_part : Addr
  d_area_of_part : FuncData
  f_check_index : Addr
  d_check_index : FuncData
  f_Layout_x_bits : Addr
  d_Layout_x_bits : FuncData
  p_Layout_x_bits : Addr
  f_Layout_y_bits : Addr
  d_Layout_y_bits : FuncData
  p_Layout_y_bits : Addr
  f_are_integers : Addr
  d_are_integers : FuncData
  f_is_box : Addr
  d_is_box : FuncData
  f_check_box : Addr
  d_check_box : FuncData
  f_check_layout : Addr
  d_check_layout : FuncData
  f_check_layout_and_box : Addr
  d_check_layout_and_box : FuncData
  f_halve : Addr
  d_halve : FuncData
  f_cell_at : Addr
  d_cell_at : FuncData
  f_rank : Addr
  d_rank : FuncData
  f_law_right : Addr
  d_law_right : FuncData
  f_law : Addr
  d_law : FuncData
structure Top (K : PySem.W.Frag) (mg : Str → Option Value) (Z : Ads) : Prop where
  F_is_word : Fun K "is_word" "is_word" sis_word Z.f_is_word Z.d_is_word
  b_is_word : Binds K Z.d_is_word ["value"] []
  m_is_word : mg "is_word" = some (.ref Z.f_is_word)
  F_LayoutU_initU : Fun K "__init__" "Layout.__init__" sLayoutU_initU Z.f_LayoutU_initU Z.d_LayoutU_initU
  b_LayoutU_initU : Binds K Z.d_LayoutU_initU ["self", "word"] []
  mk_Layout : Mk K Z.C_Layout Z.f_LayoutU_initU
  F_law_bag : Fun K "_law_bag" "_law_bag" slaw_bag Z.f_law_bag Z.d_law_bag
  b_law_bag : Binds K Z.d_law_bag ["cell"] []
  m_law_bag : mg "_law_bag" = some (.ref Z.f_law_bag)
  F_law_pick : Fun K "_law_pick" "_law_pick" slaw_pick Z.f_law_pick Z.d_law_pick
  b_law_pick : Binds K Z.d_law_pick ["bag", "many"] []
  m_law_pick : mg "_law_pick" = some (.ref Z.f_law_pick)
  F_law_bits : Fun K "_law_bits" "_law_bits" slaw_bits Z.f_law_bits Z.d_law_bits
  b_law_bits : Binds K Z.d_law_bits ["bag", "most"] []
  m_law_bits : mg "_law_bits" = some (.ref Z.f_law_bits)
  F_law_side : Fun K "_law_side" "_law_side" slaw_side Z.f_law_side Z.d_law_side
  b_law_side : Binds K Z.d_law_side ["bag", "bits"] []
  m_law_side : mg "_law_side" = some (.ref Z.f_law_side)
  F_law_box : Fun K "_law_box" "_law_box" slaw_box Z.f_law_box Z.d_law_box
  b_law_box : Binds K Z.d_law_box ["bag", "x_bits", "y_bits"] []
  m_law_box : mg "_law_box" = some (.ref Z.f_law_box)
  F_law_cell : Fun K "_law_cell" "_law_cell" slaw_cell Z.f_law_cell Z.d_law_cell
  b_law_cell : Binds K Z.d_law_cell ["word", "key"] []
  m_law_cell : mg "_law_cell" = some (.ref Z.f_law_cell)
  F_law_key : Fun K "_law_key" "_law_key" slaw_key Z.f_law_key Z.d_law_key
  b_law_key : Binds K Z.d_law_key ["word", "x", "y"] []
  m_law_key : mg "_law_key" = some (.ref Z.f_law_key)
  F_law_keys : Fun K "_law_keys" "_law_keys" slaw_keys Z.f_law_keys Z.d_law_keys
  b_law_keys : Binds K Z.d_law_keys ["word", "box"] []
  m_law_keys : mg "_law_keys" = some (.ref Z.f_law_keys)
  F_law_word : Fun K "_law_word" "_law_word" slaw_word Z.f_law_word Z.d_law_word
  b_law_word : Binds K Z.d_law_word ["bag", "x_bits", "y_bits"] []
  m_law_word : mg "_law_word" = some (.ref Z.f_law_word)
  F_is_integer : Fun K "is_integer" "is_integer" sis_integer Z.f_is_integer Z.d_is_integer
  b_is_integer : Binds K Z.d_is_integer ["value"] []
  m_is_integer : mg "is_integer" = some (.ref Z.f_is_integer)
  F_is_between : Fun K "is_between" "is_between" sis_between Z.f_is_between Z.d_is_between
  b_is_between : Binds K Z.d_is_between ["value", "low", "high"] []
  m_is_between : mg "is_between" = some (.ref Z.f_is_between)
  F_check_key : Fun K "check_key" "check_key" scheck_key Z.f_check_key Z.d_check_key
  b_check_key : Binds K Z.d_check_key ["key", "x_bits", "y_bits"] []
  m_check_key : mg "check_key" = some (.ref Z.f_check_key)
  F_feet : Fun K "feet" "feet" sfeet Z.f_feet Z.d_feet
  b_feet : Binds K Z.d_feet ["word"] []
  m_feet : mg "feet" = some (.ref Z.f_feet)
  F_Layout_cell : Fun K "cell" "Layout.cell" sLayout_cell Z.f_Layout_cell Z.d_Layout_cell
  b_Layout_cell : Binds K Z.d_Layout_cell ["self", "key"] []
  meth_Layout_cell : Meth K Z.C_Layout "cell" Z.f_Layout_cell
  F_Layout_word : Fun K "word" "Layout.word" sLayout_word Z.f_Layout_word Z.d_Layout_word
  b_Layout_word : Binds K Z.d_Layout_word ["self"] []
  p_Layout_word : PropOf K Z.C_Layout "word" Z.p_Layout_word Z.f_Layout_word
  F_area_of : Fun K "area_of" "area_of" sarea_of Z.f_area_of Z.d_area_of
  b_area_of : Binds K Z.d_area_of ["box"] []
  m_area_of : mg "area_of" = some (.ref Z.f_area_of)
  F_area_of_part : Fun K "_area_of_part" "_area_of_part" sarea_of_part Z.f_area_of_part Z.d_area_of_part
  b_area_of_part : Binds K Z.d_area_of_part ["part"] []
  m_area_of_part : mg "_area_of_part" = some (.ref Z.f_area_of_part)
  F_check_index : Fun K "check_index" "check_index" scheck_index Z.f_check_index Z.d_check_index
  b_check_index : Binds K Z.d_check_index ["index", "many"] []
  m_check_index : mg "check_index" = some (.ref Z.f_check_index)
  F_Layout_x_bits : Fun K "x_bits" "Layout.x_bits" sLayout_x_bits Z.f_Layout_x_bits Z.d_Layout_x_bits
  b_Layout_x_bits : Binds K Z.d_Layout_x_bits ["self"] []
  p_Layout_x_bits : PropOf K Z.C_Layout "x_bits" Z.p_Layout_x_bits Z.f_Layout_x_bits
  F_Layout_y_bits : Fun K "y_bits" "Layout.y_bits" sLayout_y_bits Z.f_Layout_y_bits Z.d_Layout_y_bits
  b_Layout_y_bits : Binds K Z.d_Layout_y_bits ["self"] []
  p_Layout_y_bits : PropOf K Z.C_Layout "y_bits" Z.p_Layout_y_bits Z.f_Layout_y_bits
  F_are_integers : Fun K "are_integers" "are_integers" sare_integers Z.f_are_integers Z.d_are_integers
  b_are_integers : Binds K Z.d_are_integers ["value", "many"] []
  m_are_integers : mg "are_integers" = some (.ref Z.f_are_integers)
  F_is_box : Fun K "is_box" "is_box" sis_box Z.f_is_box Z.d_is_box
  b_is_box : Binds K Z.d_is_box ["value", "x_bits", "y_bits"] []
  m_is_box : mg "is_box" = some (.ref Z.f_is_box)
  F_check_box : Fun K "check_box" "check_box" scheck_box Z.f_check_box Z.d_check_box
  b_check_box : Binds K Z.d_check_box ["box", "x_bits", "y_bits"] []
  m_check_box : mg "check_box" = some (.ref Z.f_check_box)
  F_check_layout : Fun K "check_layout" "check_layout" scheck_layout Z.f_check_layout Z.d_check_layout
  b_check_layout : Binds K Z.d_check_layout ["layout"] []
  m_check_layout : mg "check_layout" = some (.ref Z.f_check_layout)
  F_check_layout_and_box : Fun K "check_layout_and_box" "check_layout_and_box" scheck_layout_and_box Z.f_check_layout_and_box Z.d_check_layout_and_box
  b_check_layout_and_box : Binds K Z.d_check_layout_and_box ["layout", "box"] []
  m_check_layout_and_box : mg "check_layout_and_box" = some (.ref Z.f_check_layout_and_box)
  F_halve : Fun K "halve" "halve" shalve Z.f_halve Z.d_halve
  b_halve : Binds K Z.d_halve ["letter", "i", "j", "part"] []
  m_halve : mg "halve" = some (.ref Z.f_halve)
  F_cell_at : Fun K "cell_at" "cell_at" scell_at Z.f_cell_at Z.d_cell_at
  b_cell_at : Binds K Z.d_cell_at ["layout", "box", "index"] []
  m_cell_at : mg "cell_at" = some (.ref Z.f_cell_at)
  F_rank : Fun K "rank" "rank" srank Z.f_rank Z.d_rank
  b_rank : Binds K Z.d_rank ["layout", "box", "key"] []
  m_rank : mg "rank" = some (.ref Z.f_rank)
  F_law_right : Fun K "_law_right" "_law_right" slaw_right Z.f_law_right Z.d_law_right
  b_law_right : Binds K Z.d_law_right ["bag"] []
  m_law_right : mg "_law_right" = some (.ref Z.f_law_right)
  F_law : Fun K "law" "law" slaw Z.f_law Z.d_law
  b_law : Binds K Z.d_law ["script"] []
  m_law : mg "law" = some (.ref Z.f_law)
  m_Layout : mg "Layout" = some (.ref Z.C_Layout)
  cl_Layout : Cls K Z.C_Layout
  ins_Layout : C8.InsC K Z.C_Layout
  no_Layout_word : NoAttr K Z.C_Layout "_word"
  no_Layout_x_bits : NoAttr K Z.C_Layout "_x_bits"
  no_Layout_y_bits : NoAttr K Z.C_Layout "_y_bits"
  z_all : mg "all" = none
  z_bool : mg "bool" = none
  z_enumerate : mg "enumerate" = none
  z_int : mg "int" = none
  z_isinstance : mg "isinstance" = none
  z_len : mg "len" = none
  z_max : mg "max" = none
  z_min : mg "min" = none
  z_range : mg "range" = none
  z_repr : mg "repr" = none
  z_sorted : mg "sorted" = none
  z_str : mg "str" = none
  z_sum : mg "sum" = none
  z_tuple : mg "tuple" = none
  m_MOST_BITS : ∃ t, mg "MOST_BITS" = some (.int 100 t)
def splaw_any (K : PySem.W.Frag) : Sp := fun vs H Q _ => ∃ (a : Addr) (ns : List Int), vs = [.ref a] ∧ SqL K H a (ns.map V.int) ∧ ns.length ≤ 63 ∧ ∀ H', Q (.bl true) H'
theorem but_same {r : Addr} {H H1 H2 : Hp} (e : Same H H1) (hr : H r = none) (b : But r H1 H2) : Same H H2 := fun c o q => b c o (ne_of_none q hr) (e c o q)
theorem kk_of (len : Nat) : ∃ kk : Nat, 1 ≤ kk ∧ kk ≤ 6 ∧ (if (if ((len : Nat) : Int) < 6 then ((len : Nat) : Int) else 6) > 1 then (if ((len : Nat) : Int) < 6 then ((len : Nat) : Int) else 6) else 1) = (kk : Int) := by
  by_cases h : ((len : Nat) : Int) < 6
  · rw [if_pos h]
    by_cases h1 : ((len : Nat) : Int) > 1
    · rw [if_pos h1]
      exact ⟨len, by omega, by omega, rfl⟩
    · rw [if_neg h1]
      exact ⟨1, by omega, by omega, rfl⟩
  · rw [if_neg h, if_pos (by omega)]
    exact ⟨6, by omega, by omega, rfl⟩
section
variable {P : Program} {w : World} {K : PySem.W.Frag} {mg : Str → Option Value} {base : Heap}
def spis_word (K : PySem.W.Frag) (Z : Ads) : Sp := fun vs H Q _ => ∃ l : List Bool, vs = [.str (wS l)] ∧ GoodW l ∧ Q (.bl true) H
theorem okis_word {Z : Ads} (T : Top K mg Z) : FnOk P w K mg base CX0 1 Z.f_is_word Z.d_is_word ["value"] (spis_word K Z) := by
  refine T.F_is_word.ok scis_word (fun vs H Q E h => ?_) (fun cdv A outer s H vs Q E hr h => ?_)
  · obtain ⟨l, rfl, g, q⟩ := h
    rfl
  · obtain ⟨l, rfl, g, q⟩ := h
    obtain ⟨tM, mM⟩ := T.m_MOST_BITS
    refine ⟨_, (pss_cons (ps_if (PW.pt (pw_or (pt_not (pt_val (pe_callB (call_isi) (by rfl) T.z_isinstance (by decide +kernel) (pa_cons (pv 0) (pa_cons (pe_bltn (v := .ty "str") (by rfl) T.z_str (by decide +kernel) rfl) pa_nil))))) (pw_or1 (pt_cmpR op_eq (pv 0) pe_str (nomark _)))))
        (pss_one (ps_ret pe_bl))
        pss_nil)
      (pss_cons (ps_par (i := 1) (j := 2) (by rfl) scis_word.nd rfl rfl (by decide) rfl rfl (pa_cons (pe_bm PySem.F.plainAttrs_str PySem.F.slot_str_count PySem.F.type_str_count mt_count (pv 0) (pa_cons pe_str pa_nil)) (pa_cons (pe_bm PySem.F.plainAttrs_str PySem.F.slot_str_count PySem.F.type_str_count mt_count (pv 0) (pa_cons pe_str pa_nil)) pa_nil)) (by rfl))
      (pss_one (ps_ret (pe_and (pe_cmpR op_eq (pe_op op_add (pv 1) (pv 2)) (pe_callB call_len_str (by rfl) T.z_len (by decide +kernel) (pa_cons (pv 0) pa_nil)) (nomark _)) (pe_and (pe_cmpR op_le (pv 1) (pe_glob (v := .int 100) (by rfl) mM ⟨_, rfl⟩) (nomark _)) (pe_one (pe_cmpR op_le (pv 2) (pe_glob (v := .int 100) (by rfl) mM ⟨_, rfl⟩) (nomark _))))))))), ?_⟩
    refine ⟨_, rfl, .str (wS l), .ty "str", _, _, true, rfl, .ty _, .base (.str _), kit_ty (by decide +kernel), true, rfl, iteF ?_⟩
    refine ⟨_, rfl, rfl, _, rfl, ite2 (fun e => ?_) (fun _ => ?_)⟩
    · have e1 := V.str.inj (of_decide_eq_true e)
      rw [wS_nil] at e1
      exact absurd (wS_inj e1) g.1
    refine ⟨_, rfl, rfl, _, _, rfl, rfl, _, rfl, rfl, _, _, rfl, rfl, _, _, rfl, ?_⟩
    rw [count_x, count_y]
    have hl := nxy l
    refine ⟨_, rfl, _, rfl, _, _, rfl, rfl, _, rfl, _, rfl, small_line (by rw [wS_len]; have := g.len; omega), rfl, true, ?_, iteT ?_⟩
    · rw [wS_len, decide_eq_true]
      rw [← hl, Int.natCast_add]
    refine ⟨_, rfl, _, _, rfl, rfl, true, congrArg V.bl (decide_eq_true (by have := g.2.1; omega)), iteT ⟨_, rfl, _, _, rfl, rfl, ?_⟩⟩
    show Q (.bl (decide (((ny l : Nat) : Int) ≤ 100))) H
    rw [decide_eq_true (by have := g.2.2; omega)]
    exact q
def spLayoutU_initU (K : PySem.W.Frag) (Z : Ads) : Sp := fun vs H Q _ => ∃ (p dx : Addr) (l : List Bool), vs = [.ref p, .str (wS l)] ∧ GoodW l ∧ H p = some (.ins Z.C_Layout dx []) ∧ ∀ H', But p H H' → H' p = some (.ins Z.C_Layout dx (lf l)) → Q .non H'
theorem okLayoutU_initU {Z : Ads} (T : Top K mg Z) : FnOk P w K mg base CX0 2 Z.f_LayoutU_initU Z.d_LayoutU_initU ["self", "word"] (spLayoutU_initU K Z) := by
  have G_is_word : FnOk P w K mg base CX0 1 Z.f_is_word Z.d_is_word ["value"] (spis_word K Z) := (okis_word T).mono (by decide)
  refine T.F_LayoutU_initU.ok scLayoutU_initU (fun vs H Q E h => ?_) (fun cdv A outer s H vs Q E hr h => ?_)
  · obtain ⟨p, dx, l, rfl, g, hp, q⟩ := h
    rfl
  · obtain ⟨p, dx, l, rfl, g, hp, q⟩ := h
    refine ⟨_, (pss_cons (ps_if (pt_not (pt_val (pe_call G_is_word (hr.mono (by decide)) (by rfl) T.m_is_word T.F_is_word.kp T.b_is_word .nil pass0 (pa_cons (pv 1) pa_nil))))
        (pss_one ps_never)
        pss_nil)
      (pss_cons (ps_fld (pv 0) (pv 1) rfl)
      (pss_cons (ps_fld (pv 0) (pe_bm PySem.F.plainAttrs_str PySem.F.slot_str_count PySem.F.type_str_count mt_count (pv 1) (pa_cons pe_str pa_nil)) rfl)
      (pss_one (ps_fld (pv 0) (pe_bm PySem.F.plainAttrs_str PySem.F.slot_str_count PySem.F.type_str_count mt_count (pv 1) (pa_cons pe_str pa_nil)) rfl))))), ?_⟩
    refine ⟨_, rfl, l, rfl, g, true, rfl, iteF ?_⟩
    refine ⟨_, rfl, _, rfl, p, _, dx, _, rfl, hp, T.cl_Layout, T.no_Layout_word, (by show 0 < 1000; decide), ?_⟩
    refine ⟨_, rfl, rfl, _, _, rfl, rfl, ?_⟩
    rw [count_x]
    refine ⟨_, rfl, p, _, dx, _, rfl, upd_same, T.cl_Layout, T.no_Layout_x_bits, (by show 1 < 1000; decide), ?_⟩
    refine ⟨_, rfl, rfl, _, _, rfl, rfl, ?_⟩
    rw [count_y]
    refine ⟨_, rfl, p, _, dx, _, rfl, upd_same, T.cl_Layout, T.no_Layout_y_bits, (by show 2 < 1000; decide), ?_⟩
    refine q _ (fun b o nb e => ?_) ?_
    · rw [upd_ne nb, upd_ne nb, upd_ne nb]
      exact e
    · rw [upd_same]
      rfl
def splaw_bag (K : PySem.W.Frag) (Z : Ads) : Sp := fun vs H Q _ => ∃ c : Int, vs = [.int c] ∧ ∀ r H', Same H H' → H r = none → BagX H' r (if c - 1000000000000000000 > 0 then c - 1000000000000000000 else 0) c 0 → Q (.ref r) H'
theorem oklaw_bag {Z : Ads} (T : Top K mg Z) : FnOk P w K mg base CX0 1 Z.f_law_bag Z.d_law_bag ["cell"] (splaw_bag K Z) := by
  refine T.F_law_bag.ok sclaw_bag (fun vs H Q E h => ?_) (fun cdv A outer s H vs Q E hr h => ?_)
  · obtain ⟨c, rfl, q⟩ := h
    rfl
  · obtain ⟨c, rfl, q⟩ := h
    refine ⟨_, (pss_one (ps_ret (pe_lst (pa_cons (pe_callB (call_max2 (by rfl)) (by rfl) T.z_max (by decide +kernel) (pa_cons pe_int (pa_cons (pe_op op_sub (pv 0) (pe_op op_pow pe_int pe_int)) pa_nil))) (pa_cons (pv 0) (pa_cons pe_int pa_nil)))))), ?_⟩
    have hm : (10 : Int) ^ (18 : Int).toNat = 1000000000000000000 := by decide +kernel
    refine ⟨_, rfl, _, _, rfl, rfl, ⟨by decide, by decide, by decide⟩, _, _, rfl, rfl, _, _, rfl, _, rfl, (by show 3 ≤ sizeLine; decide), fun r hr => ?_⟩
    refine q r _ (same_new (Same.refl H) hr) hr ?_
    unfold BagX
    rw [upd_same, hm]
def splaw_pick (K : PySem.W.Frag) (Z : Ads) : Sp := fun vs H Q _ => ∃ (r : Addr) (a c k : Int) (many : Nat), vs = [.ref r, .int many] ∧ BagX H r a c k ∧ 0 ≤ a ∧ 1 ≤ many ∧ many < 2 ^ 1000 ∧ ∀ (d : Nat) H', d < many → (d : Int) = pickV a c k many → But r H H' → BagX H' r (a / (many : Int)) c (k + 1) → Q (.int d) H'
theorem oklaw_pick {Z : Ads} (T : Top K mg Z) : FnOk P w K mg base CX0 1 Z.f_law_pick Z.d_law_pick ["bag", "many"] (splaw_pick K Z) := by
  refine T.F_law_pick.ok sclaw_pick (fun vs H Q E h => ?_) (fun cdv A outer s H vs Q E hr h => ?_)
  · obtain ⟨r, a, c, k, many, rfl, hR, ha, hm, hm2, q⟩ := h
    rfl
  · obtain ⟨r, a, c, k, many, rfl, hR, ha, hm, hm2, q⟩ := h
    refine ⟨_, (pss_cons (ps_asg (pe_op op_add (pe_ix ix_list (pv 0) pe_int (fun _ _ => rfl)) pe_int) (pg_sub (pv 0) pe_int set_list))
      (pss_cons (ps_if (pt_cmpR op_gt (pe_ix ix_list (pv 0) pe_int (fun _ _ => rfl)) pe_int (nomark _))
        (pss_cons (ps_set (i := 2) sclaw_pick.nd rfl (.inl rfl) (pe_op op_modN (pe_callTy call_int1 (by rfl) T.z_int (by decide +kernel) (pa_cons (pe_ix ix_list (pv 0) pe_int (fun _ _ => rfl)) pa_nil)) (pv 1)))
      (pss_cons (ps_asg (pe_op op_fdivW (pe_callTy call_int1 (by rfl) T.z_int (by decide +kernel) (pa_cons (pe_ix ix_list (pv 0) pe_int (fun _ _ => rfl)) pa_nil)) (pv 1)) (pg_sub (pv 0) pe_int set_list))
      (pss_one (ps_ret (pv 2)))))
        pss_nil)
      (pss_cons (ps_par (i := 3) (j := 4) (by rfl) sclaw_pick.nd rfl rfl (by decide) rfl rfl (pa_cons (pe_callTy call_int1 (by rfl) T.z_int (by decide +kernel) (pa_cons (pe_ix ix_list (pv 0) pe_int (fun _ _ => rfl)) pa_nil)) (pa_cons (pe_callTy call_int1 (by rfl) T.z_int (by decide +kernel) (pa_cons (pe_ix ix_list (pv 0) pe_int (fun _ _ => rfl)) pa_nil)) pa_nil)) (by rfl))
      (pss_cons (ps_set (i := 5) sclaw_pick.nd rfl (.inl rfl) (pe_op op_modN (pe_callTy call_int1 (by rfl) T.z_int (by decide +kernel) (pa_cons (pe_op op_add (pe_op op_add (pe_op op_mul (pe_op op_modN (pv 3) pe_int) pe_int) (pe_op op_mul (pv 4) pe_int)) pe_int) pa_nil)) pe_int))
      (pss_cons (ps_set (i := 6) sclaw_pick.nd rfl (.inl rfl) (pe_op op_modN (pe_callTy call_int1 (by rfl) T.z_int (by decide +kernel) (pa_cons (pe_op op_add (pe_op op_mul (pv 5) (pv 5)) (pe_op op_mul (pv 4) pe_int)) pa_nil)) pe_int))
      (pss_cons (ps_set (i := 7) sclaw_pick.nd rfl (.inl rfl) (pe_op op_fdivN (pe_callTy call_int1 (by rfl) T.z_int (by decide +kernel) (pa_cons (pe_op op_add (pe_op op_mul (pv 5) pe_int) (pv 6)) pa_nil)) pe_int))
      (pss_cons (ps_if (pt_cmpR op_gt (pv 1) (pe_op op_pow pe_int pe_int) (nomark _))
        (pss_one (ps_set (i := 7) sclaw_pick.nd rfl (.inl rfl) (pe_op op_add (pe_op op_powB (pv 7) pe_int) (pv 6))))
        pss_nil)
      (pss_one (ps_ret (pe_op op_modN (pe_callTy call_int1 (by rfl) T.z_int (by decide +kernel) (pa_cons (pv 7) pa_nil)) (pv 1))))))))))), ?_⟩
    have fin : ∀ (z : Int) (H' : Hp), z.fmod (many : Int) = pickV a c k many → But r H H' → BagX H' r (a / (many : Int)) c (k + 1) → Q (.int (z.fmod (many : Int))) H' := by
      intro z H' ez bt rl
      have h1 : 0 ≤ z.fmod (many : Int) := Int.fmod_nonneg_of_pos _ (by omega)
      have h2 : z.fmod (many : Int) < (many : Int) := Int.fmod_lt_of_pos _ (by omega)
      have e : z.fmod (many : Int) = (((z.fmod (many : Int)).toNat : Nat) : Int) := by omega
      rw [e]
      exact q _ H' (by omega) (by omega) bt rl
    refine ⟨_, rfl, r, _, 2, .int k, rfl, rfl, SqL.of hR, rfl, _, _, rfl, rfl, _, rfl, r, _, _, 2, rfl, rfl, hR, rfl, ?_⟩
    have hR2 : (upd H r (.lst [.int a, .int c, .int (k + 1)])) r = some (.lst [.int a, .int c, .int (k + 1)]) := upd_same
    refine ⟨_, rfl, r, _, 0, .int a, rfl, rfl, SqL.of hR2, rfl, _, _, rfl, rfl, _, rfl, ite2 (fun e => ?_) (fun e => ?_)⟩
    · have ha0 : 0 < a := of_decide_eq_true e
      walk_at "rd"
      refine ⟨cdivN (by omega) hm2, ?_⟩
      walk_at "rd"
      exact fin a _ (by unfold pickV; rw [if_pos ha0]) (But.trans But.upd But.upd) upd_same
    · have ha0 : ¬ 0 < a := fun z => e (decide_eq_true z)
      have a0 : a = 0 := by omega
      subst a0
      have m1 := Int.fmod_nonneg_of_pos (c.fmod 2147483629 * 48271 + (k + 1) * 69621 + 12345) (show (0 : Int) < 2147483647 by decide)
      have m2 := Int.fmod_lt_of_pos (c.fmod 2147483629 * 48271 + (k + 1) * 69621 + 12345) (show (0 : Int) < 2147483647 by decide)
      have eF : (c.fmod 2147483629 * 48271 + (k + 1) * 69621 + 12345).fmod 2147483647 = mixF c (k + 1) := by
        unfold mixF
        rw [Int.fmod_eq_emod_of_nonneg _ (by decide), Int.fmod_eq_emod_of_nonneg _ (by decide)]
      have eS : (mixF c (k + 1) * mixF c (k + 1) + (k + 1) * 40692).fmod 2147483587 = mixS c (k + 1) := by
        unfold mixS
        rw [Int.fmod_eq_emod_of_nonneg _ (by decide)]
      have eD : (mixF c (k + 1) * 2147483587 + mixS c (k + 1)).fdiv 32 = mixD c (k + 1) := by
        unfold mixD
        rw [Int.fdiv_eq_ediv_of_nonneg _ (by decide)]
      have bD := mixD_b c (k + 1)
      walk_at "rd"
      refine ⟨.inl ⟨by omega, by omega⟩, ?_⟩
      walk_at "rd"
      dsimp only
      rw [eF, eS, eD]
      refine ite2 (fun e2 => ?_) (fun e2 => ?_)
      · have e3 : (many : Int) > 10 ^ (15 : Int).toNat := of_decide_eq_true e2
        have e4 : (many : Int) > 1000000000000000 := by
          have : (10 : Int) ^ (15 : Int).toNat = 1000000000000000 := by decide +kernel
          omega
        walk_at "rd"
        refine ⟨⟨58, by omega, by decide, by decide⟩, ?_⟩
        walk_at "rd"
        have e5 : (mixD c (k + 1) ^ (8 : Int).toNat + mixS c (k + 1)).fmod many = pickV 0 c k many := by
          unfold pickV
          rw [if_neg ha0, if_pos e4]
          rfl
        exact fin _ _ e5 But.upd (by rw [Int.zero_ediv]; exact upd_same)
      · have e4 : ¬ (many : Int) > 1000000000000000 := by
          have : (10 : Int) ^ (15 : Int).toNat = 1000000000000000 := by decide +kernel
          rw [← this]
          exact fun z => e2 (decide_eq_true z)
        walk_at "rd"
        have e5 : (mixD c (k + 1)).fmod many = pickV 0 c k many := by
          unfold pickV
          rw [if_neg ha0, if_neg e4]
        exact fin _ _ e5 But.upd (by rw [Int.zero_ediv]; exact upd_same)
def splaw_bits (K : PySem.W.Frag) (Z : Ads) : Sp := fun vs H Q _ => ∃ (r : Addr) (most : Nat), vs = [.ref r, .int most] ∧ Bag H r ∧ 1 ≤ most ∧ most ≤ 100 ∧ ∀ (t : Addr) (x y : Nat) H', x ≤ most → y ≤ most → 1 ≤ x + y → But r H H' → Bag H' r → H t = none → H' t = some (.tup [.int x, .int y]) → Q (.ref t) H'
theorem oklaw_bits {Z : Ads} (T : Top K mg Z) : FnOk P w K mg base CX0 2 Z.f_law_bits Z.d_law_bits ["bag", "most"] (splaw_bits K Z) := by
  have G_law_pick : FnOk P w K mg base CX0 1 Z.f_law_pick Z.d_law_pick ["bag", "many"] (splaw_pick K Z) := (oklaw_pick T).mono (by decide)
  refine T.F_law_bits.ok sclaw_bits (fun vs H Q E h => ?_) (fun cdv A outer s H vs Q E hr h => ?_)
  · obtain ⟨r, most, rfl, hB, hm1, hm, q⟩ := h
    rfl
  · obtain ⟨r, most, rfl, hB, hm1, hm, q⟩ := h
    refine ⟨_, (pss_cons (ps_par (i := 2) (j := 3) (by rfl) sclaw_bits.nd rfl rfl (by decide) rfl rfl (pa_cons (pe_call G_law_pick (hr.mono (by decide)) (by rfl) T.m_law_pick T.F_law_pick.kp T.b_law_pick .nil pass0 (pa_cons (pv 0) (pa_cons (pe_op op_add (pv 1) pe_int) pa_nil))) (pa_cons (pe_call G_law_pick (hr.mono (by decide)) (by rfl) T.m_law_pick T.F_law_pick.kp T.b_law_pick .nil pass0 (pa_cons (pv 0) (pa_cons (pe_op op_add (pv 1) pe_int) pa_nil))) pa_nil)) (by rfl))
      (pss_one (ps_ret (pe_ifExp (pt_cmpR op_gt (pe_op op_add (pv 2) (pv 3)) pe_int (nomark _)) (pe_tup (pa_cons (pv 2) (pa_cons (pv 3) pa_nil))) (pe_tup (pa_cons pe_int (pa_cons (pv 1) pa_nil))))))), ?_⟩
    walk_at "rd"
    show Exists _
    refine pick_weak (many := most + 1) hB rfl (by omega) (small_pow (by omega)) fun d1 H1 hd1 b1 B1 => ?_
    walk_at "rd"
    show Exists _
    refine pick_weak (many := most + 1) B1 rfl (by omega) (small_pow (by omega)) fun d2 H2 hd2 b2 B2 => ?_
    have fin : ∀ (x y : Nat), x ≤ most → y ≤ most → 1 ≤ x + y → ∀ t : Addr, H2 t = none → Q (.ref t) (upd H2 t (.tup [.int x, .int y])) := fun x y h1 h2 h3 t nt =>
      q t x y _ h1 h2 h3 (b1.trans (b2.trans (Same.but (same_new (Same.refl H2) nt)))) (B2.same (same_new (Same.refl H2) nt)) ((b1.trans b2).free nt (B2.ne nt)) upd_same
    walk_at "rd"
    refine ite2 (fun e => ?_) (fun e => ?_)
    · have e0 : (0 : Int) < (d1 : Int) + (d2 : Int) := of_decide_eq_true e
      walk_at "rd"
      exact fin d1 d2 (by omega) (by omega) (by omega)
    · walk_at "rd"
      exact fin 1 most hm1 (Nat.le_refl _) (by omega)
def splaw_side (K : PySem.W.Frag) (Z : Ads) : Sp := fun vs H Q _ => ∃ (r : Addr) (n : Nat), vs = [.ref r, .int n] ∧ Bag H r ∧ n ≤ 100 ∧ ∀ (t : Addr) (lo hi : Nat) H', lo ≤ hi → hi < 2 ^ n → But r H H' → Bag H' r → H t = none → H' t = some (.tup [.int lo, .int hi]) → Q (.ref t) H'
theorem oklaw_side {Z : Ads} (T : Top K mg Z) : FnOk P w K mg base CX0 2 Z.f_law_side Z.d_law_side ["bag", "bits"] (splaw_side K Z) := by
  have G_law_pick : FnOk P w K mg base CX0 1 Z.f_law_pick Z.d_law_pick ["bag", "many"] (splaw_pick K Z) := (oklaw_pick T).mono (by decide)
  refine T.F_law_side.ok sclaw_side (fun vs H Q E h => ?_) (fun cdv A outer s H vs Q E hr h => ?_)
  · obtain ⟨r, n, rfl, hB, hn, q⟩ := h
    rfl
  · obtain ⟨r, n, rfl, hB, hn, q⟩ := h
    refine ⟨_, (pss_cons (ps_set (i := 2) sclaw_side.nd rfl (.inl rfl) (pe_op op_sub (pe_op op_shl pe_int (pv 1)) pe_int))
      (pss_cons (ps_par (i := 3) (j := 4) (by rfl) sclaw_side.nd rfl rfl (by decide) rfl rfl (pa_cons (pe_call G_law_pick (hr.mono (by decide)) (by rfl) T.m_law_pick T.F_law_pick.kp T.b_law_pick .nil pass0 (pa_cons (pv 0) (pa_cons (pe_op op_add (pv 2) pe_int) pa_nil))) (pa_cons (pe_call G_law_pick (hr.mono (by decide)) (by rfl) T.m_law_pick T.F_law_pick.kp T.b_law_pick .nil pass0 (pa_cons (pv 0) (pa_cons (pe_op op_add (pv 2) pe_int) pa_nil))) pa_nil)) (by rfl))
      (pss_cons (ps_par (i := 5) (j := 6) (by rfl) sclaw_side.nd rfl rfl (by decide) rfl rfl (pa_cons (pe_call G_law_pick (hr.mono (by decide)) (by rfl) T.m_law_pick T.F_law_pick.kp T.b_law_pick .nil pass0 (pa_cons (pv 0) (pa_cons pe_int pa_nil))) (pa_cons (pe_op op_shl pe_int (pe_call G_law_pick (hr.mono (by decide)) (by rfl) T.m_law_pick T.F_law_pick.kp T.b_law_pick .nil pass0 (pa_cons (pv 0) (pa_cons (pe_op op_add (pv 1) pe_int) pa_nil)))) pa_nil)) (by rfl))
      (pss_cons (ps_if (pt_cmpR op_eq (pv 5) pe_int (nomark _))
        (pss_one (ps_ret (pe_tup (pa_cons pe_int (pa_cons (pv 2) pa_nil)))))
        pss_nil)
      (pss_cons (ps_if (pt_cmpR op_eq (pv 5) pe_int (nomark _))
        (pss_one (ps_ret (pe_tup (pa_cons (pv 3) (pa_cons (pe_callB (call_min2 (by rfl)) (by rfl) T.z_min (by decide +kernel) (pa_cons (pv 2) (pa_cons (pe_op op_add (pv 3) (pe_call G_law_pick (hr.mono (by decide)) (by rfl) T.m_law_pick T.F_law_pick.kp T.b_law_pick .nil pass0 (pa_cons (pv 0) (pa_cons pe_int pa_nil)))) pa_nil))) pa_nil)))))
        pss_nil)
      (pss_cons (ps_if (pt_cmpR op_eq (pv 5) pe_int (nomark _))
        (pss_cons (ps_set (i := 7) sclaw_side.nd rfl (.inl rfl) (pe_op op_mulW (pe_op op_fdivW (pv 3) (pv 6)) (pv 6)))
      (pss_one (ps_ret (pe_tup (pa_cons (pv 7) (pa_cons (pe_callB (call_min2 (by rfl)) (by rfl) T.z_min (by decide +kernel) (pa_cons (pv 2) (pa_cons (pe_op op_sub (pe_op op_add (pv 7) (pe_op op_mulW (pv 6) (pe_op op_add pe_int (pe_call G_law_pick (hr.mono (by decide)) (by rfl) T.m_law_pick T.F_law_pick.kp T.b_law_pick .nil pass0 (pa_cons (pv 0) (pa_cons pe_int pa_nil)))))) pe_int) pa_nil))) pa_nil))))))
        pss_nil)
      (pss_one (ps_ret (pe_tup (pa_cons (pe_callB (call_min2 (by rfl)) (by rfl) T.z_min (by decide +kernel) (pa_cons (pv 3) (pa_cons (pv 4) pa_nil))) (pa_cons (pe_callB (call_max2 (by rfl)) (by rfl) T.z_max (by decide +kernel) (pa_cons (pv 3) (pa_cons (pv 4) pa_nil))) pa_nil))))))))))), ?_⟩
    have pn := two_pos n
    have pw1 : 2 ^ n < 2 ^ 1000 := pw (by omega)
    have eT : (1 * 2 ^ (n : Int).toNat - 1 : Int) = ((2 ^ n - 1 : Nat) : Int) := by
      rw [Int.one_mul, Int.toNat_natCast]
      have : ((2 : Int) ^ n) = ((2 ^ n : Nat) : Int) := by rw [Int.natCast_pow]; rfl
      rw [this]
      omega
    have eN : ((2 ^ n - 1 : Nat) : Int) + 1 = ((2 ^ n : Nat) : Int) := by omega
    walk_at "rd"
    dsimp only
    rw [eT]
    walk_at "rd"
    show Exists _
    refine pick_weak (many := 2 ^ n) hB (congrArg (fun z => [V.ref r, V.int z]) eN) (by omega) pw1 fun low H1 hlow b1 B1 => ?_
    walk_at "rd"
    show Exists _
    refine pick_weak (many := 2 ^ n) B1 (congrArg (fun z => [V.ref r, V.int z]) eN) (by omega) pw1 fun high H2 hhigh b2 B2 => ?_
    walk_at "rd"
    show Exists _
    refine pick_weak (many := 5) B2 rfl (by omega) (small_pow (by omega)) fun way H3 hway b3 B3 => ?_
    walk_at "rd"
    show Exists _
    refine pick_weak (many := n + 1) B3 rfl (by omega) (small_pow (by omega)) fun pwr H4 hpwr b4 B4 => ?_
    have b04 : But r H H4 := b1.trans (b2.trans (b3.trans b4))
    have eP : (1 * 2 ^ (pwr : Int).toNat : Int) = ((2 ^ pwr : Nat) : Int) := by
      rw [Int.one_mul, Int.toNat_natCast, Int.natCast_pow]
      rfl
    have pp := two_pos pwr
    have pw2 : 2 ^ pwr < 2 ^ 1000 := pw (by omega)
    have fin : ∀ (lo hi : Nat) (H5 : Hp), But r H H5 → Bag H5 r → lo ≤ hi → hi < 2 ^ n → ∀ t : Addr, H5 t = none → Q (.ref t) (upd H5 t (.tup [.int lo, .int hi])) := fun lo hi H5 b5 B5 h1 h2 t nt =>
      q t lo hi _ h1 h2 (b5.trans (Same.but (same_new (Same.refl H5) nt))) (B5.same (same_new (Same.refl H5) nt)) (b5.free nt (B5.ne nt)) upd_same
    walk_at "rd"
    dsimp only
    rw [eP]
    walk_at "rd"
    refine ite2 (fun e => ?_) (fun e => ?_)
    · walk_at "rd"
      exact fin 0 (2 ^ n - 1) H4 b04 B4 (by omega) (by omega)
    walk_at "rd"
    refine ite2 (fun e => ?_) (fun e => ?_)
    · walk_at "rd"
      show Exists _
      refine pick_weak (many := 4) B4 rfl (by omega) (small_pow (by omega)) fun d H5 hd b5 B5 => ?_
      walk_at "rd"
      have em : (if (low : Int) + (d : Int) < ((2 ^ n - 1 : Nat) : Int) then (low : Int) + (d : Int) else ((2 ^ n - 1 : Nat) : Int)) = ((min (2 ^ n - 1) (low + d) : Nat) : Int) := by
        split <;> omega
      rw [em]
      exact fin low _ H5 (b04.trans b5) B5 (by omega) (by omega)
    walk_at "rd"
    refine ite2 (fun e => ?_) (fun e => ?_)
    · walk_at "rd"
      refine ⟨cdivN pp pw2, ?_⟩
      walk_at "rd"
      have hl1 : low / 2 ^ pwr * 2 ^ pwr ≤ low := Nat.div_mul_le_self _ _
      have hl0 : low / 2 ^ pwr ≤ low := Nat.div_le_self _ _
      refine ⟨show CMulW ((low / 2 ^ pwr : Nat) : Int) ((2 ^ pwr : Nat) : Int) from cmulN (by omega) pw2, ?_⟩
      walk_at "rd"
      show Exists _
      refine pick_weak (many := 4) B4 rfl (by omega) (small_pow (by omega)) fun d H5 hd b5 B5 => ?_
      walk_at "rd"
      refine ⟨show CMulW ((2 ^ pwr : Nat) : Int) ((1 + d : Nat) : Int) from cmulN pw2 (small_pow (by omega)), ?_⟩
      walk_at "rd"
      have h2 : 2 ^ pwr ≤ 2 ^ pwr * (1 + d) := Nat.le_mul_of_pos_right _ (by omega)
      have em : (if (low : Int) / ((2 ^ pwr : Nat) : Int) * ((2 ^ pwr : Nat) : Int) + ((2 ^ pwr : Nat) : Int) * (1 + (d : Int)) - 1 < ((2 ^ n - 1 : Nat) : Int) then (low : Int) / ((2 ^ pwr : Nat) : Int) * ((2 ^ pwr : Nat) : Int) + ((2 ^ pwr : Nat) : Int) * (1 + (d : Int)) - 1 else ((2 ^ n - 1 : Nat) : Int)) = ((min (2 ^ n - 1) (low / 2 ^ pwr * 2 ^ pwr + 2 ^ pwr * (1 + d) - 1) : Nat) : Int) := by
        have e1 : (low : Int) / ((2 ^ pwr : Nat) : Int) * ((2 ^ pwr : Nat) : Int) + ((2 ^ pwr : Nat) : Int) * (1 + (d : Int)) - 1 = ((low / 2 ^ pwr * 2 ^ pwr + 2 ^ pwr * (1 + d) - 1 : Nat) : Int) := by
          have e2 : (low : Int) / ((2 ^ pwr : Nat) : Int) * ((2 ^ pwr : Nat) : Int) = ((low / 2 ^ pwr * 2 ^ pwr : Nat) : Int) := rfl
          have e3 : ((2 ^ pwr : Nat) : Int) * (1 + (d : Int)) = ((2 ^ pwr * (1 + d) : Nat) : Int) := rfl
          rw [e2, e3]
          omega
        rw [e1]
        split <;> omega
      dsimp only
      rw [em]
      exact fin _ _ H5 (b04.trans b5) B5 (by omega) (by omega)
    walk_at "rd"
    have em1 : (if (high : Int) < (low : Int) then (high : Int) else (low : Int)) = ((min low high : Nat) : Int) := by
      split <;> omega
    have em2 : (if (high : Int) > (low : Int) then (high : Int) else (low : Int)) = ((max low high : Nat) : Int) := by
      split <;> omega
    rw [em1, em2]
    exact fin _ _ H4 b04 B4 (by omega) (by omega)
def splaw_box (K : PySem.W.Frag) (Z : Ads) : Sp := fun vs H Q _ => ∃ (r : Addr) (n m : Nat), vs = [.ref r, .int n, .int m] ∧ Bag H r ∧ n ≤ 100 ∧ m ≤ 100 ∧ ∀ (t : Addr) (x1 y1 x2 y2 : Nat) H', x1 ≤ x2 → x2 < 2 ^ n → y1 ≤ y2 → y2 < 2 ^ m → But r H H' → Bag H' r → H t = none → H' t = some (.tup [.int x1, .int y1, .int x2, .int y2]) → Q (.ref t) H'
theorem oklaw_box {Z : Ads} (T : Top K mg Z) : FnOk P w K mg base CX0 3 Z.f_law_box Z.d_law_box ["bag", "x_bits", "y_bits"] (splaw_box K Z) := by
  have G_law_side : FnOk P w K mg base CX0 2 Z.f_law_side Z.d_law_side ["bag", "bits"] (splaw_side K Z) := (oklaw_side T).mono (by decide)
  refine T.F_law_box.ok sclaw_box (fun vs H Q E h => ?_) (fun cdv A outer s H vs Q E hr h => ?_)
  · obtain ⟨r, n, m, rfl, hB, hn, hm, q⟩ := h
    rfl
  · obtain ⟨r, n, m, rfl, hB, hn, hm, q⟩ := h
    refine ⟨_, (pss_cons (ps_par (i := 3) (j := 4) (by rfl) sclaw_box.nd rfl rfl (by decide) rfl rfl (pa_cons (pe_call G_law_side (hr.mono (by decide)) (by rfl) T.m_law_side T.F_law_side.kp T.b_law_side .nil pass0 (pa_cons (pv 0) (pa_cons (pv 1) pa_nil))) (pa_cons (pe_call G_law_side (hr.mono (by decide)) (by rfl) T.m_law_side T.F_law_side.kp T.b_law_side .nil pass0 (pa_cons (pv 0) (pa_cons (pv 2) pa_nil))) pa_nil)) (by rfl))
      (pss_one (ps_ret (pe_tup (pa_cons (pe_ix ix_tup (pv 3) pe_int (fun _ _ => rfl)) (pa_cons (pe_ix ix_tup (pv 4) pe_int (fun _ _ => rfl)) (pa_cons (pe_ix ix_tup (pv 3) pe_int (fun _ _ => rfl)) (pa_cons (pe_ix ix_tup (pv 4) pe_int (fun _ _ => rfl)) pa_nil)))))))), ?_⟩
    walk_at "rd"
    intro t1 x1 x2 H1 hx1 hx2 b1 B1 n1 k1
    walk_at "rd"
    intro t2 y1 y2 H2 hy1 hy2 b2 B2 n2 k2
    have k1' := b2 _ _ (hB.ne n1) k1
    walk_at "rd"
    intro t nt
    exact q t x1 y1 x2 y2 _ hx1 hx2 hy1 hy2 (b1.trans (b2.trans (Same.but (same_new (Same.refl H2) nt)))) (B2.same (same_new (Same.refl H2) nt)) ((b1.trans b2).free nt (B2.ne nt)) upd_same
def splaw_cell (K : PySem.W.Frag) (Z : Ads) : Sp := fun vs H Q _ => ∃ (l : List Bool) (k : Nat), vs = [.str (wS l), .int k] ∧ l.length ≤ 300 ∧ ∀ t H', Same H H' → H t = none → H' t = some (.tup [.int (xOf l k : Nat), .int (yOf l k : Nat)]) → Q (.ref t) H'
theorem oklaw_cell {Z : Ads} (T : Top K mg Z) : FnOk P w K mg base CX0 1 Z.f_law_cell Z.d_law_cell ["word", "key"] (splaw_cell K Z) := by
  refine T.F_law_cell.ok sclaw_cell (fun vs H Q E h => ?_) (fun cdv A outer s H vs Q E hr h => ?_)
  · obtain ⟨l, k, rfl, hl, q⟩ := h
    rfl
  · obtain ⟨l, k, rfl, hl, q⟩ := h
    refine ⟨_, (pss_cons (ps_asg (pe_tup (pa_cons pe_int (pa_cons pe_int (pa_cons pe_int (pa_cons pe_int pa_nil))))) (pg_tup (by rfl) (pgs_cons (pg_name (i := 2) sclaw_cell.nd rfl (.inl rfl)) (pgs_cons (pg_name (i := 3) sclaw_cell.nd rfl (.inl rfl)) (pgs_cons (pg_name (i := 4) sclaw_cell.nd rfl (.inl rfl)) (pgs_cons (pg_name (i := 5) sclaw_cell.nd rfl (.inl rfl)) pgs_nil))))))
      (pss_cons (ps_for PassesOwn.never rfl (pi_enumT (by rfl) T.z_enumerate (pa_cons (pe_revS (pv 0)) pa_nil)) (pg_tup (by rfl) (pgs_cons (pg_name (i := 6) sclaw_cell.nd rfl (.inl rfl)) (pgs_cons (pg_name (i := 7) sclaw_cell.nd rfl (.inl rfl)) pgs_nil)))
        (pss_one (ps_if (pt_cmpR op_eq (pv 7) pe_str (nomark _))
        (pss_one (ps_par (i := 2) (j := 4) (by rfl) sclaw_cell.nd rfl rfl (by decide) rfl rfl (pa_cons (pe_op op_add (pv 2) (pe_op op_shl (pe_op op_odd (pe_op op_shrN (pv 1) (pv 6)) pe_int) (pv 4))) (pa_cons (pe_op op_add (pv 4) pe_int) pa_nil)) (by rfl)))
        (pss_one (ps_par (i := 3) (j := 5) (by rfl) sclaw_cell.nd rfl rfl (by decide) rfl rfl (pa_cons (pe_op op_add (pv 3) (pe_op op_shl (pe_op op_odd (pe_op op_shrN (pv 1) (pv 6)) pe_int) (pv 5))) (pa_cons (pe_op op_add (pv 5) pe_int) pa_nil)) (by rfl))))))
      (pss_one (ps_ret (pe_tup (pa_cons (pv 2) (pa_cons (pv 3) pa_nil))))))), ?_⟩
    walk_at "rd"
    intro t0 nt0
    have s0 := same_new (o := .tup [.int 0, .int 0, .int 0, .int 0]) (Same.refl H) nt0
    walk_at "rd"
    refine ⟨by rw [wS_len]; exact small_line (by omega), ?_⟩
    rw [wS_rev]
    walk_at "rd"
    refine for_enumW (fun s σ H' => Same H H' ∧ ∃ (y6 y7 : Option V), σ = [some (.str (wS l)), some (.int k), some (.int (xOf (l.drop (l.length - s)) k)), some (.int (yOf (l.drop (l.length - s)) k)), some (.int (nx (l.drop (l.length - s)))), some (.int (ny (l.drop (l.length - s)))), y6, y7]) ⟨s0, none, none, by rw [Nat.sub_zero, List.drop_length]; rfl⟩ (fun s hs σ H' T nT W => ?_) (fun σ H' W => ?_)
    · obtain ⟨sm, y6, y7, rfl⟩ := W
      rw [List.length_reverse] at hs
      have hk : l.length - 1 - s < l.length := by omega
      have eg : l.reverse[s]'(by rw [List.length_reverse]; exact hs) = l[l.length - 1 - s] := List.getElem_reverse _
      have ed : l.length - s = l.length - 1 - s + 1 := by omega
      have dc := drop_cons l hk
      have e1 : l.length - (s + 1) = l.length - 1 - s := by omega
      have hl2 : (l.drop (l.length - 1 - s + 1)).length = s := by rw [List.length_drop]; omega
      rw [e1, dc]
      rw [ed]
      have sT := same_new (o := .tup [.int (s : Nat), .str (lt (l.reverse[s]'(by rw [List.length_reverse]; exact hs)))]) sm nT
      walk_at "rd"
      have eb := lt_is (l.reverse[s]'(by rw [List.length_reverse]; exact hs))
      rw [eg] at eb sT ⊢
      generalize (l.drop (l.length - 1 - s + 1)) = R at hl2
      have b1 := nx_le R
      have b2 := ny_le R
      cases hb : l[l.length - 1 - s] with
      | true =>
        rw [hb] at eb sT
        refine iteT' eb ?_
        walk_at "rd"
        refine ⟨some (.int (s : Nat)), some (.str (lt true)), ?_⟩
        have e5 : xOf (true :: R) k = k / 2 ^ s % 2 * 2 ^ nx R + xOf R k := by
          show k / 2 ^ R.length % 2 * 2 ^ nx R + xOf R k = _
          rw [hl2]
        rw [e5, nx_t, ny_t, show yOf (true :: R) k = yOf R k from rfl, Nat.add_comm (k / 2 ^ s % 2 * 2 ^ nx R)]
        rw [Int.natCast_add, Int.natCast_mul, Int.natCast_pow]
        rfl
      | false =>
        rw [hb] at eb sT
        refine iteF' eb ?_
        walk_at "rd"
        refine ⟨some (.int (s : Nat)), some (.str (lt false)), ?_⟩
        have e5 : yOf (false :: R) k = k / 2 ^ s % 2 * 2 ^ ny R + yOf R k := by
          show k / 2 ^ R.length % 2 * 2 ^ ny R + yOf R k = _
          rw [hl2]
        rw [e5, ny_f, nx_f, show xOf (false :: R) k = xOf R k from rfl, Nat.add_comm (k / 2 ^ s % 2 * 2 ^ ny R)]
        rw [Int.natCast_add, Int.natCast_mul, Int.natCast_pow]
        rfl
    · obtain ⟨sm, y6, y7, rfl⟩ := W
      rw [List.length_reverse, Nat.sub_self, List.drop_zero]
      walk_at "rd"
      intro t nt
      exact q t _ (same_new sm nt) (sm.free nt) upd_same
def splaw_key (K : PySem.W.Frag) (Z : Ads) : Sp := fun vs H Q _ => ∃ (l : List Bool) (x y : Nat), vs = [.str (wS l), .int x, .int y] ∧ l.length ≤ 300 ∧ Q (.int (keyL l x y : Nat)) H
theorem oklaw_key {Z : Ads} (T : Top K mg Z) : FnOk P w K mg base CX0 1 Z.f_law_key Z.d_law_key ["word", "x", "y"] (splaw_key K Z) := by
  refine T.F_law_key.ok sclaw_key (fun vs H Q E h => ?_) (fun cdv A outer s H vs Q E hr h => ?_)
  · obtain ⟨l, x, y, rfl, hl, q⟩ := h
    rfl
  · obtain ⟨l, x, y, rfl, hl, q⟩ := h
    refine ⟨_, (pss_cons (ps_par3 (i := 3) (j := 4) (l := 5) (by rfl) sclaw_key.nd rfl rfl rfl (by decide) (by decide) (by decide) rfl rfl rfl (pa_cons pe_int (pa_cons (pe_bm PySem.F.plainAttrs_str PySem.F.slot_str_count PySem.F.type_str_count mt_count (pv 0) (pa_cons pe_str pa_nil)) (pa_cons (pe_bm PySem.F.plainAttrs_str PySem.F.slot_str_count PySem.F.type_str_count mt_count (pv 0) (pa_cons pe_str pa_nil)) pa_nil))) (by rfl))
      (pss_cons (ps_for PassesOwn.never rfl (pi_str (pv 0)) (pg_name (i := 6) sclaw_key.nd rfl (.inl rfl))
        (pss_one (ps_if (pt_cmpR op_eq (pv 6) pe_str (nomark _))
        (pss_cons (ps_set (i := 4) sclaw_key.nd rfl (.inl rfl) (pe_op op_sub (pv 4) pe_int))
      (pss_one (ps_set (i := 3) sclaw_key.nd rfl (.inl rfl) (pe_op op_add (pe_op op_mul pe_int (pv 3)) (pe_op op_odd (pe_op op_shrN (pv 1) (pv 4)) pe_int)))))
        (pss_cons (ps_set (i := 5) sclaw_key.nd rfl (.inl rfl) (pe_op op_sub (pv 5) pe_int))
      (pss_one (ps_set (i := 3) sclaw_key.nd rfl (.inl rfl) (pe_op op_add (pe_op op_mul pe_int (pv 3)) (pe_op op_odd (pe_op op_shrN (pv 2) (pv 5)) pe_int))))))))
      (pss_one (ps_ret (pv 3))))), ?_⟩
    walk_at "rd"
    refine for_word (fun k σ H' => H' = H ∧ ∃ (f : Nat) (y6 : Option V), f * 2 ^ (l.length - k) + keyL (l.drop k) x y = keyL l x y ∧ σ = [some (.str (wS l)), some (.int x), some (.int y), some (.int f), some (.int (nx (l.drop k))), some (.int (ny (l.drop k))), y6]) ⟨rfl, 0, none, by rw [Nat.zero_mul, Nat.zero_add]; rfl, by rw [← count_x, ← count_y]; rfl⟩ (fun k hk σ H' W => ?_) (fun σ H' W => ?_)
    · obtain ⟨rfl, f, y6, hf, rfl⟩ := W
      have eb := lt_is l[k]
      have nd := nx_drop l k hk
      have md := ny_drop l k hk
      have kd := keyL_drop l k hk x y
      have ll := len_drop1 l hk
      have nn := nxy (l.drop (k + 1))
      rw [ll, Nat.pow_succ] at hf
      rw [nn] at kd
      rw [show l.length - (k + 1) = (l.drop (k + 1)).length by rw [List.length_drop]]
      walk_at "rd"
      cases hb : l[k] with
      | true =>
        rw [hb] at eb nd md kd
        rw [if_pos rfl] at nd md kd
        rw [Nat.add_zero] at md
        refine iteT' eb ?_
        walk_at "rd"
        have e1 : ((nx (l.drop k) : Nat) : Int) - 1 = ((nx (l.drop (k + 1)) : Nat) : Int) := by omega
        refine ⟨_, nx (l.drop (k + 1)), rfl, congrArg V.int e1, ?_⟩
        walk_at "rd"
        refine ⟨2 * f + x / 2 ^ nx (l.drop (k + 1)) % 2, some (.str (lt true)), ?_, ?_⟩
        · rw [Nat.add_mul, ← hf, kd, Nat.mul_comm 2 f, Nat.mul_assoc, Nat.mul_comm 2 (2 ^ _)]
          omega
        · dsimp only
          rw [e1, ← md]
          rfl
      | false =>
        rw [hb] at eb nd md kd
        rw [if_neg (by decide)] at nd md kd
        rw [Nat.add_zero] at nd
        refine iteF' eb ?_
        walk_at "rd"
        have e1 : ((ny (l.drop k) : Nat) : Int) - 1 = ((ny (l.drop (k + 1)) : Nat) : Int) := by omega
        refine ⟨_, ny (l.drop (k + 1)), rfl, congrArg V.int e1, ?_⟩
        walk_at "rd"
        refine ⟨2 * f + y / 2 ^ ny (l.drop (k + 1)) % 2, some (.str (lt false)), ?_, ?_⟩
        · rw [Nat.add_mul, ← hf, kd, Nat.mul_comm 2 f, Nat.mul_assoc, Nat.mul_comm 2 (2 ^ _)]
          omega
        · dsimp only
          rw [e1, ← nd]
          rfl
    · obtain ⟨rfl, f, y6, hf, rfl⟩ := W
      rw [List.drop_length, Nat.sub_self, Nat.pow_zero, Nat.mul_one] at hf
      walk_at "rd"
      have e : f = keyL l x y := hf
      rw [← e] at q
      exact q
def splaw_keys (K : PySem.W.Frag) (Z : Ads) : Sp := fun vs H Q _ => ∃ (a : Addr) (l : List Bool) (x1 y1 x2 y2 : Nat), vs = [.str (wS l), .ref a] ∧ l.length ≤ 300 ∧ nx l ≤ 60 ∧ ny l ≤ 60 ∧ H a = some (.tup [.int (x1 : Nat), .int (y1 : Nat), .int (x2 : Nat), .int (y2 : Nat)]) ∧ Bx l x1 y1 x2 y2 ∧ (x2 + 1 - x1) * (y2 + 1 - y1) ≤ 1000 ∧ ∀ (ks : List Nat) D H', Sorts l x1 y1 x2 y2 ks → Same H H' → H D = none → H' D = some (.lst ((ks.map fun m => ((m : Nat) : Int)).map V.int)) → Q (.ref D) H'
theorem oklaw_keys {Z : Ads} (T : Top K mg Z) : FnOk P w K mg base CX0 2 Z.f_law_keys Z.d_law_keys ["word", "box"] (splaw_keys K Z) := by
  have G_law_key : FnOk P w K mg base CX0 1 Z.f_law_key Z.d_law_key ["word", "x", "y"] (splaw_key K Z) := (oklaw_key T).mono (by decide)
  refine T.F_law_keys.ok sclaw_keys (fun vs H Q E h => ?_) (fun cdv A outer s H vs Q E hr h => ?_)
  · obtain ⟨a, l, x1, y1, x2, y2, rfl, hl, hnx, hny, ha, b, h4, q⟩ := h
    rfl
  · obtain ⟨a, l, x1, y1, x2, y2, rfl, hl, hnx, hny, ha, b, h4, q⟩ := h
    refine ⟨_, (pss_cons (ps_set (i := 2) sclaw_keys.nd rfl (.inl rfl) (pe_lst pa_nil))
      (pss_cons (ps_for PassesOwn.never rfl (pi_range2 (by rfl) T.z_range (pa_cons (pe_ix ix_tup (pv 1) pe_int (fun _ _ => rfl)) (pa_cons (pe_op op_add (pe_ix ix_tup (pv 1) pe_int (fun _ _ => rfl)) pe_int) pa_nil))) (pg_name (i := 3) sclaw_keys.nd rfl (.inr rfl))
        (pss_one (ps_expr (pe_bm PySem.F.plainAttrs_list PySem.F.slot_list_extend PySem.F.type_list_extend mt_extend (pv 2) (pa_cons (pe_lc (own := [("x", 4)]) (g := (gName 4)) (tt := tYes) rfl sclaw_keys.nd (pi_range2 (by rfl) T.z_range (pa_cons (pe_ix ix_tup (pv 1) pe_int (fun _ _ => rfl)) (pa_cons (pe_op op_add (pe_ix ix_tup (pv 1) pe_int (fun _ _ => rfl)) pe_int) pa_nil))) (blkOk_by (own := [("x", 4)]) (N := ["word", "box", "found", "y", "x"]) (sc := defScope slaw_keys) (by decide +kernel)) (fun _ _ _ _ _ => (pg_name (i := 4) sclaw_keys.nd rfl (.inl rfl))) (fun _ _ _ _ _ => pts_nil) (fun _ _ _ _ _ => (pe_call G_law_key (hr.mono (by decide)) (by rfl) T.m_law_key T.F_law_key.kp T.b_law_key .nil pass0 (pa_cons (pv 0) (pa_cons (pv 4) (pa_cons (pv 3) pa_nil)))))) pa_nil)))))
      (pss_one (ps_ret (pe_callB (cr_sortedI) (by rfl) T.z_sorted (by decide +kernel) (pa_cons (pv 2) pa_nil)))))), ?_⟩
    have bx := b.bx
    have by' := b.by_
    have bx1 := b.x
    have by1 := b.y
    have px : 2 ^ nx l ≤ 2 ^ 60 := Nat.pow_le_pow_right (by decide) hnx
    have py : 2 ^ ny l ≤ 2 ^ 60 := Nat.pow_le_pow_right (by decide) hny
    have hw : x2 + 1 - x1 ≤ 1000 := Nat.le_trans (Nat.le_mul_of_pos_right _ (by omega)) h4
    walk_at "rd"
    intro k0 nk0
    have hk0 : (upd H k0 (.lst [])) k0 = some (.lst []) := upd_same
    have s3 := same_new (o := .lst []) (Same.refl H) nk0
    generalize (upd H k0 (.lst [])) = H3 at hk0 s3 ⊢
    have ha3 := s3 _ _ ha
    have eW : ((x2 : Int) + 1 - (x1 : Int)).toNat = x2 + 1 - x1 := by omega
    have eH : ((y2 : Int) + 1 - (y1 : Int)).toNat = y2 + 1 - y1 := by omega
    walk_at "rd"
    rw [eH]
    refine for_range (lo := y1) (n := y2 + 1 - y1) (fun i σ H' => Same H H' ∧ ∃ (u3 : Option V), H' k0 = some (.lst (((boxR l x1 y1 (x2 + 1 - x1) i).map fun m => ((m : Nat) : Int)).map V.int)) ∧ σ = [some (.str (wS l)), some (.ref a), some (.ref k0), u3, none]) ⟨s3, none, hk0, rfl⟩ (fun i σ H' hi W => ?_) (fun σ H4 W => ?_)
    · obtain ⟨e3, u3, hks, rfl⟩ := W
      have ha' := e3 _ _ ha
      walk_at "rd"
      rw [eW]
      refine fun D nD => lc_range (lo := x1) (n := x2 + 1 - x1) (fun j Hc => But D H' Hc ∧ Hc D = some (.lst (((List.range j).map fun d => ((keyL l (x1 + d) (y1 + i) : Nat) : Int)).map V.int))) ⟨But.upd, upd_same⟩ (fun j Hc hj W => ?_) (fun Hc W => ?_)
      · obtain ⟨bD, hD⟩ := W
        refine ⟨rfl, ?_⟩
        unfold tYes
        refine iteT ?_
        walk_at "rd"
        refine ⟨_, hD, by rw [List.length_map, List.length_map, List.length_range]; exact small_line' (by omega), But.trans bD But.upd, ?_⟩
        rw [upd_same, List.range_succ, List.map_append, List.map_append]
        rfl
      · obtain ⟨bD, hD⟩ := W
        have kD : k0 ≠ D := ne_of_none hks nD
        have hlen : (boxR l x1 y1 (x2 + 1 - x1) i).length ≤ 1000 := by
          rw [boxR_len]
          exact Nat.le_trans (Nat.mul_le_mul_right (x2 + 1 - x1) (show i ≤ y2 + 1 - y1 by omega)) (by rw [Nat.mul_comm]; exact h4)
        refine ⟨k0, D, _, _, rfl, rfl, bD _ _ kD hks, hD, by rw [List.length_map, List.length_map, List.length_map, List.length_map, List.length_range]; exact small_line (by omega), ?_⟩
        refine ⟨?_, some (.int ((y1 : Int) + (i : Int))), ?_, rfl⟩
        · intro c o hc
          rw [upd_ne (ne_of_none hc nk0)]
          exact bD _ _ (ne_of_none (e3 _ _ hc) nD) (e3 _ _ hc)
        · rw [upd_same, boxR_succ]
          simp only [List.map_append, List.map_map]
          rfl
    obtain ⟨e3, u3, hks, rfl⟩ := W
    walk_at "rd"
    refine ⟨k0, _, rfl, SqL.of hks, fun ns D hperm hsrt nD => ?_⟩
    obtain ⟨kn, rfl, hp, hs⟩ := nat_list hperm hsrt (boxR_nodup (by omega) _ (by omega))
    exact q kn D _ ⟨hs, hp.trans (boxR_perm (by omega) (by omega))⟩ (same_new e3 nD) (e3.free nD) upd_same
def splaw_word (K : PySem.W.Frag) (Z : Ads) : Sp := fun vs H Q _ => ∃ (r : Addr) (U V0 : Nat), vs = [.ref r, .int U, .int V0] ∧ Bag H r ∧ U ≤ 100 ∧ V0 ≤ 100 ∧ ∀ l H', nx l = U → ny l = V0 → But r H H' → Bag H' r → Q (.str (wS l)) H'
theorem oklaw_word {Z : Ads} (T : Top K mg Z) : FnOk P w K mg base CX0 2 Z.f_law_word Z.d_law_word ["bag", "x_bits", "y_bits"] (splaw_word K Z) := by
  have G_law_pick : FnOk P w K mg base CX0 1 Z.f_law_pick Z.d_law_pick ["bag", "many"] (splaw_pick K Z) := (oklaw_pick T).mono (by decide)
  refine T.F_law_word.ok sclaw_word (fun vs H Q E h => ?_) (fun cdv A outer s H vs Q E hr h => ?_)
  · obtain ⟨r, U, V0, rfl, hB, hU, hV, q⟩ := h
    rfl
  · obtain ⟨r, U, V0, rfl, hB, hU, hV, q⟩ := h
    refine ⟨_, (pss_cons (ps_par3 (i := 3) (j := 4) (l := 5) (by rfl) sclaw_word.nd rfl rfl rfl (by decide) (by decide) (by decide) rfl rfl rfl (pa_cons (pe_call G_law_pick (hr.mono (by decide)) (by rfl) T.m_law_pick T.F_law_pick.kp T.b_law_pick .nil pass0 (pa_cons (pv 0) (pa_cons pe_int pa_nil))) (pa_cons (pe_lst (pa_cons (pv 1) (pa_cons (pv 2) pa_nil))) (pa_cons pe_str pa_nil))) (by rfl))
      (pss_cons (ps_while PassesOwn.never (pt_cmpR op_gt (pe_callB (cr_sum (by rfl)) (by rfl) T.z_sum (by decide +kernel) (pa_cons (pv 4) pa_nil)) pe_int (nomark _))
        (C8.pss_cut (ps_if (pt_cmpR op_eq (pv 3) pe_int (nomark _))
        (pss_one (ps_set (i := 6) sclaw_word.nd rfl (.inl rfl) (pe_callTy call_int1 (by rfl) T.z_int (by decide +kernel) (pa_cons (pe_cmpR op_ge (pe_call G_law_pick (hr.mono (by decide)) (by rfl) T.m_law_pick T.F_law_pick.kp T.b_law_pick .nil pass0 (pa_cons (pv 0) (pa_cons (pe_callB (cr_sum (by rfl)) (by rfl) T.z_sum (by decide +kernel) (pa_cons (pv 4) pa_nil)) pa_nil))) (pe_ix ix_list (pv 4) pe_int (fun _ _ => rfl)) (nomark _)) pa_nil))))
        (pss_one (ps_if (pt_cmpR op_eq (pv 3) pe_int (nomark _))
        (pss_one (ps_set (i := 6) sclaw_word.nd rfl (.inl rfl) (pe_callTy call_int1 (by rfl) T.z_int (by decide +kernel) (pa_cons (pe_cmpR op_ge (pe_ix ix_list (pv 4) pe_int (fun _ _ => rfl)) (pe_ix ix_list (pv 4) pe_int (fun _ _ => rfl)) (nomark _)) pa_nil))))
        (pss_one (ps_set (i := 6) sclaw_word.nd rfl (.inl rfl) (pe_call G_law_pick (hr.mono (by decide)) (by rfl) T.m_law_pick T.F_law_pick.kp T.b_law_pick .nil pass0 (pa_cons (pv 0) (pa_cons pe_int pa_nil))))))))
      (pss_cons (ps_set (i := 7) sclaw_word.nd rfl (.inl rfl) (pe_callB (call_min2 (by rfl)) (by rfl) T.z_min (by decide +kernel) (pa_cons (pe_ix ix_list (pv 4) (pv 6) (fun _ _ => rfl)) (pa_cons (pe_op op_add pe_int (pe_op op_mul (pe_call G_law_pick (hr.mono (by decide)) (by rfl) T.m_law_pick T.F_law_pick.kp T.b_law_pick .nil pass0 (pa_cons (pv 0) (pa_cons pe_int pa_nil))) (pe_callTy call_int1 (by rfl) T.z_int (by decide +kernel) (pa_cons (pe_cmpR op_eq (pv 3) pe_int (nomark _)) pa_nil)))) pa_nil))))
      (pss_cons (ps_set (i := 5) sclaw_word.nd rfl (.inl rfl) (pe_op op_add_str (pv 5) (pe_op op_mulS (pe_ix ix_str pe_str (pv 6) (fun _ _ => rfl)) (pv 7))))
      (pss_one (ps_asg (pe_op op_sub (pe_ix ix_list (pv 4) (pv 6) (fun _ _ => rfl)) (pv 7)) (pg_sub (pv 4) (pv 6) set_list)))))))
      (pss_one (ps_ret (pv 5))))), ?_⟩
    walk_at "rd"
    show Exists _
    refine pick_weak (many := 3) hB rfl (by decide) (small_pow (by omega)) fun way H1 hway b1 B1 => ?_
    walk_at "rd"
    intro lf nlf
    have lr : lf ≠ r := B1.ne nlf
    have f0 : H lf = none := b1.free nlf lr
    have b2 : But r H (upd H1 lf (.lst [.int U, .int V0])) := b1.trans (Same.but (same_new (Same.refl H1) nlf))
    have B2 := B1.same (same_new (o := .lst [.int U, .int V0]) (Same.refl H1) nlf)
    have kl2 : (upd H1 lf (.lst [.int U, .int V0])) lf = some (.lst [.int U, .int V0]) := upd_same
    generalize (upd H1 lf (.lst [.int U, .int V0])) = H2 at b2 B2 kl2 ⊢
    obtain ⟨a0, c, k0, hB2, ha0⟩ := B2
    walk_at "rd"
    obtain ⟨j0, F0, _⟩ := far_ex a0 c k0 U ha0
    refine ⟨fun m σ' H' => ∃ (u v : Nat) (l : List Bool) (a k : Int) (y6 y7 : Option V) (j : Nat), H' lf = some (.lst [.int (u : Int), .int (v : Int)]) ∧ nx l + u = U ∧ ny l + v = V0 ∧ But r H H' ∧ BagX H' r a c k ∧ 0 ≤ a ∧ a ≤ a0 ∧ Far a c k u j ∧ m = (u + v) * (a0.toNat + 4611685889393295289 + 3) + (a.toNat + j) ∧ σ' = [some (.ref r), some (.int U), some (.int V0), some (.int way), some (.ref lf), some (.str (wS l)), y6, y7], ⟨_, U, V0, [], a0, k0, none, none, j0, kl2, by rw [nx_nil]; omega, by rw [ny_nil]; omega, b2, hB2, ha0, Int.le_refl _, F0, rfl, by rw [← wS_nil]; rfl⟩, fun mm σ1 H3 w => ?_⟩
    obtain ⟨u, v, l, a, k, y6, y7, j, kl, hu, hv, b3, hB3, ha, haa, F, rfl, rfl⟩ := w
    refine ⟨_, rfl, lf, [(u : Int), (v : Int)], rfl, SqL.of kl, ?_⟩
    walk_at "rd"
    refine ite2 (fun e => ?_) (fun e => ?_)
    · have e0 : 1 ≤ u + v := by
        have e1 : (0 : Int) < [(u : Int), (v : Int)].sum := of_decide_eq_true e
        have e2 : [(u : Int), (v : Int)].sum = (u : Int) + ((v : Int) + 0) := rfl
        omega
      refine ⟨_, fun _ _ z => z, ?_⟩
      refine ⟨fun σ' H' => ∃ (sp : Nat) (a' k' : Int), sp ≤ 1 ∧ H' lf = some (.lst [.int (u : Int), .int (v : Int)]) ∧ But r H H' ∧ BagX H' r a' c k' ∧ 0 ≤ a' ∧ a' ≤ a0 ∧ (1 ≤ pick u v sp ∨ (pick u v sp = 0 ∧ a' = a / 2 ∧ k' = k + 1 ∧ (sp : Int) = pickV a c k 2)) ∧ σ' = [some (.ref r), some (.int U), some (.int V0), some (.int way), some (.ref lf), some (.str (wS l)), some (.int sp), y7], ?_, ?_⟩
      · walk_at "rd"
        refine ite2 (fun e1 => ?_) (fun e1 => ?_)
        · walk_at "rd"
          refine ⟨lf, [(u : Int), (v : Int)], rfl, SqL.of kl, ?_⟩
          walk_at "rd"
          show Exists _
          refine ⟨r, a, c, k, u + v, congrArg (fun z => [V.ref r, V.int z]) (show (u : Int) + ((v : Int) + 0) = ((u + v : Nat) : Int) by omega), hB3, ha, e0, small_pow (by omega), fun d H5 hd _ b5 B5 => ?_⟩
          have kl5 := b5 _ _ lr kl
          have da : 0 ≤ a / ((u + v : Nat) : Int) := Int.ediv_nonneg ha (by omega)
          have da2 : a / ((u + v : Nat) : Int) ≤ a := Int.ediv_le_self _ ha
          walk_at "rd"
          by_cases hc : (u : Int) ≤ (d : Int)
          · refine ⟨1, _, _, by decide, kl5, b3.trans b5, B5, da, by omega, .inl (by show 1 ≤ v; omega), ?_⟩
            try dsimp only
            rw [if_pos (decide_eq_true hc)]
            rfl
          · refine ⟨0, _, _, by decide, kl5, b3.trans b5, B5, da, by omega, .inl (by show 1 ≤ u; omega), ?_⟩
            try dsimp only
            rw [if_neg (fun z => hc (of_decide_eq_true z))]
            rfl
        · walk_at "rd"
          refine ite2 (fun e2 => ?_) (fun e2 => ?_)
          · walk_at "rd"
            by_cases hc : (u : Int) ≤ (v : Int)
            · refine ⟨1, _, _, by decide, kl, b3, hB3, ha, haa, .inl (by show 1 ≤ v; omega), ?_⟩
              try dsimp only
              rw [if_pos (decide_eq_true hc)]
              rfl
            · refine ⟨0, _, _, by decide, kl, b3, hB3, ha, haa, .inl (by show 1 ≤ u; omega), ?_⟩
              try dsimp only
              rw [if_neg (fun z => hc (of_decide_eq_true z))]
              rfl
          · walk_at "rd"
            show Exists _
            refine ⟨r, a, c, k, 2, rfl, hB3, ha, by decide, small_pow (by decide), fun d H5 hd hdv b5 B5 => ?_⟩
            have kl5 := b5 _ _ lr kl
            have da : 0 ≤ a / ((2 : Nat) : Int) := Int.ediv_nonneg ha (by decide)
            have da2 : a / ((2 : Nat) : Int) ≤ a := Int.ediv_le_self _ ha
            walk_at "rd"
            refine ⟨d, _, _, by omega, kl5, b3.trans b5, B5, da, by omega, ?_, rfl⟩
            by_cases hp : pick u v d = 0
            · exact .inr ⟨hp, rfl, rfl, hdv⟩
            · exact .inl (by omega)
      rintro σ' H4 ⟨sp, a', k', hsp, kl4, b4, hB4, ha4, haa4, hcase, rfl⟩
      have hpk : pick u v sp ≤ 100 := by
        unfold pick
        split <;> omega
      walk_at "rd"
      refine ⟨lf, _, (sp : Int), _, rfl, rfl, SqL.of kl4, at2 hsp, ?_⟩
      walk_at "rd"
      show Exists _
      refine ⟨r, a', c, k', 60, rfl, hB4, ha4, by decide, small_pow (by decide), fun d H5 hd _ b5 B5 => ?_⟩
      have kl5 := b5 _ _ lr kl4
      have da : 0 ≤ a' / ((60 : Nat) : Int) := Int.ediv_nonneg ha4 (by decide)
      have da2 : a' / ((60 : Nat) : Int) ≤ a' := Int.ediv_le_self _ ha4
      walk_at "rd"
      have h01 : ∃ f : Int, (f = 0 ∨ f = 1) ∧ (if decide (V.int (way : Int) = V.int 2) = true then (1 : Int) else 0) = f := by
        split
        · exact ⟨1, .inr rfl, rfl⟩
        · exact ⟨0, .inl rfl, rfl⟩
      obtain ⟨f, hf, ef⟩ := h01
      rw [ef]
      refine ⟨.inl ⟨by omega, by omega⟩, ?_⟩
      walk_at "rd"
      obtain ⟨mv, hm1, hm2, em⟩ : ∃ mv : Nat, mv ≤ pick u v sp ∧ (1 ≤ pick u v sp → 1 ≤ mv) ∧ (if 1 + (d : Int) * f < ((pick u v sp : Nat) : Int) then 1 + (d : Int) * f else ((pick u v sp : Nat) : Int)) = (mv : Int) := by
        by_cases hq : 1 + (d : Int) * f < ((pick u v sp : Nat) : Int)
        · rw [if_pos hq]
          rcases hf with rfl | rfl
          · exact ⟨1, by omega, by omega, by omega⟩
          · exact ⟨1 + d, by omega, by omega, by omega⟩
        · rw [if_neg hq]
          exact ⟨pick u v sp, Nat.le_refl _, id, rfl⟩
      dsimp only
      rw [em]
      have exy : (("xy" : Str)).cps.toList = [120, 121] := by decide +kernel
      have eat : atI (("xy" : Str)).cps.toList (sp : Int) = some (sg (decide (sp = 0))) := by
        rw [exy]
        rcases sp with _ | _ | sp
        · rfl
        · rfl
        · omega
      have e1s : (⟨#[sg (decide (sp = 0))]⟩ : Str) = wS [decide (sp = 0)] := rfl
      have ll := nxy l
      walk_at "rd"
      refine ⟨_, (sp : Int), _, rfl, rfl, small_line (by decide +kernel), eat, ?_⟩
      walk_at "rd"
      rw [e1s, wS_mul, flat_one]
      refine ⟨(by rw [wS_len, wS_len, List.length_replicate]; exact small_line (by omega)), ?_⟩
      rw [wS_app]
      walk_at "rd"
      refine ⟨lf, _, (sp : Int), _, rfl, rfl, SqL.of kl5, at2 hsp, ?_⟩
      walk_at "rd"
      refine ⟨lf, _, (sp : Int), sp, rfl, rfl, kl5, ?_, ?_⟩
      · rcases sp with _ | _ | sp
        · rfl
        · rfl
        · omega
      have bL : ∀ o, But r H (upd H5 lf o) := fun o b x nb hb => by
        rw [upd_ne (ne_of_none hb f0)]
        exact b5 b x nb (b4 b x nb hb)
      have BL : ∀ o, BagX (upd H5 lf o) r (a' / ((60 : Nat) : Int)) c (k' + 1) := fun o => by
        unfold BagX
        rw [upd_ne lr.symm]
        exact B5
      rcases sp with _ | _ | sp
      · have hmu : mv ≤ u := hm1
        have e2 : ((pick u v 0 : Nat) : Int) - (mv : Int) = ((u - mv : Nat) : Int) := by
          show ((u : Nat) : Int) - (mv : Int) = _
          omega
        have key : ∃ j', Far (a' / ((60 : Nat) : Int)) c (k' + 1) (u - mv) j' ∧ (u - mv + v) * (a0.toNat + 4611685889393295289 + 3) + ((a' / ((60 : Nat) : Int)).toNat + j') < (u + v) * (a0.toNat + 4611685889393295289 + 3) + (a.toNat + j) := by
          rcases Nat.eq_zero_or_pos mv with hz | hz
          · rcases hcase with h | ⟨h1, h2, h3, h4⟩
            · have := hm2 h
              omega
            · obtain ⟨j', F', hlt⟩ := far_step ha F h4 (by decide) h1 e0
              subst hz h2 h3
              exact ⟨j', F', by rw [Nat.sub_zero]; exact Nat.add_lt_add_left hlt _⟩
          · exact far_more (by omega) da (by omega)
        obtain ⟨j', F', hlt⟩ := key
        refine ⟨_, hlt, u - mv, v, l ++ List.replicate mv true, _, _, _, _, j', ?_, ?_, ?_, bL _, BL _, da, by omega, F', rfl, rfl⟩
        · rw [upd_same]
          show some (HO.lst [V.int (((pick u v 0 : Nat) : Int) - (mv : Int)), V.int (v : Int)]) = _
          rw [e2]
        · rw [nx_app, nx_rt]
          omega
        · rw [ny_app, ny_rt]
          omega
      · have hmu : mv ≤ v := hm1
        have e2 : ((pick u v 1 : Nat) : Int) - (mv : Int) = ((v - mv : Nat) : Int) := by
          show ((v : Nat) : Int) - (mv : Int) = _
          omega
        have key : ∃ j', Far (a' / ((60 : Nat) : Int)) c (k' + 1) u j' ∧ (u + (v - mv)) * (a0.toNat + 4611685889393295289 + 3) + ((a' / ((60 : Nat) : Int)).toNat + j') < (u + v) * (a0.toNat + 4611685889393295289 + 3) + (a.toNat + j) := by
          rcases Nat.eq_zero_or_pos mv with hz | hz
          · rcases hcase with h | ⟨h1, h2, h3, h4⟩
            · have := hm2 h
              omega
            · obtain ⟨j', F', hlt⟩ := far_step ha F h4 (by decide) h1 e0
              subst hz h2 h3
              exact ⟨j', F', by rw [Nat.sub_zero]; exact Nat.add_lt_add_left hlt _⟩
          · exact far_more (by omega) da (by omega)
        obtain ⟨j', F', hlt⟩ := key
        refine ⟨_, hlt, u, v - mv, l ++ List.replicate mv false, _, _, _, _, j', ?_, ?_, ?_, bL _, BL _, da, by omega, F', rfl, rfl⟩
        · rw [upd_same]
          show some (HO.lst [V.int (u : Int), V.int (((pick u v 1 : Nat) : Int) - (mv : Int))]) = _
          rw [e2]
        · rw [nx_app, nx_rf]
          omega
        · rw [ny_app, ny_rf]
          omega
      · omega
    · walk_at "rd"
      have z : u = 0 ∧ v = 0 := by
        have e1 : ¬ (0 : Int) < [(u : Int), (v : Int)].sum := fun z => e (decide_eq_true z)
        have e2 : [(u : Int), (v : Int)].sum = (u : Int) + ((v : Int) + 0) := rfl
        omega
      exact q l H3 (by omega) (by omega) b3 ⟨_, _, _, hB3, ha⟩
def spis_integer (K : PySem.W.Frag) (Z : Ads) : Sp := fun vs H Q _ => ∃ i : Int, vs = [.int i] ∧ Q (.bl true) H
theorem okis_integer {Z : Ads} (T : Top K mg Z) : FnOk P w K mg base CX0 1 Z.f_is_integer Z.d_is_integer ["value"] (spis_integer K Z) := by
  refine T.F_is_integer.ok scis_integer (fun vs H Q E h => ?_) (fun cdv A outer s H vs Q E hr h => ?_)
  · obtain ⟨i, rfl, q⟩ := h
    rfl
  · obtain ⟨i, rfl, q⟩ := h
    refine ⟨_, (pss_one (ps_ret (pe_and (pe_callB (call_isi) (by rfl) T.z_isinstance (by decide +kernel) (pa_cons (pv 0) (pa_cons (pe_bltn (v := .ty "int") (by rfl) T.z_int (by decide +kernel) rfl) pa_nil))) (pe_one (pe_not (pe_callB (call_isi) (by rfl) T.z_isinstance (by decide +kernel) (pa_cons (pv 0) (pa_cons (pe_bltn (v := .ty "bool") (by rfl) T.z_bool (by decide +kernel) rfl) pa_nil)))))))), ?_⟩
    refine ⟨_, rfl, .int i, .ty "int", _, _, true, rfl, .ty _, .base (.int i), kit_ty (by decide +kernel), true, rfl, iteT ?_⟩
    refine ⟨_, rfl, .int i, .ty "bool", _, _, false, rfl, .ty _, .base (.int i), kit_ty (by decide +kernel), false, rfl, ?_⟩
    exact q
def spis_between (K : PySem.W.Frag) (Z : Ads) : Sp := fun vs H Q _ => ∃ v lo hi : Int, vs = [.int v, .int lo, .int hi] ∧ lo ≤ v ∧ v ≤ hi ∧ Q (.bl true) H
theorem okis_between {Z : Ads} (T : Top K mg Z) : FnOk P w K mg base CX0 2 Z.f_is_between Z.d_is_between ["value", "low", "high"] (spis_between K Z) := by
  have G_is_integer : FnOk P w K mg base CX0 1 Z.f_is_integer Z.d_is_integer ["value"] (spis_integer K Z) := (okis_integer T).mono (by decide)
  refine T.F_is_between.ok scis_between (fun vs H Q E h => ?_) (fun cdv A outer s H vs Q E hr h => ?_)
  · obtain ⟨v, lo, hi, rfl, h1, h2, q⟩ := h
    rfl
  · obtain ⟨v, lo, hi, rfl, h1, h2, q⟩ := h
    refine ⟨_, (pss_one (ps_ret (pe_and (pe_call G_is_integer (hr.mono (by decide)) (by rfl) T.m_is_integer T.F_is_integer.kp T.b_is_integer .nil pass0 (pa_cons (pv 0) pa_nil)) (pe_one (pe_chain op_le op_le (pv 1) (pv 0) (pv 2)))))), ?_⟩
    refine ⟨_, rfl, v, rfl, true, rfl, iteT ?_⟩
    refine ⟨_, rfl, _, rfl, _, _, rfl, rfl, true, congrArg V.bl (decide_eq_true h1), iteT ⟨_, rfl, _, _, rfl, rfl, ?_⟩⟩
    show Q (.bl (decide (v ≤ hi))) H
    rw [decide_eq_true h2]
    exact q
def spcheck_key (K : PySem.W.Frag) (Z : Ads) : Sp := fun vs H Q _ => ∃ (k n m : Nat), vs = [.int k, .int n, .int m] ∧ n ≤ 100 ∧ m ≤ 100 ∧ k < 2 ^ (n + m) ∧ Q .non H
theorem okcheck_key {Z : Ads} (T : Top K mg Z) : FnOk P w K mg base CX0 3 Z.f_check_key Z.d_check_key ["key", "x_bits", "y_bits"] (spcheck_key K Z) := by
  have G_is_between : FnOk P w K mg base CX0 2 Z.f_is_between Z.d_is_between ["value", "low", "high"] (spis_between K Z) := (okis_between T).mono (by decide)
  refine T.F_check_key.ok sccheck_key (fun vs H Q E h => ?_) (fun cdv A outer s H vs Q E hr h => ?_)
  · obtain ⟨k, n, m, rfl, hn, hm, hk, q⟩ := h
    rfl
  · obtain ⟨k, n, m, rfl, hn, hm, hk, q⟩ := h
    refine ⟨_, (pss_one (ps_if (pt_not (pt_val (pe_call G_is_between (hr.mono (by decide)) (by rfl) T.m_is_between T.F_is_between.kp T.b_is_between .nil pass0 (pa_cons (pv 0) (pa_cons pe_int (pa_cons (pe_op op_sub (pe_op op_shl pe_int (pe_op op_add (pv 1) (pv 2))) pe_int) pa_nil))))))
        (pss_one ps_never)
        pss_nil)), ?_⟩
    have e : ((n : Int) + (m : Int)).toNat = n + m := by omega
    refine ⟨_, rfl, _, rfl, _, rfl, _, _, rfl, rfl, _, _, rfl, rfl, ⟨by omega, by omega, by decide⟩, _, _, rfl, rfl, _, _, _, rfl, Int.natCast_nonneg k, ?_, true, rfl, iteF q⟩
    rw [Int.one_mul, e]
    have : ((k : Nat) : Int) < ((2 ^ (n + m) : Nat) : Int) := by omega
    rw [Int.natCast_pow] at this
    have two : ((2 : Nat) : Int) = 2 := rfl
    rw [two] at this
    omega
def spfeet (K : PySem.W.Frag) (Z : Ads) : Sp := fun vs H Q _ => ∃ l : List Bool, vs = [.str (wS l)] ∧ l.length ≤ 300 ∧ ∀ p ts H', Same H H' → H p = none → FeetAt H' p ts (feetL l) → Q (.ref p) H'
theorem okfeet {Z : Ads} (T : Top K mg Z) : FnOk P w K mg base CX0 1 Z.f_feet Z.d_feet ["word"] (spfeet K Z) := by
  refine T.F_feet.ok scfeet (fun vs H Q E h => ?_) (fun cdv A outer s H vs Q E hr h => ?_)
  · obtain ⟨l, rfl, hl, q⟩ := h
    rfl
  · obtain ⟨l, rfl, hl, q⟩ := h
    refine ⟨_, (pss_cons (ps_par (i := 1) (j := 2) (by rfl) scfeet.nd rfl rfl (by decide) rfl rfl (pa_cons (pe_bm PySem.F.plainAttrs_str PySem.F.slot_str_count PySem.F.type_str_count mt_count (pv 0) (pa_cons pe_str pa_nil)) (pa_cons (pe_bm PySem.F.plainAttrs_str PySem.F.slot_str_count PySem.F.type_str_count mt_count (pv 0) (pa_cons pe_str pa_nil)) pa_nil)) (by rfl))
      (pss_cons (ps_set (i := 3) scfeet.nd rfl (.inl rfl) (pe_lst pa_nil))
      (pss_cons (ps_for PassesOwn.never rfl (pi_str (pv 0)) (pg_name (i := 4) scfeet.nd rfl (.inl rfl))
        (pss_cons (ps_if (pt_cmpR op_eq (pv 4) pe_str (nomark _))
        (pss_one (ps_aug (i := 1) scfeet.nd rfl (.inl rfl) pe_int ip_sub))
        (pss_one (ps_aug (i := 2) scfeet.nd rfl (.inl rfl) pe_int ip_sub)))
      (pss_one (ps_expr (pe_bm PySem.F.plainAttrs_list PySem.F.slot_list_append PySem.F.type_list_append mt_append (pv 3) (pa_cons (pe_tup (pa_cons (pv 4) (pa_cons (pv 1) (pa_cons (pv 2) pa_nil)))) pa_nil))))))
      (pss_one (ps_ret (pv 3)))))), ?_⟩
    refine ⟨_, rfl, rfl, _, _, rfl, rfl, _, rfl, rfl, _, _, rfl, rfl, _, _, rfl, ?_⟩
    rw [count_x, count_y]
    refine ⟨Nat.zero_le _, fun p np => ?_⟩
    refine ⟨_, rfl, _, rfl, fun i c σ H' => ∃ (ts : List Addr) (y : Option V), i + c = l.length ∧ σ = [some (.str (wS l)), some (.int (nx (l.drop i))), some (.int (ny (l.drop i))), some (.ref p), y] ∧ Same H H' ∧ FeetAt H' p ts ((feetL l).take i), ⟨l.length, [], none, by omega, rfl, same_new (Same.refl H) np, upd_same, rfl, fun k t f h => by simp at h⟩, fun i c σ H' W => ?_⟩
    obtain ⟨ts, y, hc, rfl, sm, hp, ht, hf⟩ := W
    by_cases hi : i < l.length
    · refine .inr ⟨by show i < (wS l).cps.size; rw [wS_size]; exact hi, fun σ' H2 => ∃ (ts : List Addr) (y : Option V), σ' = [some (.str (wS l)), some (.int (nx (l.drop (i + 1)))), some (.int (ny (l.drop (i + 1)))), some (.ref p), y] ∧ Same H H2 ∧ FeetAt H2 p ts ((feetL l).take (i + 1)), fun σ' H2 n => ⟨c - 1, by omega, n.elim fun ts h => h.elim fun y h => ⟨ts, y, by omega, h⟩⟩, fun x H2 hx => ?_⟩
      obtain ⟨rfl, c0, hc0, rfl⟩ := hx
      rw [wS_at l i hi] at hc0
      cases hc0
      have lt_len : (feetL l).take (i + 1) = (feetL l).take i ++ [(l[i], nx (l.drop (i + 1)), ny (l.drop (i + 1)))] := by
        rw [List.take_add_one, feetL_get l i hi]
        rfl
      have fin : ∀ (t : Addr), H2 t = none → FeetAt (upd (upd H2 t (.tup [.str (lt l[i]), .int (nx (l.drop (i + 1))), .int (ny (l.drop (i + 1)))])) p (.lst (ts.map V.ref ++ [.ref t]))) p (ts ++ [t]) ((feetL l).take (i + 1)) := by
        intro t nt
        have tp : t ≠ p := (ne_of_none hp nt).symm
        refine ⟨?_, ?_, fun k t' f h1 h2 => ?_⟩
        · rw [upd_same, List.map_append]
          rfl
        · rw [lt_len, List.length_append, List.length_append, ht]
          rfl
        · rw [lt_len] at h2
          by_cases hk : k < ts.length
          · rw [List.getElem?_append_left hk] at h1
            rw [List.getElem?_append_left (by omega)] at h2
            have h3 := hf k t' f h1 h2
            rw [upd_ne (fun e => by subst e; rw [hp] at h3; cases h3), upd_ne (ne_of_none h3 nt)]
            exact h3
          · have hk2 : k = ts.length := by
              have := (List.getElem?_eq_some_iff.mp h1).1
              rw [List.length_append, List.length_singleton] at this
              omega
            subst hk2
            rw [List.getElem?_append_right (Nat.le_refl _), Nat.sub_self] at h1
            rw [List.getElem?_append_right (by omega), ht, Nat.sub_self] at h2
            cases h1
            cases h2
            rw [upd_ne tp, upd_same]
      have tsl : ts.length ≤ 300 := by
        rw [ht, List.length_take, feetL_len]
        omega
      refine ⟨_, rfl, rfl, _, rfl, ?_⟩
      have nd := nx_drop l i hi
      have md := ny_drop l i hi
      have eb := lt_is l[i]
      have el : (⟨#[sg l[i]]⟩ : Str) = lt l[i] := rfl
      cases hb : l[i] with
      | true =>
        rw [hb] at nd md fin eb
        rw [if_pos rfl] at nd md
        rw [Nat.add_zero] at md
        refine iteT' eb ?_
        refine ⟨_, rfl, _, _, rfl, rfl, ?_⟩
        refine ⟨_, rfl, .inl ⟨rfl, _, SqL.of hp⟩, _, rfl, _, rfl, _, rfl, (by show 3 ≤ sizeLine; decide), fun t nt => ?_⟩
        have tp : t ≠ p := (ne_of_none hp nt).symm
        refine ⟨p, _, _, rfl, rfl, by rw [upd_ne tp.symm]; exact hp, by rw [List.length_map]; exact small_line' (by omega), ?_⟩
        have e1 : ((nx (l.drop i) : Nat) : Int) - 1 = ((nx (l.drop (i + 1)) : Nat) : Int) := by omega
        refine ⟨ts ++ [t], some (.str (lt true)), ?_, same_mut (same_new sm nt) np, ?_⟩
        · show [some (V.str (wS l)), some (V.int (((nx (l.drop i) : Nat) : Int) - 1)), some (V.int (ny (l.drop i))), some (V.ref p), some (.str (lt true))] = _
          rw [e1, md]
          try rfl
        · have := fin t nt
          rw [← e1, ← md] at this
          exact this
      | false =>
        rw [hb] at nd md fin eb
        rw [if_neg (by decide)] at nd md
        rw [Nat.add_zero] at nd
        refine iteF' eb ?_
        refine ⟨_, rfl, _, _, rfl, rfl, ?_⟩
        refine ⟨_, rfl, .inl ⟨rfl, _, SqL.of hp⟩, _, rfl, _, rfl, _, rfl, (by show 3 ≤ sizeLine; decide), fun t nt => ?_⟩
        have tp : t ≠ p := (ne_of_none hp nt).symm
        refine ⟨p, _, _, rfl, rfl, by rw [upd_ne tp.symm]; exact hp, by rw [List.length_map]; exact small_line' (by omega), ?_⟩
        have e1 : ((ny (l.drop i) : Nat) : Int) - 1 = ((ny (l.drop (i + 1)) : Nat) : Int) := by omega
        refine ⟨ts ++ [t], some (.str (lt false)), ?_, same_mut (same_new sm nt) np, ?_⟩
        · show [some (V.str (wS l)), some (V.int (nx (l.drop i))), some (V.int (((ny (l.drop i) : Nat) : Int) - 1)), some (V.ref p), some (.str (lt false))] = _
          rw [e1, nd]
          try rfl
        · have := fin t nt
          rw [← e1, ← nd] at this
          exact this
    · refine .inl ⟨by show (wS l).cps.size ≤ i; rw [wS_size]; omega, _, rfl, ?_⟩
      have e : (feetL l).take i = feetL l := List.take_of_length_le (by rw [feetL_len]; omega)
      rw [e] at hf ht
      exact q p ts H' sm np ⟨hp, ht, hf⟩
def spLayout_cell (K : PySem.W.Frag) (Z : Ads) : Sp := fun vs H Q _ => ∃ (p : Addr) (l : List Bool) (k : Nat), vs = [.ref p, .int k] ∧ Lay Z.C_Layout H p l ∧ GoodW l ∧ k < 2 ^ l.length ∧ ∀ t H', Same H H' → H t = none → H' t = some (.tup [.int (xOf l k : Nat), .int (yOf l k : Nat)]) → Q (.ref t) H'
theorem okLayout_cell {Z : Ads} (T : Top K mg Z) : FnOk P w K mg base CX0 4 Z.f_Layout_cell Z.d_Layout_cell ["self", "key"] (spLayout_cell K Z) := by
  have G_check_key : FnOk P w K mg base CX0 3 Z.f_check_key Z.d_check_key ["key", "x_bits", "y_bits"] (spcheck_key K Z) := (okcheck_key T).mono (by decide)
  have G_feet : FnOk P w K mg base CX0 3 Z.f_feet Z.d_feet ["word"] (spfeet K Z) := (okfeet T).mono (by decide)
  refine T.F_Layout_cell.ok scLayout_cell (fun vs H Q E h => ?_) (fun cdv A outer s H vs Q E hr h => ?_)
  · obtain ⟨p, l, k, rfl, ⟨dx, hp⟩, g, hk, q⟩ := h
    rfl
  · obtain ⟨p, l, k, rfl, ⟨dx, hp⟩, g, hk, q⟩ := h
    refine ⟨_, (pss_cons (ps_expr (pe_call G_check_key (hr.mono (by decide)) (by rfl) T.m_check_key T.F_check_key.kp T.b_check_key .nil pass0 (pa_cons (pv 1) (pa_cons (pe_fld (pv 0) rfl) (pa_cons (pe_fld (pv 0) rfl) pa_nil)))))
      (pss_cons (ps_asg (pe_tup (pa_cons pe_int (pa_cons pe_int pa_nil))) (pg_tup (by rfl) (pgs_cons (pg_name (i := 2) scLayout_cell.nd rfl (.inl rfl)) (pgs_cons (pg_name (i := 3) scLayout_cell.nd rfl (.inl rfl)) pgs_nil))))
      (pss_cons (ps_for PassesOwn.never rfl (pi_list (pe_call G_feet (hr.mono (by decide)) (by rfl) T.m_feet T.F_feet.kp T.b_feet .nil pass0 (pa_cons (pe_fld (pv 0) rfl) pa_nil))) (pg_tup (by rfl) (pgs_cons (pg_name (i := 4) scLayout_cell.nd rfl (.inl rfl)) (pgs_cons (pg_name (i := 5) scLayout_cell.nd rfl (.inl rfl)) (pgs_cons (pg_name (i := 6) scLayout_cell.nd rfl (.inl rfl)) pgs_nil))))
        (pss_cons (ps_set (i := 7) scLayout_cell.nd rfl (.inl rfl) (pe_op op_odd (pe_op op_shrN (pv 1) (pe_op op_add (pv 5) (pv 6))) pe_int))
      (pss_one (ps_if (pt_cmpR op_eq (pv 4) pe_str (nomark _))
        (pss_one (ps_aug (i := 2) scLayout_cell.nd rfl (.inl rfl) (pe_op op_shl (pv 7) (pv 5)) ip_add))
        (pss_one (ps_aug (i := 3) scLayout_cell.nd rfl (.inl rfl) (pe_op op_shl (pv 7) (pv 6)) ip_add))))))
      (pss_one (ps_ret (pe_tup (pa_cons (pv 2) (pa_cons (pv 3) pa_nil)))))))), ?_⟩
    refine ⟨_, rfl, _, rfl, p, Z.C_Layout, dx, _, _, rfl, hp, T.cl_Layout, T.no_Layout_x_bits, lf_x l, _, rfl, p, Z.C_Layout, dx, _, _, rfl, hp, T.cl_Layout, T.no_Layout_y_bits, lf_y l, k, nx l, ny l, rfl, g.2.1, g.2.2, by rw [nxy]; exact hk, ?_⟩
    refine ⟨(by show 2 ≤ sizeLine; decide), fun t0 nt0 => ?_⟩
    refine ⟨t0, _, rfl, SqT.of upd_same, rfl, _, _, rfl, _, _, rfl, rfl, ?_⟩
    have e1 : Same H (upd H t0 (.tup [.int 0, .int 0])) := same_new (Same.refl H) nt0
    refine ⟨_, rfl, p, Z.C_Layout, dx, _, _, rfl, e1 _ _ hp, T.cl_Layout, T.no_Layout_word, lf_word l, l, rfl, by have := g.len; omega, fun f ts H2 e2 nf F => ?_⟩
    have lenT : ts.length = l.length := F.2.1.trans (feetL_len l)
    refine ⟨f, rfl, ⟨_, SqL.of F.1⟩, for_list (K := K) (a := f) (xs := ts.map V.ref) (fun i σ H' => ∃ (x y : Nat) (u4 u5 u6 u7 : Option V), x + xOf (l.drop i) k = xOf l k ∧ y + yOf (l.drop i) k = yOf l k ∧ Same H2 H' ∧ σ = [some (.ref p), some (.int k), some (.int x), some (.int y), u4, u5, u6, u7]) ⟨0, 0, none, none, none, none, Nat.zero_add _, Nat.zero_add _, Same.refl _, rfl⟩ (fun i σ H' _ W => ?_) (fun i v σ H' hv W => ?_) (fun σ H' W => ?_)⟩
    · obtain ⟨x, y, u4, u5, u6, u7, _, _, e3, _⟩ := W
      exact SqL.of (e3 _ _ F.1)
    · obtain ⟨x, y, u4, u5, u6, u7, ex, ey, e3, rfl⟩ := W
      obtain ⟨t, ht, rfl⟩ : ∃ t, ts[i]? = some t ∧ v = V.ref t := by
        rw [List.getElem?_map] at hv
        cases e : ts[i]? with
        | none => rw [e] at hv; cases hv
        | some t => rw [e] at hv; exact ⟨t, rfl, (Option.some.inj hv).symm⟩
      have hi : i < l.length := by rw [← lenT]; exact (List.getElem?_eq_some_iff.mp ht).1
      have hT : H' t = some (.tup [.str (lt l[i]), .int (nx (l.drop (i + 1)) : Nat), .int (ny (l.drop (i + 1)) : Nat)]) := e3 _ _ (F.2.2 i t _ ht (feetL_get l i hi))
      have xd := xOf_drop l i hi k
      have yd := yOf_drop l i hi k
      refine ⟨t, _, rfl, SqT.of hT, rfl, _, _, rfl, _, _, rfl, _, _, rfl, rfl, ?_⟩
      refine ⟨_, rfl, _, rfl, _, rfl, _, _, rfl, rfl, _, nx (l.drop (i + 1)) + ny (l.drop (i + 1)), rfl, congrArg V.int (Int.natCast_add _ _).symm, k / 2 ^ (nx (l.drop (i + 1)) + ny (l.drop (i + 1))), congrArg V.int (by rw [Int.natCast_ediv, Int.natCast_pow]; rfl), rfl, ?_⟩
      refine ⟨_, rfl, rfl, _, rfl, ?_⟩
      have eb := lt_is l[i]
      have b1 := nx_le (l.drop (i + 1))
      have b2 := ny_le (l.drop (i + 1))
      have b3 := g.len
      rw [List.length_drop] at b1 b2
      cases hb : l[i] with
      | true =>
        rw [hb] at eb xd yd
        rw [if_pos rfl] at xd yd
        refine iteT' eb ?_
        refine ⟨_, rfl, _, rfl, _, rfl, _, _, rfl, rfl, ⟨by omega, by omega, by omega⟩, _, _, rfl, rfl, ?_⟩
        refine ⟨x + k / 2 ^ (nx (l.drop (i + 1)) + ny (l.drop (i + 1))) % 2 * 2 ^ nx (l.drop (i + 1)), y, some (.str (lt true)), some (.int (nx (l.drop (i + 1)) : Nat)), some (.int (ny (l.drop (i + 1)) : Nat)), some (.int (k / 2 ^ (nx (l.drop (i + 1)) + ny (l.drop (i + 1))) % 2 : Nat)), by omega, by omega, e3, ?_⟩
        rw [Int.natCast_add, Int.natCast_mul, Int.natCast_pow]
        rfl
      | false =>
        rw [hb] at eb xd yd
        rw [if_neg (by decide)] at xd yd
        refine iteF' eb ?_
        refine ⟨_, rfl, _, rfl, _, rfl, _, _, rfl, rfl, ⟨by omega, by omega, by omega⟩, _, _, rfl, rfl, ?_⟩
        refine ⟨x, y + k / 2 ^ (nx (l.drop (i + 1)) + ny (l.drop (i + 1))) % 2 * 2 ^ ny (l.drop (i + 1)), some (.str (lt false)), some (.int (nx (l.drop (i + 1)) : Nat)), some (.int (ny (l.drop (i + 1)) : Nat)), some (.int (k / 2 ^ (nx (l.drop (i + 1)) + ny (l.drop (i + 1))) % 2 : Nat)), by omega, by omega, e3, ?_⟩
        rw [Int.natCast_add, Int.natCast_mul, Int.natCast_pow]
        rfl
    · obtain ⟨x, y, u4, u5, u6, u7, ex, ey, e3, rfl⟩ := W
      rw [List.length_map, lenT, List.drop_length] at ex ey
      have ex2 : x = xOf l k := by rw [← ex]; rfl
      have ey2 : y = yOf l k := by rw [← ey]; rfl
      subst ex2 ey2
      refine ⟨_, rfl, _, rfl, (by show 2 ≤ sizeLine; decide), fun t nt => ?_⟩
      exact q t _ (same_new ((e1.trans e2).trans e3) nt) (((e1.trans e2).trans e3).free nt) upd_same
def spLayout_word (K : PySem.W.Frag) (Z : Ads) : Sp := fun vs H Q _ => ∃ (p : Addr) (l : List Bool), vs = [.ref p] ∧ Lay Z.C_Layout H p l ∧ Q (.str (wS l)) H
theorem okLayout_word {Z : Ads} (T : Top K mg Z) : FnOk P w K mg base CX0 1 Z.f_Layout_word Z.d_Layout_word ["self"] (spLayout_word K Z) := by
  refine T.F_Layout_word.ok scLayout_word (fun vs H Q E h => ?_) (fun cdv A outer s H vs Q E hr h => ?_)
  · obtain ⟨p, l, rfl, ⟨dx, hp⟩, q⟩ := h
    rfl
  · obtain ⟨p, l, rfl, ⟨dx, hp⟩, q⟩ := h
    refine ⟨_, (pss_one (ps_ret (pe_fld (pv 0) rfl))), ?_⟩
    exact ⟨_, rfl, p, Z.C_Layout, dx, _, _, rfl, hp, T.cl_Layout, T.no_Layout_word, lf_word l, q⟩
def sparea_of (K : PySem.W.Frag) (Z : Ads) : Sp := fun vs H Q _ => ∃ (a : Addr) (x1 y1 x2 y2 : Nat), vs = [.ref a] ∧ H a = some (.tup [.int (x1 : Nat), .int (y1 : Nat), .int (x2 : Nat), .int (y2 : Nat)]) ∧ x1 ≤ x2 ∧ y1 ≤ y2 ∧ x2 < 2 ^ 100 ∧ y2 < 2 ^ 100 ∧ Q (.int ((x2 + 1 - x1) * (y2 + 1 - y1) : Nat)) H
theorem okarea_of {Z : Ads} (T : Top K mg Z) : FnOk P w K mg base CX0 1 Z.f_area_of Z.d_area_of ["box"] (sparea_of K Z) := by
  refine T.F_area_of.ok scarea_of (fun vs H Q E h => ?_) (fun cdv A outer s H vs Q E hr h => ?_)
  · obtain ⟨a, x1, y1, x2, y2, rfl, ha, h1, h2, hx, hy, q⟩ := h
    rfl
  · obtain ⟨a, x1, y1, x2, y2, rfl, ha, h1, h2, hx, hy, q⟩ := h
    refine ⟨_, (pss_cons (ps_asg (pv 0) (pg_tup (by rfl) (pgs_cons (pg_name (i := 1) scarea_of.nd rfl (.inl rfl)) (pgs_cons (pg_name (i := 2) scarea_of.nd rfl (.inl rfl)) (pgs_cons (pg_name (i := 3) scarea_of.nd rfl (.inl rfl)) (pgs_cons (pg_name (i := 4) scarea_of.nd rfl (.inl rfl)) pgs_nil))))))
      (pss_one (ps_ret (pe_op op_mulW (pe_op op_add (pe_op op_sub (pv 3) (pv 1)) pe_int) (pe_op op_add (pe_op op_sub (pv 4) (pv 2)) pe_int))))), ?_⟩
    have e1 : (x2 : Int) - (x1 : Int) + 1 = ((x2 + 1 - x1 : Nat) : Int) := by omega
    have e2 : (y2 : Int) - (y1 : Int) + 1 = ((y2 + 1 - y1 : Nat) : Int) := by omega
    refine ⟨_, rfl, a, _, rfl, SqT.of ha, rfl, _, _, rfl, _, _, rfl, _, _, rfl, _, _, rfl, rfl, ?_⟩
    refine ⟨_, rfl, _, rfl, _, _, rfl, rfl, _, _, rfl, rfl, _, rfl, _, rfl, _, _, rfl, rfl, _, _, rfl, rfl, _, _, rfl, rfl, ?_, ?_⟩
    · show CMulW ((x2 : Int) - (x1 : Int) + 1) ((y2 : Int) - (y1 : Int) + 1)
      rw [e1, e2]
      exact cmulN (a := x2 + 1 - x1) (b := y2 + 1 - y1) (Nat.lt_of_le_of_lt (show x2 + 1 - x1 ≤ 2 ^ 100 by omega) (pw (x := 100) (by omega))) (Nat.lt_of_le_of_lt (show y2 + 1 - y1 ≤ 2 ^ 100 by omega) (pw (x := 100) (by omega)))
    · show Q (.int (((x2 : Int) - (x1 : Int) + 1) * ((y2 : Int) - (y1 : Int) + 1))) H
      rw [e1, e2]
      exact q
def sparea_of_part (K : PySem.W.Frag) (Z : Ads) : Sp := fun vs H Q _ => ∃ (v : V) (o : Option P4) (l : List Bool), vs = [v] ∧ PartAt H v o ∧ InO l o ∧ nx l ≤ 100 ∧ ny l ≤ 100 ∧ Q (.int (areaP o : Nat)) H
theorem okarea_of_part {Z : Ads} (T : Top K mg Z) : FnOk P w K mg base CX0 2 Z.f_area_of_part Z.d_area_of_part ["part"] (sparea_of_part K Z) := by
  have G_area_of : FnOk P w K mg base CX0 1 Z.f_area_of Z.d_area_of ["box"] (sparea_of K Z) := (okarea_of T).mono (by decide)
  refine T.F_area_of_part.ok scarea_of_part (fun vs H Q E h => ?_) (fun cdv A outer s H vs Q E hr h => ?_)
  · obtain ⟨v, o, l, rfl, hv, ho, h1, h2, q⟩ := h
    rfl
  · obtain ⟨v, o, l, rfl, hv, ho, h1, h2, q⟩ := h
    refine ⟨_, (pss_one (ps_ret (pe_ifExp (pt_cmpR op_isN (pv 0) pe_non (nomark _)) pe_int (pe_call G_area_of (hr.mono (by decide)) (by rfl) T.m_area_of T.F_area_of.kp T.b_area_of .nil pass0 (pa_cons (pv 0) pa_nil))))), ?_⟩
    walk_at "rd"
    have hn := hv.non
    cases o with
    | none =>
      refine iteT' hn ?_
      walk_at "rd"
      exact q
    | some p =>
      refine iteF' hn ?_
      obtain ⟨a, rfl, hp⟩ := hv
      obtain ⟨g1, g2, g3, g4⟩ := ho p rfl
      have px : 2 ^ nx l ≤ 2 ^ 100 := Nat.pow_le_pow_right (by decide) h1
      have py : 2 ^ ny l ≤ 2 ^ 100 := Nat.pow_le_pow_right (by decide) h2
      walk_at "rd"
      refine ⟨a, p.1, p.2.1, p.2.2.1, p.2.2.2, rfl, hp, g1, g2, by omega, by omega, q⟩
def spcheck_index (K : PySem.W.Frag) (Z : Ads) : Sp := fun vs H Q _ => ∃ (k n : Nat), vs = [.int k, .int n] ∧ k < n ∧ Q .non H
theorem okcheck_index {Z : Ads} (T : Top K mg Z) : FnOk P w K mg base CX0 3 Z.f_check_index Z.d_check_index ["index", "many"] (spcheck_index K Z) := by
  have G_is_between : FnOk P w K mg base CX0 2 Z.f_is_between Z.d_is_between ["value", "low", "high"] (spis_between K Z) := (okis_between T).mono (by decide)
  refine T.F_check_index.ok sccheck_index (fun vs H Q E h => ?_) (fun cdv A outer s H vs Q E hr h => ?_)
  · obtain ⟨k, n, rfl, hk, q⟩ := h
    rfl
  · obtain ⟨k, n, rfl, hk, q⟩ := h
    refine ⟨_, (pss_one (ps_if (pt_not (pt_val (pe_call G_is_between (hr.mono (by decide)) (by rfl) T.m_is_between T.F_is_between.kp T.b_is_between .nil pass0 (pa_cons (pv 0) (pa_cons pe_int (pa_cons (pe_op op_sub (pv 1) pe_int) pa_nil))))))
        (pss_one ps_never)
        pss_nil)), ?_⟩
    walk_at "rd"
    exact iteF q
def spLayout_x_bits (K : PySem.W.Frag) (Z : Ads) : Sp := fun vs H Q _ => ∃ (p : Addr) (l : List Bool), vs = [.ref p] ∧ Lay Z.C_Layout H p l ∧ Q (.int (nx l)) H
theorem okLayout_x_bits {Z : Ads} (T : Top K mg Z) : FnOk P w K mg base CX0 1 Z.f_Layout_x_bits Z.d_Layout_x_bits ["self"] (spLayout_x_bits K Z) := by
  refine T.F_Layout_x_bits.ok scLayout_x_bits (fun vs H Q E h => ?_) (fun cdv A outer s H vs Q E hr h => ?_)
  · obtain ⟨p, l, rfl, ⟨dx, hp⟩, q⟩ := h
    rfl
  · obtain ⟨p, l, rfl, ⟨dx, hp⟩, q⟩ := h
    refine ⟨_, (pss_one (ps_ret (pe_fld (pv 0) rfl))), ?_⟩
    exact ⟨_, rfl, p, Z.C_Layout, dx, _, _, rfl, hp, T.cl_Layout, T.no_Layout_x_bits, lf_x l, q⟩
def spLayout_y_bits (K : PySem.W.Frag) (Z : Ads) : Sp := fun vs H Q _ => ∃ (p : Addr) (l : List Bool), vs = [.ref p] ∧ Lay Z.C_Layout H p l ∧ Q (.int (ny l)) H
theorem okLayout_y_bits {Z : Ads} (T : Top K mg Z) : FnOk P w K mg base CX0 1 Z.f_Layout_y_bits Z.d_Layout_y_bits ["self"] (spLayout_y_bits K Z) := by
  refine T.F_Layout_y_bits.ok scLayout_y_bits (fun vs H Q E h => ?_) (fun cdv A outer s H vs Q E hr h => ?_)
  · obtain ⟨p, l, rfl, ⟨dx, hp⟩, q⟩ := h
    rfl
  · obtain ⟨p, l, rfl, ⟨dx, hp⟩, q⟩ := h
    refine ⟨_, (pss_one (ps_ret (pe_fld (pv 0) rfl))), ?_⟩
    exact ⟨_, rfl, p, Z.C_Layout, dx, _, _, rfl, hp, T.cl_Layout, T.no_Layout_y_bits, lf_y l, q⟩
def spare_integers (K : PySem.W.Frag) (Z : Ads) : Sp := fun vs H Q _ => ∃ (a : Addr) (ns : List Int), vs = [.ref a, .int (ns.length : Int)] ∧ H a = some (.tup (ns.map V.int)) ∧ ns.length ≤ 100 ∧ ∀ H', Same H H' → Q (.bl true) H'
theorem okare_integers {Z : Ads} (T : Top K mg Z) : FnOk P w K mg base CX0 2 Z.f_are_integers Z.d_are_integers ["value", "many"] (spare_integers K Z) := by
  have G_is_integer : FnOk P w K mg base CX0 1 Z.f_is_integer Z.d_is_integer ["value"] (spis_integer K Z) := (okis_integer T).mono (by decide)
  refine T.F_are_integers.ok scare_integers (fun vs H Q E h => ?_) (fun cdv A outer s H vs Q E hr h => ?_)
  · obtain ⟨a, ns, rfl, ha, hl, q⟩ := h
    rfl
  · obtain ⟨a, ns, rfl, ha, hl, q⟩ := h
    refine ⟨_, (pss_cons (ps_if (PW.pt (pw_or (pt_not (pt_val (pe_callB (call_isi) (by rfl) T.z_isinstance (by decide +kernel) (pa_cons (pv 0) (pa_cons (pe_bltn (v := .ty "tuple") (by rfl) T.z_tuple (by decide +kernel) rfl) pa_nil))))) (pw_or1 (pt_cmpR op_ne (pe_callB call_len_seq (by rfl) T.z_len (by decide +kernel) (pa_cons (pv 0) pa_nil)) (pv 1) (nomark _)))))
        (pss_one (ps_ret pe_bl))
        pss_nil)
      (pss_one (ps_ret (pe_callB (cr_all (by rfl)) (by rfl) T.z_all (by decide +kernel) (pa_cons (pe_lc (own := [("part", 2)]) (g := (gName 2)) (tt := tYes) rfl scare_integers.nd (pi_tup (pv 0)) (blkOk_by (own := [("part", 2)]) (N := ["value", "many", "part"]) (sc := defScope sare_integers) (by decide +kernel)) (fun _ _ _ _ _ => (pg_name (i := 2) scare_integers.nd rfl (.inl rfl))) (fun _ _ _ _ _ => pts_nil) (fun _ _ _ _ _ => (pe_call G_is_integer (hr.mono (by decide)) (by rfl) T.m_is_integer T.F_is_integer.kp T.b_is_integer .nil pass0 (pa_cons (pv 2) pa_nil)))) pa_nil))))), ?_⟩
    refine ⟨_, rfl, .ref a, .ty "tuple", _, _, true, rfl, .ty _, .base (.tup ha), kit_ty (by decide +kernel), true, rfl, iteF ?_⟩
    refine ⟨_, rfl, a, _, rfl, .inr (SqT.of ha), _, rfl, rfl, _, rfl, iteNS (by rw [List.length_map]) ?_⟩
    refine ⟨_, rfl, a, rfl, ⟨_, SqT.of ha⟩, fun d hd => lc_tup (K := K) (a := a) (xs := ns.map V.int) (fun i H' => Same H H' ∧ H' d = some (.lst ((List.replicate i true).map V.bl))) ⟨same_new (Same.refl H) hd, upd_same⟩ (fun i H' _ p => .inl (.inl (p.1 _ _ ha))) (fun i x H' hx p => ?_) (fun H' p => ?_)⟩
    · obtain ⟨z, rfl⟩ : ∃ z, x = V.int z := by
        rw [List.getElem?_map] at hx
        cases e : ns[i]? with
        | none => rw [e] at hx; cases hx
        | some z => rw [e] at hx; exact ⟨z, (Option.some.inj hx).symm⟩
      have hi : i < ns.length := by have := (List.getElem?_eq_some_iff.mp hx).1; rw [List.length_map] at this; exact this
      refine ⟨rfl, _, rfl, z, rfl, _, p.2, ?_, ?_⟩
      · rw [List.length_map, List.length_replicate]
        exact small_line' (by omega)
      · refine ⟨same_mut p.1 hd, ?_⟩
        rw [upd_same, List.replicate_succ', List.map_append]
        rfl
    · refine ⟨d, _, rfl, .inl (.inl p.2), ?_⟩
      have e : (List.replicate (ns.map V.int).length true).all id = true := by simp
      rw [e]
      exact q H' p.1
def spis_box (K : PySem.W.Frag) (Z : Ads) : Sp := fun vs H Q _ => ∃ (a : Addr) (x1 y1 x2 y2 n m : Nat), vs = [.ref a, .int n, .int m] ∧ H a = some (.tup [.int (x1 : Nat), .int (y1 : Nat), .int (x2 : Nat), .int (y2 : Nat)]) ∧ n ≤ 100 ∧ m ≤ 100 ∧ x1 ≤ x2 ∧ x2 < 2 ^ n ∧ y1 ≤ y2 ∧ y2 < 2 ^ m ∧ ∀ H', Same H H' → Q (.bl true) H'
theorem okis_box {Z : Ads} (T : Top K mg Z) : FnOk P w K mg base CX0 3 Z.f_is_box Z.d_is_box ["value", "x_bits", "y_bits"] (spis_box K Z) := by
  have G_are_integers : FnOk P w K mg base CX0 2 Z.f_are_integers Z.d_are_integers ["value", "many"] (spare_integers K Z) := (okare_integers T).mono (by decide)
  refine T.F_is_box.ok scis_box (fun vs H Q E h => ?_) (fun cdv A outer s H vs Q E hr h => ?_)
  · obtain ⟨a, x1, y1, x2, y2, n, m, rfl, ha, hn, hm, h1, hx, h2, hy, q⟩ := h
    rfl
  · obtain ⟨a, x1, y1, x2, y2, n, m, rfl, ha, hn, hm, h1, hx, h2, hy, q⟩ := h
    refine ⟨_, (pss_cons (ps_if (pt_not (pt_val (pe_call G_are_integers (hr.mono (by decide)) (by rfl) T.m_are_integers T.F_are_integers.kp T.b_are_integers .nil pass0 (pa_cons (pv 0) (pa_cons pe_int pa_nil)))))
        (pss_one (ps_ret pe_bl))
        pss_nil)
      (pss_cons (ps_asg (pv 0) (pg_tup (by rfl) (pgs_cons (pg_name (i := 3) scis_box.nd rfl (.inl rfl)) (pgs_cons (pg_name (i := 4) scis_box.nd rfl (.inl rfl)) (pgs_cons (pg_name (i := 5) scis_box.nd rfl (.inl rfl)) (pgs_cons (pg_name (i := 6) scis_box.nd rfl (.inl rfl)) pgs_nil))))))
      (pss_one (ps_ret (pe_and (pe_chain3 op_le op_le op_lt pe_int (pv 3) (pv 5) (pe_op op_shl pe_int (pv 1))) (pe_one (pe_chain3 op_le op_le op_lt pe_int (pv 4) (pv 6) (pe_op op_shl pe_int (pv 2))))))))), ?_⟩
    refine ⟨_, rfl, a, [(x1 : Int), (y1 : Int), (x2 : Int), (y2 : Int)], rfl, ha, Nat.le_of_ble_eq_true rfl, fun H1 e1 => ⟨true, rfl, iteF ?_⟩⟩
    refine ⟨_, rfl, a, _, rfl, SqT.of (e1 _ _ ha), rfl, _, _, rfl, _, _, rfl, _, _, rfl, _, _, rfl, rfl, ?_⟩
    have hx' : (x2 : Int) < 1 * 2 ^ (n : Int).toNat := by rw [Int.one_mul, Int.toNat_natCast]; exact_mod_cast hx
    have hy' : (y2 : Int) < 1 * 2 ^ (m : Int).toNat := by rw [Int.one_mul, Int.toNat_natCast]; exact_mod_cast hy
    refine ⟨_, rfl, _, _, rfl, rfl, true, congrArg V.bl (decide_eq_true (Int.natCast_nonneg x1)), iteT ⟨_, rfl, _, _, rfl, rfl, true, congrArg V.bl (decide_eq_true (Int.ofNat_le.mpr h1)), iteT ⟨_, rfl, _, _, rfl, rfl, ⟨Int.natCast_nonneg n, by omega, by decide⟩, _, _, rfl, rfl, true, congrArg V.bl (decide_eq_true hx'), iteT ?_⟩⟩⟩
    refine ⟨_, rfl, _, _, rfl, rfl, true, congrArg V.bl (decide_eq_true (Int.natCast_nonneg y1)), iteT ⟨_, rfl, _, _, rfl, rfl, true, congrArg V.bl (decide_eq_true (Int.ofNat_le.mpr h2)), iteT ⟨_, rfl, _, _, rfl, rfl, ⟨Int.natCast_nonneg m, by omega, by decide⟩, _, _, rfl, rfl, ?_⟩⟩⟩
    show Q (.bl (decide ((y2 : Int) < 1 * 2 ^ (m : Int).toNat))) H1
    rw [decide_eq_true hy']
    exact q H1 e1
def spcheck_box (K : PySem.W.Frag) (Z : Ads) : Sp := fun vs H Q _ => ∃ (a : Addr) (x1 y1 x2 y2 n m : Nat), vs = [.ref a, .int n, .int m] ∧ H a = some (.tup [.int (x1 : Nat), .int (y1 : Nat), .int (x2 : Nat), .int (y2 : Nat)]) ∧ n ≤ 100 ∧ m ≤ 100 ∧ x1 ≤ x2 ∧ x2 < 2 ^ n ∧ y1 ≤ y2 ∧ y2 < 2 ^ m ∧ ∀ H', Same H H' → Q .non H'
theorem okcheck_box {Z : Ads} (T : Top K mg Z) : FnOk P w K mg base CX0 4 Z.f_check_box Z.d_check_box ["box", "x_bits", "y_bits"] (spcheck_box K Z) := by
  have G_is_box : FnOk P w K mg base CX0 3 Z.f_is_box Z.d_is_box ["value", "x_bits", "y_bits"] (spis_box K Z) := (okis_box T).mono (by decide)
  refine T.F_check_box.ok sccheck_box (fun vs H Q E h => ?_) (fun cdv A outer s H vs Q E hr h => ?_)
  · obtain ⟨a, x1, y1, x2, y2, n, m, rfl, ha, hn, hm, h1, hx, h2, hy, q⟩ := h
    rfl
  · obtain ⟨a, x1, y1, x2, y2, n, m, rfl, ha, hn, hm, h1, hx, h2, hy, q⟩ := h
    refine ⟨_, (pss_one (ps_if (pt_not (pt_val (pe_call G_is_box (hr.mono (by decide)) (by rfl) T.m_is_box T.F_is_box.kp T.b_is_box .nil pass0 (pa_cons (pv 0) (pa_cons (pv 1) (pa_cons (pv 2) pa_nil))))))
        (pss_one ps_never)
        pss_nil)), ?_⟩
    exact ⟨_, rfl, _, rfl, _, rfl, a, x1, y1, x2, y2, n, m, rfl, ha, hn, hm, h1, hx, h2, hy, fun H1 e1 => ⟨true, rfl, iteF (q H1 e1)⟩⟩
def spcheck_layout (K : PySem.W.Frag) (Z : Ads) : Sp := fun vs H Q _ => ∃ (p : Addr) (l : List Bool), vs = [.ref p] ∧ Lay Z.C_Layout H p l ∧ Q .non H
theorem okcheck_layout {Z : Ads} (T : Top K mg Z) : FnOk P w K mg base CX0 1 Z.f_check_layout Z.d_check_layout ["layout"] (spcheck_layout K Z) := by
  refine T.F_check_layout.ok sccheck_layout (fun vs H Q E h => ?_) (fun cdv A outer s H vs Q E hr h => ?_)
  · obtain ⟨p, l, rfl, ⟨dx, hp⟩, q⟩ := h
    rfl
  · obtain ⟨p, l, rfl, ⟨dx, hp⟩, q⟩ := h
    refine ⟨_, (pss_one (ps_if (pt_not (pt_val (pe_callB (call_isi) (by rfl) T.z_isinstance (by decide +kernel) (pa_cons (pv 0) (pa_cons (pe_glob (v := .ref Z.C_Layout) (by rfl) T.m_Layout rfl) pa_nil)))))
        (pss_one ps_never)
        pss_nil)), ?_⟩
    exact ⟨_, rfl, .ref p, .ref Z.C_Layout, _, _, true, rfl, .own _, .base (TyOf.ins hp T.ins_Layout.cl T.ins_Layout.ha T.ins_Layout.hn T.ins_Layout.htk T.ins_Layout.hm), T.ins_Layout.me, true, rfl, iteF q⟩
def spcheck_layout_and_box (K : PySem.W.Frag) (Z : Ads) : Sp := fun vs H Q _ => ∃ (p a : Addr) (l : List Bool) (x1 y1 x2 y2 : Nat), vs = [.ref p, .ref a] ∧ Lay Z.C_Layout H p l ∧ GoodW l ∧ H a = some (.tup [.int (x1 : Nat), .int (y1 : Nat), .int (x2 : Nat), .int (y2 : Nat)]) ∧ Bx l x1 y1 x2 y2 ∧ ∀ H', Same H H' → Q .non H'
theorem okcheck_layout_and_box {Z : Ads} (T : Top K mg Z) : FnOk P w K mg base CX0 5 Z.f_check_layout_and_box Z.d_check_layout_and_box ["layout", "box"] (spcheck_layout_and_box K Z) := by
  have G_Layout_x_bits : FnOk P w K mg base CX0 1 Z.f_Layout_x_bits Z.d_Layout_x_bits ["self"] (spLayout_x_bits K Z) := (okLayout_x_bits T).mono (by decide)
  have G_Layout_y_bits : FnOk P w K mg base CX0 1 Z.f_Layout_y_bits Z.d_Layout_y_bits ["self"] (spLayout_y_bits K Z) := (okLayout_y_bits T).mono (by decide)
  have G_check_box : FnOk P w K mg base CX0 4 Z.f_check_box Z.d_check_box ["box", "x_bits", "y_bits"] (spcheck_box K Z) := (okcheck_box T).mono (by decide)
  have G_check_layout : FnOk P w K mg base CX0 4 Z.f_check_layout Z.d_check_layout ["layout"] (spcheck_layout K Z) := (okcheck_layout T).mono (by decide)
  refine T.F_check_layout_and_box.ok sccheck_layout_and_box (fun vs H Q E h => ?_) (fun cdv A outer s H vs Q E hr h => ?_)
  · obtain ⟨p, a, l, x1, y1, x2, y2, rfl, ⟨dx, hp⟩, g, ha, b, q⟩ := h
    rfl
  · obtain ⟨p, a, l, x1, y1, x2, y2, rfl, ⟨dx, hp⟩, g, ha, b, q⟩ := h
    refine ⟨_, (pss_cons (ps_expr (pe_call G_check_layout (hr.mono (by decide)) (by rfl) T.m_check_layout T.F_check_layout.kp T.b_check_layout .nil pass0 (pa_cons (pv 0) pa_nil)))
      (pss_one (ps_expr (pe_call G_check_box (hr.mono (by decide)) (by rfl) T.m_check_box T.F_check_box.kp T.b_check_box .nil pass0 (pa_cons (pv 1) (pa_cons (pe_prop (pv 0) T.cl_Layout T.p_Layout_x_bits G_Layout_x_bits (hr.mono (by decide)) T.b_Layout_x_bits .nil pass0 (by rfl)) (pa_cons (pe_prop (pv 0) T.cl_Layout T.p_Layout_y_bits G_Layout_y_bits (hr.mono (by decide)) T.b_Layout_y_bits .nil pass0 (by rfl)) pa_nil))))))), ?_⟩
    refine ⟨_, rfl, p, l, rfl, ⟨dx, hp⟩, ?_⟩
    exact ⟨_, rfl, _, rfl, p, dx, _, rfl, hp, p, _, rfl, ⟨dx, hp⟩, _, rfl, p, dx, _, rfl, hp, p, _, rfl, ⟨dx, hp⟩, a, x1, y1, x2, y2, nx l, ny l, rfl, ha, g.2.1, g.2.2, b.x, b.bx, b.y, b.by_, fun H1 e1 => q H1 e1⟩
def sphalve (K : PySem.W.Frag) (Z : Ads) : Sp := fun vs H Q _ => ∃ (c : Bool) (i j : Nat) (a : Addr) (x1 y1 x2 y2 : Nat), vs = [.str (lt c), .int i, .int j, .ref a] ∧ i ≤ 200 ∧ j ≤ 200 ∧ H a = some (.tup [.int (x1 : Nat), .int (y1 : Nat), .int (x2 : Nat), .int (y2 : Nat)]) ∧ ∀ (t : Addr) (lo hi : V) H', Same H H' → H t = none → H' t = some (.tup [lo, hi]) → PartAt H' lo (loP c i j (x1, y1, x2, y2)) → PartAt H' hi (hiP c i j (x1, y1, x2, y2)) → Q (.ref t) H'
theorem okhalve {Z : Ads} (T : Top K mg Z) : FnOk P w K mg base CX0 1 Z.f_halve Z.d_halve ["letter", "i", "j", "part"] (sphalve K Z) := by
  refine T.F_halve.ok schalve (fun vs H Q E h => ?_) (fun cdv A outer s H vs Q E hr h => ?_)
  · obtain ⟨c, i, j, a, x1, y1, x2, y2, rfl, hi, hj, ha, q⟩ := h
    rfl
  · obtain ⟨c, i, j, a, x1, y1, x2, y2, rfl, hi, hj, ha, q⟩ := h
    refine ⟨_, (pss_cons (ps_asg (pv 3) (pg_tup (by rfl) (pgs_cons (pg_name (i := 4) schalve.nd rfl (.inl rfl)) (pgs_cons (pg_name (i := 5) schalve.nd rfl (.inl rfl)) (pgs_cons (pg_name (i := 6) schalve.nd rfl (.inl rfl)) (pgs_cons (pg_name (i := 7) schalve.nd rfl (.inl rfl)) pgs_nil))))))
      (pss_cons (ps_asg (pe_tup (pa_cons pe_non (pa_cons pe_non pa_nil))) (pg_tup (by rfl) (pgs_cons (pg_name (i := 8) schalve.nd rfl (.inl rfl)) (pgs_cons (pg_name (i := 9) schalve.nd rfl (.inl rfl)) pgs_nil))))
      (pss_cons (ps_if (pt_cmpR op_eq (pv 0) pe_str (nomark _))
        (pss_cons (ps_set (i := 10) schalve.nd rfl (.inl rfl) (pe_op op_shl pe_int (pv 1)))
      (C8.pss_cut (ps_if (pt_cmpR op_lt (pv 4) (pv 10) (nomark _))
        (pss_one (ps_set (i := 8) schalve.nd rfl (.inl rfl) (pe_tup (pa_cons (pv 4) (pa_cons (pv 5) (pa_cons (pe_callB (call_min2 (by rfl)) (by rfl) T.z_min (by decide +kernel) (pa_cons (pv 6) (pa_cons (pe_op op_sub (pv 10) pe_int) pa_nil))) (pa_cons (pv 7) pa_nil)))))))
        pss_nil)
      (pss_one (ps_if (pt_cmpR op_ge (pv 6) (pv 10) (nomark _))
        (pss_one (ps_set (i := 9) schalve.nd rfl (.inl rfl) (pe_tup (pa_cons (pe_callB (call_max2 (by rfl)) (by rfl) T.z_max (by decide +kernel) (pa_cons (pe_op op_sub (pv 4) (pv 10)) (pa_cons pe_int pa_nil))) (pa_cons (pv 5) (pa_cons (pe_op op_sub (pv 6) (pv 10)) (pa_cons (pv 7) pa_nil)))))))
        pss_nil))))
        (pss_cons (ps_set (i := 10) schalve.nd rfl (.inl rfl) (pe_op op_shl pe_int (pv 2)))
      (C8.pss_cut (ps_if (pt_cmpR op_lt (pv 5) (pv 10) (nomark _))
        (pss_one (ps_set (i := 8) schalve.nd rfl (.inl rfl) (pe_tup (pa_cons (pv 4) (pa_cons (pv 5) (pa_cons (pv 6) (pa_cons (pe_callB (call_min2 (by rfl)) (by rfl) T.z_min (by decide +kernel) (pa_cons (pv 7) (pa_cons (pe_op op_sub (pv 10) pe_int) pa_nil))) pa_nil)))))))
        pss_nil)
      (pss_one (ps_if (pt_cmpR op_ge (pv 7) (pv 10) (nomark _))
        (pss_one (ps_set (i := 9) schalve.nd rfl (.inl rfl) (pe_tup (pa_cons (pv 4) (pa_cons (pe_callB (call_max2 (by rfl)) (by rfl) T.z_max (by decide +kernel) (pa_cons (pe_op op_sub (pv 5) (pv 10)) (pa_cons pe_int pa_nil))) (pa_cons (pv 6) (pa_cons (pe_op op_sub (pv 7) (pv 10)) pa_nil)))))))
        pss_nil)))))
      (pss_one (ps_ret (pe_tup (pa_cons (pv 8) (pa_cons (pv 9) pa_nil)))))))), ?_⟩
    have eb := lt_is c
    have tw := two_toNat
    walk_at "rd"
    intro t0 nt0
    have s0 := same_new (o := .tup [.non, .non]) (Same.refl H) nt0
    walk_at "rd"
    generalize (upd H t0 (.tup [.non, .non])) = H1 at s0 ⊢
    cases c with
    | true =>
      refine iteT' eb ?_
      walk_at "rd"
      dsimp only
      rw [tw i]
      refine ⟨fun σ' H' => ∃ lo : V, PartAt H' lo (loP true i j (x1, y1, x2, y2)) ∧ Same H H' ∧ σ' = [some (.str (lt true)), some (.int i), some (.int j), some (.ref a), some (.int x1), some (.int y1), some (.int x2), some (.int y2), some lo, some .non, some (.int (2 ^ i : Nat))], ?_, ?_⟩
      · walk_at "rd"
        refine ite2 (fun e => ?_) (fun e => ?_)
        · have e1 : x1 < 2 ^ i := Int.ofNat_lt.mp (of_decide_eq_true e)
          walk_at "rd"
          intro t nt
          refine ⟨.ref t, ?_, same_new s0 nt, rfl⟩
          unfold loP
          rw [if_pos rfl, if_pos (show x1 < 2 ^ i from e1)]
          refine ⟨t, rfl, ?_⟩
          rw [upd_same, show (if ((2 ^ i : Nat) : Int) - 1 < (x2 : Int) then ((2 ^ i : Nat) : Int) - 1 else (x2 : Int)) = ((min x2 (2 ^ i - 1) : Nat) : Int) by have := two_pos i; split <;> omega]
        · have e1 : ¬ x1 < 2 ^ i := fun z => e (decide_eq_true (Int.ofNat_lt.mpr z))
          refine ⟨.non, ?_, s0, rfl⟩
          unfold loP
          rw [if_pos rfl, if_neg (show ¬ x1 < 2 ^ i from e1)]
          rfl
      · rintro σ' H2 ⟨lo, hlo, s2, rfl⟩
        walk_at "rd"
        refine ite2 (fun e => ?_) (fun e => ?_)
        · have e1 : 2 ^ i ≤ x2 := Int.ofNat_le.mp (of_decide_eq_true e)
          walk_at "rd"
          intro t nt
          have s3 := same_new (o := .tup [.int (if 0 > (x1 : Int) - ((2 ^ i : Nat) : Int) then 0 else (x1 : Int) - ((2 ^ i : Nat) : Int)), .int y1, .int ((x2 : Int) - ((2 ^ i : Nat) : Int)), .int y2]) (Same.refl H2) nt
          have hhi : PartAt (upd H2 t (.tup [.int (if 0 > (x1 : Int) - ((2 ^ i : Nat) : Int) then 0 else (x1 : Int) - ((2 ^ i : Nat) : Int)), .int y1, .int ((x2 : Int) - ((2 ^ i : Nat) : Int)), .int y2])) (.ref t) (hiP true i j (x1, y1, x2, y2)) := by
            unfold hiP
            rw [if_pos rfl, if_pos (show 2 ^ i ≤ x2 from e1)]
            refine ⟨t, rfl, ?_⟩
            rw [upd_same, show (if 0 > (x1 : Int) - ((2 ^ i : Nat) : Int) then 0 else (x1 : Int) - ((2 ^ i : Nat) : Int)) = ((x1 - 2 ^ i : Nat) : Int) by split <;> omega, show (x2 : Int) - ((2 ^ i : Nat) : Int) = ((x2 - 2 ^ i : Nat) : Int) by omega]
          walk_at "rd"
          intro t2 nt2
          have s4 := same_new (o := .tup [lo, .ref t]) (Same.refl (upd H2 t (.tup [.int (if 0 > (x1 : Int) - ((2 ^ i : Nat) : Int) then 0 else (x1 : Int) - ((2 ^ i : Nat) : Int)), .int y1, .int ((x2 : Int) - ((2 ^ i : Nat) : Int)), .int y2]))) nt2
          exact q t2 lo (.ref t) _ (s2.trans (s3.trans s4)) ((s2.trans s3).free nt2) upd_same (hlo.same (s3.trans s4)) (hhi.same s4)
        · have e1 : ¬ 2 ^ i ≤ x2 := fun z => e (decide_eq_true (Int.ofNat_le.mpr z))
          have hhi : PartAt H2 .non (hiP true i j (x1, y1, x2, y2)) := by
            unfold hiP
            rw [if_pos rfl, if_neg (show ¬ 2 ^ i ≤ x2 from e1)]
            rfl
          walk_at "rd"
          intro t2 nt2
          have s4 := same_new (o := .tup [lo, .non]) (Same.refl H2) nt2
          exact q t2 lo .non _ (s2.trans s4) (s2.free nt2) upd_same (hlo.same s4) (hhi.same s4)
    | false =>
      refine iteF' eb ?_
      walk_at "rd"
      dsimp only
      rw [tw j]
      refine ⟨fun σ' H' => ∃ lo : V, PartAt H' lo (loP false i j (x1, y1, x2, y2)) ∧ Same H H' ∧ σ' = [some (.str (lt false)), some (.int i), some (.int j), some (.ref a), some (.int x1), some (.int y1), some (.int x2), some (.int y2), some lo, some .non, some (.int (2 ^ j : Nat))], ?_, ?_⟩
      · walk_at "rd"
        refine ite2 (fun e => ?_) (fun e => ?_)
        · have e1 : y1 < 2 ^ j := Int.ofNat_lt.mp (of_decide_eq_true e)
          walk_at "rd"
          intro t nt
          refine ⟨.ref t, ?_, same_new s0 nt, rfl⟩
          unfold loP
          rw [if_neg Bool.false_ne_true, if_pos (show y1 < 2 ^ j from e1)]
          refine ⟨t, rfl, ?_⟩
          rw [upd_same, show (if ((2 ^ j : Nat) : Int) - 1 < (y2 : Int) then ((2 ^ j : Nat) : Int) - 1 else (y2 : Int)) = ((min y2 (2 ^ j - 1) : Nat) : Int) by have := two_pos j; split <;> omega]
        · have e1 : ¬ y1 < 2 ^ j := fun z => e (decide_eq_true (Int.ofNat_lt.mpr z))
          refine ⟨.non, ?_, s0, rfl⟩
          unfold loP
          rw [if_neg Bool.false_ne_true, if_neg (show ¬ y1 < 2 ^ j from e1)]
          rfl
      · rintro σ' H2 ⟨lo, hlo, s2, rfl⟩
        walk_at "rd"
        refine ite2 (fun e => ?_) (fun e => ?_)
        · have e1 : 2 ^ j ≤ y2 := Int.ofNat_le.mp (of_decide_eq_true e)
          walk_at "rd"
          intro t nt
          have s3 := same_new (o := .tup [.int x1, .int (if 0 > (y1 : Int) - ((2 ^ j : Nat) : Int) then 0 else (y1 : Int) - ((2 ^ j : Nat) : Int)), .int x2, .int ((y2 : Int) - ((2 ^ j : Nat) : Int))]) (Same.refl H2) nt
          have hhi : PartAt (upd H2 t (.tup [.int x1, .int (if 0 > (y1 : Int) - ((2 ^ j : Nat) : Int) then 0 else (y1 : Int) - ((2 ^ j : Nat) : Int)), .int x2, .int ((y2 : Int) - ((2 ^ j : Nat) : Int))])) (.ref t) (hiP false i j (x1, y1, x2, y2)) := by
            unfold hiP
            rw [if_neg Bool.false_ne_true, if_pos (show 2 ^ j ≤ y2 from e1)]
            refine ⟨t, rfl, ?_⟩
            rw [upd_same, show (if 0 > (y1 : Int) - ((2 ^ j : Nat) : Int) then 0 else (y1 : Int) - ((2 ^ j : Nat) : Int)) = ((y1 - 2 ^ j : Nat) : Int) by split <;> omega, show (y2 : Int) - ((2 ^ j : Nat) : Int) = ((y2 - 2 ^ j : Nat) : Int) by omega]
          walk_at "rd"
          intro t2 nt2
          have s4 := same_new (o := .tup [lo, .ref t]) (Same.refl (upd H2 t (.tup [.int x1, .int (if 0 > (y1 : Int) - ((2 ^ j : Nat) : Int) then 0 else (y1 : Int) - ((2 ^ j : Nat) : Int)), .int x2, .int ((y2 : Int) - ((2 ^ j : Nat) : Int))]))) nt2
          exact q t2 lo (.ref t) _ (s2.trans (s3.trans s4)) ((s2.trans s3).free nt2) upd_same (hlo.same (s3.trans s4)) (hhi.same s4)
        · have e1 : ¬ 2 ^ j ≤ y2 := fun z => e (decide_eq_true (Int.ofNat_le.mpr z))
          have hhi : PartAt H2 .non (hiP false i j (x1, y1, x2, y2)) := by
            unfold hiP
            rw [if_neg Bool.false_ne_true, if_neg (show ¬ 2 ^ j ≤ y2 from e1)]
            rfl
          walk_at "rd"
          intro t2 nt2
          have s4 := same_new (o := .tup [lo, .non]) (Same.refl H2) nt2
          exact q t2 lo .non _ (s2.trans s4) (s2.free nt2) upd_same (hlo.same s4) (hhi.same s4)
def spcell_at (K : PySem.W.Frag) (Z : Ads) : Sp := fun vs H Q _ => ∃ (p a : Addr) (l : List Bool) (x1 y1 x2 y2 k : Nat), vs = [.ref p, .ref a, .int k] ∧ Lay Z.C_Layout H p l ∧ GoodW l ∧ H a = some (.tup [.int (x1 : Nat), .int (y1 : Nat), .int (x2 : Nat), .int (y2 : Nat)]) ∧ Bx l x1 y1 x2 y2 ∧ k < (x2 + 1 - x1) * (y2 + 1 - y1) ∧ ∀ (t : Addr) (K : Nat) H', Same H H' → H t = none → keyIn l (some (x1, y1, x2, y2)) K → lessO l (some (x1, y1, x2, y2)) K = k → H' t = some (.tup [.int (xOf l K : Nat), .int (yOf l K : Nat)]) → Q (.ref t) H'
theorem okcell_at {Z : Ads} (T : Top K mg Z) : FnOk P w K mg base CX0 6 Z.f_cell_at Z.d_cell_at ["layout", "box", "index"] (spcell_at K Z) := by
  have G_Layout_cell : FnOk P w K mg base CX0 5 Z.f_Layout_cell Z.d_Layout_cell ["self", "key"] (spLayout_cell K Z) := (okLayout_cell T).mono (by decide)
  have G_Layout_word : FnOk P w K mg base CX0 1 Z.f_Layout_word Z.d_Layout_word ["self"] (spLayout_word K Z) := (okLayout_word T).mono (by decide)
  have G_area_of_part : FnOk P w K mg base CX0 5 Z.f_area_of_part Z.d_area_of_part ["part"] (sparea_of_part K Z) := (okarea_of_part T).mono (by decide)
  have G_area_of : FnOk P w K mg base CX0 5 Z.f_area_of Z.d_area_of ["box"] (sparea_of K Z) := (okarea_of T).mono (by decide)
  have G_check_index : FnOk P w K mg base CX0 5 Z.f_check_index Z.d_check_index ["index", "many"] (spcheck_index K Z) := (okcheck_index T).mono (by decide)
  have G_check_layout_and_box : FnOk P w K mg base CX0 5 Z.f_check_layout_and_box Z.d_check_layout_and_box ["layout", "box"] (spcheck_layout_and_box K Z) := (okcheck_layout_and_box T).mono (by decide)
  have G_feet : FnOk P w K mg base CX0 5 Z.f_feet Z.d_feet ["word"] (spfeet K Z) := (okfeet T).mono (by decide)
  have G_halve : FnOk P w K mg base CX0 5 Z.f_halve Z.d_halve ["letter", "i", "j", "part"] (sphalve K Z) := (okhalve T).mono (by decide)
  refine T.F_cell_at.ok sccell_at (fun vs H Q E h => ?_) (fun cdv A outer s H vs Q E hr h => ?_)
  · obtain ⟨p, a, l, x1, y1, x2, y2, k, rfl, ⟨dx, hp⟩, g, ha, b, hk, q⟩ := h
    rfl
  · obtain ⟨p, a, l, x1, y1, x2, y2, k, rfl, ⟨dx, hp⟩, g, ha, b, hk, q⟩ := h
    refine ⟨_, (pss_cons (ps_expr (pe_call G_check_layout_and_box (hr.mono (by decide)) (by rfl) T.m_check_layout_and_box T.F_check_layout_and_box.kp T.b_check_layout_and_box .nil pass0 (pa_cons (pv 0) (pa_cons (pv 1) pa_nil))))
      (pss_cons (ps_expr (pe_call G_check_index (hr.mono (by decide)) (by rfl) T.m_check_index T.F_check_index.kp T.b_check_index .nil pass0 (pa_cons (pv 2) (pa_cons (pe_call G_area_of (hr.mono (by decide)) (by rfl) T.m_area_of T.F_area_of.kp T.b_area_of .nil pass0 (pa_cons (pv 1) pa_nil)) pa_nil))))
      (pss_cons (ps_par3 (i := 3) (j := 4) (l := 5) (by rfl) sccell_at.nd rfl rfl rfl (by decide) (by decide) (by decide) rfl rfl rfl (pa_cons (pv 1) (pa_cons pe_int (pa_cons (pv 2) pa_nil))) (by rfl))
      (pss_cons (ps_for PassesOwn.never rfl (pi_list (pe_call G_feet (hr.mono (by decide)) (by rfl) T.m_feet T.F_feet.kp T.b_feet .nil pass0 (pa_cons (pe_prop (pv 0) T.cl_Layout T.p_Layout_word G_Layout_word (hr.mono (by decide)) T.b_Layout_word .nil pass0 (by rfl)) pa_nil))) (pg_tup (by rfl) (pgs_cons (pg_name (i := 6) sccell_at.nd rfl (.inl rfl)) (pgs_cons (pg_name (i := 7) sccell_at.nd rfl (.inl rfl)) (pgs_cons (pg_name (i := 8) sccell_at.nd rfl (.inl rfl)) pgs_nil))))
        (pss_cons (ps_asg (pe_call G_halve (hr.mono (by decide)) (by rfl) T.m_halve T.F_halve.kp T.b_halve .nil pass0 (pa_cons (pv 6) (pa_cons (pv 7) (pa_cons (pv 8) (pa_cons (pv 3) pa_nil))))) (pg_tup (by rfl) (pgs_cons (pg_name (i := 9) sccell_at.nd rfl (.inl rfl)) (pgs_cons (pg_name (i := 10) sccell_at.nd rfl (.inl rfl)) pgs_nil))))
      (pss_cons (ps_set (i := 11) sccell_at.nd rfl (.inl rfl) (pe_call G_area_of_part (hr.mono (by decide)) (by rfl) T.m_area_of_part T.F_area_of_part.kp T.b_area_of_part .nil pass0 (pa_cons (pv 9) pa_nil)))
      (pss_one (ps_if (pt_cmpR op_lt (pv 5) (pv 11) (nomark _))
        (pss_one (ps_set (i := 3) sccell_at.nd rfl (.inl rfl) (pv 9)))
        (pss_cons (ps_set (i := 3) sccell_at.nd rfl (.inl rfl) (pv 10))
      (pss_cons (ps_aug (i := 5) sccell_at.nd rfl (.inl rfl) (pv 11) ip_sub)
      (pss_one (ps_aug (i := 4) sccell_at.nd rfl (.inl rfl) (pe_op op_shl pe_int (pe_op op_add (pv 7) (pv 8))) ip_add)))))))))
      (pss_one (ps_ret (pe_meth (pv 0) T.cl_Layout T.meth_Layout_cell G_Layout_cell (hr.mono (by decide)) T.b_Layout_cell .nil pass0 (pa_cons (pv 4) pa_nil)))))))), ?_⟩
    have g1 := g.2.1
    have g2 := g.2.2
    have gl := g.len
    have ib : InBlk l (x1, y1, x2, y2) := ⟨b.x, b.y, b.bx, b.by_⟩
    walk_at "rd"
    refine ⟨p, a, l, x1, y1, x2, y2, rfl, ⟨dx, hp⟩, g, ha, b, fun H1 e1 => ?_⟩
    have hp1 := e1 _ _ hp
    have ha1 := e1 _ _ ha
    walk_at "rd"
    have px : 2 ^ nx l ≤ 2 ^ 100 := Nat.pow_le_pow_right (by decide) g1
    have py : 2 ^ ny l ≤ 2 ^ 100 := Nat.pow_le_pow_right (by decide) g2
    refine ⟨a, x1, y1, x2, y2, rfl, ha1, b.x, b.y, by have := b.bx; omega, by have := b.by_; omega, ?_⟩
    walk_at "rd"
    intro f ts H2 e2 nf F
    have ha2 := e2 _ _ ha1
    have hp2 := e2 _ _ hp1
    have e02 := e1.trans e2
    refine ⟨f, rfl, ⟨_, SqL.of F.1⟩, for_feet F (fun i σ H' => Same H2 H' ∧ ∃ (v : V) (q4 : P4) (ky lf : Nat) (u6 u7 u8 u9 u10 u11 : Option V), PartAt H' v (some q4) ∧ InBlk (l.drop i) q4 ∧ lf < wP q4 * hP q4 ∧ (∀ K, keyIn (l.drop i) (some q4) K → lessO (l.drop i) (some q4) K = lf → keyIn l (some (x1, y1, x2, y2)) (ky + K) ∧ lessO l (some (x1, y1, x2, y2)) (ky + K) = k) ∧ σ = [some (.ref p), some (.ref a), some (.int k), some v, some (.int ky), some (.int lf), u6, u7, u8, u9, u10, u11]) (fun i σ H' W => W.1) ⟨Same.refl H2, .ref a, (x1, y1, x2, y2), 0, k, none, none, none, none, none, none, ⟨a, rfl, ha2⟩, ib, hk, fun K h1 h2 => by rw [Nat.zero_add]; exact ⟨h1, h2⟩, rfl⟩ (fun i hi t σ H' ht W => ?_) (fun σ H' W => ?_)⟩
    · obtain ⟨e3, v, q4, ky, lf, u6, u7, u8, u9, u10, u11, ⟨b4, rfl, hb4⟩, ib4, hlf, hK, rfl⟩ := W
      have dc := drop_cons l hi
      rw [dc] at hK ib4
      obtain ⟨x1', y1', x2', y2'⟩ := q4
      have bl1 := nx_le (l.drop (i + 1))
      have bl2 := ny_le (l.drop (i + 1))
      have bl3 := nxy (l.drop (i + 1))
      rw [List.length_drop] at bl1 bl2 bl3
      walk_at "rd"
      refine ⟨l[i], nx (l.drop (i + 1)), ny (l.drop (i + 1)), b4, x1', y1', x2', y2', rfl, by omega, by omega, hb4, fun t2 lo hi' H4 e4 nt2 kt2 hlo hhi => ?_⟩
      walk_at "rd"
      have ilo := lo_in ib4
      have ihi := hi_in ib4
      have nn := nxy (l.drop (i + 1))
      have e14 : Same H2 H4 := e3.trans e4
      have bt1 : nx (l.drop (i + 1)) ≤ 100 := by have := nx_drop_le l (i + 1); omega
      have bt2 : ny (l.drop (i + 1)) ≤ 100 := by have := ny_drop_le l (i + 1); omega
      have ah := area_halves ib4
      refine ⟨lo, _, l.drop (i + 1), rfl, hlo, ilo, bt1, bt2, ?_⟩
      have fl := fun (K : Nat) => keyIn_lo ib4 (K := K)
      have fh := fun (K : Nat) => keyIn_hi ib4 (K := K)
      have ll := fun (K : Nat) => less_lo ib4 (k := K)
      have lh := fun (K : Nat) => less_hi ib4 (k := K)
      rw [nn.symm] at fh lh
      walk_at "rd"
      refine ite2 (fun e => ?_) (fun e => ?_)
      · have e0 : lf < areaP (loP l[i] (nx (l.drop (i + 1))) (ny (l.drop (i + 1))) (x1', y1', x2', y2')) := Int.ofNat_lt.mp (of_decide_eq_true e)
        walk_at "rd"
        generalize loP l[i] (nx (l.drop (i + 1))) (ny (l.drop (i + 1))) (x1', y1', x2', y2') = o at e0 hlo ilo fl ll ah ⊢
        cases o with
        | none => exact absurd e0 (Nat.not_lt_zero _)
        | some q5 =>
          refine ⟨lo, q5, ky, lf, _, _, _, _, _, _, hlo, ilo q5 rfl, e0, fun K h1 h2 => hK K (fl K h1) ?_, rfl⟩
          rw [ll K (keyIn_lt h1), h2]
      · have e0 : ¬ lf < areaP (loP l[i] (nx (l.drop (i + 1))) (ny (l.drop (i + 1))) (x1', y1', x2', y2')) := fun z => e (decide_eq_true (Int.ofNat_lt.mpr z))
        walk_at "rd"
        generalize hA : areaP (loP l[i] (nx (l.drop (i + 1))) (ny (l.drop (i + 1))) (x1', y1', x2', y2')) = A at e0 ah lh ⊢
        generalize hiP l[i] (nx (l.drop (i + 1))) (ny (l.drop (i + 1))) (x1', y1', x2', y2') = o at hhi ihi fh lh ah ⊢
        cases o with
        | none =>
          have : wP (x1', y1', x2', y2') * hP (x1', y1', x2', y2') = A + 0 := ah
          omega
        | some q5 =>
          have ah' : wP (x1', y1', x2', y2') * hP (x1', y1', x2', y2') = A + wP q5 * hP q5 := ah
          have eL : (lf : Int) - (A : Int) = ((lf - A : Nat) : Int) := by omega
          have eK : (ky : Int) + 1 * 2 ^ ((nx (l.drop (i + 1)) : Int) + (ny (l.drop (i + 1)) : Int)).toNat = ((ky + 2 ^ (nx (l.drop (i + 1)) + ny (l.drop (i + 1))) : Nat) : Int) := by
            rw [show ((nx (l.drop (i + 1)) : Int) + (ny (l.drop (i + 1)) : Int)) = ((nx (l.drop (i + 1)) + ny (l.drop (i + 1)) : Nat) : Int) by omega, two_toNat]
            rfl
          refine ⟨hi', q5, ky + 2 ^ (nx (l.drop (i + 1)) + ny (l.drop (i + 1))), lf - A, some (.str (lt l[i])), some (.int (nx (l.drop (i + 1)) : Nat)), some (.int (ny (l.drop (i + 1)) : Nat)), some lo, some hi', some (.int A), hhi, ihi q5 rfl, by omega, fun K h1 h2 => ?_, ?_⟩
          · rw [Nat.add_assoc]
            refine hK _ (fh K h1) ?_
            rw [lh K (by rw [nn]; exact keyIn_lt h1), h2]
            omega
          · dsimp only
            rw [eL, eK]
            rfl
    · obtain ⟨e3, v, q4, ky, lf, u6, u7, u8, u9, u10, u11, hv, ib4, hlf, hK, rfl⟩ := W
      rw [List.drop_length] at hK ib4
      have hp3 := e3 _ _ hp2
      walk_at "rd"
      have e0 : lf = 0 := by
        obtain ⟨q1, q2, q3, q5⟩ := ib4
        have : wP q4 * hP q4 = 1 * 1 := by
          unfold wP hP
          rw [show q4.2.2.1 + 1 - q4.1 = 1 by have : nx [] = 0 := rfl; rw [this] at q3; omega, show q4.2.2.2 + 1 - q4.2.1 = 1 by have : ny [] = 0 := rfl; rw [this] at q5; omega]
        omega
      subst e0
      have k0 := hK 0 ⟨q4, q4.1, q4.2.1, rfl, Nat.le_refl _, ib4.1, Nat.le_refl _, ib4.2.1, rfl⟩ (cntP_false fun x y _ _ => decide_eq_false (Nat.not_lt_zero _))
      rw [Nat.add_zero] at k0
      refine ⟨p, l, ky, rfl, ⟨dx, hp3⟩, g, keyIn_lt k0.1, fun t H5 e5 nt kt => ?_⟩
      exact q t ky H5 (e02.trans (e3.trans e5)) ((e02.trans e3).free nt) k0.1 k0.2 kt
def sprank (K : PySem.W.Frag) (Z : Ads) : Sp := fun vs H Q _ => ∃ (p a : Addr) (l : List Bool) (x1 y1 x2 y2 k : Nat), vs = [.ref p, .ref a, .int k] ∧ Lay Z.C_Layout H p l ∧ GoodW l ∧ H a = some (.tup [.int (x1 : Nat), .int (y1 : Nat), .int (x2 : Nat), .int (y2 : Nat)]) ∧ Bx l x1 y1 x2 y2 ∧ k < 2 ^ l.length ∧ ∀ H', Same H H' → Q (.int (lessO l (some (x1, y1, x2, y2)) k : Nat)) H'
theorem okrank {Z : Ads} (T : Top K mg Z) : FnOk P w K mg base CX0 6 Z.f_rank Z.d_rank ["layout", "box", "key"] (sprank K Z) := by
  have G_Layout_word : FnOk P w K mg base CX0 1 Z.f_Layout_word Z.d_Layout_word ["self"] (spLayout_word K Z) := (okLayout_word T).mono (by decide)
  have G_Layout_x_bits : FnOk P w K mg base CX0 1 Z.f_Layout_x_bits Z.d_Layout_x_bits ["self"] (spLayout_x_bits K Z) := (okLayout_x_bits T).mono (by decide)
  have G_Layout_y_bits : FnOk P w K mg base CX0 1 Z.f_Layout_y_bits Z.d_Layout_y_bits ["self"] (spLayout_y_bits K Z) := (okLayout_y_bits T).mono (by decide)
  have G_area_of_part : FnOk P w K mg base CX0 5 Z.f_area_of_part Z.d_area_of_part ["part"] (sparea_of_part K Z) := (okarea_of_part T).mono (by decide)
  have G_check_key : FnOk P w K mg base CX0 5 Z.f_check_key Z.d_check_key ["key", "x_bits", "y_bits"] (spcheck_key K Z) := (okcheck_key T).mono (by decide)
  have G_check_layout_and_box : FnOk P w K mg base CX0 5 Z.f_check_layout_and_box Z.d_check_layout_and_box ["layout", "box"] (spcheck_layout_and_box K Z) := (okcheck_layout_and_box T).mono (by decide)
  have G_feet : FnOk P w K mg base CX0 5 Z.f_feet Z.d_feet ["word"] (spfeet K Z) := (okfeet T).mono (by decide)
  have G_halve : FnOk P w K mg base CX0 5 Z.f_halve Z.d_halve ["letter", "i", "j", "part"] (sphalve K Z) := (okhalve T).mono (by decide)
  refine T.F_rank.ok scrank (fun vs H Q E h => ?_) (fun cdv A outer s H vs Q E hr h => ?_)
  · obtain ⟨p, a, l, x1, y1, x2, y2, k, rfl, ⟨dx, hp⟩, g, ha, b, hk, q⟩ := h
    rfl
  · obtain ⟨p, a, l, x1, y1, x2, y2, k, rfl, ⟨dx, hp⟩, g, ha, b, hk, q⟩ := h
    refine ⟨_, (pss_cons (ps_expr (pe_call G_check_layout_and_box (hr.mono (by decide)) (by rfl) T.m_check_layout_and_box T.F_check_layout_and_box.kp T.b_check_layout_and_box .nil pass0 (pa_cons (pv 0) (pa_cons (pv 1) pa_nil))))
      (pss_cons (ps_expr (pe_call G_check_key (hr.mono (by decide)) (by rfl) T.m_check_key T.F_check_key.kp T.b_check_key .nil pass0 (pa_cons (pv 2) (pa_cons (pe_prop (pv 0) T.cl_Layout T.p_Layout_x_bits G_Layout_x_bits (hr.mono (by decide)) T.b_Layout_x_bits .nil pass0 (by rfl)) (pa_cons (pe_prop (pv 0) T.cl_Layout T.p_Layout_y_bits G_Layout_y_bits (hr.mono (by decide)) T.b_Layout_y_bits .nil pass0 (by rfl)) pa_nil)))))
      (pss_cons (ps_par (i := 3) (j := 4) (by rfl) scrank.nd rfl rfl (by decide) rfl rfl (pa_cons (pv 1) (pa_cons pe_int pa_nil)) (by rfl))
      (pss_cons (ps_for PassesOwn.never rfl (pi_list (pe_call G_feet (hr.mono (by decide)) (by rfl) T.m_feet T.F_feet.kp T.b_feet .nil pass0 (pa_cons (pe_prop (pv 0) T.cl_Layout T.p_Layout_word G_Layout_word (hr.mono (by decide)) T.b_Layout_word .nil pass0 (by rfl)) pa_nil))) (pg_tup (by rfl) (pgs_cons (pg_name (i := 5) scrank.nd rfl (.inl rfl)) (pgs_cons (pg_name (i := 6) scrank.nd rfl (.inl rfl)) (pgs_cons (pg_name (i := 7) scrank.nd rfl (.inl rfl)) pgs_nil))))
        (pss_cons (ps_asg (pe_call G_halve (hr.mono (by decide)) (by rfl) T.m_halve T.F_halve.kp T.b_halve .nil pass0 (pa_cons (pv 5) (pa_cons (pv 6) (pa_cons (pv 7) (pa_cons (pv 3) pa_nil))))) (pg_tup (by rfl) (pgs_cons (pg_name (i := 8) scrank.nd rfl (.inl rfl)) (pgs_cons (pg_name (i := 9) scrank.nd rfl (.inl rfl)) pgs_nil))))
      (C8.pss_cut (ps_if (pt_truth (pe_op op_odd (pe_op op_shrN (pv 2) (pe_op op_add (pv 6) (pv 7))) pe_int) (fun _ => rfl))
        (pss_cons (ps_aug (i := 4) scrank.nd rfl (.inl rfl) (pe_call G_area_of_part (hr.mono (by decide)) (by rfl) T.m_area_of_part T.F_area_of_part.kp T.b_area_of_part .nil pass0 (pa_cons (pv 8) pa_nil)) ip_add)
      (pss_one (ps_set (i := 3) scrank.nd rfl (.inl rfl) (pv 9))))
        (pss_one (ps_set (i := 3) scrank.nd rfl (.inl rfl) (pv 8))))
      (pss_one (ps_if (pt_cmpR op_isN (pv 3) pe_non (nomark _))
        (pss_one ps_break)
        pss_nil)))))
      (pss_one (ps_ret (pv 4))))))), ?_⟩
    have g1 := g.2.1
    have g2 := g.2.2
    have gl := g.len
    have hk' : k < 2 ^ (nx l + ny l) := by rw [nxy]; exact hk
    have ib : InBlk l (x1, y1, x2, y2) := ⟨b.x, b.y, b.bx, b.by_⟩
    walk_at "rd"
    refine ⟨p, a, l, x1, y1, x2, y2, rfl, ⟨dx, hp⟩, g, ha, b, fun H1 e1 => ?_⟩
    have hp1 := e1 _ _ hp
    have ha1 := e1 _ _ ha
    walk_at "rd"
    intro f ts H2 e2 nf F
    have ha2 := e2 _ _ ha1
    have e02 := e1.trans e2
    refine ⟨f, rfl, ⟨_, SqL.of F.1⟩, for_feet F (fun i σ H' => Same H2 H' ∧ ∃ (v : V) (q4 : P4) (ls : Nat) (u5 u6 u7 u8 u9 : Option V), PartAt H' v (some q4) ∧ InBlk (l.drop i) q4 ∧ ls + lessO (l.drop i) (some q4) (k % 2 ^ (l.drop i).length) = lessO l (some (x1, y1, x2, y2)) k ∧ σ = [some (.ref p), some (.ref a), some (.int k), some v, some (.int ls), u5, u6, u7, u8, u9]) (fun i σ H' W => W.1) ⟨Same.refl H2, .ref a, (x1, y1, x2, y2), 0, none, none, none, none, none, ⟨a, rfl, ha2⟩, ib, by rw [List.drop_zero, Nat.mod_eq_of_lt hk, Nat.zero_add], rfl⟩ (fun i hi t σ H' ht W => ?_) (fun σ H' W => ?_)⟩
    · obtain ⟨e3, v, q4, ls, u5, u6, u7, u8, u9, ⟨b4, rfl, hb4⟩, ib4, hls, rfl⟩ := W
      have dc := drop_cons l hi
      rw [dc] at hls ib4
      walk_at "rd"
      obtain ⟨x1', y1', x2', y2'⟩ := q4
      have bl1 := nx_le (l.drop (i + 1))
      have bl2 := ny_le (l.drop (i + 1))
      have bl3 := nxy (l.drop (i + 1))
      rw [List.length_drop] at bl1 bl2 bl3
      refine ⟨l[i], nx (l.drop (i + 1)), ny (l.drop (i + 1)), b4, x1', y1', x2', y2', rfl, by omega, by omega, hb4, fun t2 lo hi' H4 e4 nt2 kt2 hlo hhi => ?_⟩
      walk_at "rd"
      have ln := less_next ib4 k
      have nn := nxy (l.drop (i + 1))
      have ilo := lo_in ib4
      have ihi := hi_in ib4
      have e14 : Same H2 H4 := e3.trans e4
      have bt1 : nx (l.drop (i + 1)) ≤ 100 := by have := nx_drop_le l (i + 1); omega
      have bt2 : ny (l.drop (i + 1)) ≤ 100 := by have := ny_drop_le l (i + 1); omega
      refine ⟨fun σ' H' => ∃ (v' : V) (o : Option P4) (ls' : Nat) (z5 z6 z7 z8 z9 : Option V), PartAt H' v' o ∧ InO (l.drop (i + 1)) o ∧ ls' + lessO (l.drop (i + 1)) o (k % 2 ^ (l.drop (i + 1)).length) = lessO l (some (x1, y1, x2, y2)) k ∧ Same H2 H' ∧ σ' = [some (.ref p), some (.ref a), some (.int k), some v', some (.int ls'), z5, z6, z7, z8, z9], ?_, ?_⟩
      · walk_at "rd"
        refine ite2 (fun e => ?_) (fun e => ?_)
        · have ek : k / 2 ^ (nx (l.drop (i + 1)) + ny (l.drop (i + 1))) % 2 = 1 := by
            rcases Nat.mod_two_eq_zero_or_one (k / 2 ^ (nx (l.drop (i + 1)) + ny (l.drop (i + 1)))) with z | z
            · rw [z] at e
              exact absurd e (by decide)
            · exact z
          rw [nn] at ek
          rw [if_pos ek] at ln
          walk_at "rd"
          refine ⟨lo, _, l.drop (i + 1), rfl, hlo, ilo, bt1, bt2, ?_⟩
          walk_at "rd"
          exact ⟨hi', _, ls + areaP (loP l[i] (nx (l.drop (i + 1))) (ny (l.drop (i + 1))) (x1', y1', x2', y2')), _, _, _, _, _, hhi, ihi, by rw [← hls, ln, Nat.add_assoc], e14, rfl⟩
        · have ek : ¬ k / 2 ^ (nx (l.drop (i + 1)) + ny (l.drop (i + 1))) % 2 = 1 := by
            intro z
            rw [z] at e
            exact e rfl
          rw [nn] at ek
          rw [if_neg ek] at ln
          walk_at "rd"
          exact ⟨lo, _, ls, _, _, _, _, _, hlo, ilo, by rw [← hls, ln], e14, rfl⟩
      rintro σ' H5 ⟨v', o, ls', z5, z6, z7, z8, z9, hv, ho, hl', e25, rfl⟩
      walk_at "rd"
      have hn := hv.non
      cases o with
      | none =>
        refine iteT' hn ?_
        walk_at "rd"
        have el : ls' = lessO l (some (x1, y1, x2, y2)) k := hl'
        rw [el]
        exact q H5 (e02.trans e25)
      | some p5 =>
        refine iteF' hn ?_
        exact ⟨e25, v', p5, ls', z5, z6, z7, z8, z9, hv, ho p5 rfl, hl', rfl⟩
    · obtain ⟨e3, v, q4, ls, u5, u6, u7, u8, u9, hv, ib4, hls, rfl⟩ := W
      rw [List.drop_length] at hls ib4
      walk_at "rd"
      have e0 : lessO [] (some q4) (k % 2 ^ ([] : List Bool).length) = 0 := cntP_false fun x y _ _ => decide_eq_false (by rw [List.length_nil, Nat.pow_zero, Nat.mod_one]; exact Nat.not_lt_zero _)
      rw [e0, Nat.add_zero] at hls
      rw [hls]
      exact q H' (e02.trans e3)
def splaw_right (K : PySem.W.Frag) (Z : Ads) : Sp := fun vs H Q _ => ∃ (r : Addr), vs = [.ref r] ∧ Bag H r ∧ ∀ H', But r H H' → Bag H' r → Q (.bl true) H'
theorem oklaw_right {Z : Ads} (T : Top K mg Z) : FnG P w K mg base 7 Z.f_law_right Z.d_law_right ["bag"] (splaw_right K Z) := by
  have G_LayoutU_initU : FnOk P w K mg base CX0 2 Z.f_LayoutU_initU Z.d_LayoutU_initU ["self", "word"] (spLayoutU_initU K Z) := (okLayoutU_initU T).mono (by decide)
  have G_law_bits : FnOk P w K mg base CX0 6 Z.f_law_bits Z.d_law_bits ["bag", "most"] (splaw_bits K Z) := (oklaw_bits T).mono (by decide)
  have G_law_box : FnOk P w K mg base CX0 6 Z.f_law_box Z.d_law_box ["bag", "x_bits", "y_bits"] (splaw_box K Z) := (oklaw_box T).mono (by decide)
  have G_law_cell : FnOk P w K mg base CX0 6 Z.f_law_cell Z.d_law_cell ["word", "key"] (splaw_cell K Z) := (oklaw_cell T).mono (by decide)
  have G_law_keys : FnOk P w K mg base CX0 6 Z.f_law_keys Z.d_law_keys ["word", "box"] (splaw_keys K Z) := (oklaw_keys T).mono (by decide)
  have G_law_word : FnOk P w K mg base CX0 6 Z.f_law_word Z.d_law_word ["bag", "x_bits", "y_bits"] (splaw_word K Z) := (oklaw_word T).mono (by decide)
  have G_cell_at : FnOk P w K mg base CX0 6 Z.f_cell_at Z.d_cell_at ["layout", "box", "index"] (spcell_at K Z) := (okcell_at T).mono (by decide)
  have G_rank : FnOk P w K mg base CX0 6 Z.f_rank Z.d_rank ["layout", "box", "key"] (sprank K Z) := (okrank T).mono (by decide)
  refine okG T.F_law_right sclaw_right (fun vs H Q E h => ?_) (fun cdv A outer s H vs Q E hgd hr h => ?_)
  · obtain ⟨r, rfl, hB, q⟩ := h
    rfl
  · obtain ⟨r, rfl, hB, q⟩ := h
    refine ⟨_, (pss_cons (ps_asg (pe_call G_law_bits (hr.mono (by decide)) (by rfl) T.m_law_bits T.F_law_bits.kp T.b_law_bits .nil pass0 (pa_cons (pv 0) (pa_cons pe_int pa_nil))) (pg_tup (by rfl) (pgs_cons (pg_name (i := 1) sclaw_right.nd rfl (.inl rfl)) (pgs_cons (pg_name (i := 2) sclaw_right.nd rfl (.inl rfl)) pgs_nil))))
      (pss_cons (ps_asg (pe_tup (pa_cons (pe_call G_law_word (hr.mono (by decide)) (by rfl) T.m_law_word T.F_law_word.kp T.b_law_word .nil pass0 (pa_cons (pv 0) (pa_cons (pv 1) (pa_cons (pv 2) pa_nil)))) (pa_cons (pe_call G_law_box (hr.mono (by decide)) (by rfl) T.m_law_box T.F_law_box.kp T.b_law_box .nil pass0 (pa_cons (pv 0) (pa_cons (pv 1) (pa_cons (pv 2) pa_nil)))) pa_nil))) (pg_tup (by rfl) (pgs_cons (pg_name (i := 3) sclaw_right.nd rfl (.inr rfl)) (pgs_cons (pg_name (i := 4) sclaw_right.nd rfl (.inr rfl)) pgs_nil))))
      (pss_cons (ps_asg (pe_tup (pa_cons (pe_call G_law_keys (hr.mono (by decide)) (by rfl) T.m_law_keys T.F_law_keys.kp T.b_law_keys .nil pass0 (pa_cons (pv 3) (pa_cons (pv 4) pa_nil))) (pa_cons (pe_make T.mk_Layout G_LayoutU_initU (hr.mono (by decide)) (by rfl) T.m_Layout T.b_LayoutU_initU .nil pass0 (pa_cons (pv 3) pa_nil)) (pa_cons (pe_lst pa_nil) (pa_cons pe_int pa_nil))))) (pg_tup (by rfl) (pgs_cons (pg_name (i := 5) sclaw_right.nd rfl (.inl rfl)) (pgs_cons (pg_name (i := 6) sclaw_right.nd rfl (.inr rfl)) (pgs_cons (pg_name (i := 7) sclaw_right.nd rfl (.inl rfl)) (pgs_cons (pg_name (i := 8) sclaw_right.nd rfl (.inl rfl)) pgs_nil))))))
      (pss_cons (ps_for PassesOwn.never rfl (pi_range1 (by rfl) T.z_range (pa_cons (pe_op op_shl pe_int (pe_op op_add (pv 1) (pv 2))) pa_nil)) (pg_name (i := 9) sclaw_right.nd rfl (.inl rfl))
        (pss_cons (ps_expr (pe_bm PySem.F.plainAttrs_list PySem.F.slot_list_append PySem.F.type_list_append mt_append (pv 7) (pa_cons (pv 8) pa_nil)))
      (pss_one (ps_set (i := 8) sclaw_right.nd rfl (.inl rfl) (pe_op op_add (pv 8) (pe_callTy call_int1 (by rfl) T.z_int (by decide +kernel) (pa_cons (pe_and (pe_cmpR op_lt (pv 8) (pe_callB call_len_seq (by rfl) T.z_len (by decide +kernel) (pa_cons (pv 5) pa_nil)) (nomark _)) (pe_one (pe_cmpR op_eq (pe_ix ix_list (pv 5) (pv 8) (fun _ _ => rfl)) (pv 9) (nomark _)))) pa_nil)))))))
      (pss_cons (ps_if (pt_cmpR op_ne (pe_callB (call_reprD hgd (hu_of' hr)) (by rfl) T.z_repr (by decide +kernel) (pa_cons (pe_lc (own := [("key", 9)]) (g := (gName 9)) (tt := tYes) rfl sclaw_right.nd (pi_range1 (by rfl) T.z_range (pa_cons (pe_op op_shl pe_int (pe_op op_add (pv 1) (pv 2))) pa_nil)) (blkOk_by (own := [("key", 9)]) (N := ["bag", "x_bits", "y_bits", "word", "box", "keys", "one", "due", "many", "key", "told", "spot"]) (sc := defScope slaw_right) (by decide +kernel)) (fun _ _ _ _ _ => (pg_name (i := 9) sclaw_right.nd rfl (.inl rfl))) (fun _ _ _ _ _ => pts_nil) (fun _ _ _ _ _ => (pe_call G_rank (hr.mono (by decide)) (by rfl) T.m_rank T.F_rank.kp T.b_rank .nil pass0 (pa_cons (pv 6) (pa_cons (pv 4) (pa_cons (pv 9) pa_nil)))))) pa_nil)) (pe_callB (call_reprD hgd (hu_of' hr)) (by rfl) T.z_repr (by decide +kernel) (pa_cons (pv 7) pa_nil)) (nomark _))
        (pss_one (ps_ret pe_bl))
        pss_nil)
      (pss_cons (ps_setLc (i := 10) (own := [("spot", 11)]) (g := (gName 11)) (tt := tYes) (by rfl) sclaw_right.nd rfl rfl (sw_true rfl rfl rfl (by decide +kernel)) (pi_range1 (by rfl) T.z_range (pa_cons (pe_callB call_len_seq (by rfl) T.z_len (by decide +kernel) (pa_cons (pv 5) pa_nil)) pa_nil)) (blkOk_by (own := [("spot", 11)]) (N := ["bag", "x_bits", "y_bits", "word", "box", "keys", "one", "due", "many", "key", "told", "spot"]) (sc := defScope slaw_right) (by decide +kernel)) (fun _ _ _ _ _ => (pg_name (i := 11) sclaw_right.nd rfl (.inl rfl))) (fun _ _ _ _ _ => pts_nil) (fun _ _ _ _ _ => (pe_call G_cell_at (hr.mono (by decide)) (by rfl) T.m_cell_at T.F_cell_at.kp T.b_cell_at .nil pass0 (pa_cons (pv 6) (pa_cons (pv 4) (pa_cons (pv 11) pa_nil))))))
      (pss_one (ps_ret (pe_cmpR op_eq (pe_callB (call_reprD hgd (hu_of' hr)) (by rfl) T.z_repr (by decide +kernel) (pa_cons (pv 10) pa_nil)) (pe_callB (call_reprD hgd (hu_of' hr)) (by rfl) T.z_repr (by decide +kernel) (pa_cons (pe_lc (own := [("key", 9)]) (g := (gName 9)) (tt := tYes) rfl sclaw_right.nd (pi_list (pv 5)) (blkOk_by (own := [("key", 9)]) (N := ["bag", "x_bits", "y_bits", "word", "box", "keys", "one", "due", "many", "key", "told", "spot"]) (sc := defScope slaw_right) (by decide +kernel)) (fun _ _ _ _ _ => (pg_name (i := 9) sclaw_right.nd rfl (.inl rfl))) (fun _ _ _ _ _ => pts_nil) (fun _ _ _ _ _ => (pe_call G_law_cell (hr.mono (by decide)) (by rfl) T.m_law_cell T.F_law_cell.kp T.b_law_cell .nil pass0 (pa_cons (pv 3) (pa_cons (pv 9) pa_nil))))) pa_nil)) (nomark _)))))))))), ?_⟩
    walk_at "rd"
    intro t0 n m H1 hn hm h1 b1 B1 nt0 kt0
    have hn : n ≤ 4 := hn
    have hm : m ≤ 4 := hm
    walk_at "rd"
    intro l H2 hnx hny b2 B2
    have gw : GoodW l := good_of hnx hny (by omega) (by omega) h1
    have gl : l.length = n + m := by rw [← nxy, hnx, hny]
    walk_at "rd"
    intro tb x1 y1 x2 y2 H3 hx1 hx2 hy1 hy2 b3 B3 ntb ktb
    have bx : Bx l x1 y1 x2 y2 := ⟨hx1, hy1, by rw [hnx]; exact hx2, by rw [hny]; exact hy2⟩
    have p16n : 2 ^ n ≤ 2 ^ 4 := Nat.pow_le_pow_right (by decide) hn
    have p16m : 2 ^ m ≤ 2 ^ 4 := Nat.pow_le_pow_right (by decide) hm
    have area : (x2 + 1 - x1) * (y2 + 1 - y1) ≤ 16 * 16 := Nat.mul_le_mul (by omega) (by omega)
    walk_at "rd"
    intro tp ntp
    walk_at "rd"
    have tbr : tb ≠ r := B2.ne ntb
    refine to_any2 (fun H4 => H4 tb = some (.tup [.int (x1 : Nat), .int (y1 : Nat), .int (x2 : Nat), .int (y2 : Nat)]) ∧ Bag H4 r) (same_new (Same.refl H3) ntp) ⟨same_new (Same.refl H3) ntp _ _ ktb, B3.same (same_new (Same.refl H3) ntp)⟩ (fun H4 s34 hq4 => ?_)
    obtain ⟨ktb4, B4⟩ := hq4
    have b04 : But r H H4 := b1.trans (b2.trans (b3.trans (Same.but s34)))
    
    refine ⟨tb, l, x1, y1, x2, y2, rfl, by omega, by omega, by omega, ktb4, bx, by omega, fun ks D H5 hS s45 nD kD => ?_⟩
    walk_at "rd"
    refine fun p dp n1p n2p n3p => ⟨p, dp, l, rfl, gw, upd_same, fun H6 btp hp => ⟨rfl, ?_⟩⟩
    have sp := made_same n1p n2p btp
    
    walk_at "rd"
    intro du ndu
    walk_at "rd"
    intro tq ntq
    walk_at "rd"
    have eN : (1 * 2 ^ ((n : Int) + (m : Int)).toNat : Int) = ((2 ^ (n + m) : Nat) : Int) := by
      rw [show ((n : Int) + (m : Int)) = ((n + m : Nat) : Int) by omega, two_toNat]
    have p256 : 2 ^ (n + m) ≤ 2 ^ 8 := Nat.pow_le_pow_right (by decide) (by omega)
    obtain ⟨N, hN⟩ : ∃ N, N = 2 ^ (n + m) := ⟨_, rfl⟩
    rw [← hN] at p256 eN
    have hb : -2 ^ 62 ≤ (1 * 2 ^ ((n : Int) + (m : Int)).toNat : Int) ∧ (1 * 2 ^ ((n : Int) + (m : Int)).toNat : Int) < 2 ^ 62 := by rw [eN]; omega
    refine ⟨hb.1, hb.2, ?_⟩
    rw [eN]
    have sd := same_new (o := .lst []) (Same.refl H6) ndu
    have kdu : (upd H6 du (.lst [])) du = some (.lst []) := upd_same
    refine to_any2 (fun H7 => H7 du = some (.lst [])) (same_new (Same.refl _) ntq) (same_new (Same.refl _) ntq _ _ kdu) (fun H7 s67 kdu7 => ?_)
    have s47 : Same H4 H7 := s45.trans (sp.trans (sd.trans s67))
    have hp7 : H7 p = some (.ins Z.C_Layout dp (lf l)) := s67 _ _ (sd _ _ hp)
    have kD7 := s67 _ _ (sd _ _ (sp _ _ kD))
    have ktb7 := s47 _ _ ktb4
    have pdu : p ≠ du := ne_of_none hp ndu
    have Ddu : D ≠ du := ne_of_none (sp _ _ kD) ndu
    have tdu : tb ≠ du := ne_of_none (sp _ _ (s45 _ _ ktb4)) ndu
    have lks : ks.length ≤ 256 := by rw [hS.len]; exact area
    refine for_range (lo := 0) (n := N) (fun i σ H' => But du H7 H' ∧ H' du = some (.lst (((List.range i).map fun k => ((lessN ks k : Nat) : Int)).map V.int)) ∧ ∃ y9 : Option V, σ = [some (.ref r), some (.int n), some (.int m), some (.str (wS l)), some (.ref tb), some (.ref D), some (.ref p), some (.ref du), some (.int (lessN ks i : Nat)), y9, none, none]) ⟨But.refl, kdu7, none, by rw [lessN_zero]; rfl⟩ (fun i σ H' hi W => ?_) (fun σ H' W => ?_)
    · obtain ⟨b78, hdu, y9, rfl⟩ := W
      have kD' := b78 _ _ Ddu kD7
      have kb' : ∀ G : Hp, Same H' G → G D = some (.lst ((ks.map fun m => ((m : Nat) : Int)).map V.int)) := fun G e => e _ _ kD'
      walk_at "rd"
      refine ⟨du, _, _, rfl, rfl, hdu, by rw [List.length_map, List.length_map, List.length_range]; exact small_line' (by omega), ?_⟩
      have kD2 : (upd H' du (.lst (((List.range i).map fun k => ((lessN ks k : Nat) : Int)).map V.int ++ [.int (lessN ks i : Nat)]))) D = some (.lst ((ks.map fun m => ((m : Nat) : Int)).map V.int)) := by rw [upd_ne Ddu]; exact kD'
      walk_at "rd"
      refine ⟨D, _, rfl, .inl (SqL.of kD2), ?_⟩
      walk_at "rd"
      have st := less_step (k := i) hS.1
      have du' : (upd H' du (.lst (((List.range i).map fun k => ((lessN ks k : Nat) : Int)).map V.int ++ [.int (lessN ks i : Nat)]))) du = some (.lst (((List.range (i + 1)).map fun k => ((lessN ks k : Nat) : Int)).map V.int)) := by
        rw [upd_same, List.range_succ, List.map_append, List.map_append]
        rfl
      refine ite2 (fun e => ?_) (fun e => ?_)
      · have hj : lessN ks i < ks.length := by
          have := of_decide_eq_true e
          rw [List.length_map, List.length_map] at this
          omega
        walk_at "rd"
        refine ⟨D, _, ((lessN ks i : Nat) : Int), .int (ks[lessN ks i] : Nat), rfl, rfl, SqL.of kD2, atI_nat (j := lessN ks i) (by rw [List.getElem?_map, List.getElem?_map, List.getElem?_eq_getElem hj]; rfl), ?_⟩
        walk_at "rd"
        refine ⟨But.trans b78 But.upd, du', some (.int (0 + (i : Int))), ?_⟩
        have eb : decide (V.int ((ks[lessN ks i] : Nat) : Int) = V.int (0 + (i : Int))) = decide (ks[lessN ks i]? = some i) := by
          rw [List.getElem?_eq_getElem hj]
          refine decide_eq_decide.mpr ⟨fun z => ?_, fun z => ?_⟩
          · have := V.int.inj z
            congr 1
            omega
          · have := Option.some.inj z
            congr 1
            omega
        dsimp only
        rw [eb, st]
        by_cases hc : ks[lessN ks i]? = some i
        · rw [decide_eq_true hc, if_pos rfl, if_pos hc]
          rfl
        · rw [decide_eq_false hc, if_neg (by decide), if_neg hc]
          show _ = [_, _, _, _, _, _, _, _, some (V.int ((lessN ks i + 0 : Nat) : Int)), _, _, _]
          rw [Nat.add_zero]
          show [_, _, _, _, _, _, _, _, some (V.int (((lessN ks i : Nat) : Int) + 0)), _, _, _] = _
          rw [Int.add_zero]
      · have hj : ¬ lessN ks i < ks.length := by
          intro z
          refine e (decide_eq_true ?_)
          rw [List.length_map, List.length_map]
          omega
        walk_at "rd"
        refine ⟨But.trans b78 But.upd, du', some (.int (0 + (i : Int))), ?_⟩
        rw [st, if_neg (show ¬ ks[lessN ks i]? = some i by rw [List.getElem?_eq_none (by omega)]; intro z; cases z)]
        show [_, _, _, _, _, _, _, _, some (V.int (((lessN ks i : Nat) : Int) + 0)), _, _, _] = _
        rw [Int.add_zero]
        rfl
    obtain ⟨b78, hdu, y9, rfl⟩ := W
    have kD8 := b78 _ _ Ddu kD7
    have hp8 := b78 _ _ pdu hp7
    have ktb8 := b78 _ _ tdu ktb7
    walk_at "rd"
    rw [eN]
    refine fun A1 nA1 => lc_range (lo := 0) (n := N) (fun j Hc => But A1 H' Hc ∧ Hc A1 = some (.lst (((List.range j).map fun k => ((lessN ks k : Nat) : Int)).map V.int))) ⟨But.upd, upd_same⟩ (fun j Hc hj W => ?_) (fun Hc W => ?_)
    · obtain ⟨bA, hA⟩ := W
      refine ⟨rfl, ?_⟩
      unfold tYes
      refine iteT ?_
      walk_at "rd"
      have nA1p : p ≠ A1 := ne_of_none hp8 nA1
      have nA1t : tb ≠ A1 := ne_of_none ktb8 nA1
      refine ⟨p, tb, l, x1, y1, x2, y2, j, congrArg (fun z => [V.ref p, V.ref tb, V.int z]) (Int.zero_add _), ⟨dp, bA _ _ nA1p hp8⟩, gw, bA _ _ nA1t ktb8, bx, by rw [gl, ← hN]; exact hj, fun H9 e9 => ?_⟩
      refine ⟨_, e9 _ _ hA, by rw [List.length_map, List.length_map, List.length_range]; exact small_line' (by omega), But.trans (bA.trans (Same.but e9)) But.upd, ?_⟩
      rw [upd_same, hS.less, List.range_succ, List.map_append, List.map_append]
      rfl
    obtain ⟨bA, hA⟩ := W
    have duA : du ≠ A1 := ne_of_none hdu nA1
    have hdu' := bA _ _ duA hdu
    have kD9 := bA _ _ (ne_of_none kD8 nA1) kD8
    have hp9 := bA _ _ (ne_of_none hp8 nA1) hp8
    have ktb9 := bA _ _ (ne_of_none ktb8 nA1) ktb8
    have rpI := rp_ints ((List.range N).map fun k => ((lessN ks k : Nat) : Int)) (fun z hz => by
      obtain ⟨k, _, rfl⟩ := List.mem_map.mp hz
      rw [Int.natAbs_natCast]
      have := lessN_le ks k
      exact Nat.lt_of_le_of_lt (show lessN ks k ≤ 256 by omega) (by decide)) (by rw [List.length_map, List.length_range]; omega)
    walk_at "rd"
    refine ⟨A1, _, rfl, Dp.lst (SqL.of hA) (dp_ints _), rpI.1, rpI.2.1, rpI.2.2.1, rpI.2.2.2, ?_⟩
    walk_at "rd"
    refine ⟨du, _, rfl, Dp.lst (SqL.of hdu') (dp_ints _), rpI.1, rpI.2.1, rpI.2.2.1, rpI.2.2.2, ?_⟩
    walk_at "rd"
    refine iteNS rfl ?_
    walk_at "rd"
    refine ⟨D, _, rfl, .inl (SqL.of kD9), ?_⟩
    have eln : ((ks.map fun m => ((m : Nat) : Int)).map V.int).length = ks.length := by rw [List.length_map, List.length_map]
    rw [eln]
    walk_at "rd"
    refine fun A2 nA2 => lc_range (lo := 0) (n := ks.length) (fun j G => AccT A2 Hc G ((ks.take j).map (cellP l))) AccT.nil (fun j G hj W => ?_) (fun G W => ?_)
    · refine ⟨rfl, ?_⟩
      unfold tYes
      refine iteT ?_
      walk_at "rd"
      have bG := W.1
      refine ⟨p, tb, l, x1, y1, x2, y2, j, congrArg (fun z => [V.ref p, V.ref tb, V.int z]) (Int.zero_add _), ⟨dp, bG _ _ (ne_of_none hp9 nA2) hp9⟩, gw, bG _ _ (ne_of_none ktb9 nA2) ktb9, bx, by rw [← hS.len]; exact hj, fun t K G2 e2 nt hK hlK kt => ?_⟩
      rw [hS.less] at hlK
      have hjK := less_mem hS.1 ((hS.mem bx).mpr hK)
      rw [hlK] at hjK
      obtain ⟨acc, h1, h2, h3⟩ := W.snoc e2 kt
      refine ⟨acc, h1, by rw [h2, List.length_map, List.length_take]; exact small_line' (by omega), ?_⟩
      rw [take_snoc hjK, List.map_append]
      exact h3
    rw [List.take_length] at W
    have bG := W.1
    have kD10 := bG _ _ (ne_of_none kD9 nA2) kD9
    have rpC := rp_cells (l := l) (by omega) (by omega) (show ks.length ≤ 300 by omega)
    walk_at "rd"
    refine ⟨A2, _, rfl, W.dp, rpC.1, rpC.2.1, rpC.2.2.1, rpC.2.2.2, ?_⟩
    walk_at "rd"
    refine ⟨⟨_, SqL.of kD10⟩, fun A3 nA3 => lc_list (K := K) (a := D) (xs := (ks.map fun m => ((m : Nat) : Int)).map V.int) (fun j G3 => AccT A3 G G3 ((ks.take j).map (cellP l))) AccT.nil (fun j G3 _ W3 => SqL.of (W3.1 _ _ (ne_of_none kD10 nA3) kD10)) (fun j v G3 hv W3 => ?_) (fun G3 W3 => ?_)⟩
    · obtain ⟨k, hk, rfl⟩ : ∃ k : Nat, ks[j]? = some k ∧ v = V.int (k : Int) := by
        rw [List.getElem?_map, List.getElem?_map] at hv
        cases e : ks[j]? with
        | none => rw [e] at hv; cases hv
        | some t => rw [e] at hv; exact ⟨t, rfl, (Option.some.inj hv).symm⟩
      refine ⟨rfl, ?_⟩
      unfold tYes
      refine iteT ?_
      walk_at "rd"
      intro t G4 e4 nt kt
      obtain ⟨acc, h1, h2, h3⟩ := W3.snoc e4 kt
      refine ⟨acc, h1, by rw [h2, List.length_map, List.length_take]; exact small_line' (by omega), ?_⟩
      rw [take_snoc hk, List.map_append]
      exact h3
    rw [eln, List.take_length] at W3
    walk_at "rd"
    refine ⟨A3, _, rfl, W3.dp, rpC.1, rpC.2.1, rpC.2.2.1, rpC.2.2.2, ?_⟩
    walk_at "rd"
    have e2 : ∀ z : Str, decide (V.str z = V.str z) = true := fun z => decide_eq_true rfl
    rw [e2]
    have nr3 : ∀ c o, c ≠ r → H c = some o → G3 c = some o := fun c o nc hc => by
      have c4 := b04 c o nc hc
      have c7 := s47 _ _ c4
      have c8 := b78 _ _ (ne_of_none (sp _ _ (s45 _ _ c4)) ndu) c7
      have c9 := bA _ _ (ne_of_none c8 nA1) c8
      have c10 := bG _ _ (ne_of_none c9 nA2) c9
      exact W3.1 _ _ (ne_of_none c10 nA3) c10
    have Br : Bag G3 r := by
      obtain ⟨ba, bc, bk, q1, q2⟩ := B4
      have c7 := s47 _ _ q1
      have c8 := b78 _ _ (ne_of_none (sp _ _ (s45 _ _ q1)) ndu) c7
      have c9 := bA _ _ (ne_of_none c8 nA1) c8
      have c10 := bG _ _ (ne_of_none c9 nA2) c9
      exact ⟨ba, bc, bk, W3.1 _ _ (ne_of_none c10 nA3) c10, q2⟩
    exact q G3 nr3 Br
def splaw (K : PySem.W.Frag) (Z : Ads) : Sp := fun vs H Q _ => ∃ (a : Addr) (ns : List Int), vs = [.ref a] ∧ SqL K H a (ns.map V.int) ∧ ns.length ≤ 63 ∧ ∀ H', Q (.bl true) H'
theorem oklaw {Z : Ads} (T : Top K mg Z) : FnG P w K mg base 8 Z.f_law Z.d_law ["script"] (splaw K Z) := by
  have G_LayoutU_initU : FnOk P w K mg base CX0 2 Z.f_LayoutU_initU Z.d_LayoutU_initU ["self", "word"] (spLayoutU_initU K Z) := (okLayoutU_initU T).mono (by decide)
  have G_law_bag : FnOk P w K mg base CX0 7 Z.f_law_bag Z.d_law_bag ["cell"] (splaw_bag K Z) := (oklaw_bag T).mono (by decide)
  have G_law_right : FnG P w K mg base 7 Z.f_law_right Z.d_law_right ["bag"] (splaw_right K Z) := (oklaw_right T).mono (by decide)
  have G_cell_at : FnOk P w K mg base CX0 7 Z.f_cell_at Z.d_cell_at ["layout", "box", "index"] (spcell_at K Z) := (okcell_at T).mono (by decide)
  have G_rank : FnOk P w K mg base CX0 7 Z.f_rank Z.d_rank ["layout", "box", "key"] (sprank K Z) := (okrank T).mono (by decide)
  refine okG T.F_law sclaw (fun vs H Q E h => ?_) (fun cdv A outer s H vs Q E hgd hr h => ?_)
  · obtain ⟨a, ns, rfl, hS, hl, q⟩ := h
    rfl
  · obtain ⟨a, ns, rfl, hS, hl, q⟩ := h
    refine ⟨_, (pss_cons (ps_for PassesOwn.never rfl (pi_list (pe_op op_cat (pe_slice sl_list (pv 0) po_none (po_some pe_int)) (pe_lst (pa_cons pe_int pa_nil)))) (pg_name (i := 1) sclaw.nd rfl (.inl rfl))
        (pss_cons (ps_set (i := 2) sclaw.nd rfl (.inl rfl) (pe_call G_law_bag (hr.mono (by decide)) (by rfl) T.m_law_bag T.F_law_bag.kp T.b_law_bag .nil pass0 (pa_cons (pv 1) pa_nil)))
      (pss_one (ps_for PassesOwn.never rfl (pi_range1 (by rfl) T.z_range (pa_cons pe_int pa_nil)) (pg_name (i := 3) sclaw.nd rfl (.inl rfl))
        (pss_one (ps_if (pt_not (pt_val (pe_callG G_law_right hgd (hr.mono (by decide)) (by rfl) T.m_law_right T.F_law_right.kp T.b_law_right (pa_cons (pv 2) pa_nil))))
        (pss_one (ps_ret pe_bl))
        pss_nil))))))
      (pss_cons (ps_set (i := 4) sclaw.nd rfl (.inl rfl) (pe_make T.mk_Layout G_LayoutU_initU (hr.mono (by decide)) (by rfl) T.m_Layout T.b_LayoutU_initU .nil pass0 (pa_cons pe_str pa_nil)))
      (pss_one (ps_ret (pe_cmpR (op_eqD (hu_of' hr)) (pe_lst (pa_cons (pe_call G_rank (hr.mono (by decide)) (by rfl) T.m_rank T.F_rank.kp T.b_rank .nil pass0 (pa_cons (pv 4) (pa_cons (pe_tup (pa_cons pe_int (pa_cons pe_int (pa_cons pe_int (pa_cons pe_int pa_nil))))) (pa_cons pe_int pa_nil)))) (pa_cons (pe_call G_cell_at (hr.mono (by decide)) (by rfl) T.m_cell_at T.F_cell_at.kp T.b_cell_at .nil pass0 (pa_cons (pv 4) (pa_cons (pe_tup (pa_cons pe_int (pa_cons pe_int (pa_cons pe_int (pa_cons pe_int pa_nil))))) (pa_cons pe_int pa_nil)))) pa_nil))) (pe_lst (pa_cons pe_int (pa_cons (pe_tup (pa_cons pe_int (pa_cons pe_int pa_nil))) pa_nil))) (nomark _)))))), ?_⟩
    walk_at "rd"
    refine ⟨a, _, rfl, hS, fun p1 np1 => ?_⟩
    walk_at "rd"
    intro p2 np2
    have k1 : (upd (upd H p1 (.lst (cutV (ns.map V.int) none (some 6)))) p2 (.lst [.int 0])) p1 = some (.lst (cutV (ns.map V.int) none (some 6))) := by
      rw [upd_ne (ne_of_none upd_same np2)]
      exact upd_same
    have cl := cutV_length (ns.map V.int) none (some 6)
    rw [List.length_map] at cl
    refine ⟨p1, p2, _, _, rfl, rfl, k1, upd_same, by exact small_line (by show _ + 1 ≤ 100000; omega), fun p3 np3 => ?_⟩
    have s13 : Same H (upd (upd (upd H p1 (.lst (cutV (ns.map V.int) none (some 6)))) p2 (.lst [.int 0])) p3 (.lst (cutV (ns.map V.int) none (some 6) ++ [.int 0]))) := same_new (same_new (same_new (Same.refl H) np1) np2) np3
    refine to_any2 (fun H1 => H1 p3 = some (.lst (cutV (ns.map V.int) none (some 6) ++ [.int 0]))) s13 upd_same (fun H1 s1 k3 => ?_)
    walk_at "rd"
    refine ⟨⟨_, SqL.of k3⟩, for_list (K := K) (a := p3) (xs := cutV (ns.map V.int) none (some 6) ++ [.int 0]) (fun i σ H' => Same H1 H' ∧ ∃ (y1 y2 y3 : Option V), σ = [some (.ref a), y1, y2, y3, none]) ⟨Same.refl H1, none, none, none, rfl⟩ (fun i σ H' _ W => SqL.of (W.1 _ _ k3)) (fun i x σ H' hx W => ?_) (fun σ H' W => ?_)⟩
    · obtain ⟨sm, y1, y2, y3, rfl⟩ := W
      obtain ⟨c, rfl⟩ := cut_int (List.mem_of_getElem? hx)
      walk_at "rd"
      intro r H2 s2 nr hB
      have B2 := bag_new hB
      walk_at "rd"
      refine for_range (lo := 0) (n := 3) (fun j σ G => But r H2 G ∧ Bag G r ∧ ∃ z, σ = [some (.ref a), some (.int c), some (.ref r), z, none]) ⟨But.refl, B2, y3, rfl⟩ (fun j σ G hj W => ?_) (fun σ G W => ?_)
      · obtain ⟨bG, BG, z, rfl⟩ := W
        walk_at "rd"
        intro G2 b2 B2'
        refine ⟨true, rfl, iteF ?_⟩
        exact ⟨bG.trans b2, B2', _, rfl⟩
      · obtain ⟨bG, BG, z, rfl⟩ := W
        exact ⟨sm.trans (but_same s2 nr bG), _, _, _, rfl⟩
    obtain ⟨sm, y1, y2, y3, rfl⟩ := W
    have gz : GoodW [false, true, false, true] := ⟨by simp, by decide, by decide⟩
    have hb : Bx [false, true, false, true] 1 0 2 3 := ⟨by decide, by decide, by decide, by decide⟩
    walk_at "rd"
    refine fun p dp n1p n2p n3p => ⟨p, dp, [false, true, false, true], congrArg (fun z => [V.ref p, V.str z]) (by decide +kernel), gz, upd_same, fun H2 btp hp => ⟨rfl, ?_⟩⟩
    have sp := made_same n1p n2p btp
    
    walk_at "rd"
    intro u1 nu1
    have h1p := same_new (o := .tup [.int 1, .int 0, .int 2, .int 3]) (Same.refl H2) nu1
    refine to_any2 (fun H3 => H3 u1 = some (.tup [.int (1 : Nat), .int (0 : Nat), .int (2 : Nat), .int (3 : Nat)])) h1p upd_same (fun H3 s3 ku1 => ?_)
    have hp3 := s3 _ _ hp
    walk_at "rd"
    refine ⟨p, u1, [false, true, false, true], 1, 0, 2, 3, 9, rfl, ⟨dp, hp3⟩, gz, ku1, hb, by decide, fun H4 s4 => ?_⟩
    have hp4 := s4 _ _ hp3
    rw [show lessO [false, true, false, true] (some (1, 0, 2, 3)) 9 = 4 by decide +kernel]
    walk_at "rd"
    intro u2 nu2
    refine to_any2 (fun H5 => H5 u2 = some (.tup [.int (1 : Nat), .int (0 : Nat), .int (2 : Nat), .int (3 : Nat)])) (same_new (Same.refl H4) nu2) upd_same (fun H5 s5 ku2 => ?_)
    walk_at "rd"
    refine ⟨p, u2, [false, true, false, true], 1, 0, 2, 3, 4, rfl, ⟨dp, s5 _ _ hp4⟩, gz, ku2, hb, by decide, fun t K H6 s6 nt hK hlK kt => ?_⟩
    obtain ⟨ex, ey⟩ := ex19' hK hlK
    rw [ex, ey] at kt
    walk_at "rd"
    intro q1 nq1
    have kt2 := same_new (o := .lst [.int (4 : Nat), .ref t]) (Same.refl H6) nq1 _ _ kt
    walk_at "rd"
    intro q2 nq2
    walk_at "rd"
    intro q3 nq3
    have kq1 : (upd H6 q1 (.lst [.int (4 : Nat), .ref t])) q1 = some (.lst [.int (4 : Nat), .ref t]) := upd_same
    have m2 := same_new (o := .tup [.int 1, .int 2]) (Same.refl _) nq2
    have m3 := same_new (o := .lst [.int 4, .ref q2]) (Same.refl _) nq3
    have kq2 : (upd (upd H6 q1 (.lst [.int (4 : Nat), .ref t])) q2 (.tup [.int 1, .int 2])) q2 = some (.tup [.int 1, .int 2]) := upd_same
    have shp : SeqAt.shaped (.list [.int 4, .tuple [.int 1, .int 2]]) = true := by decide +kernel
    refine ⟨.list [.int 4, .tuple [.int 1, .int 2]], .list [.int 4, .tuple [.int 1, .int 2]], Dp.lst (SqL.of (m3 _ _ (m2 _ _ kq1))) (.cons (.int _) (.cons (Dp.tup (SqT.of (m3 _ _ (m2 _ _ kt2))) (.cons (.int _) (.cons (.int _) .nil))) .nil)), Dp.lst (SqL.of upd_same) (.cons (.int _) (.cons (Dp.tup (SqT.of (m3 _ _ kq2)) (.cons (.int _) (.cons (.int _) .nil))) .nil)), shp, shp, ?_⟩
    rw [eqv_same shp]
    exact q _
end
theorem all_mk {l : PySem.W.OpenLaw} {w : World} {K : PySem.W.Frag} {h : Heap} {mg : Str → Option Value} {fa C_Layout f_is_word f_LayoutU_initU f_law_bag f_law_pick f_law_bits f_law_side f_law_box f_law_cell f_law_key f_law_keys f_law_word f_is_integer f_is_between f_check_key f_feet f_Layout_cell f_Layout_word p_Layout_word f_area_of f_area_of_part f_check_index f_Layout_x_bits p_Layout_x_bits f_Layout_y_bits p_Layout_y_bits f_are_integers f_is_box f_check_box f_check_layout f_check_layout_and_box f_halve f_cell_at f_rank f_law_right f_law : Addr} (X : K.In h) (G : h.Ns mainGlobals mg) (hfa : mg "law" = some (.ref fa))
    {oc_is_word kV_is_word dc_is_word pm_is_word cd_is_word ct_is_word oc_LayoutU_initU kV_LayoutU_initU dc_LayoutU_initU pm_LayoutU_initU cd_LayoutU_initU ct_LayoutU_initU oc_law_bag kV_law_bag dc_law_bag pm_law_bag cd_law_bag ct_law_bag oc_law_pick kV_law_pick dc_law_pick pm_law_pick cd_law_pick ct_law_pick oc_law_bits kV_law_bits dc_law_bits pm_law_bits cd_law_bits ct_law_bits oc_law_side kV_law_side dc_law_side pm_law_side cd_law_side ct_law_side oc_law_box kV_law_box dc_law_box pm_law_box cd_law_box ct_law_box oc_law_cell kV_law_cell dc_law_cell pm_law_cell cd_law_cell ct_law_cell oc_law_key kV_law_key dc_law_key pm_law_key cd_law_key ct_law_key oc_law_keys kV_law_keys dc_law_keys pm_law_keys cd_law_keys ct_law_keys oc_law_word kV_law_word dc_law_word pm_law_word cd_law_word ct_law_word oc_is_integer kV_is_integer dc_is_integer pm_is_integer cd_is_integer ct_is_integer oc_is_between kV_is_between dc_is_between pm_is_between cd_is_between ct_is_between oc_check_key kV_check_key dc_check_key pm_check_key cd_check_key ct_check_key oc_feet kV_feet dc_feet pm_feet cd_feet ct_feet oc_Layout_cell kV_Layout_cell dc_Layout_cell pm_Layout_cell cd_Layout_cell ct_Layout_cell oc_Layout_word kV_Layout_word dc_Layout_word pm_Layout_word cd_Layout_word ct_Layout_word oc_area_of kV_area_of dc_area_of pm_area_of cd_area_of ct_area_of oc_area_of_part kV_area_of_part dc_area_of_part pm_area_of_part cd_area_of_part ct_area_of_part oc_check_index kV_check_index dc_check_index pm_check_index cd_check_index ct_check_index oc_Layout_x_bits kV_Layout_x_bits dc_Layout_x_bits pm_Layout_x_bits cd_Layout_x_bits ct_Layout_x_bits oc_Layout_y_bits kV_Layout_y_bits dc_Layout_y_bits pm_Layout_y_bits cd_Layout_y_bits ct_Layout_y_bits oc_are_integers kV_are_integers dc_are_integers pm_are_integers cd_are_integers ct_are_integers oc_is_box kV_is_box dc_is_box pm_is_box cd_is_box ct_is_box oc_check_box kV_check_box dc_check_box pm_check_box cd_check_box ct_check_box oc_check_layout kV_check_layout dc_check_layout pm_check_layout cd_check_layout ct_check_layout oc_check_layout_and_box kV_check_layout_and_box dc_check_layout_and_box pm_check_layout_and_box cd_check_layout_and_box ct_check_layout_and_box oc_halve kV_halve dc_halve pm_halve cd_halve ct_halve oc_cell_at kV_cell_at dc_cell_at pm_cell_at cd_cell_at ct_cell_at oc_rank kV_rank dc_rank pm_rank cd_rank ct_rank oc_law_right kV_law_right dc_law_right pm_law_right cd_law_right ct_law_right oc_law kV_law dc_law pm_law cd_law ct_law : Value} {od_is_word an_is_word od_LayoutU_initU an_LayoutU_initU od_law_bag an_law_bag od_law_pick an_law_pick od_law_bits an_law_bits od_law_side an_law_side od_law_box an_law_box od_law_cell an_law_cell od_law_key an_law_key od_law_keys an_law_keys od_law_word an_law_word od_is_integer an_is_integer od_is_between an_is_between od_check_key an_check_key od_feet an_feet od_Layout_cell an_Layout_cell od_Layout_word an_Layout_word od_area_of an_area_of od_area_of_part an_area_of_part od_check_index an_check_index od_Layout_x_bits an_Layout_x_bits od_Layout_y_bits an_Layout_y_bits od_are_integers an_are_integers od_is_box an_is_box od_check_box an_check_box od_check_layout an_check_layout od_check_layout_and_box an_check_layout_and_box od_halve an_halve od_cell_at an_cell_at od_rank an_rank od_law_right an_law_right od_law an_law : Option Addr} {sl_is_word sl_LayoutU_initU sl_law_bag sl_law_pick sl_law_bits sl_law_side sl_law_box sl_law_cell sl_law_key sl_law_keys sl_law_word sl_is_integer sl_is_between sl_check_key sl_feet sl_Layout_cell sl_Layout_word sl_area_of sl_area_of_part sl_check_index sl_Layout_x_bits sl_Layout_y_bits sl_are_integers sl_is_box sl_check_box sl_check_layout sl_check_layout_and_box sl_halve sl_cell_at sl_rank sl_law_right sl_law : Array (Option Value)} {rs_Layout_word rs_Layout_x_bits rs_Layout_y_bits : List Value} {t_MOST_BITS : Tok}
    (a_Layout : PySem.W.nsIn K mainGlobals "Layout" = some (some (.ref C_Layout)))
    (a_is_word : PySem.W.nsIn K mainGlobals "is_word" = some (some (.ref f_is_word)))
    (l_is_word : K.lookup f_is_word = some ⟨oc_is_word, od_is_word, .func (PySem.W.fnOf "is_word" "is_word" (defArgs sis_word) (defBody sis_word) (defScope sis_word) .none kV_is_word dc_is_word pm_is_word an_is_word cd_is_word ct_is_word), sl_is_word⟩)
    (c_is_word : PySem.W.codeIn K cd_is_word "is_word" = true)
    (k_is_word : PySem.W.keepIn K (.ref f_is_word) = true)
    (a_LayoutU_initU : PySem.W.findIn K (.ref C_Layout) "__init__" = some (some (.ref f_LayoutU_initU)))
    (i_LayoutU_initU : PySem.W.isFn K (.ref f_LayoutU_initU) = true)
    (l_LayoutU_initU : K.lookup f_LayoutU_initU = some ⟨oc_LayoutU_initU, od_LayoutU_initU, .func (PySem.W.fnOf "__init__" "Layout.__init__" (defArgs sLayoutU_initU) (defBody sLayoutU_initU) (defScope sLayoutU_initU) .none kV_LayoutU_initU dc_LayoutU_initU pm_LayoutU_initU an_LayoutU_initU cd_LayoutU_initU ct_LayoutU_initU), sl_LayoutU_initU⟩)
    (c_LayoutU_initU : PySem.W.codeIn K cd_LayoutU_initU "Layout.__init__" = true)
    (k_LayoutU_initU : PySem.W.keepIn K (.ref f_LayoutU_initU) = true)
    (a_law_bag : PySem.W.nsIn K mainGlobals "_law_bag" = some (some (.ref f_law_bag)))
    (l_law_bag : K.lookup f_law_bag = some ⟨oc_law_bag, od_law_bag, .func (PySem.W.fnOf "_law_bag" "_law_bag" (defArgs slaw_bag) (defBody slaw_bag) (defScope slaw_bag) .none kV_law_bag dc_law_bag pm_law_bag an_law_bag cd_law_bag ct_law_bag), sl_law_bag⟩)
    (c_law_bag : PySem.W.codeIn K cd_law_bag "_law_bag" = true)
    (k_law_bag : PySem.W.keepIn K (.ref f_law_bag) = true)
    (a_law_pick : PySem.W.nsIn K mainGlobals "_law_pick" = some (some (.ref f_law_pick)))
    (l_law_pick : K.lookup f_law_pick = some ⟨oc_law_pick, od_law_pick, .func (PySem.W.fnOf "_law_pick" "_law_pick" (defArgs slaw_pick) (defBody slaw_pick) (defScope slaw_pick) .none kV_law_pick dc_law_pick pm_law_pick an_law_pick cd_law_pick ct_law_pick), sl_law_pick⟩)
    (c_law_pick : PySem.W.codeIn K cd_law_pick "_law_pick" = true)
    (k_law_pick : PySem.W.keepIn K (.ref f_law_pick) = true)
    (a_law_bits : PySem.W.nsIn K mainGlobals "_law_bits" = some (some (.ref f_law_bits)))
    (l_law_bits : K.lookup f_law_bits = some ⟨oc_law_bits, od_law_bits, .func (PySem.W.fnOf "_law_bits" "_law_bits" (defArgs slaw_bits) (defBody slaw_bits) (defScope slaw_bits) .none kV_law_bits dc_law_bits pm_law_bits an_law_bits cd_law_bits ct_law_bits), sl_law_bits⟩)
    (c_law_bits : PySem.W.codeIn K cd_law_bits "_law_bits" = true)
    (k_law_bits : PySem.W.keepIn K (.ref f_law_bits) = true)
    (a_law_side : PySem.W.nsIn K mainGlobals "_law_side" = some (some (.ref f_law_side)))
    (l_law_side : K.lookup f_law_side = some ⟨oc_law_side, od_law_side, .func (PySem.W.fnOf "_law_side" "_law_side" (defArgs slaw_side) (defBody slaw_side) (defScope slaw_side) .none kV_law_side dc_law_side pm_law_side an_law_side cd_law_side ct_law_side), sl_law_side⟩)
    (c_law_side : PySem.W.codeIn K cd_law_side "_law_side" = true)
    (k_law_side : PySem.W.keepIn K (.ref f_law_side) = true)
    (a_law_box : PySem.W.nsIn K mainGlobals "_law_box" = some (some (.ref f_law_box)))
    (l_law_box : K.lookup f_law_box = some ⟨oc_law_box, od_law_box, .func (PySem.W.fnOf "_law_box" "_law_box" (defArgs slaw_box) (defBody slaw_box) (defScope slaw_box) .none kV_law_box dc_law_box pm_law_box an_law_box cd_law_box ct_law_box), sl_law_box⟩)
    (c_law_box : PySem.W.codeIn K cd_law_box "_law_box" = true)
    (k_law_box : PySem.W.keepIn K (.ref f_law_box) = true)
    (a_law_cell : PySem.W.nsIn K mainGlobals "_law_cell" = some (some (.ref f_law_cell)))
    (l_law_cell : K.lookup f_law_cell = some ⟨oc_law_cell, od_law_cell, .func (PySem.W.fnOf "_law_cell" "_law_cell" (defArgs slaw_cell) (defBody slaw_cell) (defScope slaw_cell) .none kV_law_cell dc_law_cell pm_law_cell an_law_cell cd_law_cell ct_law_cell), sl_law_cell⟩)
    (c_law_cell : PySem.W.codeIn K cd_law_cell "_law_cell" = true)
    (k_law_cell : PySem.W.keepIn K (.ref f_law_cell) = true)
    (a_law_key : PySem.W.nsIn K mainGlobals "_law_key" = some (some (.ref f_law_key)))
    (l_law_key : K.lookup f_law_key = some ⟨oc_law_key, od_law_key, .func (PySem.W.fnOf "_law_key" "_law_key" (defArgs slaw_key) (defBody slaw_key) (defScope slaw_key) .none kV_law_key dc_law_key pm_law_key an_law_key cd_law_key ct_law_key), sl_law_key⟩)
    (c_law_key : PySem.W.codeIn K cd_law_key "_law_key" = true)
    (k_law_key : PySem.W.keepIn K (.ref f_law_key) = true)
    (a_law_keys : PySem.W.nsIn K mainGlobals "_law_keys" = some (some (.ref f_law_keys)))
    (l_law_keys : K.lookup f_law_keys = some ⟨oc_law_keys, od_law_keys, .func (PySem.W.fnOf "_law_keys" "_law_keys" (defArgs slaw_keys) (defBody slaw_keys) (defScope slaw_keys) .none kV_law_keys dc_law_keys pm_law_keys an_law_keys cd_law_keys ct_law_keys), sl_law_keys⟩)
    (c_law_keys : PySem.W.codeIn K cd_law_keys "_law_keys" = true)
    (k_law_keys : PySem.W.keepIn K (.ref f_law_keys) = true)
    (a_law_word : PySem.W.nsIn K mainGlobals "_law_word" = some (some (.ref f_law_word)))
    (l_law_word : K.lookup f_law_word = some ⟨oc_law_word, od_law_word, .func (PySem.W.fnOf "_law_word" "_law_word" (defArgs slaw_word) (defBody slaw_word) (defScope slaw_word) .none kV_law_word dc_law_word pm_law_word an_law_word cd_law_word ct_law_word), sl_law_word⟩)
    (c_law_word : PySem.W.codeIn K cd_law_word "_law_word" = true)
    (k_law_word : PySem.W.keepIn K (.ref f_law_word) = true)
    (a_is_integer : PySem.W.nsIn K mainGlobals "is_integer" = some (some (.ref f_is_integer)))
    (l_is_integer : K.lookup f_is_integer = some ⟨oc_is_integer, od_is_integer, .func (PySem.W.fnOf "is_integer" "is_integer" (defArgs sis_integer) (defBody sis_integer) (defScope sis_integer) .none kV_is_integer dc_is_integer pm_is_integer an_is_integer cd_is_integer ct_is_integer), sl_is_integer⟩)
    (c_is_integer : PySem.W.codeIn K cd_is_integer "is_integer" = true)
    (k_is_integer : PySem.W.keepIn K (.ref f_is_integer) = true)
    (a_is_between : PySem.W.nsIn K mainGlobals "is_between" = some (some (.ref f_is_between)))
    (l_is_between : K.lookup f_is_between = some ⟨oc_is_between, od_is_between, .func (PySem.W.fnOf "is_between" "is_between" (defArgs sis_between) (defBody sis_between) (defScope sis_between) .none kV_is_between dc_is_between pm_is_between an_is_between cd_is_between ct_is_between), sl_is_between⟩)
    (c_is_between : PySem.W.codeIn K cd_is_between "is_between" = true)
    (k_is_between : PySem.W.keepIn K (.ref f_is_between) = true)
    (a_check_key : PySem.W.nsIn K mainGlobals "check_key" = some (some (.ref f_check_key)))
    (l_check_key : K.lookup f_check_key = some ⟨oc_check_key, od_check_key, .func (PySem.W.fnOf "check_key" "check_key" (defArgs scheck_key) (defBody scheck_key) (defScope scheck_key) .none kV_check_key dc_check_key pm_check_key an_check_key cd_check_key ct_check_key), sl_check_key⟩)
    (c_check_key : PySem.W.codeIn K cd_check_key "check_key" = true)
    (k_check_key : PySem.W.keepIn K (.ref f_check_key) = true)
    (a_feet : PySem.W.nsIn K mainGlobals "feet" = some (some (.ref f_feet)))
    (l_feet : K.lookup f_feet = some ⟨oc_feet, od_feet, .func (PySem.W.fnOf "feet" "feet" (defArgs sfeet) (defBody sfeet) (defScope sfeet) .none kV_feet dc_feet pm_feet an_feet cd_feet ct_feet), sl_feet⟩)
    (c_feet : PySem.W.codeIn K cd_feet "feet" = true)
    (k_feet : PySem.W.keepIn K (.ref f_feet) = true)
    (a_Layout_cell : PySem.W.findIn K (.ref C_Layout) "cell" = some (some (.ref f_Layout_cell)))
    (i_Layout_cell : PySem.W.isFn K (.ref f_Layout_cell) = true)
    (l_Layout_cell : K.lookup f_Layout_cell = some ⟨oc_Layout_cell, od_Layout_cell, .func (PySem.W.fnOf "cell" "Layout.cell" (defArgs sLayout_cell) (defBody sLayout_cell) (defScope sLayout_cell) .none kV_Layout_cell dc_Layout_cell pm_Layout_cell an_Layout_cell cd_Layout_cell ct_Layout_cell), sl_Layout_cell⟩)
    (c_Layout_cell : PySem.W.codeIn K cd_Layout_cell "Layout.cell" = true)
    (k_Layout_cell : PySem.W.keepIn K (.ref f_Layout_cell) = true)
    (a_Layout_word : PySem.W.findIn K (.ref C_Layout) "word" = some (some (.ref p_Layout_word)))
    (g_Layout_word : PySem.W.specialIn K (.ref p_Layout_word) "__get__" = some (some (.builtin "property.__get__")))
    (t_Layout_word : PySem.W.takesIn K (.ref p_Layout_word) = some true)
    (r_Layout_word : PySem.W.recIn K p_Layout_word "property" = some (.ref f_Layout_word :: rs_Layout_word))
    (l_Layout_word : K.lookup f_Layout_word = some ⟨oc_Layout_word, od_Layout_word, .func (PySem.W.fnOf "word" "Layout.word" (defArgs sLayout_word) (defBody sLayout_word) (defScope sLayout_word) .none kV_Layout_word dc_Layout_word pm_Layout_word an_Layout_word cd_Layout_word ct_Layout_word), sl_Layout_word⟩)
    (c_Layout_word : PySem.W.codeIn K cd_Layout_word "Layout.word" = true)
    (k_Layout_word : PySem.W.keepIn K (.ref f_Layout_word) = true)
    (a_area_of : PySem.W.nsIn K mainGlobals "area_of" = some (some (.ref f_area_of)))
    (l_area_of : K.lookup f_area_of = some ⟨oc_area_of, od_area_of, .func (PySem.W.fnOf "area_of" "area_of" (defArgs sarea_of) (defBody sarea_of) (defScope sarea_of) .none kV_area_of dc_area_of pm_area_of an_area_of cd_area_of ct_area_of), sl_area_of⟩)
    (c_area_of : PySem.W.codeIn K cd_area_of "area_of" = true)
    (k_area_of : PySem.W.keepIn K (.ref f_area_of) = true)
    (a_area_of_part : PySem.W.nsIn K mainGlobals "_area_of_part" = some (some (.ref f_area_of_part)))
    (l_area_of_part : K.lookup f_area_of_part = some ⟨oc_area_of_part, od_area_of_part, .func (PySem.W.fnOf "_area_of_part" "_area_of_part" (defArgs sarea_of_part) (defBody sarea_of_part) (defScope sarea_of_part) .none kV_area_of_part dc_area_of_part pm_area_of_part an_area_of_part cd_area_of_part ct_area_of_part), sl_area_of_part⟩)
    (c_area_of_part : PySem.W.codeIn K cd_area_of_part "_area_of_part" = true)
    (k_area_of_part : PySem.W.keepIn K (.ref f_area_of_part) = true)
    (a_check_index : PySem.W.nsIn K mainGlobals "check_index" = some (some (.ref f_check_index)))
    (l_check_index : K.lookup f_check_index = some ⟨oc_check_index, od_check_index, .func (PySem.W.fnOf "check_index" "check_index" (defArgs scheck_index) (defBody scheck_index) (defScope scheck_index) .none kV_check_index dc_check_index pm_check_index an_check_index cd_check_index ct_check_index), sl_check_index⟩)
    (c_check_index : PySem.W.codeIn K cd_check_index "check_index" = true)
    (k_check_index : PySem.W.keepIn K (.ref f_check_index) = true)
    (a_Layout_x_bits : PySem.W.findIn K (.ref C_Layout) "x_bits" = some (some (.ref p_Layout_x_bits)))
    (g_Layout_x_bits : PySem.W.specialIn K (.ref p_Layout_x_bits) "__get__" = some (some (.builtin "property.__get__")))
    (t_Layout_x_bits : PySem.W.takesIn K (.ref p_Layout_x_bits) = some true)
    (r_Layout_x_bits : PySem.W.recIn K p_Layout_x_bits "property" = some (.ref f_Layout_x_bits :: rs_Layout_x_bits))
    (l_Layout_x_bits : K.lookup f_Layout_x_bits = some ⟨oc_Layout_x_bits, od_Layout_x_bits, .func (PySem.W.fnOf "x_bits" "Layout.x_bits" (defArgs sLayout_x_bits) (defBody sLayout_x_bits) (defScope sLayout_x_bits) .none kV_Layout_x_bits dc_Layout_x_bits pm_Layout_x_bits an_Layout_x_bits cd_Layout_x_bits ct_Layout_x_bits), sl_Layout_x_bits⟩)
    (c_Layout_x_bits : PySem.W.codeIn K cd_Layout_x_bits "Layout.x_bits" = true)
    (k_Layout_x_bits : PySem.W.keepIn K (.ref f_Layout_x_bits) = true)
    (a_Layout_y_bits : PySem.W.findIn K (.ref C_Layout) "y_bits" = some (some (.ref p_Layout_y_bits)))
    (g_Layout_y_bits : PySem.W.specialIn K (.ref p_Layout_y_bits) "__get__" = some (some (.builtin "property.__get__")))
    (t_Layout_y_bits : PySem.W.takesIn K (.ref p_Layout_y_bits) = some true)
    (r_Layout_y_bits : PySem.W.recIn K p_Layout_y_bits "property" = some (.ref f_Layout_y_bits :: rs_Layout_y_bits))
    (l_Layout_y_bits : K.lookup f_Layout_y_bits = some ⟨oc_Layout_y_bits, od_Layout_y_bits, .func (PySem.W.fnOf "y_bits" "Layout.y_bits" (defArgs sLayout_y_bits) (defBody sLayout_y_bits) (defScope sLayout_y_bits) .none kV_Layout_y_bits dc_Layout_y_bits pm_Layout_y_bits an_Layout_y_bits cd_Layout_y_bits ct_Layout_y_bits), sl_Layout_y_bits⟩)
    (c_Layout_y_bits : PySem.W.codeIn K cd_Layout_y_bits "Layout.y_bits" = true)
    (k_Layout_y_bits : PySem.W.keepIn K (.ref f_Layout_y_bits) = true)
    (a_are_integers : PySem.W.nsIn K mainGlobals "are_integers" = some (some (.ref f_are_integers)))
    (l_are_integers : K.lookup f_are_integers = some ⟨oc_are_integers, od_are_integers, .func (PySem.W.fnOf "are_integers" "are_integers" (defArgs sare_integers) (defBody sare_integers) (defScope sare_integers) .none kV_are_integers dc_are_integers pm_are_integers an_are_integers cd_are_integers ct_are_integers), sl_are_integers⟩)
    (c_are_integers : PySem.W.codeIn K cd_are_integers "are_integers" = true)
    (k_are_integers : PySem.W.keepIn K (.ref f_are_integers) = true)
    (a_is_box : PySem.W.nsIn K mainGlobals "is_box" = some (some (.ref f_is_box)))
    (l_is_box : K.lookup f_is_box = some ⟨oc_is_box, od_is_box, .func (PySem.W.fnOf "is_box" "is_box" (defArgs sis_box) (defBody sis_box) (defScope sis_box) .none kV_is_box dc_is_box pm_is_box an_is_box cd_is_box ct_is_box), sl_is_box⟩)
    (c_is_box : PySem.W.codeIn K cd_is_box "is_box" = true)
    (k_is_box : PySem.W.keepIn K (.ref f_is_box) = true)
    (a_check_box : PySem.W.nsIn K mainGlobals "check_box" = some (some (.ref f_check_box)))
    (l_check_box : K.lookup f_check_box = some ⟨oc_check_box, od_check_box, .func (PySem.W.fnOf "check_box" "check_box" (defArgs scheck_box) (defBody scheck_box) (defScope scheck_box) .none kV_check_box dc_check_box pm_check_box an_check_box cd_check_box ct_check_box), sl_check_box⟩)
    (c_check_box : PySem.W.codeIn K cd_check_box "check_box" = true)
    (k_check_box : PySem.W.keepIn K (.ref f_check_box) = true)
    (a_check_layout : PySem.W.nsIn K mainGlobals "check_layout" = some (some (.ref f_check_layout)))
    (l_check_layout : K.lookup f_check_layout = some ⟨oc_check_layout, od_check_layout, .func (PySem.W.fnOf "check_layout" "check_layout" (defArgs scheck_layout) (defBody scheck_layout) (defScope scheck_layout) .none kV_check_layout dc_check_layout pm_check_layout an_check_layout cd_check_layout ct_check_layout), sl_check_layout⟩)
    (c_check_layout : PySem.W.codeIn K cd_check_layout "check_layout" = true)
    (k_check_layout : PySem.W.keepIn K (.ref f_check_layout) = true)
    (a_check_layout_and_box : PySem.W.nsIn K mainGlobals "check_layout_and_box" = some (some (.ref f_check_layout_and_box)))
    (l_check_layout_and_box : K.lookup f_check_layout_and_box = some ⟨oc_check_layout_and_box, od_check_layout_and_box, .func (PySem.W.fnOf "check_layout_and_box" "check_layout_and_box" (defArgs scheck_layout_and_box) (defBody scheck_layout_and_box) (defScope scheck_layout_and_box) .none kV_check_layout_and_box dc_check_layout_and_box pm_check_layout_and_box an_check_layout_and_box cd_check_layout_and_box ct_check_layout_and_box), sl_check_layout_and_box⟩)
    (c_check_layout_and_box : PySem.W.codeIn K cd_check_layout_and_box "check_layout_and_box" = true)
    (k_check_layout_and_box : PySem.W.keepIn K (.ref f_check_layout_and_box) = true)
    (a_halve : PySem.W.nsIn K mainGlobals "halve" = some (some (.ref f_halve)))
    (l_halve : K.lookup f_halve = some ⟨oc_halve, od_halve, .func (PySem.W.fnOf "halve" "halve" (defArgs shalve) (defBody shalve) (defScope shalve) .none kV_halve dc_halve pm_halve an_halve cd_halve ct_halve), sl_halve⟩)
    (c_halve : PySem.W.codeIn K cd_halve "halve" = true)
    (k_halve : PySem.W.keepIn K (.ref f_halve) = true)
    (a_cell_at : PySem.W.nsIn K mainGlobals "cell_at" = some (some (.ref f_cell_at)))
    (l_cell_at : K.lookup f_cell_at = some ⟨oc_cell_at, od_cell_at, .func (PySem.W.fnOf "cell_at" "cell_at" (defArgs scell_at) (defBody scell_at) (defScope scell_at) .none kV_cell_at dc_cell_at pm_cell_at an_cell_at cd_cell_at ct_cell_at), sl_cell_at⟩)
    (c_cell_at : PySem.W.codeIn K cd_cell_at "cell_at" = true)
    (k_cell_at : PySem.W.keepIn K (.ref f_cell_at) = true)
    (a_rank : PySem.W.nsIn K mainGlobals "rank" = some (some (.ref f_rank)))
    (l_rank : K.lookup f_rank = some ⟨oc_rank, od_rank, .func (PySem.W.fnOf "rank" "rank" (defArgs srank) (defBody srank) (defScope srank) .none kV_rank dc_rank pm_rank an_rank cd_rank ct_rank), sl_rank⟩)
    (c_rank : PySem.W.codeIn K cd_rank "rank" = true)
    (k_rank : PySem.W.keepIn K (.ref f_rank) = true)
    (a_law_right : PySem.W.nsIn K mainGlobals "_law_right" = some (some (.ref f_law_right)))
    (l_law_right : K.lookup f_law_right = some ⟨oc_law_right, od_law_right, .func (PySem.W.fnOf "_law_right" "_law_right" (defArgs slaw_right) (defBody slaw_right) (defScope slaw_right) .none kV_law_right dc_law_right pm_law_right an_law_right cd_law_right ct_law_right), sl_law_right⟩)
    (c_law_right : PySem.W.codeIn K cd_law_right "_law_right" = true)
    (k_law_right : PySem.W.keepIn K (.ref f_law_right) = true)
    (a_law : PySem.W.nsIn K mainGlobals "law" = some (some (.ref f_law)))
    (l_law : K.lookup f_law = some ⟨oc_law, od_law, .func (PySem.W.fnOf "law" "law" (defArgs slaw) (defBody slaw) (defScope slaw) .none kV_law dc_law pm_law an_law cd_law ct_law), sl_law⟩)
    (c_law : PySem.W.codeIn K cd_law "law" = true)
    (k_law : PySem.W.keepIn K (.ref f_law) = true)
    (pg_Layout : PySem.W.plainGet K C_Layout Str.empty = true)
    (hd_Layout : PySem.W.hasDictIn K C_Layout = true)
    (po_Layout : PySem.W.plainOver K C_Layout = true)
    (sa_Layout : PySem.W.findIn K (.ref C_Layout) "__setattr__" = some (some (.builtin "object.__setattr__")))
    (mk_Layout : PySem.W.makesIn K C_Layout = true)
    (kc_Layout : PySem.W.keepIn K (.ref C_Layout) = true)
    (ia_Layout : PySem.W.findIn K (.ref C_Layout) "__class__" = some (some (.builtin "object.__class__")))
    (ib_Layout : PySem.W.specialIn K (.builtin "object.__class__") "__get__" = some (some (.builtin "getset_descriptor.__get__")))
    (ic_Layout : PySem.W.takesIn K (.builtin "object.__class__") = some true)
    (id_Layout : PySem.W.mroIn K C_Layout (.type "object") = some true)
    (no_Layout_word : PySem.W.findIn K (.ref C_Layout) "_word" = some none)
    (no_Layout_x_bits : PySem.W.findIn K (.ref C_Layout) "_x_bits" = some none)
    (no_Layout_y_bits : PySem.W.findIn K (.ref C_Layout) "_y_bits" = some none)
    (z_all : PySem.W.nsIn K mainGlobals "all" = some none)
    (z_bool : PySem.W.nsIn K mainGlobals "bool" = some none)
    (z_enumerate : PySem.W.nsIn K mainGlobals "enumerate" = some none)
    (z_int : PySem.W.nsIn K mainGlobals "int" = some none)
    (z_isinstance : PySem.W.nsIn K mainGlobals "isinstance" = some none)
    (z_len : PySem.W.nsIn K mainGlobals "len" = some none)
    (z_max : PySem.W.nsIn K mainGlobals "max" = some none)
    (z_min : PySem.W.nsIn K mainGlobals "min" = some none)
    (z_range : PySem.W.nsIn K mainGlobals "range" = some none)
    (z_repr : PySem.W.nsIn K mainGlobals "repr" = some none)
    (z_sorted : PySem.W.nsIn K mainGlobals "sorted" = some none)
    (z_str : PySem.W.nsIn K mainGlobals "str" = some none)
    (z_sum : PySem.W.nsIn K mainGlobals "sum" = some none)
    (z_tuple : PySem.W.nsIn K mainGlobals "tuple" = some none)
    (v_MOST_BITS : PySem.W.nsIn K mainGlobals "MOST_BITS" = some (some (.int 100 t_MOST_BITS))) :
    ∃ (Z : Ads) (fd : FuncData), (∀ (s : Shared) (v : Value), BindsTo s fd ⟨[v], []⟩ [("script", v)]) ∧ ∀ base : Heap, K.In base → base.Ns mainGlobals mg → FnG l.prog w K mg base 8 fa fd ["script"] (splaw K Z) := by
  have e := hfa.symm.trans (PySem.W.mg_of X G a_law)
  cases e
  have F_is_word := fun_mk (st := sis_word) l_is_word c_is_word k_is_word
  have b_is_word := F_is_word.binds (ps := ["value"]) fun _ _ _ _ _ _ us hl => match us, hl with | [_], _ => rfl
  have F_LayoutU_initU := fun_mk (st := sLayoutU_initU) l_LayoutU_initU c_LayoutU_initU k_LayoutU_initU
  have b_LayoutU_initU := F_LayoutU_initU.binds (ps := ["self", "word"]) fun _ _ _ _ _ _ us hl => match us, hl with | [_, _], _ => rfl
  have F_law_bag := fun_mk (st := slaw_bag) l_law_bag c_law_bag k_law_bag
  have b_law_bag := F_law_bag.binds (ps := ["cell"]) fun _ _ _ _ _ _ us hl => match us, hl with | [_], _ => rfl
  have F_law_pick := fun_mk (st := slaw_pick) l_law_pick c_law_pick k_law_pick
  have b_law_pick := F_law_pick.binds (ps := ["bag", "many"]) fun _ _ _ _ _ _ us hl => match us, hl with | [_, _], _ => rfl
  have F_law_bits := fun_mk (st := slaw_bits) l_law_bits c_law_bits k_law_bits
  have b_law_bits := F_law_bits.binds (ps := ["bag", "most"]) fun _ _ _ _ _ _ us hl => match us, hl with | [_, _], _ => rfl
  have F_law_side := fun_mk (st := slaw_side) l_law_side c_law_side k_law_side
  have b_law_side := F_law_side.binds (ps := ["bag", "bits"]) fun _ _ _ _ _ _ us hl => match us, hl with | [_, _], _ => rfl
  have F_law_box := fun_mk (st := slaw_box) l_law_box c_law_box k_law_box
  have b_law_box := F_law_box.binds (ps := ["bag", "x_bits", "y_bits"]) fun _ _ _ _ _ _ us hl => match us, hl with | [_, _, _], _ => rfl
  have F_law_cell := fun_mk (st := slaw_cell) l_law_cell c_law_cell k_law_cell
  have b_law_cell := F_law_cell.binds (ps := ["word", "key"]) fun _ _ _ _ _ _ us hl => match us, hl with | [_, _], _ => rfl
  have F_law_key := fun_mk (st := slaw_key) l_law_key c_law_key k_law_key
  have b_law_key := F_law_key.binds (ps := ["word", "x", "y"]) fun _ _ _ _ _ _ us hl => match us, hl with | [_, _, _], _ => rfl
  have F_law_keys := fun_mk (st := slaw_keys) l_law_keys c_law_keys k_law_keys
  have b_law_keys := F_law_keys.binds (ps := ["word", "box"]) fun _ _ _ _ _ _ us hl => match us, hl with | [_, _], _ => rfl
  have F_law_word := fun_mk (st := slaw_word) l_law_word c_law_word k_law_word
  have b_law_word := F_law_word.binds (ps := ["bag", "x_bits", "y_bits"]) fun _ _ _ _ _ _ us hl => match us, hl with | [_, _, _], _ => rfl
  have F_is_integer := fun_mk (st := sis_integer) l_is_integer c_is_integer k_is_integer
  have b_is_integer := F_is_integer.binds (ps := ["value"]) fun _ _ _ _ _ _ us hl => match us, hl with | [_], _ => rfl
  have F_is_between := fun_mk (st := sis_between) l_is_between c_is_between k_is_between
  have b_is_between := F_is_between.binds (ps := ["value", "low", "high"]) fun _ _ _ _ _ _ us hl => match us, hl with | [_, _, _], _ => rfl
  have F_check_key := fun_mk (st := scheck_key) l_check_key c_check_key k_check_key
  have b_check_key := F_check_key.binds (ps := ["key", "x_bits", "y_bits"]) fun _ _ _ _ _ _ us hl => match us, hl with | [_, _, _], _ => rfl
  have F_feet := fun_mk (st := sfeet) l_feet c_feet k_feet
  have b_feet := F_feet.binds (ps := ["word"]) fun _ _ _ _ _ _ us hl => match us, hl with | [_], _ => rfl
  have F_Layout_cell := fun_mk (st := sLayout_cell) l_Layout_cell c_Layout_cell k_Layout_cell
  have b_Layout_cell := F_Layout_cell.binds (ps := ["self", "key"]) fun _ _ _ _ _ _ us hl => match us, hl with | [_, _], _ => rfl
  have F_Layout_word := fun_mk (st := sLayout_word) l_Layout_word c_Layout_word k_Layout_word
  have b_Layout_word := F_Layout_word.binds (ps := ["self"]) fun _ _ _ _ _ _ us hl => match us, hl with | [_], _ => rfl
  have F_area_of := fun_mk (st := sarea_of) l_area_of c_area_of k_area_of
  have b_area_of := F_area_of.binds (ps := ["box"]) fun _ _ _ _ _ _ us hl => match us, hl with | [_], _ => rfl
  have F_area_of_part := fun_mk (st := sarea_of_part) l_area_of_part c_area_of_part k_area_of_part
  have b_area_of_part := F_area_of_part.binds (ps := ["part"]) fun _ _ _ _ _ _ us hl => match us, hl with | [_], _ => rfl
  have F_check_index := fun_mk (st := scheck_index) l_check_index c_check_index k_check_index
  have b_check_index := F_check_index.binds (ps := ["index", "many"]) fun _ _ _ _ _ _ us hl => match us, hl with | [_, _], _ => rfl
  have F_Layout_x_bits := fun_mk (st := sLayout_x_bits) l_Layout_x_bits c_Layout_x_bits k_Layout_x_bits
  have b_Layout_x_bits := F_Layout_x_bits.binds (ps := ["self"]) fun _ _ _ _ _ _ us hl => match us, hl with | [_], _ => rfl
  have F_Layout_y_bits := fun_mk (st := sLayout_y_bits) l_Layout_y_bits c_Layout_y_bits k_Layout_y_bits
  have b_Layout_y_bits := F_Layout_y_bits.binds (ps := ["self"]) fun _ _ _ _ _ _ us hl => match us, hl with | [_], _ => rfl
  have F_are_integers := fun_mk (st := sare_integers) l_are_integers c_are_integers k_are_integers
  have b_are_integers := F_are_integers.binds (ps := ["value", "many"]) fun _ _ _ _ _ _ us hl => match us, hl with | [_, _], _ => rfl
  have F_is_box := fun_mk (st := sis_box) l_is_box c_is_box k_is_box
  have b_is_box := F_is_box.binds (ps := ["value", "x_bits", "y_bits"]) fun _ _ _ _ _ _ us hl => match us, hl with | [_, _, _], _ => rfl
  have F_check_box := fun_mk (st := scheck_box) l_check_box c_check_box k_check_box
  have b_check_box := F_check_box.binds (ps := ["box", "x_bits", "y_bits"]) fun _ _ _ _ _ _ us hl => match us, hl with | [_, _, _], _ => rfl
  have F_check_layout := fun_mk (st := scheck_layout) l_check_layout c_check_layout k_check_layout
  have b_check_layout := F_check_layout.binds (ps := ["layout"]) fun _ _ _ _ _ _ us hl => match us, hl with | [_], _ => rfl
  have F_check_layout_and_box := fun_mk (st := scheck_layout_and_box) l_check_layout_and_box c_check_layout_and_box k_check_layout_and_box
  have b_check_layout_and_box := F_check_layout_and_box.binds (ps := ["layout", "box"]) fun _ _ _ _ _ _ us hl => match us, hl with | [_, _], _ => rfl
  have F_halve := fun_mk (st := shalve) l_halve c_halve k_halve
  have b_halve := F_halve.binds (ps := ["letter", "i", "j", "part"]) fun _ _ _ _ _ _ us hl => match us, hl with | [_, _, _, _], _ => rfl
  have F_cell_at := fun_mk (st := scell_at) l_cell_at c_cell_at k_cell_at
  have b_cell_at := F_cell_at.binds (ps := ["layout", "box", "index"]) fun _ _ _ _ _ _ us hl => match us, hl with | [_, _, _], _ => rfl
  have F_rank := fun_mk (st := srank) l_rank c_rank k_rank
  have b_rank := F_rank.binds (ps := ["layout", "box", "key"]) fun _ _ _ _ _ _ us hl => match us, hl with | [_, _, _], _ => rfl
  have F_law_right := fun_mk (st := slaw_right) l_law_right c_law_right k_law_right
  have b_law_right := F_law_right.binds (ps := ["bag"]) fun _ _ _ _ _ _ us hl => match us, hl with | [_], _ => rfl
  have F_law := fun_mk (st := slaw) l_law c_law k_law
  have b_law := F_law.binds (ps := ["script"]) fun _ _ _ _ _ _ us hl => match us, hl with | [_], _ => rfl
  have T : Top K mg ⟨C_Layout, f_is_word, _, f_LayoutU_initU, _, f_law_bag, _, f_law_pick, _, f_law_bits, _, f_law_side, _, f_law_box, _, f_law_cell, _, f_law_key, _, f_law_keys, _, f_law_word, _, f_is_integer, _, f_is_between, _, f_check_key, _, f_feet, _, f_Layout_cell, _, f_Layout_word, _, p_Layout_word, f_area_of, _, f_area_of_part, _, f_check_index, _, f_Layout_x_bits, _, p_Layout_x_bits, f_Layout_y_bits, _, p_Layout_y_bits, f_are_integers, _, f_is_box, _, f_check_box, _, f_check_layout, _, f_check_layout_and_box, _, f_halve, _, f_cell_at, _, f_rank, _, f_law_right, _, fa, _⟩ := ⟨F_is_word, b_is_word, PySem.W.mg_of X G a_is_word, F_LayoutU_initU, b_LayoutU_initU, ⟨mk_Layout, a_LayoutU_initU, i_LayoutU_initU, kc_Layout⟩, F_law_bag, b_law_bag, PySem.W.mg_of X G a_law_bag, F_law_pick, b_law_pick, PySem.W.mg_of X G a_law_pick, F_law_bits, b_law_bits, PySem.W.mg_of X G a_law_bits, F_law_side, b_law_side, PySem.W.mg_of X G a_law_side, F_law_box, b_law_box, PySem.W.mg_of X G a_law_box, F_law_cell, b_law_cell, PySem.W.mg_of X G a_law_cell, F_law_key, b_law_key, PySem.W.mg_of X G a_law_key, F_law_keys, b_law_keys, PySem.W.mg_of X G a_law_keys, F_law_word, b_law_word, PySem.W.mg_of X G a_law_word, F_is_integer, b_is_integer, PySem.W.mg_of X G a_is_integer, F_is_between, b_is_between, PySem.W.mg_of X G a_is_between, F_check_key, b_check_key, PySem.W.mg_of X G a_check_key, F_feet, b_feet, PySem.W.mg_of X G a_feet, F_Layout_cell, b_Layout_cell, ⟨a_Layout_cell, i_Layout_cell, k_Layout_cell⟩, F_Layout_word, b_Layout_word, ⟨a_Layout_word, g_Layout_word, t_Layout_word, ⟨_, r_Layout_word⟩⟩, F_area_of, b_area_of, PySem.W.mg_of X G a_area_of, F_area_of_part, b_area_of_part, PySem.W.mg_of X G a_area_of_part, F_check_index, b_check_index, PySem.W.mg_of X G a_check_index, F_Layout_x_bits, b_Layout_x_bits, ⟨a_Layout_x_bits, g_Layout_x_bits, t_Layout_x_bits, ⟨_, r_Layout_x_bits⟩⟩, F_Layout_y_bits, b_Layout_y_bits, ⟨a_Layout_y_bits, g_Layout_y_bits, t_Layout_y_bits, ⟨_, r_Layout_y_bits⟩⟩, F_are_integers, b_are_integers, PySem.W.mg_of X G a_are_integers, F_is_box, b_is_box, PySem.W.mg_of X G a_is_box, F_check_box, b_check_box, PySem.W.mg_of X G a_check_box, F_check_layout, b_check_layout, PySem.W.mg_of X G a_check_layout, F_check_layout_and_box, b_check_layout_and_box, PySem.W.mg_of X G a_check_layout_and_box, F_halve, b_halve, PySem.W.mg_of X G a_halve, F_cell_at, b_cell_at, PySem.W.mg_of X G a_cell_at, F_rank, b_rank, PySem.W.mg_of X G a_rank, F_law_right, b_law_right, PySem.W.mg_of X G a_law_right, F_law, b_law, PySem.W.mg_of X G a_law, PySem.W.mg_of X G a_Layout, ⟨pg_Layout, hd_Layout, po_Layout, sa_Layout⟩, ⟨⟨pg_Layout, hd_Layout, po_Layout, sa_Layout⟩, ia_Layout, ib_Layout, ic_Layout, id_Layout, kitOne_self _ _⟩, no_Layout_word, no_Layout_x_bits, no_Layout_y_bits, PySem.W.mg_none_of X G z_all, PySem.W.mg_none_of X G z_bool, PySem.W.mg_none_of X G z_enumerate, PySem.W.mg_none_of X G z_int, PySem.W.mg_none_of X G z_isinstance, PySem.W.mg_none_of X G z_len, PySem.W.mg_none_of X G z_max, PySem.W.mg_none_of X G z_min, PySem.W.mg_none_of X G z_range, PySem.W.mg_none_of X G z_repr, PySem.W.mg_none_of X G z_sorted, PySem.W.mg_none_of X G z_str, PySem.W.mg_none_of X G z_sum, PySem.W.mg_none_of X G z_tuple, ⟨_, PySem.W.mg_of X G v_MOST_BITS⟩⟩
  exact ⟨_, PySem.W.fnOf "law" "law" (defArgs slaw) (defBody slaw) (defScope slaw) .none kV_law dc_law pm_law an_law cd_law ct_law, fun s v => .of_eq rfl, fun base _ _ => oklaw T⟩
theorem all_mk2 {l : PySem.W.OpenLaw} {w : World} {K : PySem.W.Frag} {mg : Str → Option Value} {fa : Addr} (h : ∃ (Z : Ads) (fd : FuncData), (∀ (s : Shared) (v : Value), BindsTo s fd ⟨[v], []⟩ [("script", v)]) ∧ ∀ base : Heap, K.In base → base.Ns mainGlobals mg → FnG l.prog w K mg base 8 fa fd ["script"] (splaw K Z)) :
    ∃ fd : FuncData, (∀ (s : Shared) (v : Value), BindsTo s fd ⟨[v], []⟩ [("script", v)]) ∧ ∀ base : Heap, K.In base → base.Ns mainGlobals mg → FnG l.prog w K mg base 8 fa fd ["script"] (splaw_any K) := by
  obtain ⟨Z, fd, h1, h2⟩ := h
  exact ⟨fd, h1, h2⟩
end Lk
open PySem PySem.W PyProof.Rows
set_option maxHeartbeats 0 in
theorem PySem.Challenge.cw_lacekeys_k19_ranks_by_listing_holds : PySem.Challenge.rw_lacekeys_k19_ranks_by_listing.Holds := by
  w_on; o_law; k_head; (case hw => w_witness2)
  k_fill
  refine Lk.walkG (l := PySem.Challenge.rw_lacekeys_k19_ranks_by_listing) (n := 63) (k := 8) (x := "script") (sp := fun w => Lk.splaw_any _) rfl (by decide) rfl ⟨rfl, by decide, by decide⟩ (fun w h Y => PySem.W.kIn_of Y) ?F (fun _ _ a ns hl _ hS => ⟨a, ns, rfl, hS, hl, fun _ => rfl⟩)
  case F =>
    intro w mg fa h KX G hmg
    refine' Lk.all_mk2 (Lk.all_mk (l := PySem.Challenge.rw_lacekeys_k19_ranks_by_listing) (w := w) KX G hmg ?a_Layout ?a_is_word ?l_is_word ?c_is_word ?k_is_word ?a_LayoutU_initU ?i_LayoutU_initU ?l_LayoutU_initU ?c_LayoutU_initU ?k_LayoutU_initU ?a_law_bag ?l_law_bag ?c_law_bag ?k_law_bag ?a_law_pick ?l_law_pick ?c_law_pick ?k_law_pick ?a_law_bits ?l_law_bits ?c_law_bits ?k_law_bits ?a_law_side ?l_law_side ?c_law_side ?k_law_side ?a_law_box ?l_law_box ?c_law_box ?k_law_box ?a_law_cell ?l_law_cell ?c_law_cell ?k_law_cell ?a_law_key ?l_law_key ?c_law_key ?k_law_key ?a_law_keys ?l_law_keys ?c_law_keys ?k_law_keys ?a_law_word ?l_law_word ?c_law_word ?k_law_word ?a_is_integer ?l_is_integer ?c_is_integer ?k_is_integer ?a_is_between ?l_is_between ?c_is_between ?k_is_between ?a_check_key ?l_check_key ?c_check_key ?k_check_key ?a_feet ?l_feet ?c_feet ?k_feet ?a_Layout_cell ?i_Layout_cell ?l_Layout_cell ?c_Layout_cell ?k_Layout_cell ?a_Layout_word ?g_Layout_word ?t_Layout_word ?r_Layout_word ?l_Layout_word ?c_Layout_word ?k_Layout_word ?a_area_of ?l_area_of ?c_area_of ?k_area_of ?a_area_of_part ?l_area_of_part ?c_area_of_part ?k_area_of_part ?a_check_index ?l_check_index ?c_check_index ?k_check_index ?a_Layout_x_bits ?g_Layout_x_bits ?t_Layout_x_bits ?r_Layout_x_bits ?l_Layout_x_bits ?c_Layout_x_bits ?k_Layout_x_bits ?a_Layout_y_bits ?g_Layout_y_bits ?t_Layout_y_bits ?r_Layout_y_bits ?l_Layout_y_bits ?c_Layout_y_bits ?k_Layout_y_bits ?a_are_integers ?l_are_integers ?c_are_integers ?k_are_integers ?a_is_box ?l_is_box ?c_is_box ?k_is_box ?a_check_box ?l_check_box ?c_check_box ?k_check_box ?a_check_layout ?l_check_layout ?c_check_layout ?k_check_layout ?a_check_layout_and_box ?l_check_layout_and_box ?c_check_layout_and_box ?k_check_layout_and_box ?a_halve ?l_halve ?c_halve ?k_halve ?a_cell_at ?l_cell_at ?c_cell_at ?k_cell_at ?a_rank ?l_rank ?c_rank ?k_rank ?a_law_right ?l_law_right ?c_law_right ?k_law_right ?a_law ?l_law ?c_law ?k_law ?pg_Layout ?hd_Layout ?po_Layout ?sa_Layout ?mk_Layout ?kc_Layout ?ia_Layout ?ib_Layout ?ic_Layout ?id_Layout ?no_Layout_word ?no_Layout_x_bits ?no_Layout_y_bits ?z_all ?z_bool ?z_enumerate ?z_int ?z_isinstance ?z_len ?z_max ?z_min ?z_range ?z_repr ?z_sorted ?z_str ?z_sum ?z_tuple ?v_MOST_BITS)
    (case a_Layout => k_is)
    (case a_is_word => k_is)
    (case l_is_word => k_is)
    (case c_is_word => k_is)
    (case k_is_word => k_is)
    (case a_LayoutU_initU => k_is)
    (case i_LayoutU_initU => k_is)
    (case l_LayoutU_initU => k_is)
    (case c_LayoutU_initU => k_is)
    (case k_LayoutU_initU => k_is)
    (case a_law_bag => k_is)
    (case l_law_bag => k_is)
    (case c_law_bag => k_is)
    (case k_law_bag => k_is)
    (case a_law_pick => k_is)
    (case l_law_pick => k_is)
    (case c_law_pick => k_is)
    (case k_law_pick => k_is)
    (case a_law_bits => k_is)
    (case l_law_bits => k_is)
    (case c_law_bits => k_is)
    (case k_law_bits => k_is)
    (case a_law_side => k_is)
    (case l_law_side => k_is)
    (case c_law_side => k_is)
    (case k_law_side => k_is)
    (case a_law_box => k_is)
    (case l_law_box => k_is)
    (case c_law_box => k_is)
    (case k_law_box => k_is)
    (case a_law_cell => k_is)
    (case l_law_cell => k_is)
    (case c_law_cell => k_is)
    (case k_law_cell => k_is)
    (case a_law_key => k_is)
    (case l_law_key => k_is)
    (case c_law_key => k_is)
    (case k_law_key => k_is)
    (case a_law_keys => k_is)
    (case l_law_keys => k_is)
    (case c_law_keys => k_is)
    (case k_law_keys => k_is)
    (case a_law_word => k_is)
    (case l_law_word => k_is)
    (case c_law_word => k_is)
    (case k_law_word => k_is)
    (case a_is_integer => k_is)
    (case l_is_integer => k_is)
    (case c_is_integer => k_is)
    (case k_is_integer => k_is)
    (case a_is_between => k_is)
    (case l_is_between => k_is)
    (case c_is_between => k_is)
    (case k_is_between => k_is)
    (case a_check_key => k_is)
    (case l_check_key => k_is)
    (case c_check_key => k_is)
    (case k_check_key => k_is)
    (case a_feet => k_is)
    (case l_feet => k_is)
    (case c_feet => k_is)
    (case k_feet => k_is)
    (case a_Layout_cell => k_is)
    (case i_Layout_cell => k_is)
    (case l_Layout_cell => k_is)
    (case c_Layout_cell => k_is)
    (case k_Layout_cell => k_is)
    (case a_Layout_word => k_is)
    (case g_Layout_word => k_is)
    (case t_Layout_word => k_is)
    (case r_Layout_word => k_is)
    (case l_Layout_word => k_is)
    (case c_Layout_word => k_is)
    (case k_Layout_word => k_is)
    (case a_area_of => k_is)
    (case l_area_of => k_is)
    (case c_area_of => k_is)
    (case k_area_of => k_is)
    (case a_area_of_part => k_is)
    (case l_area_of_part => k_is)
    (case c_area_of_part => k_is)
    (case k_area_of_part => k_is)
    (case a_check_index => k_is)
    (case l_check_index => k_is)
    (case c_check_index => k_is)
    (case k_check_index => k_is)
    (case a_Layout_x_bits => k_is)
    (case g_Layout_x_bits => k_is)
    (case t_Layout_x_bits => k_is)
    (case r_Layout_x_bits => k_is)
    (case l_Layout_x_bits => k_is)
    (case c_Layout_x_bits => k_is)
    (case k_Layout_x_bits => k_is)
    (case a_Layout_y_bits => k_is)
    (case g_Layout_y_bits => k_is)
    (case t_Layout_y_bits => k_is)
    (case r_Layout_y_bits => k_is)
    (case l_Layout_y_bits => k_is)
    (case c_Layout_y_bits => k_is)
    (case k_Layout_y_bits => k_is)
    (case a_are_integers => k_is)
    (case l_are_integers => k_is)
    (case c_are_integers => k_is)
    (case k_are_integers => k_is)
    (case a_is_box => k_is)
    (case l_is_box => k_is)
    (case c_is_box => k_is)
    (case k_is_box => k_is)
    (case a_check_box => k_is)
    (case l_check_box => k_is)
    (case c_check_box => k_is)
    (case k_check_box => k_is)
    (case a_check_layout => k_is)
    (case l_check_layout => k_is)
    (case c_check_layout => k_is)
    (case k_check_layout => k_is)
    (case a_check_layout_and_box => k_is)
    (case l_check_layout_and_box => k_is)
    (case c_check_layout_and_box => k_is)
    (case k_check_layout_and_box => k_is)
    (case a_halve => k_is)
    (case l_halve => k_is)
    (case c_halve => k_is)
    (case k_halve => k_is)
    (case a_cell_at => k_is)
    (case l_cell_at => k_is)
    (case c_cell_at => k_is)
    (case k_cell_at => k_is)
    (case a_rank => k_is)
    (case l_rank => k_is)
    (case c_rank => k_is)
    (case k_rank => k_is)
    (case a_law_right => k_is)
    (case l_law_right => k_is)
    (case c_law_right => k_is)
    (case k_law_right => k_is)
    (case a_law => k_is)
    (case l_law => k_is)
    (case c_law => k_is)
    (case k_law => k_is)
    (case pg_Layout => k_is)
    (case hd_Layout => k_is)
    (case po_Layout => k_is)
    (case sa_Layout => k_is)
    (case mk_Layout => k_is)
    (case kc_Layout => k_is)
    (case ia_Layout => k_is)
    (case ib_Layout => k_is)
    (case ic_Layout => k_is)
    (case id_Layout => k_is)
    (case no_Layout_word => k_is)
    (case no_Layout_x_bits => k_is)
    (case no_Layout_y_bits => k_is)
    (case z_all => k_is)
    (case z_bool => k_is)
    (case z_enumerate => k_is)
    (case z_int => k_is)
    (case z_isinstance => k_is)
    (case z_len => k_is)
    (case z_max => k_is)
    (case z_min => k_is)
    (case z_range => k_is)
    (case z_repr => k_is)
    (case z_sorted => k_is)
    (case z_str => k_is)
    (case z_sum => k_is)
    (case z_tuple => k_is)
    (case v_MOST_BITS => k_is)

