import PyProof.Rows.All
import Wide.All
import OpenK.AllK
import Wide.FinOn
import HandS.ForMost
import HandS.Wide
import HandS.WideBits
import HandS.Property
import HandS.OwnEq
import HandS.IsInst
import HandS.Style
import HandS.Codes
import HandS.SortInts
import PyProof.ReprRoads
import PyProof.Rows.RegReprOcc
import PyProof.ReprLen
import PyProof.Rows.StrRev
import KE.GoesMore
import HandS.Walk
import HandS.RaiseMore
import HandS.Conv
import PySem.Challenge.RW_lacekeys_k04_runs_by_listing_keys
set_option linter.all false
namespace Lk
/-! ### words as lists of letters: true is x -/
def nx (l : List Bool) : Nat := l.count true
def ny (l : List Bool) : Nat := l.count false
theorem nx_nil : nx [] = 0 := rfl
theorem ny_nil : ny [] = 0 := rfl
theorem nx_t (r : List Bool) : nx (true :: r) = nx r + 1 := by simp [nx]
theorem nx_f (r : List Bool) : nx (false :: r) = nx r := by simp [nx]
theorem ny_t (r : List Bool) : ny (true :: r) = ny r := by simp [ny]
theorem ny_f (r : List Bool) : ny (false :: r) = ny r + 1 := by simp [ny]
theorem nxy (l : List Bool) : nx l + ny l = l.length := by
  induction l with
  | nil => rfl
  | cons b r ih =>
    cases b
    · rw [nx_f, ny_f, List.length_cons]; omega
    · rw [nx_t, ny_t, List.length_cons]; omega
theorem nx_app (a b : List Bool) : nx (a ++ b) = nx a + nx b := by simp [nx, List.count_append]
theorem ny_app (a b : List Bool) : ny (a ++ b) = ny a + ny b := by simp [ny, List.count_append]
theorem nx_rt (n : Nat) : nx (List.replicate n true) = n := by simp [nx]
theorem nx_rf (n : Nat) : nx (List.replicate n false) = 0 := by simp [nx, List.count_replicate]
theorem ny_rt (n : Nat) : ny (List.replicate n true) = 0 := by simp [ny, List.count_replicate]
theorem ny_rf (n : Nat) : ny (List.replicate n false) = n := by simp [ny]
theorem nx_le (l : List Bool) : nx l ≤ l.length := by have := nxy l; omega
theorem ny_le (l : List Bool) : ny l ≤ l.length := by have := nxy l; omega
/-- the letters and their feet -/
def feetL : List Bool → List (Bool × Nat × Nat)
  | [] => []
  | b :: r => (b, nx r, ny r) :: feetL r
theorem feetL_len (l : List Bool) : (feetL l).length = l.length := by
  induction l with
  | nil => rfl
  | cons b r ih => simp [feetL, ih]
theorem feetL_get : ∀ (l : List Bool) (k : Nat) (h : k < l.length), (feetL l)[k]? = some (l[k], nx (l.drop (k + 1)), ny (l.drop (k + 1)))
  | b :: r, 0, _ => rfl
  | b :: r, k + 1, h => by
    show (feetL r)[k]? = _
    rw [feetL_get r k (by simpa using h)]
    rfl
/-- the key of a cell -/
def keyL : List Bool → Nat → Nat → Nat
  | [], _, _ => 0
  | true :: r, x, y => x / 2 ^ nx r % 2 * 2 ^ r.length + keyL r x y
  | false :: r, x, y => y / 2 ^ ny r % 2 * 2 ^ r.length + keyL r x y
def xOf : List Bool → Nat → Nat
  | [], _ => 0
  | true :: r, k => k / 2 ^ r.length % 2 * 2 ^ nx r + xOf r k
  | false :: r, k => xOf r k
def yOf : List Bool → Nat → Nat
  | [], _ => 0
  | true :: r, k => yOf r k
  | false :: r, k => k / 2 ^ r.length % 2 * 2 ^ ny r + yOf r k
theorem bit_lt {d k : Nat} (n : Nat) (hd : d < 2) (hk : k < 2 ^ n) : d * 2 ^ n + k < 2 ^ (n + 1) := by
  have h1 : d * 2 ^ n ≤ 1 * 2 ^ n := Nat.mul_le_mul_right _ (by omega)
  rw [Nat.pow_succ]
  omega
theorem two_pos (n : Nat) : 0 < 2 ^ n := Nat.pow_pos (by decide)
theorem keyL_lt : ∀ (l : List Bool) (x y : Nat), keyL l x y < 2 ^ l.length
  | [], _, _ => Nat.zero_lt_one
  | true :: r, x, y => bit_lt _ (Nat.mod_lt _ (by decide)) (keyL_lt r x y)
  | false :: r, x, y => bit_lt _ (Nat.mod_lt _ (by decide)) (keyL_lt r x y)
theorem xOf_lt : ∀ (l : List Bool) (k : Nat), xOf l k < 2 ^ nx l
  | [], _ => Nat.zero_lt_one
  | true :: r, k => by
    rw [nx_t]
    exact bit_lt _ (Nat.mod_lt _ (by decide)) (xOf_lt r k)
  | false :: r, k => by
    rw [nx_f]
    exact xOf_lt r k
theorem yOf_lt : ∀ (l : List Bool) (k : Nat), yOf l k < 2 ^ ny l
  | [], _ => Nat.zero_lt_one
  | true :: r, k => by
    rw [ny_t]
    exact yOf_lt r k
  | false :: r, k => by
    rw [ny_f]
    exact bit_lt _ (Nat.mod_lt _ (by decide)) (yOf_lt r k)
theorem top_bit {c k : Nat} (n : Nat) : (c * 2 ^ (n + 1) + k) / 2 ^ n % 2 = k / 2 ^ n % 2 := by
  rw [Nat.pow_succ, show c * (2 ^ n * 2) + k = k + 2 ^ n * (2 * c) by
    rw [Nat.mul_comm c, Nat.mul_assoc]
    omega]
  rw [Nat.add_mul_div_left _ _ (two_pos n), Nat.add_mul_mod_self_left]
theorem xOf_high : ∀ (l : List Bool) (c k : Nat), xOf l (c * 2 ^ l.length + k) = xOf l k
  | [], _, _ => rfl
  | true :: r, c, k => by
    show (c * 2 ^ (r.length + 1) + k) / 2 ^ r.length % 2 * 2 ^ nx r + xOf r (c * 2 ^ (r.length + 1) + k) = _
    rw [top_bit, show c * 2 ^ (r.length + 1) = c * 2 * 2 ^ r.length by rw [Nat.pow_succ, Nat.mul_comm (2 ^ r.length), Nat.mul_assoc], xOf_high r]
    rfl
  | false :: r, c, k => by
    show xOf r (c * 2 ^ (r.length + 1) + k) = _
    rw [show c * 2 ^ (r.length + 1) = c * 2 * 2 ^ r.length by rw [Nat.pow_succ, Nat.mul_comm (2 ^ r.length), Nat.mul_assoc], xOf_high r]
    rfl
theorem yOf_high : ∀ (l : List Bool) (c k : Nat), yOf l (c * 2 ^ l.length + k) = yOf l k
  | [], _, _ => rfl
  | false :: r, c, k => by
    show (c * 2 ^ (r.length + 1) + k) / 2 ^ r.length % 2 * 2 ^ ny r + yOf r (c * 2 ^ (r.length + 1) + k) = _
    rw [top_bit, show c * 2 ^ (r.length + 1) = c * 2 * 2 ^ r.length by rw [Nat.pow_succ, Nat.mul_comm (2 ^ r.length), Nat.mul_assoc], yOf_high r]
    rfl
  | true :: r, c, k => by
    show yOf r (c * 2 ^ (r.length + 1) + k) = _
    rw [show c * 2 ^ (r.length + 1) = c * 2 * 2 ^ r.length by rw [Nat.pow_succ, Nat.mul_comm (2 ^ r.length), Nat.mul_assoc], yOf_high r]
    rfl
theorem lead_bit {d k : Nat} (n : Nat) (hd : d < 2) (hk : k < 2 ^ n) : (d * 2 ^ n + k) / 2 ^ n % 2 = d := by
  rw [Nat.add_comm, Nat.add_mul_div_right _ _ (two_pos n), Nat.div_eq_of_lt hk, Nat.zero_add, Nat.mod_eq_of_lt hd]
theorem mod_succ (x n : Nat) : x % 2 ^ (n + 1) = x / 2 ^ n % 2 * 2 ^ n + x % 2 ^ n := by
  rw [Nat.mod_pow_succ, Nat.add_comm, Nat.mul_comm]
theorem xOf_key : ∀ (l : List Bool) (x y : Nat), xOf l (keyL l x y) = x % 2 ^ nx l
  | [], x, _ => by
    rw [nx_nil, Nat.pow_zero, Nat.mod_one]
    rfl
  | true :: r, x, y => by
    show (x / 2 ^ nx r % 2 * 2 ^ r.length + keyL r x y) / 2 ^ r.length % 2 * 2 ^ nx r + xOf r (x / 2 ^ nx r % 2 * 2 ^ r.length + keyL r x y) = _
    rw [lead_bit _ (Nat.mod_lt _ (by decide)) (keyL_lt r x y), xOf_high, xOf_key r, nx_t, mod_succ]
  | false :: r, x, y => by
    show xOf r (y / 2 ^ ny r % 2 * 2 ^ r.length + keyL r x y) = _
    rw [xOf_high, xOf_key r, nx_f]
theorem yOf_key : ∀ (l : List Bool) (x y : Nat), yOf l (keyL l x y) = y % 2 ^ ny l
  | [], x, y => by
    rw [ny_nil, Nat.pow_zero, Nat.mod_one]
    rfl
  | false :: r, x, y => by
    show (y / 2 ^ ny r % 2 * 2 ^ r.length + keyL r x y) / 2 ^ r.length % 2 * 2 ^ ny r + yOf r (y / 2 ^ ny r % 2 * 2 ^ r.length + keyL r x y) = _
    rw [lead_bit _ (Nat.mod_lt _ (by decide)) (keyL_lt r x y), yOf_high, yOf_key r, ny_f, mod_succ]
  | true :: r, x, y => by
    show yOf r (x / 2 ^ nx r % 2 * 2 ^ r.length + keyL r x y) = _
    rw [yOf_high, yOf_key r, ny_t]
/-- a key hangs on the low digits alone -/
theorem digit_high {c x : Nat} {n m : Nat} (h : n < m) : (c * 2 ^ m + x) / 2 ^ n % 2 = x / 2 ^ n % 2 := by
  obtain ⟨d, rfl⟩ : ∃ d, m = d + (n + 1) := ⟨m - (n + 1), by omega⟩
  rw [Nat.pow_add, ← Nat.mul_assoc]
  exact top_bit n
theorem keyL_high : ∀ (l : List Bool) (c d x y n m : Nat), nx l ≤ n → ny l ≤ m → keyL l (c * 2 ^ n + x) (d * 2 ^ m + y) = keyL l x y
  | [], _, _, _, _, _, _, _, _ => rfl
  | true :: r, c, d, x, y, n, m, hn, hm => by
    rw [nx_t] at hn
    rw [ny_t] at hm
    show (c * 2 ^ n + x) / 2 ^ nx r % 2 * 2 ^ r.length + keyL r (c * 2 ^ n + x) (d * 2 ^ m + y) = _
    rw [digit_high (by omega), keyL_high r c d x y n m (by omega) hm]
    rfl
  | false :: r, c, d, x, y, n, m, hn, hm => by
    rw [nx_f] at hn
    rw [ny_f] at hm
    show (d * 2 ^ m + y) / 2 ^ ny r % 2 * 2 ^ r.length + keyL r (c * 2 ^ n + x) (d * 2 ^ m + y) = _
    rw [digit_high (by omega), keyL_high r c d x y n m hn (by omega)]
    rfl
theorem keyL_mod (l : List Bool) (x y : Nat) : keyL l x y = keyL l (x % 2 ^ nx l) (y % 2 ^ ny l) := by
  have h := keyL_high l (x / 2 ^ nx l) (y / 2 ^ ny l) (x % 2 ^ nx l) (y % 2 ^ ny l) (nx l) (ny l) (Nat.le_refl _) (Nat.le_refl _)
  rw [Nat.mul_comm, Nat.div_add_mod, Nat.mul_comm, Nat.div_add_mod] at h
  exact h
/-- two words, one behind the other -/
theorem keyL_app : ∀ (a b : List Bool) (x y : Nat), keyL (a ++ b) x y = keyL a (x / 2 ^ nx b) (y / 2 ^ ny b) * 2 ^ b.length + keyL b x y
  | [], b, x, y => by
    show keyL b x y = 0 * 2 ^ b.length + keyL b x y
    rw [Nat.zero_mul, Nat.zero_add]
  | true :: r, b, x, y => by
    show x / 2 ^ nx (r ++ b) % 2 * 2 ^ (r ++ b).length + keyL (r ++ b) x y = (x / 2 ^ nx b / 2 ^ nx r % 2 * 2 ^ r.length + keyL r (x / 2 ^ nx b) (y / 2 ^ ny b)) * 2 ^ b.length + keyL b x y
    rw [keyL_app r b, nx_app, List.length_append, Nat.div_div_eq_div_mul, ← Nat.pow_add, Nat.add_comm (nx b), Nat.add_mul, Nat.pow_add 2 r.length, Nat.mul_assoc]
    omega
  | false :: r, b, x, y => by
    show y / 2 ^ ny (r ++ b) % 2 * 2 ^ (r ++ b).length + keyL (r ++ b) x y = (y / 2 ^ ny b / 2 ^ ny r % 2 * 2 ^ r.length + keyL r (x / 2 ^ nx b) (y / 2 ^ ny b)) * 2 ^ b.length + keyL b x y
    rw [keyL_app r b, ny_app, List.length_append, Nat.div_div_eq_div_mul, ← Nat.pow_add, Nat.add_comm (ny b), Nat.add_mul, Nat.pow_add 2 r.length, Nat.mul_assoc]
    omega
theorem keyL_rt : ∀ (n x y : Nat), keyL (List.replicate n true) x y = x % 2 ^ n
  | 0, x, y => by
    rw [Nat.pow_zero, Nat.mod_one]
    rfl
  | n + 1, x, y => by
    rw [List.replicate_succ]
    show x / 2 ^ nx (List.replicate n true) % 2 * 2 ^ (List.replicate n true).length + keyL (List.replicate n true) x y = _
    rw [nx_rt, List.length_replicate, keyL_rt n, mod_succ]
theorem keyL_rf : ∀ (n x y : Nat), keyL (List.replicate n false) x y = y % 2 ^ n
  | 0, x, y => by
    rw [Nat.pow_zero, Nat.mod_one]
    rfl
  | n + 1, x, y => by
    rw [List.replicate_succ]
    show y / 2 ^ ny (List.replicate n false) % 2 * 2 ^ (List.replicate n false).length + keyL (List.replicate n false) x y = _
    rw [ny_rf, List.length_replicate, keyL_rf n, mod_succ]
def rowsL (n m : Nat) : List Bool := List.replicate m false ++ List.replicate n true
def colsL (n m : Nat) : List Bool := List.replicate n true ++ List.replicate m false
theorem nx_rows (n m : Nat) : nx (rowsL n m) = n := by rw [rowsL, nx_app, nx_rf, nx_rt, Nat.zero_add]
theorem ny_rows (n m : Nat) : ny (rowsL n m) = m := by rw [rowsL, ny_app, ny_rf, ny_rt, Nat.add_zero]
theorem nx_cols (n m : Nat) : nx (colsL n m) = n := by rw [colsL, nx_app, nx_rf, nx_rt, Nat.add_zero]
theorem ny_cols (n m : Nat) : ny (colsL n m) = m := by rw [colsL, ny_app, ny_rf, ny_rt, Nat.zero_add]
theorem len_rows (n m : Nat) : (rowsL n m).length = n + m := by rw [← nxy, nx_rows, ny_rows]
theorem len_cols (n m : Nat) : (colsL n m).length = n + m := by rw [← nxy, nx_cols, ny_cols]
theorem key_rows (n m x y : Nat) : keyL (rowsL n m) x y = y % 2 ^ m * 2 ^ n + x % 2 ^ n := by
  rw [rowsL, keyL_app, keyL_rf, keyL_rt, ny_rt, List.length_replicate, Nat.pow_zero, Nat.div_one]
theorem key_cols (n m x y : Nat) : keyL (colsL n m) x y = x % 2 ^ n * 2 ^ m + y % 2 ^ m := by
  rw [colsL, keyL_app, keyL_rf, keyL_rt, nx_rf, List.length_replicate, Nat.pow_zero, Nat.div_one]
/-- the parts of a key as they are summed up -/
theorem keyL_drop (l : List Bool) (k : Nat) (h : k < l.length) (x y : Nat) :
    keyL (l.drop k) x y = (if l[k] = true then x / 2 ^ nx (l.drop (k + 1)) % 2 else y / 2 ^ ny (l.drop (k + 1)) % 2) * 2 ^ (nx (l.drop (k + 1)) + ny (l.drop (k + 1))) + keyL (l.drop (k + 1)) x y := by
  rw [List.drop_eq_getElem_cons h, nxy]
  cases l[k] <;> rfl
theorem xOf_drop (l : List Bool) (k : Nat) (h : k < l.length) (q : Nat) :
    xOf (l.drop k) q = (if l[k] = true then q / 2 ^ (nx (l.drop (k + 1)) + ny (l.drop (k + 1))) % 2 * 2 ^ nx (l.drop (k + 1)) else 0) + xOf (l.drop (k + 1)) q := by
  rw [List.drop_eq_getElem_cons h, nxy]
  cases l[k]
  · rw [if_neg (by decide), Nat.zero_add]
    rfl
  · rfl
theorem yOf_drop (l : List Bool) (k : Nat) (h : k < l.length) (q : Nat) :
    yOf (l.drop k) q = (if l[k] = true then 0 else q / 2 ^ (nx (l.drop (k + 1)) + ny (l.drop (k + 1))) % 2 * 2 ^ ny (l.drop (k + 1))) + yOf (l.drop (k + 1)) q := by
  rw [List.drop_eq_getElem_cons h, nxy]
  cases l[k]
  · rfl
  · rw [if_pos rfl, Nat.zero_add]
    rfl
theorem nx_drop (l : List Bool) (k : Nat) (h : k < l.length) : nx (l.drop k) = nx (l.drop (k + 1)) + (if l[k] = true then 1 else 0) := by
  rw [List.drop_eq_getElem_cons h]
  cases l[k]
  · rw [nx_f]
    rfl
  · rw [nx_t, if_pos rfl]
theorem ny_drop (l : List Bool) (k : Nat) (h : k < l.length) : ny (l.drop k) = ny (l.drop (k + 1)) + (if l[k] = true then 0 else 1) := by
  rw [List.drop_eq_getElem_cons h]
  cases l[k]
  · rw [ny_f, if_neg (by decide)]
  · rw [ny_t]
    rfl
def yxs : Nat → List Bool
  | 0 => []
  | t + 1 => false :: true :: yxs t
theorem flat_yx (t : Nat) : (List.replicate t [false, true]).flatten = yxs t := by
  induction t with
  | zero => rfl
  | succ t ih =>
    rw [List.replicate_succ, List.flatten_cons, ih]
    rfl
theorem yxs_succ (t : Nat) : yxs (t + 1) = yxs t ++ [false, true] := by
  induction t with
  | zero => rfl
  | succ t ih =>
    have e : yxs (t + 1 + 1) = false :: true :: yxs (t + 1) := rfl
    rw [e]
    conv => lhs; rw [ih]
    rfl
theorem nx_yxs (t : Nat) : nx (yxs t) = t := by
  induction t with
  | zero => rfl
  | succ t ih =>
    show nx (false :: true :: yxs t) = _
    rw [nx_f, nx_t, ih]
theorem ny_yxs (t : Nat) : ny (yxs t) = t := by
  induction t with
  | zero => rfl
  | succ t ih =>
    show ny (false :: true :: yxs t) = _
    rw [ny_f, ny_t, ih]
def lacedL (n m : Nat) : List Bool := List.replicate (n - min n m) true ++ List.replicate (m - min n m) false ++ yxs (min n m)
theorem nx_laced (n m : Nat) : nx (lacedL n m) = n := by
  rw [lacedL, nx_app, nx_app, nx_rt, nx_rf, nx_yxs]
  omega
theorem ny_laced (n m : Nat) : ny (lacedL n m) = m := by
  rw [lacedL, ny_app, ny_app, ny_rt, ny_rf, ny_yxs]
  omega
def tiledL (n m a b : Nat) : List Bool := rowsL (n - a) (m - b) ++ rowsL a b
theorem nx_tiled {n m a b : Nat} (ha : a ≤ n) : nx (tiledL n m a b) = n := by
  rw [tiledL, nx_app, nx_rows, nx_rows]
  omega
theorem ny_tiled {n m a b : Nat} (hb : b ≤ m) : ny (tiledL n m a b) = m := by
  rw [tiledL, ny_app, ny_rows, ny_rows]
  omega
theorem key_tiled {n m a b x y : Nat} (ha : a ≤ n) (hb : b ≤ m) (hx : x < 2 ^ n) (hy : y < 2 ^ m) :
    keyL (tiledL n m a b) x y = (y / 2 ^ b * 2 ^ (n - a) + x / 2 ^ a) * 2 ^ (a + b) + (y % 2 ^ b * 2 ^ a + x % 2 ^ a) := by
  rw [tiledL, keyL_app, key_rows, key_rows, nx_rows, ny_rows, len_rows]
  have h1 : y / 2 ^ b < 2 ^ (m - b) := by
    rw [Nat.div_lt_iff_lt_mul (two_pos b), ← Nat.pow_add]
    rw [show m - b + b = m by omega]
    exact hy
  have h2 : x / 2 ^ a < 2 ^ (n - a) := by
    rw [Nat.div_lt_iff_lt_mul (two_pos a), ← Nat.pow_add]
    rw [show n - a + a = n by omega]
    exact hx
  rw [Nat.mod_eq_of_lt h1, Nat.mod_eq_of_lt h2]
theorem tiled00 (n m : Nat) : tiledL n m 0 0 = rowsL n m := by
  show rowsL (n - 0) (m - 0) ++ [] = _
  rw [List.append_nil, Nat.sub_zero, Nat.sub_zero]
theorem tilednm (n m : Nat) : tiledL n m n m = rowsL n m := by
  show rowsL (n - n) (m - m) ++ rowsL n m = _
  rw [Nat.sub_self, Nat.sub_self]
  rfl
theorem ne_nil_of {l : List Bool} (h : 1 ≤ nx l + ny l) : l ≠ [] := by
  intro e
  subst e
  rw [nx_nil, ny_nil] at h
  omega
end Lk

set_option Elab.async false
set_option linter.all false
set_option maxRecDepth 100000
set_option maxHeartbeats 4000000
namespace Lk
open PySem PySem.Spec PyProof.Rows L2
/-! ### rules of our own -/
section
variable {X : Cx}
/-- a power of a great base -/
def CPowB (i j : Int) : Prop := ∃ b : Nat, i.natAbs < 2 ^ b ∧ 0 ≤ j ∧ (b : Int) * j ≤ 100000
theorem op_powB : OpR X (binaryOp .Pow) (rI CPowB fun i j => .int (i ^ j.toNat)) :=
  opI fun i j _ _ _ _ _ hc q => by
    obtain ⟨b, h1, h2, h3⟩ := hc
    refine pow_int h2 ?_ q
    have h4 := intBits_le h1
    have h5 : ((Builtin.Int.intBits i : Nat) : Int) * j ≤ (b : Int) * j := Int.mul_le_mul_of_nonneg_right (by omega) h2
    omega
/-- a text times a number -/
def rMulS : R2 := fun x y H Q => ∃ (a : Str) (n : Int), x = .str a ∧ y = .int n ∧ a.length ≤ 1000 ∧ -1000 ≤ n ∧ n ≤ 1000 ∧ Q (.str (Txt.mul a n)) H
theorem op_mulS : OpR X (binaryOp .Mult) rMulS := by
  intro pins s σ H x y v u Q I rx ry h
  obtain ⟨a, n, rfl, rfl, h1, h2, h3, q⟩ := h
  obtain ⟨t, rfl⟩ := rx
  obtain ⟨t', rfl⟩ := ry
  exact SB.mul (mulOk_of 1000 1000 h1 h3 (by omega) (by decide) (by decide)) fun t1 k => ⟨.str (Txt.mul a n), H, I.tok k, ⟨t1, rfl⟩, q⟩
/-- repr of data -/
def rRepr (K : PySem.W.Frag) : List V → Hp → VK → Prop := fun xs H Q => ∃ (a : Addr) (d : PyData), xs = [.ref a] ∧ Dp K H (.ref a) d ∧ d.showable = true ∧ d.hasDict = false ∧ d.depth ≤ 8 ∧ d.shown.length ≤ sizeLine ∧ Q (.str d.shown) H
theorem call_reprD (hg : X.A.guards = some []) (hu : X.A.units + 64 < cLine) : CallR X (.builtin "repr") (rRepr X.K) := by
  intro pins s σ H xs us Q I r h
  obtain ⟨a, d, rfl, hd, h1, h2, h3, h4, q⟩ := h
  obtain ⟨u, rfl, ru⟩ : ∃ u, us = [u] ∧ RelV (.ref a) u := by
    cases r with
    | cons r1 r2 =>
      cases r2
      exact ⟨_, rfl, r1⟩
  obtain ⟨as, hr⟩ := Dp.reads I d _ u hd ru
  obtain rfl : u = Value.ref a := ru
  refine repr_of_reads' hr h1 (fun z => by rw [h2] at z; cases z) hg (by omega) (fun b o e => e) (fun h' t tk kept => ?_) h4
  exact ⟨.str d.shown, H, I.kept kept, ⟨t, rfl⟩, q⟩
end

theorem kitOne_self (K : PySem.W.Frag) (v : Value) : PySem.W.kitOne K v v = some true := by
  unfold PySem.W.kitOne
  rw [if_pos (beq_self_eq_true v)]

/-! ### defs that are called where no repr is under way -/
structure FnG (P : Program) (w : World) (K : PySem.W.Frag) (mg : Str → Option Value) (base : Heap) (k : Nat) (f : Addr) (fd : FuncData) (ps : List Str) (sp : Sp) : Prop where
  wide : ∀ vs H Q E, sp vs H Q E → vs.length = ps.length
  goes : ∀ (A : Around) (outer : List Env) (s : Shared) (H : Hp) (args : Args) (us : List Value) (vs : List V) (Q : VK) (E : XK), A.guards = some [] → Room k A →
    Env0 P w K mg base A outer s H → BindsTo s fd args (ps.zip us) → Vals vs us → sp vs H Q E → codeAny (model P w) A (.call (.ref f) args) (CR CX0 outer P w H s Q E) s
section
variable {P : Program} {w : World} {K : PySem.W.Frag} {mg : Str → Option Value} {base : Heap} {k : Nat} {f : Addr} {fd : FuncData} {ps : List Str} {sp : Sp}
theorem FnG.mono {j : Nat} (F : FnG P w K mg base j f fd ps sp) (h : j ≤ k) : FnG P w K mg base k f fd ps sp :=
  ⟨F.wide, fun A outer s H args us vs Q E hg hr => F.goes A outer s H args us vs Q E hg (hr.mono h)⟩
theorem okG {x qual : Str} {st : Stmt} {N : List Str} (F : Fun K x qual st f fd) (S : FnScope N ps (defScope st)) (len : ∀ vs H Q E, sp vs H Q E → vs.length = ps.length)
    (hbody : ∀ (cdv : Value) (A : Around) (outer : List Env) (s : Shared) (H : Hp) (vs : List V) (Q : VK) (E : XK), A.guards = some [] → Room k (A.deeper (envOfC qual (defScope st) s.heap.objs.size f cdv)) → sp vs H Q E →
      ∃ t, PSs (cxOf CX0 P w K mg base N qual (defScope st) f cdv A outer s H E).nox (defBody st) t ∧ t { nx := fun _ H' => Q .non H', rt := Q } (start N vs) H) : FnG P w K mg base (k + 1) f fd ps sp := by
  obtain ⟨oc, od, kV, doc, pm, an, cdv, ct, osl, rfl, lk, hcd⟩ := F.ex
  refine ⟨len, fun A outer s H args us vs Q E hg hr e0 hb r hsp => ?_⟩
  have KX : K.In s.heap := e0.mod.kin.keeps fun b o e => (e0.bs b o e).1
  have kinds : ∀ y ∈ ps.zip us, (defScope st).names.lookup y.1 = some .local ∨ ((defScope st).names.lookup y.1 = some .cell ∧ ((cellsFrom (s.heap.objs.size + 1) (defScope st).names []).lookup y.1).isSome = true) := by
    rintro ⟨n, v⟩ hy
    rcases S.par n (List.of_mem_zip hy).1 with z | z
    · exact .inl z
    · exact .inr ⟨z, PySem.W.cellsFrom_some _ _ _ (.inl z)⟩
  refine codeAny_call_function hr.depth (KX _ _ lk) rfl S.co S.gen rfl (PySem.W.codeRec_of KX hcd) (hb _ _ _ _ ?_)
  refine wpAny_newFunctionEnv_cells S.kind kinds fun env he s1 x => ?_
  subst he
  refine ⟨(e0.mod.nolimit.keeps fun b o e => (e0.bs b o e).1).keeps x.toInCall.keep, codeAny_func ?_⟩
  obtain ⟨t, ht, hq⟩ := hbody cdv A outer s H vs Q E hg (hr.deeper _) hsp
  have I := inv_start (CX := CX0) (E := E) S hr.hd e0 (len _ _ _ _ hsp) r x
  refine wpAny_mono (ht.nox.run [] s1 _ H _ I hq) (fun fl s' hs => ?_) fun e s' hs => hs
  cases fl with
  | ret u =>
    obtain ⟨v, σ', H', J, rv, q⟩ := hs
    exact ⟨v, H', J.os, J.bare, J.base, J.hok, rv, q⟩
  | next =>
    obtain ⟨σ', H', J, q⟩ := hs
    exact ⟨V.non, H', J.os, J.bare, J.base, J.hok, rfl, q⟩
  | brk => exact hs.elim fun _ z => z.elim fun _ z => z.2.elim
  | cont => exact hs.elim fun _ z => z.elim fun _ z => z.2.elim
end
section
variable {X : Cx} {k : Nat} {f : Addr} {fd : FuncData} {ps : List Str} {sp : Sp} {x : Str} {p pos : Pos} {e : Expr} {es : List Expr} {t : TA}
theorem pe_callG (F : FnG X.prog X.w X.K X.mg X.base k f fd ps sp) (hgd : X.A.guards = some []) (hr : Room k X.A) (hg : Gl X x) (hm : X.mg x = some (.ref f)) (hk : PySem.W.keepIn X.K (.ref f) = true) (hb : Binds X.K fd ps [])
    (ha : PA X (e :: es) t) (hdb : (x == ("__debug__" : Str)) = false := by decide) (he : starEach (e :: es) X.env = (false, eval e X.env) :: starEach es X.env := by rfl)
    (hpl : (backTo pos (starEach es X.env)).any (·.1) = false := by rfl) : PE X (.Call (.Name x p) (e :: es) [] pos) (tCall sp [] E0 t) := by
  refine ⟨fun pins s σ H Q I h => wpAny_Call_Name_kw (ld_glob I hg hm ?_ hdb)⟩
  refine PySem.W.callWith_K (h₀ := X.base) I.ok.mod.kin hk (thn (ha.run pos pins s σ H _ I h) fun us s1 hus => ?_) he hpl
  obtain ⟨vs, H1, I1, r, q⟩ := hus
  refine ⟨I1.kIn, wpAny_call (codeAny_mono (F.goes X.A X.stack s1 H1 ⟨us, []⟩ us vs Q E0 hgd hr I1.env0 ?_ r ?_) fun r s' hq => ?_)⟩
  · have l : us.length = ps.length := by
      rw [← r.length]
      have := F.wide _ _ _ _ q
      rw [List.append_nil] at this
      exact this
    have z := hb s1 us I1.kIn (by rw [List.append_nil]; exact l)
    rw [List.append_nil] at z
    exact z
  · have z := q
    rw [List.append_nil] at z
    exact z
  · cases r with
    | error e => exact hq.elim
    | ok fl =>
      cases fl with
      | ret u => exact I1.after hq
      | next => exact False.elim hq
      | brk => exact False.elim hq
      | cont => exact False.elim hq
end

/-! ### the law's own end -/
theorem callG {P : Program} {w : World} {K : PySem.W.Frag} {mg mb : Str → Option Value} {k : Nat} {fa a : Addr} {fd : FuncData} {x : Str} {sp : Sp} {s₁ : Shared} {vs : List Value} {ns : List Int}
    (KX : K.In s₁.heap) (hns : s₁.heap.Ns mainGlobals mg) (hb : s₁.heap.Ns builtinsNs mb) (hbb : ∀ x : Str, x ≠ "__name__" → mb x = bootBuiltins x) (hlim : s₁.heap.NoLimit) (hg : s₁.gens = #[])
    (ha : s₁.heap.get? a = some { cls := .type "list", data := .seq vs.toArray }) (hi : IntsAre vs ns) (hl : ns.length ≤ sizeLine) (hr : Room k callerA)
    (F : ∀ base : Heap, K.In base → base.Ns mainGlobals mg → FnG P w K mg base k fa fd [x] sp) (hbind : ∀ (s : Shared) (u : Value), BindsTo s fd ⟨[u], []⟩ [(x, u)])
    (hsp : ∀ H : Hp, Only H → SqL K H a (ns.map V.int) → sp [.ref a] H (fun v _ => v = .bl true) fun _ _ _ => False) :
    codeAny (model P w) callerA (.call (.ref fa) ⟨[.ref a], []⟩) (fun r s' => r = .ok (.ret (.bool true)) ∧ OldK s₁.heap s'.heap ∧ s'.os = s₁.os ∧ AllBare s'.gens) s₁ := by
  let o₁ : Obj := { cls := .type "list", data := .seq vs.toArray }
  -- what is tracked at the start: the script, unless it is an object of the module's
  obtain ⟨H, hO, hS, hok, hA, hKa⟩ : ∃ H : Hp, Only H ∧ SqL K H a (ns.map V.int) ∧ HOk P w H s₁.heap ∧ (∀ b, H b ≠ none → b = a) ∧ (H a ≠ none → K.lookup a = none) := by
    have lv : (ns.map V.int).length ≤ sizeLine := by
      rw [List.length_map]
      exact hl
    cases hk : K.lookup a with
    | some o =>
      have eo := (KX a o hk).symm.trans ha
      cases eo
      refine ⟨fun _ => none, fun _ => .inl rfl, .inr ⟨_, vs.toArray, _, hk, rfl, rfl, rfl, ?_, ?_⟩, ?_, ?_, ?_⟩
      · rw [List.size_toArray, hi.length]
        exact hl
      · exact vals_ints hi
      · intro b u z
        exact absurd (show (none : Option HO) = some u from z) (by intro y; cases y)
      · intro b z
        exact absurd rfl z
      · intro z
        exact absurd rfl z
    | none =>
      have at_a : (fun b => if b = a then some (HO.frz o₁ (.lst (ns.map V.int))) else none : Hp) a = some (HO.frz o₁ (.lst (ns.map V.int))) := if_pos rfl
      have off : ∀ b, b ≠ a → (fun b => if b = a then some (HO.frz o₁ (.lst (ns.map V.int))) else none : Hp) b = none := fun b hb => if_neg hb
      refine ⟨fun b => if b = a then some (.frz o₁ (.lst (ns.map V.int))) else none, fun b => ?_, .inl (.inr ⟨o₁, at_a⟩), fun b u z => ?_, fun b z => ?_, fun _ => rfl⟩
      · by_cases hb : b = a
        · subst hb
          exact .inr ⟨_, _, at_a⟩
        · exact .inl (off b hb)
      · by_cases hb : b = a
        · subst hb
          have z2 := at_a.symm.trans z
          cases z2
          exact ⟨ha, lv, vs, _, vals_ints hi, ha⟩
        · have z2 := (off b hb).symm.trans z
          cases z2
      · by_cases hb : b = a
        · exact hb
        · exact absurd (off b hb) z
  have nodict : ∀ {b : Addr} {o : Obj} {es : Array DictEntry} {ep : Nat}, s₁.heap.get? b = some o → o.data = .dict es ep → H b = none := by
    intro b o es ep eo ed
    cases q : H b with
    | none => rfl
    | some u =>
      have hb : b = a := hA b (by rw [q]; intro z; cases z)
      subst hb
      have z := ha.symm.trans eo
      cases z
      cases ed
  have nsK : ∀ {b : Addr} {m : Str → Option Value}, s₁.heap.Ns b m → (hidT s₁.heap H).Ns b m := by
    rintro b m ⟨o, es, ep, eo, ed, r⟩
    exact ⟨o, es, ep, hidT_get eo (nodict eo ed), ed, r⟩
  have KB : K.In (hidT s₁.heap H) := by
    intro b o eo
    refine hidT_get (KX b o eo) ?_
    cases q : H b with
    | none => rfl
    | some u =>
      have hb : b = a := hA b (by rw [q]; intro z; cases z)
      subst hb
      have z := hKa (by rw [q]; intro z; cases z)
      rw [eo] at z
      cases z
  have M : Mod K mg (hidT s₁.heap H) := by
    obtain ⟨mc, l1, l2⟩ := hlim
    exact ⟨KB, nsK hns, ⟨mb, nsK hb, hbb⟩, ⟨mc, nsK l1, l2⟩⟩
  have e0 : Env0 P w K mg (hidT s₁.heap H) callerA [] s₁ H := by
    refine ⟨rfl, M, fun b o e => of_hidT e, Nat.le_of_eq (hidT_size _ _), trivial, fun b hb => ?_, hok, .of_eq hg⟩
    exact absurd (show b ∈ ([] : List Addr) from hb) List.not_mem_nil
  refine codeAny_mono ((F _ KB (nsK hns)).goes callerA [] s₁ H ⟨[.ref a], []⟩ [.ref a] [.ref a] _ _ rfl hr e0 (hbind s₁ (.ref a)) (.cons rfl .nil) (hsp H hO hS)) fun r s' h => ?_
  cases r with
  | error e => exact h.elim
  | ok fl =>
    cases fl with
    | next => exact False.elim h
    | brk => exact False.elim h
    | cont => exact False.elim h
    | ret u =>
      obtain ⟨v, H', os, bare, un, hok', rv, (hv : v = .bl true)⟩ := h
      subst hv
      obtain rfl : u = Value.bool true := rv
      refine ⟨rfl, OldK.of_keep fun b o eo => ?_, os, bare⟩
      cases q : H b with
      | none => exact un.keep b o eo q (fun z => List.not_mem_nil z) List.not_mem_nil
      | some u =>
        rcases hO b with z | ⟨ob, xs, z⟩
        · rw [q] at z
          cases z
        · obtain ⟨e1, _⟩ := hok b _ z
          obtain ⟨e2, _⟩ := hok' b _ (un.frzs b ob _ z)
          have e3 := eo.symm.trans e1
          cases e3
          exact e2
theorem walkG {l : PySem.W.OpenLaw} {n k : Nat} {q : Program} {loose : List Str} {XP : (Str → Option Value) → Heap → Prop} {YP : World → Heap → Prop} {d : DefRec} {K : Params → PySem.W.Frag} {sp : World → Sp} {x : Str}
    (hn : l.most = some n) (hn2 : n ≤ sizeLine) (hdf : d.params.defaults = []) (hr : Room k callerA) (hY : ∀ (w : World) (h : Heap), YP w h → (K w.params).In h)
    (F : ∀ (w : World) (mg : Str → Option Value) (fa : Addr) (h : Heap), (K w.params).In h → h.Ns mainGlobals mg → mg d.name = some (.ref fa) →
      ∃ fd : FuncData, (∀ (s : Shared) (u : Value), BindsTo s fd ⟨[u], []⟩ [(x, u)]) ∧ ∀ base : Heap, (K w.params).In base → base.Ns mainGlobals mg → FnG l.prog w (K w.params) mg base k fa fd [x] (sp w))
    (hsp : ∀ (w : World) (H : Hp) (a : Addr) (ns : List Int), ns.length ≤ n → Only H → SqL (K w.params) H a (ns.map V.int) → sp w [.ref a] H (fun v _ => v = .bl true) fun _ _ _ => False) :
    PySem.W.WalkO q loose XP YP l.row.toRowW d [] (fun f vs => PySem.call f vs) := by
  refine Att.attach_call hn hdf fun w s₀ s₁ mg mb fa o pm cd doc a vs ns G Y ho hd hcd hmg hobj hints hlen hg => ?_
  obtain ⟨fd, hb, hF⟩ := F w mg fa _ (hY w _ Y) G.T.g hmg
  exact callG (hY w _ Y) G.T.g G.T.b G.T.builtins G.T.nolimit hg hobj hints (Nat.le_trans hlen hn2) hr hF hb fun H hO hS => hsp w H a ns hlen hO hS
end Lk

set_option Elab.async false
set_option linter.all false
set_option maxRecDepth 100000
set_option maxHeartbeats 4000000
namespace Lk
open PySem PySem.Spec PyProof.Rows L2
/-! ### the texts of words -/
def sg (b : Bool) : Nat := if b = true then 120 else 121
def wS (l : List Bool) : Str := ⟨(l.map sg).toArray⟩
theorem wS_len (l : List Bool) : (wS l).length = l.length := by simp [wS, Str.length]
theorem wS_x : (("x" : Str)) = wS [true] := by decide +kernel
theorem wS_y : (("y" : Str)) = wS [false] := by decide +kernel
theorem wS_yx : (("yx" : Str)) = wS [false, true] := by decide +kernel
theorem wS_nil : (("" : Str)) = wS [] := by decide +kernel
theorem wS_empty : Str.empty = wS [] := rfl
theorem wS_app (a b : List Bool) : wS a ++ wS b = wS (a ++ b) := by
  show (⟨(a.map sg).toArray ++ (b.map sg).toArray⟩ : Str) = ⟨((a ++ b).map sg).toArray⟩
  rw [List.map_append, List.append_toArray]
theorem sg_inj {a b : Bool} (h : sg a = sg b) : a = b := by
  cases a <;> cases b <;> first | rfl | (exact absurd h (by decide))
theorem map_sg_inj : ∀ {a b : List Bool}, a.map sg = b.map sg → a = b
  | [], [], _ => rfl
  | [], _ :: _, h => by cases h
  | _ :: _, [], h => by cases h
  | x :: a, y :: b, h => by
    injection h with h1 h2
    rw [sg_inj h1, map_sg_inj h2]
theorem wS_inj {a b : List Bool} (h : wS a = wS b) : a = b := by
  have h1 : (a.map sg).toArray = (b.map sg).toArray := congrArg Str.cps h
  exact map_sg_inj (by simpa using h1)
theorem wS_mul (l : List Bool) (n : Nat) : Txt.mul (wS l) (n : Int) = wS (List.replicate n l).flatten := by
  unfold Txt.mul
  by_cases h : (n : Int) < 1
  · have e : n = 0 := by omega
    subst e
    rw [if_pos h]
    rfl
  · rw [if_neg h]
    have key : ∀ (k : Nat) (acc : Array Nat), (List.replicate k (wS l).cps).foldl (· ++ ·) acc = acc ++ ((List.replicate k l).flatten.map sg).toArray := by
      intro k
      induction k with
      | zero => intro acc; simp
      | succ k ih =>
        intro acc
        rw [List.replicate_succ, List.foldl_cons, ih, List.replicate_succ, List.flatten_cons, List.map_append, ← List.append_toArray, Array.append_assoc]
        rfl
    split
    · rename_i hc
      rw [Bool.or_eq_true, beq_iff_eq, beq_iff_eq] at hc
      rcases hc with hc | hc
      · have e : n = 1 := by omega
        subst e
        show wS l = wS (l ++ [])
        rw [List.append_nil]
      · have e : l = [] := by
          rw [wS_len] at hc
          exact List.length_eq_zero_iff.mp hc
        subst e
        have : (List.replicate n ([] : List Bool)).flatten = [] := by simp
        rw [this]
    · show (⟨(List.replicate n (wS l).cps).foldl (· ++ ·) #[]⟩ : Str) = _
      rw [key]
      simp [wS]
theorem flat_one (n : Nat) (b : Bool) : (List.replicate n [b]).flatten = List.replicate n b := by
  induction n with
  | zero => rfl
  | succ n ih =>
    rw [List.replicate_succ, List.flatten_cons, ih, List.replicate_succ]
    rfl
theorem mul_x (n : Nat) : Txt.mul ("x" : Str) (n : Int) = wS (List.replicate n true) := by rw [wS_x, wS_mul, flat_one]
theorem mul_y (n : Nat) : Txt.mul ("y" : Str) (n : Int) = wS (List.replicate n false) := by rw [wS_y, wS_mul, flat_one]
theorem wS_list (l : List Bool) : (wS l).cps.toList = l.map sg := by simp [wS]
theorem count_x (l : List Bool) : Txt.count (wS l) ("x" : Str) = (nx l : Int) := by
  rw [show ("x" : Str) = ⟨#[120]⟩ by decide +kernel, count_cnt, wS_list]
  induction l with
  | nil => rfl
  | cons b r ih =>
    rw [List.map_cons, cnt_cons, ih]
    cases b
    · rw [nx_f, if_neg (by decide)]
      omega
    · rw [nx_t, if_pos (by decide)]
      omega
theorem count_y (l : List Bool) : Txt.count (wS l) ("y" : Str) = (ny l : Int) := by
  rw [show ("y" : Str) = ⟨#[121]⟩ by decide +kernel, count_cnt, wS_list]
  induction l with
  | nil => rfl
  | cons b r ih =>
    rw [List.map_cons, cnt_cons, ih]
    cases b
    · rw [ny_f, if_pos (by decide)]
      omega
    · rw [ny_t, if_neg (by decide)]
      omega
/-- one letter -/
def lt (b : Bool) : Str := ⟨#[sg b]⟩
theorem lt_x : lt true = ("x" : Str) := by decide +kernel
theorem lt_y : lt false = ("y" : Str) := by decide +kernel
theorem lt_is (b : Bool) : decide (V.str (lt b) = V.str ("x" : Str)) = b := by cases b <;> decide +kernel
theorem wS_at (l : List Bool) (k : Nat) (h : k < l.length) : (wS l).cps[k]? = some (sg l[k]) := by
  simp [wS, h]
theorem wS_size (l : List Bool) : (wS l).cps.size = l.length := wS_len l
theorem small_line {n : Nat} (h : n ≤ 100000) : n ≤ sizeLine := Nat.le_trans h (by decide)
theorem small_line' {n : Nat} (h : n ≤ 100000) : n < sizeLine := Nat.lt_of_le_of_lt h (by decide)
theorem hu_of' {X : Cx} {k : Nat} (hr : Room k X.A) : X.A.units + 64 < cLine := hr.units

/-! ### heaps -/
theorem same_new {H H' : Hp} {p : Addr} {o : HO} (e : Same H H') (h : H' p = none) : Same H (upd H' p o) := fun b x q => by
  rw [upd_ne (ne_of_none (e b x q) h)]
  exact e b x q
theorem same_mut {H H' : Hp} {p : Addr} {o : HO} (e : Same H H') (h : H p = none) : Same H (upd H' p o) := fun b x q => by
  rw [upd_ne (ne_of_none q h)]
  exact e b x q
theorem Same.seqT {K : PySem.W.Frag} {H H' : Hp} {a : Addr} {xs : List V} (e : Same H H') (h : SqT K H a xs) : SqT K H' a xs := by
  rcases h with (h | ⟨o, h⟩) | h
  · exact .inl (.inl (e _ _ h))
  · exact .inl (.inr ⟨o, e _ _ h⟩)
  · exact .inr h
/-- all but the object at r -/
def But (r : Addr) (H H' : Hp) : Prop := ∀ b o, b ≠ r → H b = some o → H' b = some o
theorem But.refl {r : Addr} {H : Hp} : But r H H := fun _ _ _ q => q
theorem But.trans {r : Addr} {H H1 H2 : Hp} (a : But r H H1) (b : But r H1 H2) : But r H H2 := fun c o n q => b c o n (a c o n q)
theorem Same.but {r : Addr} {H H' : Hp} (e : Same H H') : But r H H' := fun b o _ q => e b o q
theorem But.upd {r : Addr} {H : Hp} {o : HO} : But r H (upd H r o) := fun b x n q => by
  rw [upd_ne n]
  exact q
theorem But.free {r : Addr} {H H' : Hp} (e : But r H H') {p : Addr} (h : H' p = none) (n : p ≠ r) : H p = none := by
  cases q : H p with
  | none => rfl
  | some o =>
    rw [e p o n q] at h
    cases h
/-- the reel: three numbers; the third is at most n -/
def Reel (H : Hp) (r : Addr) (n : Nat) : Prop := ∃ a b c : Int, H r = some (.lst [.int a, .int b, .int c]) ∧ 0 ≤ a ∧ 0 ≤ b ∧ b < 2 ^ 200 ∧ 0 ≤ c ∧ c ≤ (n : Int)
theorem Reel.same {H H' : Hp} {r : Addr} {n : Nat} (e : Same H H') (h : Reel H r n) : Reel H' r n := by
  obtain ⟨a, b, c, h1, h2⟩ := h
  exact ⟨a, b, c, e _ _ h1, h2⟩
theorem Reel.le {H : Hp} {r : Addr} {n m : Nat} (h : Reel H r n) (hm : n ≤ m) : Reel H r m := by
  obtain ⟨a, b, c, h1, h2, h3, h4, h5, h6⟩ := h
  exact ⟨a, b, c, h1, h2, h3, h4, h5, by omega⟩
/-- a Layout -/
def lf (l : List Bool) : List (Str × V) := [("_word", .str (wS l)), ("_x_bits", .int (nx l)), ("_y_bits", .int (ny l))]
def Lay (C : Addr) (H : Hp) (p : Addr) (l : List Bool) : Prop := ∃ dx, H p = some (.ins C dx (lf l))
theorem Lay.same {C : Addr} {H H' : Hp} {p : Addr} {l : List Bool} (e : Same H H') (h : Lay C H p l) : Lay C H' p l := by
  obtain ⟨dx, h⟩ := h
  exact ⟨dx, e _ _ h⟩
theorem Lay.but {C r : Addr} {H H' : Hp} {p : Addr} {l : List Bool} (e : But r H H') (n : p ≠ r) (h : Lay C H p l) : Lay C H' p l := by
  obtain ⟨dx, h⟩ := h
  exact ⟨dx, e _ _ n h⟩
theorem lf_word (l : List Bool) : (lf l).lookup ("_word" : Str) = some (.str (wS l)) := rfl
theorem lf_x (l : List Bool) : (lf l).lookup ("_x_bits" : Str) = some (.int (nx l)) := rfl
theorem lf_y (l : List Bool) : (lf l).lookup ("_y_bits" : Str) = some (.int (ny l)) := rfl
/-- a word as Layout takes it -/
def GoodW (l : List Bool) : Prop := l ≠ [] ∧ nx l ≤ 100 ∧ ny l ≤ 100
theorem GoodW.len {l : List Bool} (h : GoodW l) : l.length ≤ 200 := by
  have := nxy l
  have := h.2
  omega
theorem good_of {l : List Bool} {n m : Nat} (h1 : nx l = n) (h2 : ny l = m) (hn : n ≤ 100) (hm : m ≤ 100) (h : 1 ≤ n + m) : GoodW l := ⟨ne_nil_of (by omega), by omega, by omega⟩
theorem made_same {C x dx : Addr} {H H' : Hp} (n1 : H x = none) (n2 : H dx = none) (e : But x (upd (upd H dx (.own x)) x (.ins C dx [])) H') : Same H H' := fun b o q => by
  have nb : b ≠ x := ne_of_none q n1
  refine e b o nb ?_
  rw [upd_ne nb, upd_ne (ne_of_none q n2)]
  exact q
theorem len_x : ("x" : Str).length ≤ 1000 := by decide +kernel
theorem len_y : ("y" : Str).length ≤ 1000 := by decide +kernel
theorem len_yx : ("yx" : Str).length ≤ 1000 := by decide +kernel
theorem mul_yx (n : Nat) : Txt.mul ("yx" : Str) (n : Int) = wS (yxs n) := by rw [wS_yx, wS_mul, flat_yx]
theorem add_yx {n m : Nat} (hn : n ≤ 100) (hm : m ≤ 100) : (Txt.mul ("y" : Str) (m : Int)).length + (Txt.mul ("x" : Str) (n : Int)).length ≤ sizeLine := by
  rw [mul_x, mul_y, wS_len, wS_len, List.length_replicate, List.length_replicate]
  exact small_line (by omega)
theorem add_xy {n m : Nat} (hn : n ≤ 100) (hm : m ≤ 100) : (Txt.mul ("x" : Str) (n : Int)).length + (Txt.mul ("y" : Str) (m : Int)).length ≤ sizeLine := by
  rw [mul_x, mul_y, wS_len, wS_len, List.length_replicate, List.length_replicate]
  exact small_line (by omega)
theorem small_pow {k : Nat} (h : k ≤ 1000000) : k < 2 ^ 1000 := Nat.lt_of_le_of_lt h (by decide +kernel)
theorem pw {x : Nat} (h : x ≤ 999) : 2 ^ x < 2 ^ 1000 := Nat.pow_lt_pow_right (by decide) (by omega)
theorem pwl {a n m : Nat} (h : a < 2 ^ n) (hn : n ≤ m) : a < 2 ^ m := Nat.lt_of_lt_of_le h (Nat.pow_le_pow_right (by decide) hn)
theorem cmulN {a b : Nat} (ha : a < 2 ^ 1000) (hb : b < 2 ^ 1000) : CMulW (a : Int) (b : Int) :=
  wide_mul (a := 1000) (b := 1000) (by rw [Int.natAbs_natCast]; exact ha) (by rw [Int.natAbs_natCast]; exact hb) (by decide) (by decide) (by decide)
theorem cdivN {a : Int} {b : Nat} (h0 : 0 < b) (hb : b < 2 ^ 1000) : CDivW a (b : Int) :=
  wide_div (b := 1000) (by omega) (by rw [Int.natAbs_natCast]; exact hb) (by decide) (by decide)
theorem Reel.ne {H : Hp} {r p : Addr} {n : Nat} (h : Reel H r n) (hp : H p = none) : p ≠ r := fun z => by
  obtain ⟨_, _, _, e, _⟩ := h
  rw [z, e] at hp
  cases hp
@[elab_as_elim] theorem to_any {p : Hp → Prop} {H H' : Hp} (e : Same H H') (h : ∀ H2, Same H H2 → p H2) : p H' := h H' e
theorem modNat (a b : Nat) : ((a : Int)).fmod (b : Int) = ((a % b : Nat) : Int) := by
  rw [Int.fmod_eq_emod_of_nonneg _ (by omega)]
  rfl
theorem divNat (a b : Nat) : ((a : Int)) / (b : Int) = ((a / b : Nat) : Int) := rfl
theorem fdivNat (a b : Nat) : ((a : Int)).fdiv (b : Int) = ((a / b : Nat) : Int) := by
  rw [Int.fdiv_eq_ediv_of_nonneg _ (by omega)]
  rfl
theorem join0 : ∀ (ys : List (List Bool)), Txt.join ("" : Str) (ys.map wS) = wS ys.flatten
  | [] => by decide +kernel
  | y :: r => by
    have key : ∀ (r : List (List Bool)) (acc : List Bool), (r.map wS).foldl (fun acc p => acc ++ ("" : Str).cps ++ p.cps) (wS acc).cps = (wS (acc ++ r.flatten)).cps := by
      intro r
      induction r with
      | nil =>
        intro acc
        simp
      | cons z r ih =>
        intro acc
        have e0 : ("" : Str).cps = #[] := by decide +kernel
        rw [List.map_cons, List.foldl_cons, e0, Array.append_empty]
        have e1 : (wS acc).cps ++ (wS z).cps = (wS (acc ++ z)).cps := congrArg Str.cps (wS_app acc z)
        rw [e1]
        have := ih (acc ++ z)
        rw [e0] at this
        rw [this, List.flatten_cons, List.append_assoc]
    show (⟨(r.map wS).foldl (fun acc p => acc ++ ("" : Str).cps ++ p.cps) (wS y).cps⟩ : Str) = _
    rw [key r y, List.flatten_cons]
/-- the feet as they stand -/
def FeetAt (H : Hp) (p : Addr) (ts : List Addr) (fl : List (Bool × Nat × Nat)) : Prop :=
  H p = some (.lst (ts.map V.ref)) ∧ ts.length = fl.length ∧ ∀ (k : Nat) (t : Addr) (f : Bool × Nat × Nat), ts[k]? = some t → fl[k]? = some f → H t = some (.tup [.str (lt f.1), .int (f.2.1 : Nat), .int (f.2.2 : Nat)])
theorem FeetAt.same {H H' : Hp} {p : Addr} {ts : List Addr} {fl : List (Bool × Nat × Nat)} (e : Same H H') (h : FeetAt H p ts fl) : FeetAt H' p ts fl :=
  ⟨e _ _ h.1, h.2.1, fun k t f h1 h2 => e _ _ (h.2.2 k t f h1 h2)⟩
theorem iteT' {A B : Prop} {c : Bool} (e : c = true) (h : A) : if c = true then A else B := by
  rw [if_pos e]
  exact h
theorem iteF' {A B : Prop} {c : Bool} (e : c = false) (h : B) : if c = true then A else B := by
  rw [e, if_neg Bool.false_ne_true]
  exact h
end Lk

set_option Elab.async false
set_option linter.all false
set_option maxRecDepth 100000
set_option maxHeartbeats 4000000
namespace Lk
open PySem PySem.Spec PyProof.Rows L2
/-! ### plain data: numbers of a thousand bits, short words -/
def Atm : PyData → Prop
  | .int i => i.natAbs < 2 ^ 1000
  | .str x => ∃ l : List Bool, x = wS l ∧ l.length ≤ 1000
  | .none => True
  | .bool _ => True
  | _ => False
theorem sg_lt (b : Bool) : sg b < 128 := by cases b <;> decide
theorem wS_cp {l : List Bool} {c : Nat} (h : c ∈ (wS l).cps.toList) : c < 128 := by
  rw [wS_list] at h
  obtain ⟨b, _, e⟩ := List.mem_map.mp h
  rw [← e]
  exact sg_lt b
theorem ofString_len (s : String) : (Str.ofString s).length = s.length := by
  rw [Str.ofString_eq_toList]
  show (s.toList.map Char.toNat).toArray.size = _
  rw [List.size_toArray, List.length_map]
  first
    | rfl
    | exact String.length_toList
    | exact s.length_toList
    | exact (String.length_toList s)
theorem atm_ok (d : PyData) (h : Atm d) : d.showable = true ∧ d.hasDict = false ∧ d.depth = 0 ∧ d.canLay0 = true ∧ d.leavesShort 1002 = true ∧ d.weight ≤ 1000 := by
  cases d with
  | none => simp [PyData.showable, PyData.hasDict, PyData.depth, PyData.canLay0, PyData.leavesShort, PyData.weight]
  | bool b => simp [PyData.showable, PyData.hasDict, PyData.depth, PyData.canLay0, PyData.leavesShort, PyData.weight]
  | int i =>
    have h' : i.natAbs < 2 ^ 1000 := h
    have hl : i.natAbs.log2 < 1000 := PySem.Flt.log2_lt_of (by decide) h'
    refine ⟨?_, by simp only [PyData.hasDict], by simp only [PyData.depth], by simp only [PyData.canLay0], ?_, ?_⟩
    · simp only [PyData.showable]
      exact decide_eq_true (by omega)
    · simp only [PyData.leavesShort, PyData.shown]
      refine decide_eq_true ?_
      rw [ofString_len]
      have := int_text_length_le (by decide) hl
      omega
    · simp only [PyData.weight]
      split <;> omega
  | str x =>
    obtain ⟨l, rfl, hl⟩ : ∃ l : List Bool, x = wS l ∧ l.length ≤ 1000 := h
    refine ⟨by simp only [PyData.showable], by simp only [PyData.hasDict], by simp only [PyData.depth], ?_, ?_, ?_⟩
    · simp only [PyData.canLay0]
      show (wS l).cps.all (· < 0x110000) = true
      rw [← Array.all_toList, List.all_eq_true]
      intro c hc
      exact decide_eq_true (Nat.lt_trans (wS_cp hc) (by decide))
    · simp only [PyData.leavesShort]
      rw [List.all_eq_true]
      intro c hc
      exact decide_eq_true (Nat.lt_trans (wS_cp hc) (by decide))
    · simp only [PyData.weight]
      rw [wS_size]
      exact hl
  | list _ => exact h.elim
  | tuple _ => exact h.elim
  | dict _ => exact h.elim
theorem atms_ok : ∀ ds : List PyData, (∀ d ∈ ds, Atm d) → PyData.showableAll ds = true ∧ PyData.hasDictAll ds = false ∧ PyData.depthAll ds = 0 ∧ PyData.canLayAll0 ds = true ∧ PyData.leavesShortAll 1002 ds = true ∧ PyData.weightAll ds ≤ 1001 * ds.length
  | [], _ => by simp [PyData.showableAll, PyData.hasDictAll, PyData.depthAll, PyData.canLayAll0, PyData.leavesShortAll, PyData.weightAll]
  | d :: ds, h => by
    obtain ⟨a1, a2, a3, a4, a5, a6⟩ := atm_ok d (h d List.mem_cons_self)
    obtain ⟨b1, b2, b3, b4, b5, b6⟩ := atms_ok ds fun e he => h e (List.mem_cons_of_mem _ he)
    refine ⟨?_, ?_, ?_, ?_, ?_, ?_⟩
    · simp only [PyData.showableAll, a1, b1, Bool.and_self]
    · simp only [PyData.hasDictAll, a2, b2, Bool.or_self]
    · simp only [PyData.depthAll, a3, b3, Nat.max_self]
    · simp only [PyData.canLayAll0, a4, b4, Bool.and_self]
    · simp only [PyData.leavesShortAll, a5, b5, Bool.and_self]
    · simp only [PyData.weightAll, List.length_cons]
      omega
/-- what repr and == ask of a list or tuple of such -/
def RpOk (d : PyData) : Prop := d.showable = true ∧ d.hasDict = false ∧ d.depth ≤ 8 ∧ d.shown.length ≤ sizeLine
theorem rp_list {ds : List PyData} (h : ∀ d ∈ ds, Atm d) (hl : ds.length ≤ 10) : RpOk (.list ds) := by
  obtain ⟨b1, b2, b3, b4, b5, b6⟩ := atms_ok ds h
  refine ⟨by simpa only [PyData.showable] using b1, by simpa only [PyData.hasDict] using b2, ?_, ?_⟩
  · simp only [PyData.depth, b3]
    omega
  · have s := PyData.shown_le 1002 (by decide) (.list ds) (by simpa only [PyData.leavesShort] using b5)
    have e : (PyData.list ds).weight = PyData.weightAll ds := by simp only [PyData.weight]
    rw [e] at s
    have : sizeLine = 16777216 := sizeLine_eq
    omega
theorem rp_tup {ds : List PyData} (h : ∀ d ∈ ds, Atm d) (hl : ds.length ≤ 10) : RpOk (.tuple ds) := by
  obtain ⟨b1, b2, b3, b4, b5, b6⟩ := atms_ok ds h
  refine ⟨by simpa only [PyData.showable] using b1, by simpa only [PyData.hasDict] using b2, ?_, ?_⟩
  · simp only [PyData.depth, b3]
    omega
  · have s := PyData.shown_le 1002 (by decide) (.tuple ds) (by simpa only [PyData.leavesShort] using b5)
    have e : (PyData.tuple ds).weight = PyData.weightAll ds := by simp only [PyData.weight]
    rw [e] at s
    have : sizeLine = 16777216 := sizeLine_eq
    omega
theorem shaped_list {ds : List PyData} (h : ∀ d ∈ ds, Atm d) : SeqAt.shaped (.list ds) = true := by
  obtain ⟨b1, b2, b3, b4, b5, b6⟩ := atms_ok ds h
  unfold SeqAt.shaped
  rw [Bool.and_eq_true]
  refine ⟨by simpa only [PyData.canLay0] using b4, decide_eq_true ?_⟩
  simp only [PyData.depth, b3]
  omega
theorem shaped_tup {ds : List PyData} (h : ∀ d ∈ ds, Atm d) : SeqAt.shaped (.tuple ds) = true := by
  obtain ⟨b1, b2, b3, b4, b5, b6⟩ := atms_ok ds h
  unfold SeqAt.shaped
  rw [Bool.and_eq_true]
  refine ⟨by simpa only [PyData.canLay0] using b4, decide_eq_true ?_⟩
  simp only [PyData.depth, b3]
  omega
theorem all1 {p : PyData → Prop} {a : PyData} (ha : p a) : ∀ d ∈ [a], p d := fun d hd => by
  rw [List.mem_singleton.mp hd]
  exact ha
theorem allc {p : PyData → Prop} {a : PyData} {r : List PyData} (ha : p a) (hr : ∀ d ∈ r, p d) : ∀ d ∈ a :: r, p d := fun d hd => by
  rcases List.mem_cons.mp hd with e | e
  · rw [e]
    exact ha
  · exact hr d e
theorem alln {p : PyData → Prop} : ∀ d ∈ ([] : List PyData), p d := fun d hd => absurd hd List.not_mem_nil
theorem atm_w {l : List Bool} (h : l.length ≤ 1000) : Atm (.str (wS l)) := ⟨l, rfl, h⟩
theorem atm_n {n : Nat} (h : n < 2 ^ 1000) : Atm (.int (n : Int)) := by
  show (n : Int).natAbs < 2 ^ 1000
  rw [Int.natAbs_natCast]
  exact h
theorem eqv_same {d : PyData} (h : SeqAt.shaped d = true) : PyData.eqv d d = true := SeqAt.eqv_refl d (SeqAt.canLay_of_shaped h)
def cn (l : List Bool) (i : Nat) : Nat := if i = 0 then nx l else ny l
theorem cn_le {l : List Bool} (h : GoodW l) (i : Nat) : cn l i ≤ 100 := by
  unfold cn
  split
  · exact h.2.1
  · exact h.2.2
theorem xy_at {i c : Nat} (h : (("xy" : Str)).cps[i]? = some c) (l : List Bool) : i < 2 ∧ Txt.count (wS l) ⟨#[c]⟩ = ((cn l i : Nat) : Int) := by
  have e : ("xy" : Str) = ⟨#[120, 121]⟩ := by decide +kernel
  rw [e] at h
  rcases i with _ | _ | i
  · have hc : c = 120 := (Option.some.inj h).symm
    subst hc
    refine ⟨by omega, ?_⟩
    rw [show (⟨#[120]⟩ : Str) = ("x" : Str) by decide +kernel, count_x]
    rfl
  · have hc : c = 121 := (Option.some.inj h).symm
    subst hc
    refine ⟨by omega, ?_⟩
    rw [show (⟨#[121]⟩ : Str) = ("y" : Str) by decide +kernel, count_y]
    rfl
  · simp at h
theorem xy_size : (("xy" : Str)).cps.size = 2 := by decide +kernel
theorem eqv2 (a b c d : Int) : PyData.eqv (.list [.int a, .int b]) (.list [.int c, .int d]) = (a == c && b == d) := by
  simp only [PyData.eqv, PyData.eqvAll, Bool.and_true]
def pick (u v ax : Nat) : Nat := if ax = 0 then u else v
theorem at2 {u v ax : Nat} (h : ax ≤ 1) : atI [V.int (u : Int), V.int (v : Int)] (ax : Int) = some (V.int ((pick u v ax : Nat) : Int)) := by
  rcases ax with _ | _ | ax
  · rfl
  · rfl
  · omega
end Lk

set_option Elab.async false
set_option linter.all false
set_option maxRecDepth 100000
set_option maxHeartbeats 4000000
namespace Lk
open PySem PySem.Spec PyProof.Rows L2
/-! ### a text backwards -/
def tRevS (te : TE) : TE := fun σ H Q => te σ H fun x H1 => ∃ z : Str, x = .str z ∧ z.length ≤ sizeLine ∧ Q (.str ⟨z.cps.reverse⟩) H1
section
variable {X : Cx}
theorem rev_picked (z : Str) : ((Builtin.Str.strSliceIndices none none (-1) z.length).filterMap (z.cps[·]?)).toArray = z.cps.reverse := by
  rw [picked_rev]
  apply Array.ext'
  rw [List.toList_toArray, Array.toList_reverse]
  obtain ⟨⟨l⟩⟩ := z
  show ((List.range l.length).map fun k => l.length - 1 - k).filterMap (fun i => (l.toArray)[i]?) = l.reverse
  apply List.ext_getElem?
  intro i
  rw [filterMap_get]
  · rw [List.map_map, List.getElem?_map]
    by_cases hi : i < l.length
    · rw [List.getElem?_range hi, List.getElem?_reverse hi]
      show some (l.toArray.getD (l.length - 1 - i) 0) = _
      have h2 : l.length - 1 - i < l.length := by omega
      rw [List.getElem?_eq_getElem h2]
      simp [Array.getD, h2]
    · rw [List.getElem?_eq_none (by simpa using hi), List.getElem?_eq_none (by simpa using hi)]
      rfl
  · intro j hj
    obtain ⟨k, hk, rfl⟩ := List.mem_map.mp hj
    have := List.mem_range.mp hk
    show l.length - 1 - k < l.toArray.size
    rw [List.size_toArray]
    omega
theorem pe_revS {e : Expr} {te : TE} {k : Nat} {p1 p2 p3 pos : Pos} (he : PE X e te) : PE X (.Subscript e (.Slice none none (some (.UnaryOp .USub (.Constant (.int 1) k p1) p2)) p3) pos) (tRevS te) := by
  refine ⟨fun pins s0 σ H0 Q I0 h0 => ?_⟩
  refine Subscript_ (thn (he.run pins s0 σ H0 _ I0 h0) fun v s1 got => ?_)
  obtain ⟨x, H1, I1, rx, z, rfl, hz, q⟩ := got
  obtain ⟨t, rfl⟩ := rx
  have minus : PO X (some (.UnaryOp .USub (.Constant (.int 1) k p1) p2)) (tPart (tUn (rU fun i => .int (-i)) (tC (.int 1)))) := po_some (pe_un un_neg pe_int)
  refine wpAny_Slice (thn (po_none.run pins s1 σ H1 (fun o Hx => o = none ∧ Hx = H1) I1 ⟨rfl, rfl⟩) fun va s2 ga => ?_)
  obtain ⟨oa, Ha, Ia, pa, rfl, rfl⟩ := ga
  refine thn (po_none.run pins s2 σ Ha (fun o Hx => o = none ∧ Hx = Ha) Ia ⟨rfl, rfl⟩) fun vb s3 gb => ?_
  obtain ⟨ob, Hb, Ib, pb, rfl, rfl⟩ := gb
  refine thn (minus.run pins s3 σ Hb (fun o Hx => o = some (-1) ∧ Hx = Hb) Ib ⟨1, rfl, -1, rfl, rfl, rfl⟩) fun vc s4 gc => ?_
  obtain ⟨oc, Hc, Ic, pc, rfl, rfl⟩ := gc
  have Id : Inv X pins σ Hc { s4 with heap := s4.heap.push { cls := .type "slice", data := .fields #[va, vb, vc] } } := Ic.kept (t' := s4.toks) fun b ob qq => Heap.get?_push_of_some _ qq
  obtain ⟨la, rfl, ea⟩ := IsPart.raw pa
  obtain ⟨lb, rfl, eb⟩ := IsPart.raw pb
  obtain ⟨lc, rfl, ec⟩ := IsPart.raw pc
  obtain rfl : la = none := by
    cases la with
    | none => rfl
    | some y => cases ea
  obtain rfl : lb = none := by
    cases lb with
    | none => rfl
    | some y => cases eb
  obtain ⟨uu, rfl⟩ : ∃ uu, lc = some (-1, uu) := by
    cases lc with
    | none => cases ec
    | some y =>
      obtain ⟨y1, y2⟩ := y
      have : y1 = -1 := Option.some.inj ec
      subst this
      exact ⟨y2, rfl⟩
  refine tail_any (typeIs_str _ _ _) PySem.F.slot_str_getitem.lookup ?_ (by with_unfolding_all rfl)
  refine wpAny_getItem_str_slice (l := none) (u := none) (st := some (-1, uu)) ⟨_, Heap.get?_push_size _ rfl, rfl, rfl⟩ rfl ?_
  have hp := rev_picked z
  unfold sliceMade
  show Made.post (if ((-1 : Int) == 1 && (Builtin.Str.strSliceIndices none none (-1) z.length).length == z.length) = true then Made.val (.str z t) else Made.str ⟨((Builtin.Str.strSliceIndices none none (-1) z.length).filterMap (z.cps[·]?)).toArray⟩) _ _
  rw [if_neg (by simp), hp]
  refine ⟨?_, .str ⟨z.cps.reverse⟩, Hc, Id.tok _, ⟨_, rfl⟩, q⟩
  show z.cps.reverse.size ≤ sizeLine
  rw [Array.size_reverse]
  exact hz
end
end Lk

set_option Elab.async false
set_option linter.all false
set_option maxRecDepth 100000
set_option maxHeartbeats 4000000
namespace Lk
open PySem PySem.Spec PyProof.Rows L2
/-! ### enumerate of a text -/
def Itx (z : Str) : It :=
  ⟨fun i _ => i < z.cps.size, fun i H v H' => ∃ T c, v = .ref T ∧ H T = none ∧ z.cps[i]? = some c ∧ H' = upd H T (.tup [.int (i : Nat), .str ⟨#[c]⟩]), fun i _ => i = z.cps.size⟩
theorem turn_enumT {P : Program} {w : World} {K : PySem.W.Frag} {elts : List Expr} {kk : Nat} {tpos : Pos} (z : Str) (t : Tok) (e it : Addr) :
    Turn P w K (.Tuple elts kk tpos) (Itx z) [e, it] e (fun i h => (∃ old, IsEnum h e it ((i : Nat) : Int) old) ∧ h.IsStrIter it (strIterType z) z t i ∧ e ≠ it) where
  mem := by simp
  obj := fun i h st b hb => by
    obtain ⟨⟨old, he⟩, ⟨o, ho, hc, hd⟩, _⟩ := st
    have e' : b = e ∨ b = it := by simpa using hb
    rcases e' with y | y
    · rw [y]; exact ⟨_, he, fun v q => nomatch q⟩
    · rw [y]; exact ⟨o, ho, fun v q => by rw [hd] at q; cases q⟩
  keep := fun i h h' st k => let ⟨⟨old, he⟩, ⟨o, ho, r⟩, hne⟩ := st; ⟨⟨old, k e (by simp) _ he⟩, ⟨o, k it (by simp) o ho, r⟩, hne⟩
  item := by
    intro X hP hw hK hc i pins s σ H E I hf st hg
    subst hP hw hK
    obtain ⟨⟨old, he⟩, hit, hne⟩ := st
    have hel : e < s.heap.objs.size := Heap.lt_size he
    have hil : it < s.heap.objs.size := by obtain ⟨_, q, _⟩ := hit; exact Heap.lt_size q
    refine wpAny_pyNext_enum_itemD (St := fun i h => h.IsStrIter it (strIterType z) z t i) (Draws.text (show X.A.in1.handled = none from I.ok.hd hc) it z t) he hit hg hne (by simpa using hne) fun x h' tk hx ho hit' hT hsz hk => ?_
    obtain ⟨c, u, hcx, rfl⟩ := hx
    refine ⟨_, rfl, wpAny_letOwnedTupleGo_enum (s := { s with heap := h', toks := tk + 1 }) ho fun h'' he' sb => ?_⟩
    have hT2 : h''.get? s.heap.objs.size = some { cls := .type "tuple", data := .seq #[.int i tk, .str ⟨#[c]⟩ u] } := (sb.2 _ (Nat.ne_of_gt hel)).trans hT
    have new : ObjOk X.prog X.w (upd H s.heap.objs.size (.tup [.int (i : Nat), .str ⟨#[c]⟩])) h'' s.heap.objs.size (.tup [.int (i : Nat), .str ⟨#[c]⟩]) :=
      ⟨by show 2 ≤ sizeLine; decide, [.int i tk, .str ⟨#[c]⟩ u], .cons ⟨_, rfl⟩ (.cons ⟨_, rfl⟩ .nil), ⟨_, hT2, rfl, _, rfl⟩⟩
    have I1 : Inv X pins σ (upd H s.heap.objs.size (.tup [.int (i : Nat), .str ⟨#[c]⟩])) { s with heap := h'', toks := tk + 1 } :=
      I.turnedNew (ch := [e, it]) (fun b ob hb q => (sb.2 b (fun y => hb (by simp [y]))).trans (hk b ob (fun y => hb (by simp [y])) (fun y => hb (by simp [y])) q)) hf (Nat.le_refl _) new
    refine ⟨.ref s.heap.objs.size, _, I1, rfl, ⟨_, c, rfl, I.hok.fresh (Nat.le_refl _), hcx, rfl⟩, ⟨⟨.str ⟨#[c]⟩ u, ?_⟩, ?_, hne⟩, fun b hb => ?_⟩
    · have e1 : ((i + 1 : Nat) : Int) = (i : Int) + 1 := by omega
      rw [e1]; exact he'
    · obtain ⟨o, q1, q2⟩ := hit'
      exact ⟨o, (sb.2 it (Ne.symm hne)).trans q1, q2⟩
    · have hb' : b < s.heap.objs.size := by
        have e' : b = e ∨ b = it := by simpa using hb
        rcases e' with y | y
        · rw [y]; exact hel
        · rw [y]; exact hil
      rw [upd_ne (Nat.ne_of_lt hb')]
      exact (hf b hb).1
  done := by
    intro X hP hw hK hc i pins s σ H E I hf st hg
    subst hP hw hK
    obtain ⟨⟨old, he⟩, hit, hne⟩ := st
    obtain ⟨f0, f1, f2, f3, f4, f5⟩ := hf it (by simp)
    have hi : i = z.cps.size := hg
    subst hi
    exact wpAny_pyNext_enum_endD (St := fun i h => h.IsStrIter it (strIterType z) z t i) (Draws.text (show X.A.in1.handled = none from I.ok.hd hc) it z t) he hit fun h' eb => ⟨rfl, I.turned (t' := s.toks) (fun b o hb q => eb b o hb q) f0 f1 f3 f4 f5⟩
  self := fun A i s Q E st h => let ⟨⟨_, he⟩, _⟩ := st; wpAny_pyIter_enum he h
def iEnumT (ta : TA) : TI := fun σ H R => ta σ H fun vs H1 => ∃ z : Str, vs = [.str z] ∧ R (Itx z) H1
theorem pi_enumT {X : Cx} {e : Expr} {ta : TA} {p pos tpos : Pos} {elts : List Expr} {kk : Nat} (hg : Gl X "enumerate") (hm : X.mg "enumerate" = none) (ha : PA X [e] ta) (hs : starEach [e] X.env = [(false, eval e X.env)] := by rfl) :
    PI X (.Tuple elts kk tpos) (.Call (.Name "enumerate" p) [e] [] pos) (iEnumT ta) := by
  refine ⟨fun pins s σ H R I h => ?_⟩
  refine Call_ (ld_blt I hg hm boot_enumerate (PyProof.Rows.callWith_type1 (thn (ha.run pos pins s σ H _ I h) fun us s1 ⟨vs, H1, I1, r1, q1⟩ => ?_) hs rfl))
  obtain ⟨z, ex, q⟩ := q1
  subst ex
  cases r1 with
  | cons r rr =>
    cases rr
    obtain ⟨t, rfl⟩ := (show ∃ t, _ = Value.str z t from r)
    refine call_enumerate_str fun h' he hit hsz hk => wpAny_pyIter_enum he ?_
    have I2 : Inv X pins σ H1 { s1 with heap := h' } := I1.kept (t' := s1.toks) hk
    refine ⟨s1.heap.objs.size + 1, [s1.heap.objs.size + 1, s1.heap.objs.size], _, _, H1, rfl, I2, turn_enumT z t (s1.heap.objs.size + 1) s1.heap.objs.size, ⟨⟨.none, he⟩, hit, Nat.succ_ne_self _⟩, fun b hb => ?_, q⟩
    have e' : b = s1.heap.objs.size + 1 ∨ b = s1.heap.objs.size := by simpa using hb
    have hle : s1.heap.objs.size ≤ b := by
      rcases e' with y | y
      · rw [y]; exact Nat.le_add_right _ _
      · rw [y]; exact Nat.le_refl _
    exact I1.fpOk hle (I1.hok.fresh hle)
theorem walk_enumT {z : Str} : Walk (Itx z) z.cps.size (fun _ => True) (fun i H v H' => ∃ T c, v = .ref T ∧ H T = none ∧ z.cps[i]? = some c ∧ H' = upd H T (.tup [.int (i : Nat), .str ⟨#[c]⟩])) :=
  ⟨fun _ _ hi _ => hi, fun _ _ => rfl, fun _ _ _ _ _ _ y => y⟩
/-! ### == and != by an own __eq__ -/
section
variable {X : Cx} {n : Nat}
/-- what == asks: x an instance of the class at C, y of a type that is not below C, the promise of the own __eq__ with a truth value -/
def rOEq (K : PySem.W.Frag) (C : Addr) (sp : Sp) (f : Bool → Bool) : R2 := fun x y H Q => ∃ a dx fs t, x = .ref a ∧ H a = some (.ins C dx fs) ∧ TyX K H y t ∧ PySem.W.notFirst K C t = true ∧
  sp [.ref a, y] H (fun z H' => ∃ b, z = .bl b ∧ Q (.bl (f b)) H') fun _ _ _ => False
theorem fn_call {CX : CXT} {g : Addr} {fd : FuncData} {ps : List Str} {sp : Sp} (Fo : FnOk X.prog X.w X.K X.mg X.base CX n g fd ps sp) (hb : Binds X.K fd ps []) (hx : Passes CX X fun _ _ _ => False)
    {A : Around} {pins : List (Addr × Obj)} {s : Shared} {σ : L2.St} {H : Hp} {vs : List V} {us : List Value} {Q : VK} (hr : Room n A) (hfr : A.frames = X.A.frames) (I : Inv X pins σ H s) (rv : Vals vs us) (h : sp vs H Q fun _ _ _ => False) :
    wpAny (model X.prog X.w) A (call (.ref g) us) (fun w s' => ∃ z H', Inv X pins σ H' s' ∧ RelV z w ∧ Q z H') X.xe s := by
  have e0 : Env0 X.prog X.w X.K X.mg X.base A X.stack s H := by
    have e := I.env0
    exact ⟨by rw [hfr]; exact e.frames, e.mod, e.bs, e.bsz, e.funs, e.frf, e.hok, e.bare⟩
  have hl := Fo.len _ _ _ _ h
  have hl2 : us.length = ps.length := by rw [← rv.length]; exact hl
  refine wpAny_call (codeAny_mono (Fo.run A X.stack s H ⟨us, []⟩ us vs Q _ hr e0 (by
    have := hb s us I.kIn (by simpa using hl2)
    simpa using this) rv h) fun r s' hq => ?_)
  cases r with
  | error e => exact hx pins σ H s e s' I hq
  | ok fl =>
    cases fl with
    | ret w =>
      obtain ⟨z, H', I', rz, q⟩ := I.after hq
      exact ⟨z, H', I', rz, q⟩
    | next => exact False.elim hq
    | brk => exact False.elim hq
    | cont => exact False.elim hq
theorem op_oeq {K : PySem.W.Frag} {CX : CXT} {C g : Addr} {fd : FuncData} {ps : List Str} {sp : Sp} (hK : X.K = K) (Fo : FnOk X.prog X.w X.K X.mg X.base CX n g fd ps sp)
    (hs : PySem.W.findIn X.K (.ref C) "__eq__" = some (some (.ref g))) (hf : PySem.W.isFn X.K (.ref g) = true) (hb : Binds X.K fd ps []) (hx : Passes CX X fun _ _ _ => False) (hr : Room n X.A) : OpR X (compareOp .Eq) (rOEq K C sp id) := by
  subst hK
  intro pins s σ H x y v u Q I rx ry h
  obtain ⟨a, dx, fs, t, rfl, ha, ty, hn, q⟩ := h
  cases (show v = Value.ref a from rx)
  obtain ⟨mA, J, _⟩ := ins_get I.hok ha
  obtain ⟨od, J, _⟩ := J.look
  obtain ⟨P, Z, p, _⟩ := kit_of I ry ty
  obtain ⟨m, hF⟩ := I.fr
  show wpAny (model X.prog X.w) X.A (richCompare .Eq (.ref a) u) (EP X pins σ Q) X.xe s
  refine PySem.W.cmp_K (op := .Eq) (tb := t) hr.units0 hF I.ok.mod.kin J (Z.ty _ _ I.kIn p) hn hs hf ?_
  refine wpAny_mono (fn_call Fo hb hx hr rfl (vs := [V.ref a, y]) (us := [Value.ref a, u]) I (.cons rfl (.cons ry .nil)) q) (fun w s' z => ?_) fun _ _ x => x
  obtain ⟨z', H', I', rz, b, rfl, qz⟩ := z
  cases (show w = Value.bool b from rz)
  exact ⟨.bl b, H', I', rfl, qz⟩
theorem ifB_ne {M : Model} {A : Around} {E : Value → Shared → Prop} {s : Shared} {K : PySem.W.Frag} {x C : Addr} {ox : Obj} {od : Option Obj} {args : List Value} {Q : Option Value → Shared → Prop} (Xk : K.In s.heap) (I : PySem.W.InstAt s.heap x ox C od)
    (hs : PySem.W.findIn K (.ref C) "__ne__" = some (some (.builtin "object.__ne__")))
    (h : wpAny M A (call (.builtin "object.__ne__") (.ref x :: args)) (fun v => Q (some v)) E s) : wpAny M A (callSpecialIfBound? (.ref x) "__ne__" args) Q E s := by
  simp only [callSpecialIfBound?, bindSpecialIfBound?]
  refine wpAny_holding (wpAny_bind (wpAny_bind (wpAny_bind (I.type.here ((PySem.W.looks_findIn Xk hs).here ?_)))))
  refine wpAny_bind (wpAny_askSetting (wpAny_ite ?_))
  have fin : wpAny M A (call (.builtin "object.__ne__") ([.ref x] ++ args) >>= fun v => pure (some v)) Q E s := wpAny_bind (wpAny_mono h (fun v s' h' => wpAny_pure h') fun _ _ h' => h')
  split
  · exact wpAny_bind (wpAny_of_eq (F.cmp_object.ne.bind _) (wpAny_pure (by exact fin)))
  · exact wpAny_tryCatch (wpAny_bind (wpAny_of_eq (F.cmp_object.ne.bind _) (wpAny_pure (by exact fin))))
theorem ne_entry {prog : Program} {w : World} {A : Around} {E : Value → Shared → Prop} {s : Shared} {K : PySem.W.Frag} {x C g : Addr} {b : Value} {ox : Obj} {od : Option Obj} {Q : Fin → Shared → Prop} (hu : A.units < cLine) (Xk : K.In s.heap) (I : PySem.W.InstAt s.heap x ox C od)
    (hs : PySem.W.findIn K (.ref C) "__eq__" = some (some (.ref g))) (hf : PySem.W.isFn K (.ref g) = true)
    (hcall : wpAny (model prog w) A (call (.ref g) [.ref x, b]) (fun v s' => ∃ r, v = .bool r ∧ Q (.done (.ret (.bool (!r)))) s') E s) :
    wpAny (model prog w) A (Builtin.«object.__ne__» ⟨[.ref x, b], []⟩) Q E s := by
  unfold Builtin.«object.__ne__»
  repeat (first
    | with_reducible refine wpAny_cRoomFor hu ?_
    | (refine wpAny_bind (m := callSpecialIfBound? (.ref x) (Str.ofString "__eq__") [b])
        (PySem.W.ifBound_K Xk I hs hf (wpAny_mono hcall (fun r s' hr => by
          obtain ⟨b, rfl, hq⟩ := hr
          repeat (first | exact hq | exact wpAny_pure hq | exact wpAny_truthy_bool hq | (refine wpAny_bind (m := truthy (.bool _)) (wpAny_truthy_bool ?_)) | wp_step)) fun _ _ e => e)))
    | wp_step)
theorem op_one {K : PySem.W.Frag} {CX : CXT} {C g : Addr} {fd : FuncData} {ps : List Str} {sp : Sp} (hK : X.K = K) (Fo : FnOk X.prog X.w X.K X.mg X.base CX n g fd ps sp) (hm : PySem.W.mroIn X.K C (.type "object") = some true)
    (hs : PySem.W.findIn X.K (.ref C) "__eq__" = some (some (.ref g))) (hne : PySem.W.findIn X.K (.ref C) "__ne__" = some (some (.builtin "object.__ne__"))) (hf : PySem.W.isFn X.K (.ref g) = true) (hb : Binds X.K fd ps []) (hx : Passes CX X fun _ _ _ => False) (hr : Room (n + 1) X.A) : OpR X (compareOp .NotEq) (rOEq K C sp not) := by
  subst hK
  intro pins s σ H x y v u Q I rx ry h
  obtain ⟨a, dx, fs, t, rfl, ha, ty, hn, q⟩ := h
  cases (show v = Value.ref a from rx)
  obtain ⟨mA, J, _⟩ := ins_get I.hok ha
  obtain ⟨od, J, _⟩ := J.look
  obtain ⟨P, Z, p, _⟩ := kit_of I ry ty
  show wpAny (model X.prog X.w) X.A (richCompare .NotEq (.ref a) u) (EP X pins σ Q) X.xe s
  have Xk := I.kIn
  have one : wpAny (model X.prog X.w) X.A (tryCompare (.ref a) "__ne__" u) (fun r s' => ∃ v, r = some v ∧ EP X pins σ Q v s') X.xe s := by
    unfold tryCompare
    refine wpAny_bind (ifB_ne Xk J hne (wpAny_call (codeAny_call_builtin F.cmp_object.ne.plain F.cmpEntry_ne (PySem.W.check_slot F.cmpKind_ne F.cmpSplit_ne (J.type.andThen (PySem.W.looks_mroIn Xk hm)) (F.cmpArgs_ne _ _) (ne_entry (hr.in1).units0 Xk J hs hf ?_)))))
    refine wpAny_mono (fn_call Fo hb hx hr.in1 rfl (vs := [V.ref a, y]) (us := [Value.ref a, u]) I (.cons rfl (.cons ry .nil)) q) (fun w s' z => ?_) fun _ _ x => x
    obtain ⟨z', H', I', rz, b, rfl, qz⟩ := z
    cases (show w = Value.bool b from rz)
    exact ⟨b, rfl, wpAny_pure ⟨_, rfl, .bl (!b), H', I', rfl, qz⟩⟩
  unfold richCompare
  simp only [oneThing_ref]
  refine wpAny_holding (wpAny_bind (wpAny_cRoomFor hr.units0 ?_))
  refine wpAny_bind (J.type.here (wpAny_bind ((Z.ty _ _ Xk p).here ?_)))
  split
  · rename_i q
    have e : PySem.W.subIn X.K t (.ref C) = some false := by
      rcases Bool.or_eq_true_iff.mp hn with e | e
      · rw [beq_iff_eq.mp e] at q; simp at q
      · exact beq_iff_eq.mp e
    refine wpAny_bind ((PySem.W.looks_subIn Xk e).here ?_)
    simp only [Bool.false_eq_true, if_false]
    refine wpAny_bind (wpAny_mono one (fun r s' z => ?_) fun _ _ e => e)
    obtain ⟨v, rfl, hq⟩ := z
    exact wpAny_pure hq
  · refine wpAny_bind (wpAny_pure ?_)
    simp only [Bool.false_eq_true, if_false]
    refine wpAny_bind (wpAny_mono one (fun r s' z => ?_) fun _ _ e => e)
    obtain ⟨v, rfl, hq⟩ := z
    exact wpAny_pure hq
end
/-! ### a chain of three comparisons -/
section
variable {X : Cx}
def tChain3 (r r' r'' : R2) (ta tb tc td : TE) : TE := fun σ H Q => ta σ H fun x H1 => tb σ H1 fun y H2 => r x y H2 fun z H3 => ∃ k, z = .bl k ∧
  (if k = true then tc σ H3 fun w' H4 => r' y w' H4 fun z2 H5 => ∃ k2, z2 = .bl k2 ∧ (if k2 = true then td σ H5 fun v' H6 => r'' w' v' H6 Q else Q (.bl false) H5) else Q (.bl false) H3)
theorem pe_chain3 {a b c d : Expr} {ta tb tc td : TE} {pos : Pos} {op op' op'' : CmpOp} {r r' r'' : R2} (ho : OpR X (compareOp op) r) (ho' : OpR X (compareOp op') r') (ho'' : OpR X (compareOp op'') r'') (ha : PE X a ta) (hb : PE X b tb) (hc : PE X c tc) (hd : PE X d td)
    (hm : lastMarks [op, op', op''] [b, c, d] = false := by with_unfolding_all rfl) : PE X (.Compare a [op, op', op''] [b, c, d] pos) (tChain3 r r' r'' ta tb tc td) := by
  refine ⟨fun pins s σ H Q I h => ?_⟩
  refine Compare_chain (thn (ha.run pins s σ H _ I h) fun v s1 ⟨x, H1, I1, r1, q1⟩ => chain_link (thn (hb.run pins s1 σ H1 _ I1 q1) fun u s2 ⟨y, H2, I2, r2, q2⟩ =>
    thn (ho pins s2 σ H2 x y v u _ I2 r1 r2 q2) fun d s3 ⟨z, H3, I3, r3, k, e, q3⟩ => ?_)) hm
  subst e
  cases r3
  refine wpAny_truthy_bool ?_
  cases k with
  | false => exact ite_ff ⟨.bl false, H3, I3, rfl, q3⟩
  | true =>
    refine ite_tt (chain_link (thn (hc.run pins s3 σ H3 _ I3 q3) fun w' s4 ⟨z', H4, I4, r4, q4⟩ => thn (ho' pins s4 σ H4 y z' u w' _ I4 r2 r4 q4) fun d5 s5 ⟨z5, H5, I5, r5, k2, e2, q5⟩ => ?_))
    subst e2
    cases r5
    refine wpAny_truthy_bool ?_
    cases k2 with
    | false => exact ite_ff ⟨.bl false, H5, I5, rfl, q5⟩
    | true => exact ite_tt (chain_last (thn (hd.run pins s5 σ H5 _ I5 q5) fun w6 s6 ⟨z6, H6, I6, r6, q6⟩ => ho'' pins s6 σ H6 z' z6 w' w6 Q I6 r4 r6 q6))
end
end Lk

set_option Elab.async false
set_option linter.all false
set_option maxRecDepth 100000
set_option maxHeartbeats 4000000
namespace Lk
open PySem PySem.Spec PyProof.Rows L2
/-! ### keys and cells, more -/
theorem keyL_x (l : List Bool) (c x y n : Nat) (h : nx l ≤ n) : keyL l (c * 2 ^ n + x) y = keyL l x y := by
  have := keyL_high l c 0 x y n (ny l) h (Nat.le_refl _)
  rw [Nat.zero_mul, Nat.zero_add] at this
  exact this
theorem keyL_y (l : List Bool) (d x y m : Nat) (h : ny l ≤ m) : keyL l x (d * 2 ^ m + y) = keyL l x y := by
  have := keyL_high l 0 d x y (nx l) m (Nat.le_refl _) h
  rw [Nat.zero_mul, Nat.zero_add] at this
  exact this
theorem key_mod (k n : Nat) (h : k < 2 ^ (n + 1)) : k / 2 ^ n % 2 * 2 ^ n + k % 2 ^ n = k := by
  rw [← mod_succ, Nat.mod_eq_of_lt h]
theorem xOf_mod (l : List Bool) (k : Nat) : xOf l (k % 2 ^ l.length) = xOf l k := by
  have := xOf_high l (k / 2 ^ l.length) (k % 2 ^ l.length)
  rw [Nat.mul_comm, Nat.div_add_mod] at this
  exact this.symm
theorem yOf_mod (l : List Bool) (k : Nat) : yOf l (k % 2 ^ l.length) = yOf l k := by
  have := yOf_high l (k / 2 ^ l.length) (k % 2 ^ l.length)
  rw [Nat.mul_comm, Nat.div_add_mod] at this
  exact this.symm
theorem keyL_cell : ∀ (l : List Bool) (k : Nat), keyL l (xOf l k) (yOf l k) = k % 2 ^ l.length
  | [], k => by
    show 0 = k % 1
    omega
  | true :: r, k => by
    show (k / 2 ^ r.length % 2 * 2 ^ nx r + xOf r k) / 2 ^ nx r % 2 * 2 ^ r.length + keyL r (k / 2 ^ r.length % 2 * 2 ^ nx r + xOf r k) (yOf r k) = k % 2 ^ (r.length + 1)
    rw [lead_bit _ (Nat.mod_lt _ (by decide)) (xOf_lt r k), keyL_x r _ _ _ _ (Nat.le_refl _), keyL_cell r k, ← mod_succ]
  | false :: r, k => by
    show (k / 2 ^ r.length % 2 * 2 ^ ny r + yOf r k) / 2 ^ ny r % 2 * 2 ^ r.length + keyL r (xOf r k) (k / 2 ^ r.length % 2 * 2 ^ ny r + yOf r k) = k % 2 ^ (r.length + 1)
    rw [lead_bit _ (Nat.mod_lt _ (by decide)) (yOf_lt r k), keyL_y r _ _ _ _ (Nat.le_refl _), keyL_cell r k, ← mod_succ]
theorem nx_drop_lt {l : List Bool} {j : Nat} (h : j < l.length) (e : l[j] = true) : nx (l.drop (j + 1)) < nx l := by
  have h1 := nx_drop l j h
  rw [if_pos e] at h1
  have h2 : nx l = nx (l.take j) + nx (l.drop j) := by rw [← nx_app, List.take_append_drop]
  omega
theorem ny_drop_lt {l : List Bool} {j : Nat} (h : j < l.length) (e : l[j] = false) : ny (l.drop (j + 1)) < ny l := by
  have h1 := ny_drop l j h
  rw [e, if_neg (by decide)] at h1
  have h2 : ny l = ny (l.take j) + ny (l.drop j) := by rw [← ny_app, List.take_append_drop]
  omega
theorem digit_x : ∀ (l : List Bool) (k j : Nat) (h : j < l.length), l[j] = true → xOf l k / 2 ^ nx (l.drop (j + 1)) % 2 = k / 2 ^ (l.length - 1 - j) % 2
  | true :: r, k, 0, _, _ => by
    show (k / 2 ^ r.length % 2 * 2 ^ nx r + xOf r k) / 2 ^ nx r % 2 = k / 2 ^ r.length % 2
    exact lead_bit _ (Nat.mod_lt _ (by decide)) (xOf_lt r k)
  | false :: r, k, 0, _, e => by cases e
  | true :: r, k, j + 1, h, e => by
    have hj : j < r.length := by simpa using h
    have e' : r[j] = true := e
    show (k / 2 ^ r.length % 2 * 2 ^ nx r + xOf r k) / 2 ^ nx (r.drop (j + 1)) % 2 = k / 2 ^ (r.length + 1 - 1 - (j + 1)) % 2
    rw [digit_high (nx_drop_lt hj e'), digit_x r k j hj e', show r.length + 1 - 1 - (j + 1) = r.length - 1 - j by omega]
  | false :: r, k, j + 1, h, e => by
    have hj : j < r.length := by simpa using h
    have e' : r[j] = true := e
    show xOf r k / 2 ^ nx (r.drop (j + 1)) % 2 = k / 2 ^ (r.length + 1 - 1 - (j + 1)) % 2
    rw [digit_x r k j hj e', show r.length + 1 - 1 - (j + 1) = r.length - 1 - j by omega]
theorem digit_y : ∀ (l : List Bool) (k j : Nat) (h : j < l.length), l[j] = false → yOf l k / 2 ^ ny (l.drop (j + 1)) % 2 = k / 2 ^ (l.length - 1 - j) % 2
  | false :: r, k, 0, _, _ => by
    show (k / 2 ^ r.length % 2 * 2 ^ ny r + yOf r k) / 2 ^ ny r % 2 = k / 2 ^ r.length % 2
    exact lead_bit _ (Nat.mod_lt _ (by decide)) (yOf_lt r k)
  | true :: r, k, 0, _, e => by cases e
  | false :: r, k, j + 1, h, e => by
    have hj : j < r.length := by simpa using h
    have e' : r[j] = false := e
    show (k / 2 ^ r.length % 2 * 2 ^ ny r + yOf r k) / 2 ^ ny (r.drop (j + 1)) % 2 = k / 2 ^ (r.length + 1 - 1 - (j + 1)) % 2
    rw [digit_high (ny_drop_lt hj e'), digit_y r k j hj e', show r.length + 1 - 1 - (j + 1) = r.length - 1 - j by omega]
  | true :: r, k, j + 1, h, e => by
    have hj : j < r.length := by simpa using h
    have e' : r[j] = false := e
    show yOf r k / 2 ^ ny (r.drop (j + 1)) % 2 = k / 2 ^ (r.length + 1 - 1 - (j + 1)) % 2
    rw [digit_y r k j hj e', show r.length + 1 - 1 - (j + 1) = r.length - 1 - j by omega]
/-! ### a sorted list of all numbers of a range -/
theorem inc_len : ∀ (ns : List Int) (a b : Int), ns.Pairwise (· < ·) → (∀ n ∈ ns, a ≤ n ∧ n < b) → (ns.length : Int) ≤ max 0 (b - a)
  | [], a, b, _, _ => by simp; omega
  | n :: r, a, b, hp, hr => by
    obtain ⟨h1, h2⟩ := List.pairwise_cons.mp hp
    have hn := hr n List.mem_cons_self
    have ih := inc_len r (n + 1) b h2 fun m hm => ⟨h1 m hm, (hr m (List.mem_cons_of_mem _ hm)).2⟩
    rw [List.length_cons]
    omega
theorem inc_all : ∀ (ns : List Int) (a : Int) (k : Nat), ns.Pairwise (· < ·) → (∀ n ∈ ns, a ≤ n ∧ n < a + k) → ns.length = k → ns = (List.range k).map fun i => a + ((i : Nat) : Int)
  | [], a, k, _, _, h => by
    subst h
    rfl
  | n :: r, a, k, hp, hr, h => by
    obtain ⟨h1, h2⟩ := List.pairwise_cons.mp hp
    have hn := hr n List.mem_cons_self
    have hr2 : ∀ m ∈ r, n + 1 ≤ m ∧ m < a + k := fun m hm => ⟨h1 m hm, (hr m (List.mem_cons_of_mem _ hm)).2⟩
    have il := inc_len r (n + 1) (a + k) h2 hr2
    rw [List.length_cons] at h
    obtain ⟨k, rfl⟩ : ∃ k', k = k' + 1 := ⟨r.length, h.symm⟩
    have en : n = a := by omega
    subst en
    rw [List.range_succ_eq_map, List.map_cons, List.map_map, inc_all r (n + 1) k h2 (fun m hm => ⟨(hr2 m hm).1, by have := (hr2 m hm).2; omega⟩) (by omega)]
    congr 1
    · omega
    · apply List.map_congr_left
      intro i _
      show n + 1 + ((i : Nat) : Int) = n + ((i + 1 : Nat) : Int)
      omega
theorem sorted_all {ns ms : List Int} {k : Nat} (hp : ns.Perm ms) (hs : ns.Pairwise (· ≤ ·)) (hd : ms.Nodup) (hb : ∀ n ∈ ms, 0 ≤ n ∧ n < (k : Int)) (hl : ms.length = k) : ns = (List.range k).map fun i => ((i : Nat) : Int) := by
  have nd : ns.Nodup := hp.nodup_iff.mpr hd
  have lt : ns.Pairwise (· < ·) := (hs.and nd).imp fun {a b} h => by have h1 := h.1; have h2 : a ≠ b := h.2; omega
  have := inc_all ns 0 k lt (fun n hn => by have := hb n (hp.mem_iff.mp hn); omega) (hp.length_eq.trans hl)
  rw [this]
  apply List.map_congr_left
  intro i _
  omega
/-- the keys of the cells, column after column -/
def keyAt (l : List Bool) (c : Nat) : Int := ((keyL l (c / 2 ^ ny l) (c % 2 ^ ny l) : Nat) : Int)
theorem keyAt_inj {l : List Bool} {c d : Nat} (hc : c < 2 ^ nx l * 2 ^ ny l) (hd : d < 2 ^ nx l * 2 ^ ny l) (h : keyAt l c = keyAt l d) : c = d := by
  have e : keyL l (c / 2 ^ ny l) (c % 2 ^ ny l) = keyL l (d / 2 ^ ny l) (d % 2 ^ ny l) := Int.ofNat.inj h
  have ex := congrArg (xOf l) e
  have ey := congrArg (yOf l) e
  rw [xOf_key, xOf_key] at ex
  rw [yOf_key, yOf_key] at ey
  have px := two_pos (ny l)
  have bc : c / 2 ^ ny l < 2 ^ nx l := Nat.div_lt_of_lt_mul (by rw [Nat.mul_comm]; exact hc)
  have bd : d / 2 ^ ny l < 2 ^ nx l := Nat.div_lt_of_lt_mul (by rw [Nat.mul_comm]; exact hd)
  rw [Nat.mod_eq_of_lt bc, Nat.mod_eq_of_lt bd] at ex
  rw [Nat.mod_mod, Nat.mod_mod] at ey
  rw [← Nat.div_add_mod c (2 ^ ny l), ← Nat.div_add_mod d (2 ^ ny l), ex, ey]
theorem keys_nodup (l : List Bool) : ((List.range (2 ^ nx l * 2 ^ ny l)).map (keyAt l)).Nodup := by
  refine List.pairwise_map.mpr ?_
  refine List.Pairwise.imp_of_mem (R := (· ≠ ·)) (fun {a b} ha hb hne h => hne (keyAt_inj (List.mem_range.mp ha) (List.mem_range.mp hb) h)) List.nodup_range
theorem keys_bound (l : List Bool) : ∀ n ∈ (List.range (2 ^ nx l * 2 ^ ny l)).map (keyAt l), 0 ≤ n ∧ n < ((2 ^ nx l * 2 ^ ny l : Nat) : Int) := by
  intro n hn
  obtain ⟨c, _, rfl⟩ := List.mem_map.mp hn
  have := keyL_lt l (c / 2 ^ ny l) (c % 2 ^ ny l)
  rw [← Nat.pow_add, nxy]
  unfold keyAt
  omega
theorem keys_step (l : List Bool) (x : Nat) : (List.range (x * 2 ^ ny l)).map (keyAt l) ++ (List.range (2 ^ ny l)).map (fun y => ((keyL l x y : Nat) : Int)) = (List.range ((x + 1) * 2 ^ ny l)).map (keyAt l) := by
  rw [Nat.succ_mul, List.range_add, List.map_append, List.map_map]
  congr 1
  apply List.map_congr_left
  intro y hy
  have hy := List.mem_range.mp hy
  show _ = ((keyL l ((x * 2 ^ ny l + y) / 2 ^ ny l) ((x * 2 ^ ny l + y) % 2 ^ ny l) : Nat) : Int)
  rw [Nat.mul_comm x, Nat.mul_add_div (two_pos _), Nat.div_eq_of_lt hy, Nat.mul_add_mod, Nat.mod_eq_of_lt hy, Nat.add_zero]
/-! ### a word backwards -/
theorem wS_rev (l : List Bool) : (⟨(wS l).cps.reverse⟩ : Str) = wS l.reverse := by
  show (⟨(l.map sg).toArray.reverse⟩ : Str) = ⟨(l.reverse.map sg).toArray⟩
  rw [List.map_reverse, List.reverse_toArray]
theorem good_rev {l : List Bool} (g : GoodW l) : GoodW l.reverse := ⟨fun h => g.1 (List.reverse_eq_nil_iff.mp h), by unfold nx; rw [List.count_reverse]; exact g.2.1, by unfold ny; rw [List.count_reverse]; exact g.2.2⟩
theorem rev_at (l : List Bool) {i : Nat} (h : i < l.length) : (wS l.reverse).cps[i]? = some (sg (l[l.length - 1 - i]'(by omega))) := by
  rw [wS_at _ _ (by rw [List.length_reverse]; exact h), List.getElem_reverse]
theorem wS_dec (a b : List Bool) : decide (V.str (wS a) = V.str (wS b)) = decide (a = b) := by
  by_cases h : a = b
  · rw [decide_eq_true h, h]
    exact decide_eq_true rfl
  · rw [decide_eq_false h]
    exact decide_eq_false fun e => h (wS_inj (V.str.inj e))
/-! ### heaps, more -/
@[elab_as_elim] theorem to_any2 {p : Hp → Prop} {H H' : Hp} (q : Hp → Prop) (e : Same H H') (h : q H') (k : ∀ H2, Same H H2 → q H2 → p H2) : p H' := k H' e h
theorem But.mut {r D : Addr} {H H' : Hp} {o : HO} (b : But r H H') (hD : H D = none) : But r H (L2.upd H' D o) := fun c x nc hc => by
  rw [L2.upd_ne (ne_of_none hc hD)]
  exact b c x nc hc
theorem Reel.mut {r D : Addr} {H : Hp} {n : Nat} {o : HO} (R : Reel H r n) (h : D ≠ r) : Reel (upd H D o) r n := by
  obtain ⟨a, b, c, h1, h2⟩ := R
  exact ⟨a, b, c, by rw [upd_ne h.symm]; exact h1, h2⟩
def CellsAt (r : Addr) (l : List Bool) (H : Hp) (ts : List Addr) : Prop := ∀ t ∈ ts, t ≠ r ∧ ∃ X Y : Nat, X < 2 ^ nx l ∧ Y < 2 ^ ny l ∧ H t = some (.tup [.int X, .int Y])
theorem CellsAt.but {r : Addr} {l : List Bool} {H H' : Hp} {ts : List Addr} (b : But r H H') (h : CellsAt r l H ts) : CellsAt r l H' ts := fun t ht => by
  obtain ⟨h1, X, Y, hX, hY, k⟩ := h t ht
  exact ⟨h1, X, Y, hX, hY, b _ _ h1 k⟩
theorem CellsAt.mut {r D : Addr} {l : List Bool} {H : Hp} {ts : List Addr} {o : HO} (h : CellsAt r l H ts) (n : ∀ t ∈ ts, t ≠ D) : CellsAt r l (upd H D o) ts := fun t ht => by
  obtain ⟨h1, X, Y, hX, hY, k⟩ := h t ht
  exact ⟨h1, X, Y, hX, hY, by rw [upd_ne (n t ht)]; exact k⟩
theorem CellsAt.nil {r : Addr} {l : List Bool} {H : Hp} : CellsAt r l H [] := fun t ht => absurd ht List.not_mem_nil
theorem CellsAt.cons {r t : Addr} {l : List Bool} {H : Hp} {ts : List Addr} {X Y : Nat} (n : t ≠ r) (hX : X < 2 ^ nx l) (hY : Y < 2 ^ ny l) (k : H t = some (.tup [.int X, .int Y])) (h : CellsAt r l H ts) : CellsAt r l H (t :: ts) := fun u hu => by
  rcases List.mem_cons.mp hu with e | e
  · rw [e]
    exact ⟨n, X, Y, hX, hY, k⟩
  · exact h u e
theorem CellsAt.app {r : Addr} {l : List Bool} {H : Hp} {ts us : List Addr} (h : CellsAt r l H ts) (h' : CellsAt r l H us) : CellsAt r l H (ts ++ us) := fun u hu => by
  rcases List.mem_append.mp hu with e | e
  · exact h u e
  · exact h' u e
/-! ### built-in types and own classes -/
theorem sub_bt {K : PySem.W.Frag} {T : String} {C : Addr} (h : T ∈ ["NoneType", "str", "int", "list", "tuple"]) : PySem.W.subIn K (.type T) (.ref C) = some false := by
  have key : ∀ T ∈ ["NoneType", "str", "int", "list", "tuple"], ∃ l : List Value, fastBuiltinMro T = some l ∧ ∀ v ∈ l, ∃ t, v = Value.type t := by
    intro T hT
    simp only [List.mem_cons, List.not_mem_nil, or_false] at hT
    rcases hT with rfl | rfl | rfl | rfl | rfl
    · exact ⟨[.type "NoneType", .type "object"], by decide +kernel, by simp⟩
    · exact ⟨[.type "str", .type "object"], by decide +kernel, by simp⟩
    · exact ⟨[.type "int", .type "object"], by decide +kernel, by simp⟩
    · exact ⟨[.type "list", .type "object"], by decide +kernel, by simp⟩
    · exact ⟨[.type "tuple", .type "object"], by decide +kernel, by simp⟩
  obtain ⟨l, e, hl⟩ := key T h
  show (fastBuiltinMro T).map (·.contains (.ref C)) = some false
  rw [e]
  show some (l.contains (.ref C)) = some false
  congr 1
  rw [Bool.eq_false_iff]
  intro hc
  rw [List.contains_iff_exists_mem_beq] at hc
  obtain ⟨v, hv, e⟩ := hc
  obtain ⟨t, rfl⟩ := hl v hv
  have := eq_of_beq e
  cases this
theorem nf_bt {K : PySem.W.Frag} {T : String} {C : Addr} (h : T ∈ ["NoneType", "str", "int", "list", "tuple"]) : PySem.W.notFirst K C (.type T) = true := by
  unfold PySem.W.notFirst
  rw [sub_bt h]
  simp
theorem kit_bt {K : PySem.W.Frag} {T : String} {C : Addr} (h : T ∈ ["NoneType", "str", "int", "list", "tuple"]) (c : Cls K C) (tc : PySem.W.typeIn K (.ref C) = some (.type "type")) : PySem.W.kitOne K (.type T) (.ref C) = some false := by
  obtain ⟨cd, hc, _⟩ := PySem.W.any_some c.hd
  unfold PySem.W.kitOne
  rw [if_neg (by simp)]
  show (if ((PySem.W.clsIn K C).isSome && PySem.W.typeIn K (.ref C) == some (.type "type")) = true then PySem.W.subIn K (.type T) (.ref C) else none) = some false
  rw [if_pos (by rw [hc, tc]; simp), sub_bt h]
/-! ### lists of numbers as data -/
theorem dp_ints {K : PySem.W.Frag} {H : Hp} : ∀ ns : List Int, DpAll K H (ns.map V.int) (ns.map PyData.int)
  | [] => .nil
  | n :: r => .cons (.int n) (dp_ints r)
theorem shaped_ints (ns : List Int) (h : ∀ n ∈ ns, n.natAbs < 2 ^ 1000) : SeqAt.shaped (.list (ns.map PyData.int)) = true := shaped_list fun d hd => by
  obtain ⟨n, hn, rfl⟩ := List.mem_map.mp hd
  exact h n hn
theorem rgV_nat (N : Nat) : rgV 0 (N : Int) = ((List.range N).map fun i => ((i : Nat) : Int)).map V.int := by
  unfold rgV
  rw [List.map_map, show ((N : Int) - 0).toNat = N by omega]
  apply List.map_congr_left
  intro i _
  show V.int (0 + ((i : Nat) : Int)) = V.int ((i : Nat) : Int)
  rw [Int.zero_add]
end Lk

set_option Elab.async false
set_option linter.all false
set_option maxRecDepth 100000
set_option maxHeartbeats 4000000
namespace Lk
open PySem PySem.Spec PyProof.Rows L2
/-! ### counting multiples -/
def cmI (d : Nat) (lo hi : Int) : Int := if hi < lo then 0 else hi / 2 ^ d - (lo - 1) / 2 ^ d
def bordI (d : Nat) (lo hi : Int) : Int := cmI d (lo + 1) hi - cmI (d + 1) (lo + 1) hi
def spanI (d : Nat) (lo hi : Int) : Int := cmI d lo (hi - 2 ^ d + 1)
theorem step_div (M : Int) (hM : 0 < M) (z : Int) : z / M - (z - 1) / M = if z % M = 0 then 1 else 0 := by
  have h1 := Int.mul_ediv_add_emod z M
  have h2 := Int.emod_nonneg z (Int.ne_of_gt hM)
  have h3 := Int.emod_lt_of_pos z hM
  by_cases h : z % M = 0
  · rw [if_pos h]
    have := ((Int.ediv_emod_unique (a := z - 1) (r := M - 1) (q := z / M - 1) hM).mpr ⟨by rw [Int.mul_sub, Int.mul_one]; omega, by omega, by omega⟩).1
    rw [this]
    omega
  · rw [if_neg h]
    have := ((Int.ediv_emod_unique (a := z - 1) (r := z % M - 1) (q := z / M) hM).mpr ⟨by omega, by omega, by omega⟩).1
    rw [this]
    omega
def mlt (d lo n : Nat) : Nat := (List.range n).countP fun k => decide ((lo + k) % 2 ^ d = 0)
theorem mlt_eq (d lo : Nat) : ∀ n : Nat, ((mlt d lo n : Nat) : Int) = ((lo : Int) + (n : Int) - 1) / 2 ^ d - ((lo : Int) - 1) / 2 ^ d
  | 0 => by
    show (0 : Int) = _
    rw [show (lo : Int) + ((0 : Nat) : Int) - 1 = (lo : Int) - 1 by omega, Int.sub_self]
  | n + 1 => by
    have ih := mlt_eq d lo n
    have pos : (0 : Int) < 2 ^ d := Int.pow_pos (by decide)
    have st := step_div (2 ^ d) pos ((lo : Int) + (n : Int))
    have em : ((lo : Int) + (n : Int)) % 2 ^ d = (((lo + n) % 2 ^ d : Nat) : Int) := by
      rw [Int.natCast_emod, Int.natCast_add, Int.natCast_pow]
      rfl
    unfold mlt at ih ⊢
    rw [List.range_succ, List.countP_append, Int.natCast_add, ih, List.countP_singleton]
    rw [show (lo : Int) + ((n + 1 : Nat) : Int) - 1 = (lo : Int) + (n : Int) by omega]
    by_cases h : (lo + n) % 2 ^ d = 0
    · rw [if_pos (by rw [em, h]; rfl)] at st
      rw [if_pos (decide_eq_true h)]
      omega
    · rw [if_neg (by rw [em]; omega)] at st
      rw [if_neg (by rw [decide_eq_false h]; decide)]
      omega
theorem cm_mlt (d lo n : Nat) : cmI d lo ((lo : Int) + (n : Int) - 1) = ((mlt d lo n : Nat) : Int) := by
  unfold cmI
  by_cases h : (lo : Int) + (n : Int) - 1 < (lo : Int)
  · rw [if_pos h]
    have : n = 0 := by omega
    subst this
    rfl
  · rw [if_neg h, mlt_eq]
/-- odd multiples of 2 ^ d -/
theorem odd_iff (z d : Nat) : z % 2 ^ (d + 1) = 2 ^ d ↔ z % 2 ^ d = 0 ∧ z / 2 ^ d % 2 = 1 := by
  rw [mod_succ]
  have h1 := Nat.mod_lt z (two_pos d)
  have h2 := Nat.mod_lt (z / 2 ^ d) (show 0 < 2 by decide)
  have p := two_pos d
  rcases (show z / 2 ^ d % 2 = 0 ∨ z / 2 ^ d % 2 = 1 by omega) with e | e
  · rw [e, Nat.zero_mul, Nat.zero_add]
    omega
  · rw [e, Nat.one_mul]
    omega
theorem even_iff (z d : Nat) : z % 2 ^ (d + 1) = 0 ↔ z % 2 ^ d = 0 ∧ z / 2 ^ d % 2 = 0 := by
  rw [mod_succ]
  have h1 := Nat.mod_lt z (two_pos d)
  have h2 := Nat.mod_lt (z / 2 ^ d) (show 0 < 2 by decide)
  have p := two_pos d
  rcases (show z / 2 ^ d % 2 = 0 ∨ z / 2 ^ d % 2 = 1 by omega) with e | e
  · rw [e, Nat.zero_mul, Nat.zero_add]
    omega
  · rw [e, Nat.one_mul]
    omega
def oddm (d lo n : Nat) : Nat := (List.range n).countP fun k => decide ((lo + k) % 2 ^ (d + 1) = 2 ^ d)
theorem oddm_eq (d lo : Nat) : ∀ n, oddm d lo n + mlt (d + 1) lo n = mlt d lo n
  | 0 => rfl
  | n + 1 => by
    have ih := oddm_eq d lo n
    unfold oddm mlt at ih ⊢
    rw [List.range_succ, List.countP_append, List.countP_append, List.countP_append, ← ih, List.countP_singleton, List.countP_singleton, List.countP_singleton]
    have h1 := odd_iff (lo + n) d
    have h2 := even_iff (lo + n) d
    have h3 := Nat.mod_lt ((lo + n) / 2 ^ d) (show 0 < 2 by decide)
    by_cases a : (lo + n) % 2 ^ d = 0
    · by_cases b : (lo + n) / 2 ^ d % 2 = 1
      · have c1 := h1.mpr ⟨a, b⟩
        have c2 : ¬ (lo + n) % 2 ^ (d + 1) = 0 := fun z => by have := (h2.mp z).2; omega
        rw [decide_eq_true a, decide_eq_true c1, decide_eq_false c2]
        simp
        omega
      · have c1 : ¬ (lo + n) % 2 ^ (d + 1) = 2 ^ d := fun z => b (h1.mp z).2
        have c2 := h2.mpr ⟨a, by omega⟩
        rw [decide_eq_true a, decide_eq_false c1, decide_eq_true c2]
        simp
        omega
    · have c1 : ¬ (lo + n) % 2 ^ (d + 1) = 2 ^ d := fun z => a (h1.mp z).1
      have c2 : ¬ (lo + n) % 2 ^ (d + 1) = 0 := fun z => a (h2.mp z).1
      rw [decide_eq_false a, decide_eq_false c1, decide_eq_false c2]
      simp
theorem bord_eq {x1 x2 : Nat} (d : Nat) (h : x1 ≤ x2) : bordI d x1 x2 = ((oddm d (x1 + 1) (x2 - x1) : Nat) : Int) := by
  unfold bordI
  have e1 := cm_mlt d (x1 + 1) (x2 - x1)
  have e2 := cm_mlt (d + 1) (x1 + 1) (x2 - x1)
  have e3 : (((x1 + 1 : Nat) : Int)) + ((x2 - x1 : Nat) : Int) - 1 = (x2 : Int) := by omega
  rw [e3] at e1 e2
  have e4 : ((x1 + 1 : Nat) : Int) = (x1 : Int) + 1 := rfl
  rw [e4] at e1 e2
  rw [e1, e2]
  have := oddm_eq d (x1 + 1) (x2 - x1)
  omega
/-- how many y of y1 .. y2 are multiples of 2 ^ d with y + 2 ^ d ≤ y2 + 1 -/
def full (d y1 y2 : Nat) : Nat := (List.range (y2 + 1 - y1)).countP fun k => decide ((y1 + k) % 2 ^ d = 0) && decide (y1 + k + 2 ^ d ≤ y2 + 1)
theorem countP_none {p : Nat → Bool} : ∀ l : List Nat, (∀ x ∈ l, p x = false) → l.countP p = 0 := fun l h => by
  rw [List.countP_eq_zero]
  intro x hx
  rw [h x hx]
  decide
theorem span_eq {y1 y2 : Nat} (d : Nat) (h : y1 ≤ y2) : spanI d y1 y2 = ((full d y1 y2 : Nat) : Int) := by
  unfold spanI full
  have p := two_pos d
  have cp : ((2 : Int) ^ d) = ((2 ^ d : Nat) : Int) := by rw [Int.natCast_pow]; rfl
  by_cases hc : y1 + 2 ^ d ≤ y2 + 1
  · obtain ⟨n, hn⟩ : ∃ n, n = y2 + 1 - 2 ^ d + 1 - y1 := ⟨_, rfl⟩
    obtain ⟨m, hm⟩ : ∃ m, y2 + 1 - y1 = n + m := ⟨y2 + 1 - y1 - n, by omega⟩
    have e1 := cm_mlt d y1 n
    rw [show (y1 : Int) + (n : Int) - 1 = (y2 : Int) - 2 ^ d + 1 by rw [cp]; omega] at e1
    rw [e1, hm, List.range_add, List.countP_append, List.countP_map]
    rw [countP_none (List.range m) (p := _ ∘ _) (fun x hx => by
      show (decide ((y1 + (n + x)) % 2 ^ d = 0) && decide (y1 + (n + x) + 2 ^ d ≤ y2 + 1)) = false
      rw [decide_eq_false (p := y1 + (n + x) + 2 ^ d ≤ y2 + 1) (by omega), Bool.and_false])]
    unfold mlt
    rw [Nat.add_zero]
    congr 1
    apply List.countP_congr
    intro x hx
    have := List.mem_range.mp hx
    rw [decide_eq_true (p := y1 + x + 2 ^ d ≤ y2 + 1) (by omega), Bool.and_true]
  · have : cmI d y1 ((y2 : Int) - 2 ^ d + 1) = 0 := by
      unfold cmI
      rw [if_pos (by rw [cp]; omega)]
    rw [this, countP_none]
    · rfl
    · intro x _
      rw [decide_eq_false (p := y1 + x + 2 ^ d ≤ y2 + 1) (by omega), Bool.and_false]
end Lk

set_option Elab.async false
set_option linter.all false
set_option maxRecDepth 100000
set_option maxHeartbeats 4000000
namespace Lk
open PySem PySem.Spec PyProof.Rows L2
/-! ### a key and the one before it -/
theorem keyL_zero : ∀ l : List Bool, keyL l 0 0 = 0
  | [] => rfl
  | true :: r => by
    show 0 / 2 ^ nx r % 2 * 2 ^ r.length + keyL r 0 0 = 0
    rw [keyL_zero r, Nat.zero_div, Nat.zero_mod, Nat.zero_mul]
  | false :: r => by
    show 0 / 2 ^ ny r % 2 * 2 ^ r.length + keyL r 0 0 = 0
    rw [keyL_zero r, Nat.zero_div, Nat.zero_mod, Nat.zero_mul]
theorem pow_split (n : Nat) : 2 ^ (n + 1) - 1 = 1 * 2 ^ n + (2 ^ n - 1) := by
  have := two_pos n
  rw [Nat.pow_succ]
  omega
theorem keyL_ones : ∀ l : List Bool, keyL l (2 ^ nx l - 1) (2 ^ ny l - 1) + 1 = 2 ^ l.length
  | [] => rfl
  | true :: r => by
    have p := two_pos (nx r)
    have ih := keyL_ones r
    rw [nx_t, ny_t, pow_split]
    show (1 * 2 ^ nx r + (2 ^ nx r - 1)) / 2 ^ nx r % 2 * 2 ^ r.length + keyL r (1 * 2 ^ nx r + (2 ^ nx r - 1)) (2 ^ ny r - 1) + 1 = 2 ^ (r.length + 1)
    rw [lead_bit _ (by decide) (by omega), keyL_x r _ _ _ _ (Nat.le_refl _), Nat.pow_succ]
    omega
  | false :: r => by
    have p := two_pos (ny r)
    have ih := keyL_ones r
    rw [nx_f, ny_f, pow_split]
    show (1 * 2 ^ ny r + (2 ^ ny r - 1)) / 2 ^ ny r % 2 * 2 ^ r.length + keyL r (2 ^ nx r - 1) (1 * 2 ^ ny r + (2 ^ ny r - 1)) + 1 = 2 ^ (r.length + 1)
    rw [lead_bit _ (by decide) (by omega), keyL_y r _ _ _ _ (Nat.le_refl _), Nat.pow_succ]
    omega
theorem xOf_zero : ∀ l : List Bool, xOf l 0 = 0
  | [] => rfl
  | true :: r => by
    show 0 / 2 ^ r.length % 2 * 2 ^ nx r + xOf r 0 = 0
    rw [xOf_zero r, Nat.zero_div, Nat.zero_mod, Nat.zero_mul]
  | false :: r => xOf_zero r
theorem yOf_zero : ∀ l : List Bool, yOf l 0 = 0
  | [] => rfl
  | true :: r => yOf_zero r
  | false :: r => by
    show 0 / 2 ^ r.length % 2 * 2 ^ ny r + yOf r 0 = 0
    rw [yOf_zero r, Nat.zero_div, Nat.zero_mod, Nat.zero_mul]
/-- an odd multiple of 2 ^ i and the number before it -/
theorem odd_pre {x i : Nat} (h : x % 2 ^ (i + 1) = 2 ^ i) : 1 ≤ x ∧ x % 2 ^ i = 0 ∧ x / 2 ^ i % 2 = 1 ∧ (x - 1) / 2 ^ (i + 1) = x / 2 ^ (i + 1) ∧ (x - 1) / 2 ^ i % 2 = 0 ∧ (x - 1) % 2 ^ i = 2 ^ i - 1 := by
  have p := two_pos i
  obtain ⟨a, b⟩ := (odd_iff x i).mp h
  have e1 := Nat.div_add_mod x (2 ^ (i + 1))
  rw [h] at e1
  obtain ⟨q, hq⟩ : ∃ q, q = x / 2 ^ (i + 1) := ⟨_, rfl⟩
  rw [← hq] at e1
  have e2 : x - 1 = (2 * q) * 2 ^ i + (2 ^ i - 1) := by
    rw [← e1, Nat.pow_succ, Nat.mul_comm (2 ^ i) 2, Nat.mul_assoc, Nat.mul_comm (2 ^ i) q, ← Nat.mul_assoc]
    omega
  have e3 : x - 1 = 2 ^ (i + 1) * q + (2 ^ i - 1) := by omega
  have lt1 : 2 ^ i - 1 < 2 ^ i := by omega
  have lt2 : 2 ^ i - 1 < 2 ^ (i + 1) := by rw [Nat.pow_succ]; omega
  refine ⟨by omega, a, b, ?_, ?_, ?_⟩
  · rw [← hq, e3, Nat.mul_add_div (two_pos _), Nat.div_eq_of_lt lt2, Nat.add_zero]
  · rw [e2, Nat.mul_comm _ (2 ^ i), Nat.mul_add_div p, Nat.div_eq_of_lt lt1, Nat.add_zero, Nat.mul_mod_right]
  · rw [e2, Nat.mul_comm _ (2 ^ i), Nat.mul_add_mod, Nat.mod_eq_of_lt lt1]
theorem mul_post {y j : Nat} (h : y % 2 ^ j = 0) : (y + 2 ^ j - 1) / 2 ^ j = y / 2 ^ j ∧ (y + 2 ^ j - 1) % 2 ^ j = 2 ^ j - 1 := by
  have p := two_pos j
  have e1 := Nat.div_add_mod y (2 ^ j)
  rw [h, Nat.add_zero] at e1
  obtain ⟨q, hq⟩ : ∃ q, q = y / 2 ^ j := ⟨_, rfl⟩
  rw [← hq] at e1 ⊢
  have e2 : y + 2 ^ j - 1 = 2 ^ j * q + (2 ^ j - 1) := by omega
  have lt1 : 2 ^ j - 1 < 2 ^ j := by omega
  rw [e2]
  exact ⟨by rw [Nat.mul_add_div p, Nat.div_eq_of_lt lt1, Nat.add_zero], by rw [Nat.mul_add_mod, Nat.mod_eq_of_lt lt1]⟩
theorem pre_x (pre suf : List Bool) {x y : Nat} (hx : x % 2 ^ (nx suf + 1) = 2 ^ nx suf) (hy : y % 2 ^ ny suf = 0) :
    keyL (pre ++ true :: suf) x y % 2 ^ (suf.length + 1) = 2 ^ suf.length ∧ keyL (pre ++ true :: suf) (x - 1) (y + 2 ^ ny suf - 1) + 1 = keyL (pre ++ true :: suf) x y := by
  obtain ⟨h1, h2, h3, h4, h5, h6⟩ := odd_pre hx
  obtain ⟨k1, k2⟩ := mul_post hy
  have p := two_pos suf.length
  have ones := keyL_ones suf
  have a1 : keyL (true :: suf) x y = 2 ^ suf.length := by
    show x / 2 ^ nx suf % 2 * 2 ^ suf.length + keyL suf x y = _
    rw [h3, keyL_mod suf x y, h2, hy, keyL_zero, Nat.one_mul, Nat.add_zero]
  have a2 : keyL (true :: suf) (x - 1) (y + 2 ^ ny suf - 1) + 1 = 2 ^ suf.length := by
    show (x - 1) / 2 ^ nx suf % 2 * 2 ^ suf.length + keyL suf (x - 1) (y + 2 ^ ny suf - 1) + 1 = _
    rw [h5, keyL_mod suf (x - 1), h6, k2, Nat.zero_mul, Nat.zero_add]
    exact ones
  have len : (true :: suf).length = suf.length + 1 := rfl
  rw [keyL_app, keyL_app, nx_t, ny_t, h4, k1, len, a1]
  refine ⟨?_, by omega⟩
  rw [Nat.mul_comm, Nat.mul_add_mod, Nat.mod_eq_of_lt (by rw [Nat.pow_succ]; omega)]
theorem rank_x (pre suf : List Bool) {x y : Nat} (h : keyL (pre ++ true :: suf) x y % 2 ^ (suf.length + 1) = 2 ^ suf.length) : x % 2 ^ (nx suf + 1) = 2 ^ nx suf ∧ y % 2 ^ ny suf = 0 := by
  have p := two_pos suf.length
  have len : (true :: suf).length = suf.length + 1 := rfl
  have lt := keyL_lt (true :: suf) x y
  rw [len] at lt
  rw [keyL_app, len, Nat.mul_comm, Nat.mul_add_mod, Nat.mod_eq_of_lt lt] at h
  have h : x / 2 ^ nx suf % 2 * 2 ^ suf.length + keyL suf x y = 2 ^ suf.length := h
  have l2 := keyL_lt suf x y
  have b2 := Nat.mod_lt (x / 2 ^ nx suf) (show 0 < 2 by decide)
  have b1 : x / 2 ^ nx suf % 2 = 1 := by
    rcases (show x / 2 ^ nx suf % 2 = 0 ∨ x / 2 ^ nx suf % 2 = 1 by omega) with e | e
    · rw [e, Nat.zero_mul] at h
      omega
    · exact e
  rw [b1, Nat.one_mul] at h
  have k0 : keyL suf x y = 0 := by omega
  have ex := xOf_key suf x y
  have ey := yOf_key suf x y
  rw [k0, xOf_zero] at ex
  rw [k0, yOf_zero] at ey
  exact ⟨(odd_iff _ _).mpr ⟨ex.symm, b1⟩, ey.symm⟩
theorem pre_y (pre suf : List Bool) {x y : Nat} (hy : y % 2 ^ (ny suf + 1) = 2 ^ ny suf) (hx : x % 2 ^ nx suf = 0) :
    keyL (pre ++ false :: suf) x y % 2 ^ (suf.length + 1) = 2 ^ suf.length ∧ keyL (pre ++ false :: suf) (x + 2 ^ nx suf - 1) (y - 1) + 1 = keyL (pre ++ false :: suf) x y := by
  obtain ⟨h1, h2, h3, h4, h5, h6⟩ := odd_pre hy
  obtain ⟨k1, k2⟩ := mul_post hx
  have p := two_pos suf.length
  have ones := keyL_ones suf
  have a1 : keyL (false :: suf) x y = 2 ^ suf.length := by
    show y / 2 ^ ny suf % 2 * 2 ^ suf.length + keyL suf x y = _
    rw [h3, keyL_mod suf x y, h2, hx, keyL_zero, Nat.one_mul, Nat.add_zero]
  have a2 : keyL (false :: suf) (x + 2 ^ nx suf - 1) (y - 1) + 1 = 2 ^ suf.length := by
    show (y - 1) / 2 ^ ny suf % 2 * 2 ^ suf.length + keyL suf (x + 2 ^ nx suf - 1) (y - 1) + 1 = _
    rw [h5, keyL_mod suf (x + 2 ^ nx suf - 1), h6, k2, Nat.zero_mul, Nat.zero_add]
    exact ones
  have len : (false :: suf).length = suf.length + 1 := rfl
  rw [keyL_app, keyL_app, nx_f, ny_f, h4, k1, len, a1]
  refine ⟨?_, by omega⟩
  rw [Nat.mul_comm, Nat.mul_add_mod, Nat.mod_eq_of_lt (by rw [Nat.pow_succ]; omega)]
theorem rank_y (pre suf : List Bool) {x y : Nat} (h : keyL (pre ++ false :: suf) x y % 2 ^ (suf.length + 1) = 2 ^ suf.length) : y % 2 ^ (ny suf + 1) = 2 ^ ny suf ∧ x % 2 ^ nx suf = 0 := by
  have p := two_pos suf.length
  have len : (false :: suf).length = suf.length + 1 := rfl
  have lt := keyL_lt (false :: suf) x y
  rw [len] at lt
  rw [keyL_app, len, Nat.mul_comm, Nat.mul_add_mod, Nat.mod_eq_of_lt lt] at h
  have h : y / 2 ^ ny suf % 2 * 2 ^ suf.length + keyL suf x y = 2 ^ suf.length := h
  have l2 := keyL_lt suf x y
  have b2 := Nat.mod_lt (y / 2 ^ ny suf) (show 0 < 2 by decide)
  have b1 : y / 2 ^ ny suf % 2 = 1 := by
    rcases (show y / 2 ^ ny suf % 2 = 0 ∨ y / 2 ^ ny suf % 2 = 1 by omega) with e | e
    · rw [e, Nat.zero_mul] at h
      omega
    · exact e
  rw [b1, Nat.one_mul] at h
  have k0 : keyL suf x y = 0 := by omega
  have ex := xOf_key suf x y
  have ey := yOf_key suf x y
  rw [k0, xOf_zero] at ex
  rw [k0, yOf_zero] at ey
  exact ⟨(odd_iff _ _).mpr ⟨ey.symm, b1⟩, ex.symm⟩
theorem key_inj {l : List Bool} {x y x' y' : Nat} (hx : x < 2 ^ nx l) (hy : y < 2 ^ ny l) (hx' : x' < 2 ^ nx l) (hy' : y' < 2 ^ ny l) (h : keyL l x y = keyL l x' y') : x = x' ∧ y = y' := by
  have ex := congrArg (xOf l) h
  have ey := congrArg (yOf l) h
  rw [xOf_key, xOf_key, Nat.mod_eq_of_lt hx, Nat.mod_eq_of_lt hx'] at ex
  rw [yOf_key, yOf_key, Nat.mod_eq_of_lt hy, Nat.mod_eq_of_lt hy'] at ey
  exact ⟨ex, ey⟩
/-- the cell (x, y)'s key has the one before it in the box -/
structure Bx (l : List Bool) (x1 y1 x2 y2 : Nat) : Prop where
  x : x1 ≤ x2
  y : y1 ≤ y2
  bx : x2 < 2 ^ nx l
  by_ : y2 < 2 ^ ny l
def InB (x1 y1 x2 y2 x y : Nat) : Prop := x1 ≤ x ∧ x ≤ x2 ∧ y1 ≤ y ∧ y ≤ y2
def HasPre (l : List Bool) (x1 y1 x2 y2 K : Nat) : Prop := ∃ x y, InB x1 y1 x2 y2 x y ∧ keyL l x y + 1 = K
theorem has_x {pre suf : List Bool} {x1 y1 x2 y2 x y : Nat} (b : Bx (pre ++ true :: suf) x1 y1 x2 y2) (i : InB x1 y1 x2 y2 x y) :
    (HasPre (pre ++ true :: suf) x1 y1 x2 y2 (keyL (pre ++ true :: suf) x y) ∧ keyL (pre ++ true :: suf) x y % 2 ^ (suf.length + 1) = 2 ^ suf.length) ↔ ((x1 + 1 ≤ x ∧ x % 2 ^ (nx suf + 1) = 2 ^ nx suf) ∧ (y % 2 ^ ny suf = 0 ∧ y + 2 ^ ny suf ≤ y2 + 1)) := by
  obtain ⟨i1, i2, i3, i4⟩ := i
  obtain ⟨b1, b2, b3, b4⟩ := b
  have p := two_pos (ny suf)
  constructor
  · rintro ⟨⟨x', y', ⟨j1, j2, j3, j4⟩, e⟩, hr⟩
    obtain ⟨hx, hy⟩ := rank_x pre suf hr
    obtain ⟨_, e2⟩ := pre_x pre suf hx hy
    have hx1 := (odd_pre hx).1
    have hyl : y + 2 ^ ny suf - 1 < 2 ^ ny (pre ++ true :: suf) := by
      have := (mul_post hy).1
      have e3 : ny (pre ++ true :: suf) = ny pre + ny suf := by rw [ny_app, ny_t]
      rw [e3, Nat.pow_add, Nat.mul_comm]
      refine (Nat.div_lt_iff_lt_mul p).mp ?_ |> fun h => by rw [Nat.mul_comm]; exact h
      rw [this]
      refine Nat.div_lt_of_lt_mul ?_
      rw [Nat.mul_comm, ← Nat.pow_add, ← e3]
      omega
    obtain ⟨z1, z2⟩ := key_inj (l := pre ++ true :: suf) (x := x') (y := y') (x' := x - 1) (y' := y + 2 ^ ny suf - 1) (by omega) (by omega) (by omega) hyl (by omega)
    omega
  · rintro ⟨⟨c1, c2⟩, c3, c4⟩
    obtain ⟨e1, e2⟩ := pre_x pre suf c2 c3
    exact ⟨⟨x - 1, y + 2 ^ ny suf - 1, ⟨by omega, by omega, by omega, by omega⟩, e2⟩, e1⟩
theorem has_y {pre suf : List Bool} {x1 y1 x2 y2 x y : Nat} (b : Bx (pre ++ false :: suf) x1 y1 x2 y2) (i : InB x1 y1 x2 y2 x y) :
    (HasPre (pre ++ false :: suf) x1 y1 x2 y2 (keyL (pre ++ false :: suf) x y) ∧ keyL (pre ++ false :: suf) x y % 2 ^ (suf.length + 1) = 2 ^ suf.length) ↔ ((x % 2 ^ nx suf = 0 ∧ x + 2 ^ nx suf ≤ x2 + 1) ∧ (y1 + 1 ≤ y ∧ y % 2 ^ (ny suf + 1) = 2 ^ ny suf)) := by
  obtain ⟨i1, i2, i3, i4⟩ := i
  obtain ⟨b1, b2, b3, b4⟩ := b
  have p := two_pos (nx suf)
  constructor
  · rintro ⟨⟨x', y', ⟨j1, j2, j3, j4⟩, e⟩, hr⟩
    obtain ⟨hy, hx⟩ := rank_y pre suf hr
    obtain ⟨_, e2⟩ := pre_y pre suf hy hx
    have hy1 := (odd_pre hy).1
    have hxl : x + 2 ^ nx suf - 1 < 2 ^ nx (pre ++ false :: suf) := by
      have := (mul_post hx).1
      have e3 : nx (pre ++ false :: suf) = nx pre + nx suf := by rw [nx_app, nx_f]
      rw [e3, Nat.pow_add, Nat.mul_comm]
      refine (Nat.div_lt_iff_lt_mul p).mp ?_ |> fun h => by rw [Nat.mul_comm]; exact h
      rw [this]
      refine Nat.div_lt_of_lt_mul ?_
      rw [Nat.mul_comm, ← Nat.pow_add, ← e3]
      omega
    obtain ⟨z1, z2⟩ := key_inj (l := pre ++ false :: suf) (x := x') (y := y') (x' := x + 2 ^ nx suf - 1) (y' := y - 1) (by omega) (by omega) hxl (by omega) (by omega)
    omega
  · rintro ⟨⟨c1, c2⟩, c3, c4⟩
    obtain ⟨e1, e2⟩ := pre_y pre suf c4 c1
    exact ⟨⟨x + 2 ^ nx suf - 1, y - 1, ⟨by omega, by omega, by omega, by omega⟩, e2⟩, e1⟩
end Lk

set_option Elab.async false
set_option linter.all false
set_option maxRecDepth 100000
set_option maxHeartbeats 4000000
namespace Lk
open PySem PySem.Spec PyProof.Rows L2
/-! ### the keys of a box -/
def boxN (l : List Bool) (x1 y1 w h : Nat) : List Nat := (List.range w).flatMap fun a => (List.range h).map fun b => keyL l (x1 + a) (y1 + b)
theorem boxN_succ (l : List Bool) (x1 y1 w h : Nat) : boxN l x1 y1 (w + 1) h = boxN l x1 y1 w h ++ (List.range h).map fun b => keyL l (x1 + w) (y1 + b) := by
  unfold boxN
  rw [List.range_succ, List.flatMap_append, List.flatMap_singleton]
theorem boxN_len (l : List Bool) (x1 y1 h : Nat) : ∀ w, (boxN l x1 y1 w h).length = w * h
  | 0 => by rw [Nat.zero_mul]; rfl
  | w + 1 => by rw [boxN_succ, List.length_append, boxN_len l x1 y1 h w, List.length_map, List.length_range, Nat.succ_mul]
theorem boxN_mem {l : List Bool} {x1 y1 w h K : Nat} : K ∈ boxN l x1 y1 w h ↔ ∃ a b, a < w ∧ b < h ∧ keyL l (x1 + a) (y1 + b) = K := by
  unfold boxN
  rw [List.mem_flatMap]
  constructor
  · rintro ⟨a, ha, h2⟩
    obtain ⟨b, hb, e⟩ := List.mem_map.mp h2
    exact ⟨a, b, List.mem_range.mp ha, List.mem_range.mp hb, e⟩
  · rintro ⟨a, b, ha, hb, e⟩
    exact ⟨a, List.mem_range.mpr ha, List.mem_map.mpr ⟨b, List.mem_range.mpr hb, e⟩⟩
/-- a count over the keys of a box, where it asks of x and of y apart -/
theorem boxN_count {l : List Bool} {x1 y1 h : Nat} {P : Nat → Bool} {px py : Nat → Bool} : ∀ w, (∀ a b, a < w → b < h → P (keyL l (x1 + a) (y1 + b)) = (px a && py b)) →
    (boxN l x1 y1 w h).countP P = (List.range w).countP px * (List.range h).countP py
  | 0, _ => by
    show 0 = 0 * _
    rw [Nat.zero_mul]
  | w + 1, hp => by
    rw [boxN_succ, List.countP_append, boxN_count w fun a b ha hb => hp a b (by omega) hb, List.range_succ, List.countP_append, Nat.add_mul, List.countP_singleton, List.countP_map]
    congr 1
    cases e : px w with
    | true =>
      rw [if_pos rfl, Nat.one_mul]
      apply List.countP_congr
      intro b hb
      show P (keyL l (x1 + w) (y1 + b)) = true ↔ py b = true
      rw [hp w b (by omega) (List.mem_range.mp hb), e, Bool.true_and]
    | false =>
      rw [if_neg (by decide), Nat.zero_mul]
      apply countP_none
      intro b hb
      show P (keyL l (x1 + w) (y1 + b)) = false
      rw [hp w b (by omega) (List.mem_range.mp hb), e, Bool.false_and]
theorem boxN_nodup {l : List Bool} {x1 y1 h : Nat} (hy : y1 + h ≤ 2 ^ ny l) : ∀ w, x1 + w ≤ 2 ^ nx l → (boxN l x1 y1 w h).Nodup
  | 0, _ => List.nodup_nil
  | w + 1, hx => by
    rw [boxN_succ]
    refine List.nodup_append.mpr ⟨boxN_nodup hy w (by omega), ?_, ?_⟩
    · refine List.pairwise_map.mpr (List.Pairwise.imp_of_mem (R := (· ≠ ·)) (fun {a b} ha hb hne e => ?_) List.nodup_range)
      have ha := List.mem_range.mp ha
      have hb := List.mem_range.mp hb
      have := (key_inj (l := l) (x := x1 + w) (y := y1 + a) (x' := x1 + w) (y' := y1 + b) (by omega) (by omega) (by omega) (by omega) e).2
      omega
    · intro a ha b hb e
      obtain ⟨c, d, hc, hd, e1⟩ := boxN_mem.mp ha
      obtain ⟨f, hf, e2⟩ := List.mem_map.mp hb
      have hf := List.mem_range.mp hf
      have := (key_inj (l := l) (x := x1 + c) (y := y1 + d) (x' := x1 + w) (y' := y1 + f) (by omega) (by omega) (by omega) (by omega) (by omega)).1
      omega
/-! ### neighbours in a list -/
def pred (ks : List Nat) (K : Nat) : Bool := ks.any fun k => decide (k + 1 = K)
theorem pred_iff {ks : List Nat} {K : Nat} : pred ks K = true ↔ ∃ k ∈ ks, k + 1 = K := by
  unfold pred
  rw [List.any_eq_true]
  simp only [decide_eq_true_eq]
theorem pred_not {ks : List Nat} {K : Nat} (h : ¬ ∃ k ∈ ks, k + 1 = K) : pred ks K = false := by
  rw [Bool.eq_false_iff]
  exact fun z => h (pred_iff.mp z)
theorem pred_eq {ks ks' : List Nat} {K K' : Nat} (h : (∃ k ∈ ks, k + 1 = K) ↔ (∃ k ∈ ks', k + 1 = K')) : pred ks K = pred ks' K' := by
  rw [Bool.eq_iff_iff, pred_iff, pred_iff]
  exact h
/-- how many of the list's items are one more than the item before, and as p asks -/
def adj (p : Nat → Bool) : List Nat → Nat
  | [] => 0
  | [_] => 0
  | a :: b :: r => (if decide (b = a + 1) && p b then 1 else 0) + adj p (b :: r)
theorem adj_cons2 (p : Nat → Bool) (a b : Nat) (r : List Nat) : adj p (a :: b :: r) = (if decide (b = a + 1) && p b then 1 else 0) + adj p (b :: r) := rfl
theorem adj_count (p : Nat → Bool) : ∀ ks : List Nat, ks.Pairwise (· < ·) → adj p ks = ks.countP fun K => pred ks K && p K
  | [], _ => rfl
  | [a], _ => by
    show 0 = _
    rw [List.countP_singleton]
    have : ¬ ∃ k ∈ [a], k + 1 = a := by
      rintro ⟨k, hk, e⟩
      have := List.mem_singleton.mp hk
      omega
    rw [pred_not this]
    rfl
  | a :: b :: r, hp => by
    obtain ⟨h1, h2⟩ := List.pairwise_cons.mp hp
    obtain ⟨h3, h4⟩ := List.pairwise_cons.mp h2
    have ih := adj_count p (b :: r) h2
    have hab := h1 b List.mem_cons_self
    rw [adj_cons2, ih]
    have na : ¬ ∃ k ∈ a :: b :: r, k + 1 = a := by
      rintro ⟨k, hk, e⟩
      rcases List.mem_cons.mp hk with z | z
      · omega
      · have := h1 k z
        omega
    have nb : ¬ ∃ k ∈ b :: r, k + 1 = b := by
      rintro ⟨k, hk, e⟩
      rcases List.mem_cons.mp hk with z | z
      · omega
      · have := h3 k z
        omega
    have eb : (∃ k ∈ a :: b :: r, k + 1 = b) ↔ b = a + 1 := by
      constructor
      · rintro ⟨k, hk, e⟩
        rcases List.mem_cons.mp hk with z | z
        · omega
        · exact absurd ⟨k, z, e⟩ nb
      · intro e
        exact ⟨a, List.mem_cons_self, e.symm⟩
    rw [List.countP_cons, List.countP_cons, List.countP_cons]
    rw [pred_not na, pred_not nb, Bool.false_and, Bool.false_and]
    have tl : r.countP (fun K => pred (a :: b :: r) K && p K) = r.countP (fun K => pred (b :: r) K && p K) := by
      apply List.countP_congr
      intro K hK
      have hbK := h3 K hK
      have : (∃ k ∈ a :: b :: r, k + 1 = K) ↔ (∃ k ∈ b :: r, k + 1 = K) := by
        constructor
        · rintro ⟨k, hk, e⟩
          rcases List.mem_cons.mp hk with z | z
          · omega
          · exact ⟨k, z, e⟩
        · rintro ⟨k, hk, e⟩
          exact ⟨k, List.mem_cons_of_mem _ hk, e⟩
      rw [pred_eq this]
    have eb2 : pred (a :: b :: r) b = decide (b = a + 1) := by
      rw [Bool.eq_iff_iff, pred_iff, decide_eq_true_eq]
      exact eb
    rw [tl, eb2]
    simp
    omega
/-! ### what a letter saves -/
def savI (b : Bool) (i j : Nat) (x1 y1 x2 y2 : Nat) : Int := if b = true then bordI i x1 x2 * spanI j y1 y2 else bordI j y1 y2 * spanI i x1 x2
theorem hasPre_iff {l : List Bool} {x1 y1 x2 y2 K : Nat} (hx : x1 ≤ x2) (hy : y1 ≤ y2) : HasPre l x1 y1 x2 y2 K ↔ ∃ k ∈ boxN l x1 y1 (x2 + 1 - x1) (y2 + 1 - y1), k + 1 = K := by
  constructor
  · rintro ⟨x, y, ⟨h1, h2, h3, h4⟩, e⟩
    exact ⟨_, boxN_mem.mpr ⟨x - x1, y - y1, by omega, by omega, rfl⟩, by rw [show x1 + (x - x1) = x by omega, show y1 + (y - y1) = y by omega]; exact e⟩
  · rintro ⟨k, hk, e⟩
    obtain ⟨a, b, ha, hb, e2⟩ := boxN_mem.mp hk
    exact ⟨x1 + a, y1 + b, ⟨by omega, by omega, by omega, by omega⟩, by omega⟩
/-- an odd multiple behind the first -/
theorem odd_count {x1 x2 : Nat} (d : Nat) (h : x1 ≤ x2) : (List.range (x2 + 1 - x1)).countP (fun a => decide (x1 + 1 ≤ x1 + a) && decide ((x1 + a) % 2 ^ (d + 1) = 2 ^ d)) = oddm d (x1 + 1) (x2 - x1) := by
  rw [show x2 + 1 - x1 = (x2 - x1) + 1 by omega, List.range_succ_eq_map, List.countP_cons, List.countP_map]
  rw [decide_eq_false (show ¬ x1 + 1 ≤ x1 + 0 by omega), Bool.false_and, if_neg (by decide), Nat.add_zero]
  unfold oddm
  apply List.countP_congr
  intro a _
  show (decide (x1 + 1 ≤ x1 + (a + 1)) && decide ((x1 + (a + 1)) % 2 ^ (d + 1) = 2 ^ d)) = true ↔ _
  rw [decide_eq_true (show x1 + 1 ≤ x1 + (a + 1) by omega), Bool.true_and, show x1 + (a + 1) = x1 + 1 + a by omega]
theorem sav_count {l : List Bool} {x1 y1 x2 y2 : Nat} (b : Bx l x1 y1 x2 y2) {t : Nat} (ht : t < l.length) :
    (((boxN l x1 y1 (x2 + 1 - x1) (y2 + 1 - y1)).countP (fun K => pred (boxN l x1 y1 (x2 + 1 - x1) (y2 + 1 - y1)) K && decide (K % 2 ^ (l.length - 1 - t + 1) = 2 ^ (l.length - 1 - t))) : Nat) : Int) = savI l[t] (nx (l.drop (t + 1))) (ny (l.drop (t + 1))) x1 y1 x2 y2 := by
  have sp : l = l.take t ++ l[t] :: l.drop (t + 1) := by rw [← List.drop_eq_getElem_cons ht, List.take_append_drop]
  have ls : (l.drop (t + 1)).length = l.length - 1 - t := by rw [List.length_drop]; omega
  generalize hpre : l.take t = pre at sp
  generalize hsuf : l.drop (t + 1) = suf at sp ls ⊢
  generalize hb : l[t] = c at sp ⊢
  have bb := b
  rw [sp] at bb
  rw [← ls]
  cases c with
  | true =>
    unfold savI
    rw [if_pos rfl, bord_eq _ b.x, span_eq _ b.y, ← odd_count _ b.x]
    unfold full
    rw [← Int.natCast_mul]
    congr 1
    refine boxN_count _ fun a d ha hd => ?_
    have key := has_x bb (x := x1 + a) (y := y1 + d) ⟨by omega, by omega, by omega, by omega⟩
    rw [← sp] at key
    rw [Bool.eq_iff_iff]
    simp only [Bool.and_eq_true, decide_eq_true_eq]
    rw [pred_iff, ← hasPre_iff b.x b.y]
    exact key
  | false =>
    unfold savI
    rw [if_neg (by decide), bord_eq _ b.y, span_eq _ b.x, ← odd_count _ b.y]
    unfold full
    rw [← Int.natCast_mul, Nat.mul_comm]
    congr 1
    refine boxN_count _ fun a d ha hd => ?_
    have key := has_y bb (x := x1 + a) (y := y1 + d) ⟨by omega, by omega, by omega, by omega⟩
    rw [← sp] at key
    rw [Bool.eq_iff_iff]
    simp only [Bool.and_eq_true, decide_eq_true_eq]
    rw [pred_iff, ← hasPre_iff b.x b.y]
    exact key
def savL (l : List Bool) (x1 y1 x2 y2 : Nat) : List Int := (feetL l).map fun f => savI f.1 f.2.1 f.2.2 x1 y1 x2 y2
theorem savL_get (l : List Bool) {x1 y1 x2 y2 i : Nat} (h : i < l.length) : (savL l x1 y1 x2 y2)[i]?.toList = [savI l[i] (nx (l.drop (i + 1))) (ny (l.drop (i + 1))) x1 y1 x2 y2] := by
  unfold savL
  rw [List.getElem?_map, feetL_get l i h]
  rfl
theorem oddm_le (d lo n : Nat) : oddm d lo n ≤ n := by
  unfold oddm
  exact Nat.le_trans List.countP_le_length (Nat.le_of_eq List.length_range)
theorem full_le (d y1 y2 : Nat) : full d y1 y2 ≤ y2 + 1 - y1 := by
  unfold full
  exact Nat.le_trans List.countP_le_length (Nat.le_of_eq List.length_range)
theorem sav_mul {i j x1 y1 x2 y2 : Nat} (h1 : x1 ≤ x2) (h2 : y1 ≤ y2) (hx : x2 < 2 ^ 100) (hy : y2 < 2 ^ 100) : CMulW (bordI i x1 x2) (spanI j y1 y2) := by
  rw [bord_eq i h1, span_eq j h2]
  have a := oddm_le i (x1 + 1) (x2 - x1)
  have b := full_le j y1 y2
  exact cmulN (Nat.lt_of_le_of_lt (show oddm i (x1 + 1) (x2 - x1) ≤ 2 ^ 100 by omega) (pw (x := 100) (by omega))) (Nat.lt_of_le_of_lt (show full j y1 y2 ≤ 2 ^ 100 by omega) (pw (x := 100) (by omega)))
end Lk

set_option Elab.async false
set_option linter.all false
set_option maxRecDepth 100000
set_option maxHeartbeats 4000000
namespace Lk
open PySem PySem.Spec PyProof.Rows L2
/-! ### ranks -/
theorem rank_ex : ∀ (K : Nat), 1 ≤ K → ∃ r, K % 2 ^ (r + 1) = 2 ^ r ∧ 2 ^ r ≤ K := by
  intro K
  induction K using Nat.strongRecOn with
  | _ K ih =>
    intro hK
    by_cases h : K % 2 = 1
    · exact ⟨0, h, hK⟩
    · obtain ⟨r, h1, h2⟩ := ih (K / 2) (by omega) (by omega)
      refine ⟨r + 1, ?_, ?_⟩
      · have e : K = 2 * (K / 2) := by omega
        rw [e, Nat.pow_succ 2 (r + 1), Nat.mul_comm _ 2, Nat.mul_mod_mul_left, h1, Nat.pow_succ, Nat.mul_comm]
      · rw [Nat.pow_succ]
        omega
theorem rank_low {K d t : Nat} (h : K % 2 ^ (d + 1) = 2 ^ d) (ht : t < d) : K / 2 ^ t % 2 = 0 := by
  obtain ⟨a, _⟩ := (odd_iff K d).mp h
  have e : K = 2 ^ d * (K / 2 ^ d) := by
    have := Nat.div_add_mod K (2 ^ d)
    omega
  obtain ⟨c, rfl⟩ : ∃ c, d = t + 1 + c := ⟨d - t - 1, by omega⟩
  rw [e, Nat.pow_add, Nat.pow_succ, Nat.mul_assoc, Nat.mul_assoc, Nat.mul_div_right _ (two_pos t), Nat.mul_mod_right]
theorem rank_one {K d d' : Nat} (h : K % 2 ^ (d + 1) = 2 ^ d) (h' : K % 2 ^ (d' + 1) = 2 ^ d') : d = d' := by
  rcases Nat.lt_trichotomy d d' with z | z | z
  · have := rank_low h' z
    have := ((odd_iff K d).mp h).2
    omega
  · exact z
  · have := rank_low h z
    have := ((odd_iff K d').mp h').2
    omega
/-! ### from sorted ints to naturals -/
theorem nat_list {ns : List Int} {ms : List Nat} (hp : ns.Perm (ms.map fun m => ((m : Nat) : Int))) (hs : ns.Pairwise (· ≤ ·)) (hd : ms.Nodup) : ∃ ks : List Nat, ns = ks.map (fun m => ((m : Nat) : Int)) ∧ ks.Perm ms ∧ ks.Pairwise (· < ·) := by
  have e : ns = (ns.map Int.toNat).map fun m => ((m : Nat) : Int) := by
    rw [List.map_map]
    apply List.ext_getElem?
    intro i
    rw [List.getElem?_map]
    cases h : ns[i]? with
    | none => rfl
    | some n =>
      have hm := hp.mem_iff.mp (List.mem_of_getElem? h)
      obtain ⟨m, _, rfl⟩ := List.mem_map.mp hm
      rfl
  have p : (ns.map Int.toNat).Perm ms := by
    have := hp.map Int.toNat
    rw [List.map_map] at this
    have e2 : ms.map (Int.toNat ∘ fun m : Nat => ((m : Nat) : Int)) = ms := by
      conv => rhs; rw [← List.map_id ms]
      apply List.map_congr_left
      intro m _
      rfl
    rw [e2] at this
    exact this
  refine ⟨ns.map Int.toNat, e, p, ?_⟩
  have nd := p.nodup_iff.mpr hd
  have le : (ns.map Int.toNat).Pairwise (· ≤ ·) := by
    refine List.pairwise_map.mpr (hs.imp fun {a b} h => ?_)
    exact Int.toNat_le_toNat h
  exact (le.and nd).imp fun {a b} h => Nat.lt_of_le_of_ne h.1 h.2
/-! ### the counts of the letters, pair by pair -/
def pT (n t : Nat) (K : Nat) : Bool := decide (K % 2 ^ (n - 1 - t + 1) = 2 ^ (n - 1 - t))
theorem adj_snoc (p : Nat → Bool) (a b : Nat) : ∀ l : List Nat, adj p (l ++ [a, b]) = adj p (l ++ [a]) + (if decide (b = a + 1) && p b then 1 else 0)
  | [] => by
    show (if _ then 1 else 0) + 0 = 0 + _
    omega
  | [c] => by
    show (if _ then 1 else 0) + ((if _ then 1 else 0) + 0) = ((if _ then 1 else 0) + 0) + _
    omega
  | c :: d :: r => by
    have ih := adj_snoc p a b (d :: r)
    show (if _ then 1 else 0) + adj p (d :: r ++ [a, b]) = ((if _ then 1 else 0) + adj p (d :: r ++ [a])) + _
    rw [ih]
    omega
theorem adj_take (p : Nat → Bool) {ks : List Nat} {i a b : Nat} (ha : ks[i]? = some a) (hb : ks[i + 1]? = some b) : adj p (ks.take (i + 2)) = adj p (ks.take (i + 1)) + (if decide (b = a + 1) && p b then 1 else 0) := by
  have e1 : ks.take (i + 1) = ks.take i ++ [a] := by rw [List.take_succ, ha]; rfl
  have e2 : ks.take (i + 2) = ks.take i ++ [a, b] := by rw [List.take_succ, hb, e1, List.append_assoc]; rfl
  rw [e1, e2, adj_snoc]
def dueL (n : Nat) (ks : List Nat) (i : Nat) : List Int := (List.range n).map fun t => ((adj (pT n t) (ks.take (i + 1)) : Nat) : Int)
theorem dueL_len (n : Nat) (ks : List Nat) (i : Nat) : (dueL n ks i).length = n := by
  unfold dueL
  rw [List.length_map, List.length_range]
theorem dueL_get {n : Nat} (ks : List Nat) (i : Nat) {t : Nat} (ht : t < n) : (dueL n ks i)[t]? = some ((adj (pT n t) (ks.take (i + 1)) : Nat) : Int) := by
  unfold dueL
  rw [List.getElem?_map, List.getElem?_range ht]
  rfl
theorem dueL_start (n : Nat) (ks : List Nat) : dueL n ks 0 = List.replicate n 0 := by
  unfold dueL
  have e : ∀ p, adj p (ks.take 1) = 0 := by
    intro p
    cases ks with
    | nil => rfl
    | cons a r => rfl
  rw [show (fun t => ((adj (pT n t) (ks.take (0 + 1)) : Nat) : Int)) = fun _ => (0 : Int) by
    funext t
    rw [e]
    rfl]
  rw [List.map_const', List.length_range]
theorem dueL_no {n : Nat} {ks : List Nat} {i a b : Nat} (ha : ks[i]? = some a) (hb : ks[i + 1]? = some b) (h : b ≠ a + 1) : dueL n ks (i + 1) = dueL n ks i := by
  unfold dueL
  apply List.map_congr_left
  intro t _
  rw [adj_take _ ha hb, decide_eq_false h, Bool.false_and]
  rfl
theorem dueL_yes {n : Nat} {ks : List Nat} {i a b r : Nat} (ha : ks[i]? = some a) (hb : ks[i + 1]? = some b) (h : b = a + 1) (hr : b % 2 ^ (r + 1) = 2 ^ r) (hn : r < n) :
    (dueL n ks i).set (n - 1 - r) (((adj (pT n (n - 1 - r)) (ks.take (i + 1)) : Nat) : Int) + 1) = dueL n ks (i + 1) := by
  apply List.ext_getElem?
  intro t
  by_cases ht : t < n
  · rw [dueL_get ks (i + 1) ht, adj_take _ ha hb, decide_eq_true h, Bool.true_and, List.getElem?_set]
    by_cases e : n - 1 - r = t
    · subst e
      rw [if_pos rfl, if_pos (by rw [dueL_len]; exact ht)]
      have : pT n (n - 1 - r) b = true := by
        unfold pT
        rw [show n - 1 - (n - 1 - r) = r by omega]
        exact decide_eq_true hr
      rw [this, if_pos rfl]
      rfl
    · rw [if_neg e, dueL_get ks i ht]
      have : pT n t b = false := by
        unfold pT
        refine decide_eq_false fun z => e ?_
        have := rank_one hr z
        omega
      rw [this]
      rfl
  · rw [List.getElem?_eq_none (by rw [List.length_set, dueL_len]; omega), List.getElem?_eq_none (by rw [dueL_len]; omega)]
theorem pred_perm {ks ms : List Nat} (h : ks.Perm ms) (K : Nat) : pred ks K = pred ms K := pred_eq ⟨fun ⟨k, h1, h2⟩ => ⟨k, h.mem_iff.mp h1, h2⟩, fun ⟨k, h1, h2⟩ => ⟨k, h.mem_iff.mpr h1, h2⟩⟩
theorem adj_box {l : List Bool} {x1 y1 x2 y2 : Nat} (b : Bx l x1 y1 x2 y2) {ks : List Nat} (hs : ks.Pairwise (· < ·)) (hp : ks.Perm (boxN l x1 y1 (x2 + 1 - x1) (y2 + 1 - y1))) {t : Nat} (ht : t < l.length) :
    ((adj (pT l.length t) ks : Nat) : Int) = savI l[t] (nx (l.drop (t + 1))) (ny (l.drop (t + 1))) x1 y1 x2 y2 := by
  rw [adj_count _ ks hs, hp.countP_eq, ← sav_count b ht]
  congr 2
  funext K
  rw [pred_perm hp]
  rfl
theorem due_end {l : List Bool} {x1 y1 x2 y2 : Nat} (b : Bx l x1 y1 x2 y2) {ks : List Nat} (hs : ks.Pairwise (· < ·)) (hp : ks.Perm (boxN l x1 y1 (x2 + 1 - x1) (y2 + 1 - y1))) {i : Nat} (hi : ks.length ≤ i + 1) : dueL l.length ks i = savL l x1 y1 x2 y2 := by
  apply List.ext_getElem?
  intro t
  by_cases ht : t < l.length
  · rw [dueL_get ks i ht, List.take_of_length_le hi, adj_box b hs hp ht]
    unfold savL
    rw [List.getElem?_map, feetL_get l t ht]
    rfl
  · rw [List.getElem?_eq_none (by rw [dueL_len]; omega), List.getElem?_eq_none (by unfold savL; rw [List.length_map, feetL_len]; omega)]
theorem adj_le (p : Nat → Bool) : ∀ ks : List Nat, adj p ks ≤ ks.length
  | [] => Nat.le_refl _
  | [_] => Nat.zero_le _
  | a :: b :: r => by
    have := adj_le p (b :: r)
    rw [adj_cons2]
    rw [List.length_cons]
    split <;> omega
theorem ix_nat' {n j : Nat} (hj : j < n) : ixN n (j : Int) = some j := by
  unfold ixN
  rw [if_pos (by omega), if_pos (by omega), Int.toNat_natCast]
end Lk

set_option Elab.async false
set_option linter.all false
set_option maxRecDepth 100000
set_option maxHeartbeats 4000000
namespace Lk
open PySem PySem.Spec PyProof.Rows L2
/-! ### all letters together -/
theorem sum_ind : ∀ n m : Nat, ((List.range n).map fun t => if t = m then (1 : Int) else 0).sum = if m < n then 1 else 0
  | 0, m => by
    rw [if_neg (by omega)]
    rfl
  | n + 1, m => by
    rw [List.range_succ, List.map_append, List.sum_append, sum_ind n m, List.map_singleton, List.sum_singleton]
    by_cases h : m < n
    · rw [if_pos h, if_neg (by omega), if_pos (by omega)]
      rfl
    · rw [if_neg h]
      by_cases e : n = m
      · rw [if_pos e, if_pos (by omega)]
        rfl
      · rw [if_neg e, if_neg (by omega)]
        rfl
theorem pT_sum {n K : Nat} (h1 : 1 ≤ K) (h2 : K < 2 ^ n) : ((List.range n).map fun t => if pT n t K = true then (1 : Int) else 0).sum = 1 := by
  obtain ⟨r, hr1, hr2⟩ := rank_ex K h1
  have hrl : r < n := by
    rcases Nat.lt_or_ge r n with z | z
    · exact z
    · have := Nat.pow_le_pow_right (n := 2) (by decide) z
      omega
  have e : ((List.range n).map fun t => if pT n t K = true then (1 : Int) else 0) = (List.range n).map fun t => if t = n - 1 - r then (1 : Int) else 0 := by
    apply List.map_congr_left
    intro t ht
    have ht := List.mem_range.mp ht
    by_cases h : t = n - 1 - r
    · rw [if_pos h]
      unfold pT
      rw [if_pos (decide_eq_true (by rw [h, show n - 1 - (n - 1 - r) = r by omega]; exact hr1))]
    · rw [if_neg h, if_neg]
      intro z
      have := rank_one hr1 (of_decide_eq_true z)
      omega
  rw [e, sum_ind, if_pos (by omega)]
theorem map_sum_add (f g : Nat → Int) : ∀ l : List Nat, (l.map fun t => f t + g t).sum = (l.map f).sum + (l.map g).sum
  | [] => rfl
  | a :: r => by
    rw [List.map_cons, List.map_cons, List.map_cons, List.sum_cons, List.sum_cons, List.sum_cons, map_sum_add f g r]
    omega
theorem map_sum_zero : ∀ l : List Nat, (l.map fun _ => (0 : Int)).sum = 0
  | [] => rfl
  | a :: r => by
    rw [List.map_cons, List.sum_cons, map_sum_zero r]
    rfl
theorem adj_sum {n : Nat} : ∀ ks : List Nat, (∀ k ∈ ks, k < 2 ^ n) → ((List.range n).map fun t => ((adj (pT n t) ks : Nat) : Int)).sum = ((adj (fun _ => true) ks : Nat) : Int)
  | [], _ => map_sum_zero _
  | [_], _ => map_sum_zero _
  | a :: b :: r, h => by
    have ih := adj_sum (b :: r) fun k hk => h k (List.mem_cons_of_mem _ hk)
    have hb := h b (List.mem_cons_of_mem _ List.mem_cons_self)
    rw [adj_cons2]
    by_cases e : b = a + 1
    · have e1 : (fun t => ((adj (pT n t) (a :: b :: r) : Nat) : Int)) = fun t => (if pT n t b = true then (1 : Int) else 0) + ((adj (pT n t) (b :: r) : Nat) : Int) := by
        funext t
        rw [adj_cons2, decide_eq_true e, Bool.true_and]
        split <;> simp
      rw [e1, map_sum_add, pT_sum (by omega) hb, ih, decide_eq_true e]
      simp
    · have e1 : (fun t => ((adj (pT n t) (a :: b :: r) : Nat) : Int)) = fun t => ((adj (pT n t) (b :: r) : Nat) : Int) := by
        funext t
        rw [adj_cons2, decide_eq_false e, Bool.false_and]
        simp
      rw [e1, ih, decide_eq_false e]
      simp
theorem sav_sum {l : List Bool} {x1 y1 x2 y2 : Nat} (b : Bx l x1 y1 x2 y2) {ks : List Nat} (hs : ks.Pairwise (· < ·)) (hp : ks.Perm (boxN l x1 y1 (x2 + 1 - x1) (y2 + 1 - y1))) : (savL l x1 y1 x2 y2).sum = ((adj (fun _ => true) ks : Nat) : Int) := by
  rw [← due_end b hs hp (i := ks.length) (by omega)]
  unfold dueL
  rw [List.take_of_length_le (by omega)]
  refine adj_sum ks fun k hk => ?_
  obtain ⟨u, v, _, _, e⟩ := boxN_mem.mp (hp.mem_iff.mp hk)
  rw [← e]
  exact keyL_lt _ _ _
/-! ### the least and the greatest key -/
theorem z_one {A B : Nat} (h1 : A < B) (h2 : B < 2) : A = 0 ∧ B = 1 := ⟨by omega, by omega⟩
theorem key_mono : ∀ (l : List Bool) {x y x' y' : Nat}, x ≤ x' → y ≤ y' → x' < 2 ^ nx l → y' < 2 ^ ny l → keyL l x y ≤ keyL l x' y'
  | [], _, _, _, _, _, _, _, _ => Nat.le_refl _
  | true :: r, x, y, x', y', hx, hy, bx, by' => by
    rw [nx_t, Nat.pow_succ] at bx
    rw [ny_t] at by'
    have p := two_pos (nx r)
    have e1 := Nat.div_add_mod x (2 ^ nx r)
    have e2 := Nat.div_add_mod x' (2 ^ nx r)
    have m1 := Nat.mod_lt x p
    have m2 := Nat.mod_lt x' p
    have d1 : x / 2 ^ nx r ≤ x' / 2 ^ nx r := Nat.div_le_div_right hx
    have d2 : x' / 2 ^ nx r < 2 := Nat.div_lt_of_lt_mul bx
    show x / 2 ^ nx r % 2 * 2 ^ r.length + keyL r x y ≤ x' / 2 ^ nx r % 2 * 2 ^ r.length + keyL r x' y'
    rw [Nat.mod_eq_of_lt d2, Nat.mod_eq_of_lt (show x / 2 ^ nx r < 2 by omega)]
    have q := keyL_lt r x y
    rcases Nat.lt_or_ge (x / 2 ^ nx r) (x' / 2 ^ nx r) with z | z
    · obtain ⟨w1, w2⟩ := z_one z d2
      rw [w1, w2]
      omega
    · have z' : x / 2 ^ nx r = x' / 2 ^ nx r := by omega
      rw [z'] at e1 ⊢
      have := key_mono r (x := x % 2 ^ nx r) (y := y) (x' := x' % 2 ^ nx r) (y' := y') (by omega) hy m2 by'
      have k1 : keyL r (x % 2 ^ nx r) y = keyL r x y := by
        have := keyL_x r (x / 2 ^ nx r) (x % 2 ^ nx r) y (nx r) (Nat.le_refl _)
        rw [Nat.mul_comm, Nat.div_add_mod] at this
        exact this.symm
      have k2 : keyL r (x' % 2 ^ nx r) y' = keyL r x' y' := by
        have := keyL_x r (x' / 2 ^ nx r) (x' % 2 ^ nx r) y' (nx r) (Nat.le_refl _)
        rw [Nat.mul_comm, Nat.div_add_mod] at this
        exact this.symm
      omega
  | false :: r, x, y, x', y', hx, hy, bx, by' => by
    rw [ny_f, Nat.pow_succ] at by'
    rw [nx_f] at bx
    have p := two_pos (ny r)
    have e1 := Nat.div_add_mod y (2 ^ ny r)
    have e2 := Nat.div_add_mod y' (2 ^ ny r)
    have m1 := Nat.mod_lt y p
    have m2 := Nat.mod_lt y' p
    have d1 : y / 2 ^ ny r ≤ y' / 2 ^ ny r := Nat.div_le_div_right hy
    have d2 : y' / 2 ^ ny r < 2 := Nat.div_lt_of_lt_mul by'
    show y / 2 ^ ny r % 2 * 2 ^ r.length + keyL r x y ≤ y' / 2 ^ ny r % 2 * 2 ^ r.length + keyL r x' y'
    rw [Nat.mod_eq_of_lt d2, Nat.mod_eq_of_lt (show y / 2 ^ ny r < 2 by omega)]
    have q := keyL_lt r x y
    rcases Nat.lt_or_ge (y / 2 ^ ny r) (y' / 2 ^ ny r) with z | z
    · obtain ⟨w1, w2⟩ := z_one z d2
      rw [w1, w2]
      omega
    · have z' : y / 2 ^ ny r = y' / 2 ^ ny r := by omega
      rw [z'] at e1 ⊢
      have := key_mono r (x := x) (y := y % 2 ^ ny r) (x' := x') (y' := y' % 2 ^ ny r) hx (by omega) bx m2
      have k1 : keyL r x (y % 2 ^ ny r) = keyL r x y := by
        have := keyL_y r (y / 2 ^ ny r) x (y % 2 ^ ny r) (ny r) (Nat.le_refl _)
        rw [Nat.mul_comm, Nat.div_add_mod] at this
        exact this.symm
      have k2 : keyL r x' (y' % 2 ^ ny r) = keyL r x' y' := by
        have := keyL_y r (y' / 2 ^ ny r) x' (y' % 2 ^ ny r) (ny r) (Nat.le_refl _)
        rw [Nat.mul_comm, Nat.div_add_mod] at this
        exact this.symm
      omega
theorem least_key {l : List Bool} {x1 y1 x2 y2 : Nat} (b : Bx l x1 y1 x2 y2) {ks : List Nat} (hs : ks.Pairwise (· < ·)) (hp : ks.Perm (boxN l x1 y1 (x2 + 1 - x1) (y2 + 1 - y1))) : ks[0]? = some (keyL l x1 y1) := by
  obtain ⟨b1, b2, b3, b4⟩ := b
  have hm : keyL l x1 y1 ∈ ks := hp.mem_iff.mpr (boxN_mem.mpr ⟨0, 0, by omega, by omega, rfl⟩)
  cases ks with
  | nil => exact absurd hm List.not_mem_nil
  | cons a r =>
    obtain ⟨u, v, hu, hv, e⟩ := boxN_mem.mp (hp.mem_iff.mp List.mem_cons_self)
    have le := key_mono l (x := x1) (y := y1) (x' := x1 + u) (y' := y1 + v) (by omega) (by omega) (by omega) (by omega)
    rcases List.mem_cons.mp hm with z | z
    · rw [z]
      rfl
    · have := (List.pairwise_cons.mp hs).1 _ z
      omega
theorem last_max : ∀ (ks : List Nat) {m : Nat}, ks.Pairwise (· < ·) → m ∈ ks → (∀ k ∈ ks, k ≤ m) → ks[ks.length - 1]? = some m
  | [a], m, _, hm, _ => by
    rw [List.mem_singleton.mp hm]
    rfl
  | a :: b :: r, m, hs, hm, hle => by
    obtain ⟨h1, h2⟩ := List.pairwise_cons.mp hs
    have hb := hle b (List.mem_cons_of_mem _ List.mem_cons_self)
    have hab := h1 b List.mem_cons_self
    have hm2 : m ∈ b :: r := by
      rcases List.mem_cons.mp hm with z | z
      · omega
      · exact z
    exact last_max (b :: r) h2 hm2 fun k hk => hle k (List.mem_cons_of_mem _ hk)
theorem great_key {l : List Bool} {x1 y1 x2 y2 : Nat} (b : Bx l x1 y1 x2 y2) {ks : List Nat} (hs : ks.Pairwise (· < ·)) (hp : ks.Perm (boxN l x1 y1 (x2 + 1 - x1) (y2 + 1 - y1))) : ks[ks.length - 1]? = some (keyL l x2 y2) := by
  obtain ⟨b1, b2, b3, b4⟩ := b
  refine last_max ks hs (hp.mem_iff.mpr (boxN_mem.mpr ⟨x2 - x1, y2 - y1, by omega, by omega, by rw [show x1 + (x2 - x1) = x2 by omega, show y1 + (y2 - y1) = y2 by omega]⟩)) fun k hk => ?_
  obtain ⟨u, v, hu, hv, e⟩ := boxN_mem.mp (hp.mem_iff.mp hk)
  rw [← e]
  exact key_mono l (by omega) (by omega) b3 b4
/-! ### the whole grid -/
theorem adj_range (p : Nat → Bool) (hp : ∀ k, p k = true) : ∀ n a : Nat, adj p (List.range' a (n + 1)) = n
  | 0, _ => rfl
  | n + 1, a => by
    have ih := adj_range p hp n (a + 1)
    show (if decide (a + 1 = a + 1) && p (a + 1) then 1 else 0) + adj p (List.range' (a + 1) (n + 1)) = n + 1
    rw [ih, hp]
    simp
    omega
theorem whole_perm (l : List Bool) : (List.range' 0 (2 ^ l.length)).Perm (boxN l 0 0 (2 ^ nx l - 1 + 1 - 0) (2 ^ ny l - 1 + 1 - 0)) := by
  have px := two_pos (nx l)
  have py := two_pos (ny l)
  refine (List.perm_ext_iff_of_nodup List.nodup_range' (boxN_nodup (by omega) _ (by omega))).mpr fun K => ?_
  rw [boxN_mem]
  constructor
  · intro hK
    have hlt : K < 2 ^ l.length := by
      have := List.mem_range'.mp hK
      obtain ⟨i, h1, h2⟩ := this
      omega
    refine ⟨xOf l K, yOf l K, by have := xOf_lt l K; omega, by have := yOf_lt l K; omega, ?_⟩
    rw [Nat.zero_add, Nat.zero_add, keyL_cell, Nat.mod_eq_of_lt hlt]
  · rintro ⟨u, v, _, _, e⟩
    rw [← e]
    exact List.mem_range'.mpr ⟨keyL l (0 + u) (0 + v), keyL_lt l _ _, by omega⟩
theorem whole_box (l : List Bool) : Bx l 0 0 (2 ^ nx l - 1) (2 ^ ny l - 1) := by
  have px := two_pos (nx l)
  have py := two_pos (ny l)
  exact ⟨by omega, by omega, by omega, by omega⟩
theorem whole_runs (l : List Bool) : (((2 ^ nx l - 1 + 1 - 0) * (2 ^ ny l - 1 + 1 - 0) : Nat) : Int) - (savL l 0 0 (2 ^ nx l - 1) (2 ^ ny l - 1)).sum = 1 := by
  have hp := whole_perm l
  have hs : (List.range' 0 (2 ^ l.length)).Pairwise (· < ·) := List.pairwise_lt_range'
  have px := two_pos (nx l)
  have py := two_pos (ny l)
  have pl := two_pos l.length
  rw [sav_sum (whole_box l) hs hp]
  obtain ⟨m, hm⟩ : ∃ m, 2 ^ l.length = m + 1 := ⟨2 ^ l.length - 1, by omega⟩
  rw [hm, adj_range _ (fun _ => rfl)]
  have : (2 ^ nx l - 1 + 1 - 0) * (2 ^ ny l - 1 + 1 - 0) = m + 1 := by
    rw [show 2 ^ nx l - 1 + 1 - 0 = 2 ^ nx l by omega, show 2 ^ ny l - 1 + 1 - 0 = 2 ^ ny l by omega, ← Nat.pow_add, nxy, hm]
  rw [this]
  omega
/-! ### stretches -/
theorem adj_all_take {ks : List Nat} {i a b : Nat} (ha : ks[i]? = some a) (hb : ks[i + 1]? = some b) : adj (fun _ => true) (ks.take (i + 2)) = adj (fun _ => true) (ks.take (i + 1)) + (if b = a + 1 then 1 else 0) := by
  rw [adj_take _ ha hb]
  simp
theorem shaped_pairs (ps : List (Int × Int)) (h : ∀ p ∈ ps, p.1.natAbs < 2 ^ 1000 ∧ p.2.natAbs < 2 ^ 1000) : SeqAt.shaped (.list (ps.map fun p => .tuple [.int p.1, .int p.2])) = true := by
  have key : ∀ ps : List (Int × Int), (∀ p ∈ ps, p.1.natAbs < 2 ^ 1000 ∧ p.2.natAbs < 2 ^ 1000) → PyData.canLayAll0 (ps.map fun p => .tuple [.int p.1, .int p.2]) = true ∧ PyData.depthAll (ps.map fun p => .tuple [.int p.1, .int p.2]) ≤ 1 := by
    intro ps
    induction ps with
    | nil =>
      intro _
      simp [PyData.canLayAll0, PyData.depthAll]
    | cons p r ih =>
      intro h
      obtain ⟨i1, i2⟩ := ih fun q hq => h q (List.mem_cons_of_mem _ hq)
      have hs := shaped_tup (ds := [.int p.1, .int p.2]) (allc (h p List.mem_cons_self).1 (all1 (h p List.mem_cons_self).2))
      unfold SeqAt.shaped at hs
      have hc := (Bool.and_eq_true_iff.mp hs).1
      constructor
      · rw [List.map_cons]
        simp only [PyData.canLayAll0, hc, i1, Bool.and_self]
      · rw [List.map_cons]
        simp only [PyData.depthAll, PyData.depth]
        omega
  obtain ⟨k1, k2⟩ := key ps h
  unfold SeqAt.shaped
  rw [Bool.and_eq_true]
  refine ⟨by simpa only [PyData.canLay0] using k1, decide_eq_true ?_⟩
  simp only [PyData.depth]
  omega
/-! ### pairs as they stand -/
def TupsAt (H : Hp) : List Addr → List (Int × Int) → Prop
  | [], [] => True
  | t :: ts, p :: ps => H t = some (.tup [.int p.1, .int p.2]) ∧ TupsAt H ts ps
  | _, _ => False
theorem TupsAt.imp {H H' : Hp} (e : ∀ t a b, H t = some (.tup [.int a, .int b]) → H' t = some (.tup [.int a, .int b])) : ∀ {ts : List Addr} {ps : List (Int × Int)}, TupsAt H ts ps → TupsAt H' ts ps
  | [], [], _ => True.intro
  | t :: ts, p :: ps, h => ⟨e _ _ _ h.1, TupsAt.imp e h.2⟩
  | [], _ :: _, h => h.elim
  | _ :: _, [], h => h.elim
theorem TupsAt.snoc {H : Hp} {t : Addr} {p : Int × Int} (ht : H t = some (.tup [.int p.1, .int p.2])) : ∀ {ts : List Addr} {ps : List (Int × Int)}, TupsAt H ts ps → TupsAt H (ts ++ [t]) (ps ++ [p])
  | [], [], _ => ⟨ht, True.intro⟩
  | _ :: _, _ :: _, h => ⟨h.1, TupsAt.snoc ht h.2⟩
  | [], _ :: _, h => h.elim
  | _ :: _, [], h => h.elim
theorem TupsAt.len {H : Hp} : ∀ {ts : List Addr} {ps : List (Int × Int)}, TupsAt H ts ps → ts.length = ps.length
  | [], [], _ => rfl
  | _ :: _, _ :: _, h => congrArg (· + 1) (TupsAt.len h.2)
  | [], _ :: _, h => h.elim
  | _ :: _, [], h => h.elim
theorem TupsAt.dp {K : PySem.W.Frag} {H : Hp} : ∀ {ts : List Addr} {ps : List (Int × Int)}, TupsAt H ts ps → DpAll K H (ts.map V.ref) (ps.map fun p => .tuple [.int p.1, .int p.2])
  | [], [], _ => .nil
  | _ :: _, _ :: _, h => .cons (Dp.tup (SqT.of h.1) (.cons (.int _) (.cons (.int _) .nil))) (TupsAt.dp h.2)
  | [], _ :: _, h => h.elim
  | _ :: _, [], h => h.elim
theorem ix_last {n : Nat} : ixN (n + 1) (-1) = some n := by
  unfold ixN
  rw [if_neg (by decide), if_pos (by omega)]
  congr 1
  omega
theorem at_last {xs : List V} {v : V} : atI (xs ++ [v]) (-1) = some v := by
  unfold atI
  rw [List.length_append, List.length_singleton, ix_last]
  show (xs ++ [v])[xs.length]? = some v
  simp
theorem set_last {xs : List V} {v w : V} : (xs ++ [v]).set xs.length w = xs ++ [w] := by
  rw [List.set_append_right _ _ (Nat.le_refl _), Nat.sub_self]
  rfl
theorem eqv_nil {ps : List (Int × Int)} {p : Int × Int} : PyData.eqv (.list ((ps ++ [p]).map fun p => .tuple [.int p.1, .int p.2])) (.list []) = false := by
  cases ps with
  | nil => simp [PyData.eqv, PyData.eqvAll]
  | cons q r => simp [PyData.eqv, PyData.eqvAll]
end Lk

set_option Elab.async false
set_option linter.all false
set_option maxRecDepth 100000
set_option maxHeartbeats 4000000
namespace Lk
open PySem PySem.Spec PyProof.Rows L2

local macro_rules | `(tactic| walk_at "sd") => `(tactic| first
  | exact (by assumption)
  | exact Nat.le_of_ble_eq_true rfl
  | decide
  | exact .inl ⟨by decide, by decide⟩
  | exact .inr ⟨by decide, by decide⟩
  | exact ⟨by decide, by decide, by decide⟩
  | exact ⟨by decide, by decide⟩
  | exact .inl ⟨rfl, _, SqL.of (by assumption)⟩
  | exact ⟨Int.natCast_nonneg _, by omega, by decide⟩
  | exact ⟨by omega, by omega, by omega⟩
  | omega)
local macro_rules | `(tactic| walk_at "rd1") => `(tactic| first
  | refine ⟨_, rfl, ?_⟩
  | refine ⟨_, _, rfl, rfl, ?_⟩
  | refine .inl ⟨_, rfl, ?_⟩
  | refine .inl ⟨_, _, rfl, rfl, ?_⟩
  | refine .inr ⟨_, rfl, ?_⟩
  | refine ⟨_, _, rfl, ?_⟩
  | refine ⟨_, _, _, rfl, ?_⟩
  | refine ⟨_, _, _, _, rfl, rfl, SqL.of (by assumption), rfl, ?_⟩
  | refine ⟨_, _, _, _, rfl, rfl, SqT.of (by assumption), rfl, ?_⟩
  | refine ⟨_, _, rfl, SqT.of (by assumption), rfl, ?_⟩
  | refine ⟨_, _, rfl, SqT.of upd_same, rfl, ?_⟩
  | refine ⟨_, _, rfl, SqL.of (by assumption), rfl, ?_⟩
  | refine ⟨_, _, _, _, rfl, rfl, (by assumption), rfl, ?_⟩
  | refine ⟨_, _, _, rfl, (by assumption), ?_⟩
  | refine ⟨_, _, rfl, ⟨_, (by assumption)⟩, ?_⟩
  | refine ⟨rfl, ?_⟩
  | refine And.intro (by walk_at "sd") ?_)
local macro_rules | `(tactic| walk_at "rd") => `(tactic| repeat walk_at "rd1")
def topS (i : Nat) : Stmt := PySem.Challenge.pw_lacekeys_k04_runs_by_listing_keys.main.body.getD i (.Pass ⟨0, 0, 0, 0⟩)
abbrev sis_word : Stmt := topS 23
theorem scis_word : FnScope ["value", "x_bits", "y_bits"] ["value"] (defScope sis_word) := ⟨rfl, rfl, rfl, by decide +kernel, rfl, by decide +kernel, by decide +kernel⟩
abbrev sLayoutU_initU : Stmt := inClass (topS 26) 0
theorem scLayoutU_initU : FnScope ["self", "word"] ["self", "word"] (defScope sLayoutU_initU) := ⟨rfl, rfl, rfl, by decide +kernel, rfl, by decide +kernel, by decide +kernel⟩
abbrev slaw_power : Stmt := topS 38
theorem sclaw_power : FnScope ["depth", "found", "turn"] ["depth"] (defScope slaw_power) := ⟨rfl, rfl, rfl, by decide +kernel, rfl, by decide +kernel, by decide +kernel⟩
abbrev slaw_spin : Stmt := topS 36
theorem sclaw_spin : FnScope ["reel", "many", "drawn", "mixed"] ["reel", "many"] (defScope slaw_spin) := ⟨rfl, rfl, rfl, by decide +kernel, rfl, by decide +kernel, by decide +kernel⟩
abbrev slaw_drawn_box : Stmt := topS 39
theorem sclaw_drawn_box : FnScope ["reel", "word", "sides", "letter", "size", "low", "near"] ["reel", "word"] (defScope slaw_drawn_box) := ⟨rfl, rfl, rfl, by decide +kernel, rfl, by decide +kernel, by decide +kernel⟩
abbrev slaw_drawn_word : Stmt := topS 37
theorem sclaw_drawn_word : FnScope ["reel", "x_most", "y_most", "left", "found", "way", "axis", "many"] ["reel", "x_most", "y_most"] (defScope slaw_drawn_word) := ⟨rfl, rfl, rfl, by decide +kernel, rfl, by decide +kernel, by decide +kernel⟩
abbrev slaw_key_of : Stmt := topS 40
theorem sclaw_key_of : FnScope ["word", "x", "y", "found", "weight", "letter"] ["word", "x", "y"] (defScope slaw_key_of) := ⟨rfl, rfl, rfl, by decide +kernel, rfl, by decide +kernel, by decide +kernel⟩
abbrev slaw_listed_keys : Stmt := topS 41
theorem sclaw_listed_keys : FnScope ["word", "box", "found", "x", "y"] ["word", "box"] (defScope slaw_listed_keys) := ⟨rfl, rfl, rfl, by decide +kernel, rfl, by decide +kernel, by decide +kernel⟩
abbrev slaw_stretches : Stmt := topS 42
theorem sclaw_stretches : FnScope ["keys", "found", "key"] ["keys"] (defScope slaw_stretches) := ⟨rfl, rfl, rfl, by decide +kernel, rfl, by decide +kernel, by decide +kernel⟩
abbrev sarea_of : Stmt := topS 1
theorem scarea_of : FnScope ["box", "x1", "y1", "x2", "y2"] ["box"] (defScope sarea_of) := ⟨rfl, rfl, rfl, by decide +kernel, rfl, by decide +kernel, by decide +kernel⟩
abbrev sLayout_word : Stmt := inClass (topS 26) 2
theorem scLayout_word : FnScope ["self"] ["self"] (defScope sLayout_word) := ⟨rfl, rfl, rfl, by decide +kernel, rfl, by decide +kernel, by decide +kernel⟩
abbrev sLayout_x_bits : Stmt := inClass (topS 26) 3
theorem scLayout_x_bits : FnScope ["self"] ["self"] (defScope sLayout_x_bits) := ⟨rfl, rfl, rfl, by decide +kernel, rfl, by decide +kernel, by decide +kernel⟩
abbrev sLayout_y_bits : Stmt := inClass (topS 26) 4
theorem scLayout_y_bits : FnScope ["self"] ["self"] (defScope sLayout_y_bits) := ⟨rfl, rfl, rfl, by decide +kernel, rfl, by decide +kernel, by decide +kernel⟩
abbrev sis_integer : Stmt := topS 14
theorem scis_integer : FnScope ["value"] ["value"] (defScope sis_integer) := ⟨rfl, rfl, rfl, by decide +kernel, rfl, by decide +kernel, by decide +kernel⟩
abbrev sare_integers : Stmt := topS 16
theorem scare_integers : FnScope ["value", "many", "part"] ["value", "many"] (defScope sare_integers) := ⟨rfl, rfl, rfl, by decide +kernel, rfl, by decide +kernel, by decide +kernel⟩
abbrev sis_box : Stmt := topS 18
theorem scis_box : FnScope ["value", "x_bits", "y_bits", "x1", "y1", "x2", "y2"] ["value", "x_bits", "y_bits"] (defScope sis_box) := ⟨rfl, rfl, rfl, by decide +kernel, rfl, by decide +kernel, by decide +kernel⟩
abbrev scheck_box : Stmt := topS 21
theorem sccheck_box : FnScope ["box", "x_bits", "y_bits"] ["box", "x_bits", "y_bits"] (defScope scheck_box) := ⟨rfl, rfl, rfl, by decide +kernel, rfl, by decide +kernel, by decide +kernel⟩
abbrev scheck_layout : Stmt := topS 27
theorem sccheck_layout : FnScope ["layout"] ["layout"] (defScope scheck_layout) := ⟨rfl, rfl, rfl, by decide +kernel, rfl, by decide +kernel, by decide +kernel⟩
abbrev scheck_layout_and_box : Stmt := topS 28
theorem sccheck_layout_and_box : FnScope ["layout", "box"] ["layout", "box"] (defScope scheck_layout_and_box) := ⟨rfl, rfl, rfl, by decide +kernel, rfl, by decide +kernel, by decide +kernel⟩
abbrev sfeet : Stmt := topS 24
theorem scfeet : FnScope ["word", "i", "j", "found", "letter"] ["word"] (defScope sfeet) := ⟨rfl, rfl, rfl, by decide +kernel, rfl, by decide +kernel, by decide +kernel⟩
abbrev scount_multiples : Stmt := topS 2
theorem sccount_multiples : FnScope ["digit", "low", "high"] ["digit", "low", "high"] (defScope scount_multiples) := ⟨rfl, rfl, rfl, by decide +kernel, rfl, by decide +kernel, by decide +kernel⟩
abbrev scount_odd_multiples : Stmt := topS 3
theorem sccount_odd_multiples : FnScope ["digit", "low", "high"] ["digit", "low", "high"] (defScope scount_odd_multiples) := ⟨rfl, rfl, rfl, by decide +kernel, rfl, by decide +kernel, by decide +kernel⟩
abbrev scount_spans : Stmt := topS 4
theorem sccount_spans : FnScope ["digit", "low", "high"] ["digit", "low", "high"] (defScope scount_spans) := ⟨rfl, rfl, rfl, by decide +kernel, rfl, by decide +kernel, by decide +kernel⟩
abbrev ssaved_by : Stmt := topS 33
theorem scsaved_by : FnScope ["letter", "i", "j", "box", "x1", "y1", "x2", "y2"] ["letter", "i", "j", "box"] (defScope ssaved_by) := ⟨rfl, rfl, rfl, by decide +kernel, rfl, by decide +kernel, by decide +kernel⟩
abbrev ssaved : Stmt := topS 31
theorem scsaved : FnScope ["layout", "box", "letter", "i", "j"] ["layout", "box"] (defScope ssaved) := ⟨rfl, rfl, rfl, by decide +kernel, rfl, by decide +kernel, by decide +kernel⟩
abbrev scount_runs : Stmt := topS 30
theorem sccount_runs : FnScope ["layout", "box", "letters"] ["layout", "box"] (defScope scount_runs) := ⟨rfl, rfl, rfl, by decide +kernel, rfl, by decide +kernel, by decide +kernel⟩
abbrev sis_cell : Stmt := topS 17
theorem scis_cell : FnScope ["value", "x_bits", "y_bits", "x", "y"] ["value", "x_bits", "y_bits"] (defScope sis_cell) := ⟨rfl, rfl, rfl, by decide +kernel, rfl, by decide +kernel, by decide +kernel⟩
abbrev scheck_cell : Stmt := topS 19
theorem sccheck_cell : FnScope ["cell", "x_bits", "y_bits"] ["cell", "x_bits", "y_bits"] (defScope scheck_cell) := ⟨rfl, rfl, rfl, by decide +kernel, rfl, by decide +kernel, by decide +kernel⟩
abbrev sLayout_key : Stmt := inClass (topS 26) 5
theorem scLayout_key : FnScope ["self", "cell", "x", "y", "total", "letter", "i", "j", "digit"] ["self", "cell"] (defScope sLayout_key) := ⟨rfl, rfl, rfl, by decide +kernel, rfl, by decide +kernel, by decide +kernel⟩
abbrev sends : Stmt := topS 32
theorem scends : FnScope ["layout", "box", "x1", "y1", "x2", "y2"] ["layout", "box"] (defScope sends) := ⟨rfl, rfl, rfl, by decide +kernel, rfl, by decide +kernel, by decide +kernel⟩
abbrev slaw_right : Stmt := topS 43
theorem sclaw_right : FnScope ["reel", "most", "word", "one", "turn", "box", "keys", "whole"] ["reel", "most"] (defScope slaw_right) := ⟨rfl, rfl, rfl, by decide +kernel, rfl, by decide +kernel, by decide +kernel⟩
abbrev slaw_wound : Stmt := topS 35
theorem sclaw_wound : FnScope ["script", "k", "cell"] ["script", "k"] (defScope slaw_wound) := ⟨rfl, rfl, rfl, by decide +kernel, rfl, by decide +kernel, by decide +kernel⟩
abbrev slaw : Stmt := topS 44
theorem sclaw : FnScope ["script", "k", "reel", "most", "z", "square", "bar", "told"] ["script"] (defScope slaw) := ⟨rfl, rfl, rfl, by decide +kernel, rfl, by decide +kernel, by decide +kernel⟩
structure Ads where
  C_Layout : Addr
  f_is_word : Addr
  d_is_word : FuncData
  f_LayoutU_initU : Addr
  d_LayoutU_initU : FuncData
  f_law_power : Addr
  d_law_power : FuncData
  f_law_spin : Addr
  d_law_spin : FuncData
  f_law_drawn_box : Addr
  d_law_drawn_box : FuncData
  f_law_drawn_word : Addr
  d_law_drawn_word : FuncData
  f_law_key_of : Addr
  d_law_key_of : FuncData
  f_law_listed_keys : Addr
  d_law_listed_keys : FuncData
  f_law_stretches : Addr
  d_law_stretches : FuncData
  f_area_of : Addr
  d_area_of : FuncData
  f_Layout_word : Addr
  d_Layout_word : FuncData
  p_Layout_word : Addr
  f_Layout_x_bits : Addr
  d_Layout_x_bits : FuncData
  p_Layout_x_bits : Addr
  f_Layout_y_bits : Addr
  d_Layout_y_bits : FuncData
  p_Layout_y_bits : Addr
  f_is_integer : Addr
  d_is_integer : FuncData
  f_are_integers : Addr
  d_are_integers : FuncData
  f_is_box : Addr
  d_is_box : FuncData
  f_check_box : Addr
  d_check_box : FuncData
  f_check_layout : Addr
  d_check_layout : FuncData
  f_check_layout_and_box : Addr
  d_check_layout_and_box : FuncData
  f_feet : Addr
  d_feet : FuncData
  f_count_multiples : Addr
  d_count_multiples : FuncData
  f_count_odd_multiples : Addr
  d_count_odd_multiples : FuncData
  f_count_spans : Addr
  d_count_spans : FuncData
  f_saved_by : Addr
  d_saved_by : FuncData
  f_saved : Addr
  d_saved : FuncData
  f_count_runs : Addr
  d_count_runs : FuncData
  f_is_cell : Addr
  d_is_cell : FuncData
  f_check_cell : Addr
  d_check_cell : FuncData
  f_Layout_key : Addr
  d_Layout_key : FuncData
  f_ends : Addr
  d_ends : FuncData
  f_law_right : Addr
  d_law_right : FuncData
  f_law_wound : Addr
  d_law_wound : FuncData
  f_law : Addr
  d_law : FuncData
structure Top (K : PySem.W.Frag) (mg : Str → Option Value) (Z : Ads) : Prop where
  F_is_word : Fun K "is_word" "is_word" sis_word Z.f_is_word Z.d_is_word
  b_is_word : Binds K Z.d_is_word ["value"] []
  m_is_word : mg "is_word" = some (.ref Z.f_is_word)
  F_LayoutU_initU : Fun K "__init__" "Layout.__init__" sLayoutU_initU Z.f_LayoutU_initU Z.d_LayoutU_initU
  b_LayoutU_initU : Binds K Z.d_LayoutU_initU ["self", "word"] []
  mk_Layout : Mk K Z.C_Layout Z.f_LayoutU_initU
  F_law_power : Fun K "_law_power" "_law_power" slaw_power Z.f_law_power Z.d_law_power
  b_law_power : Binds K Z.d_law_power ["depth"] []
  m_law_power : mg "_law_power" = some (.ref Z.f_law_power)
  F_law_spin : Fun K "_law_spin" "_law_spin" slaw_spin Z.f_law_spin Z.d_law_spin
  b_law_spin : Binds K Z.d_law_spin ["reel", "many"] []
  m_law_spin : mg "_law_spin" = some (.ref Z.f_law_spin)
  F_law_drawn_box : Fun K "_law_drawn_box" "_law_drawn_box" slaw_drawn_box Z.f_law_drawn_box Z.d_law_drawn_box
  b_law_drawn_box : Binds K Z.d_law_drawn_box ["reel", "word"] []
  m_law_drawn_box : mg "_law_drawn_box" = some (.ref Z.f_law_drawn_box)
  F_law_drawn_word : Fun K "_law_drawn_word" "_law_drawn_word" slaw_drawn_word Z.f_law_drawn_word Z.d_law_drawn_word
  b_law_drawn_word : Binds K Z.d_law_drawn_word ["reel", "x_most", "y_most"] []
  m_law_drawn_word : mg "_law_drawn_word" = some (.ref Z.f_law_drawn_word)
  F_law_key_of : Fun K "_law_key_of" "_law_key_of" slaw_key_of Z.f_law_key_of Z.d_law_key_of
  b_law_key_of : Binds K Z.d_law_key_of ["word", "x", "y"] []
  m_law_key_of : mg "_law_key_of" = some (.ref Z.f_law_key_of)
  F_law_listed_keys : Fun K "_law_listed_keys" "_law_listed_keys" slaw_listed_keys Z.f_law_listed_keys Z.d_law_listed_keys
  b_law_listed_keys : Binds K Z.d_law_listed_keys ["word", "box"] []
  m_law_listed_keys : mg "_law_listed_keys" = some (.ref Z.f_law_listed_keys)
  F_law_stretches : Fun K "_law_stretches" "_law_stretches" slaw_stretches Z.f_law_stretches Z.d_law_stretches
  b_law_stretches : Binds K Z.d_law_stretches ["keys"] []
  m_law_stretches : mg "_law_stretches" = some (.ref Z.f_law_stretches)
  F_area_of : Fun K "area_of" "area_of" sarea_of Z.f_area_of Z.d_area_of
  b_area_of : Binds K Z.d_area_of ["box"] []
  m_area_of : mg "area_of" = some (.ref Z.f_area_of)
  F_Layout_word : Fun K "word" "Layout.word" sLayout_word Z.f_Layout_word Z.d_Layout_word
  b_Layout_word : Binds K Z.d_Layout_word ["self"] []
  p_Layout_word : PropOf K Z.C_Layout "word" Z.p_Layout_word Z.f_Layout_word
  F_Layout_x_bits : Fun K "x_bits" "Layout.x_bits" sLayout_x_bits Z.f_Layout_x_bits Z.d_Layout_x_bits
  b_Layout_x_bits : Binds K Z.d_Layout_x_bits ["self"] []
  p_Layout_x_bits : PropOf K Z.C_Layout "x_bits" Z.p_Layout_x_bits Z.f_Layout_x_bits
  F_Layout_y_bits : Fun K "y_bits" "Layout.y_bits" sLayout_y_bits Z.f_Layout_y_bits Z.d_Layout_y_bits
  b_Layout_y_bits : Binds K Z.d_Layout_y_bits ["self"] []
  p_Layout_y_bits : PropOf K Z.C_Layout "y_bits" Z.p_Layout_y_bits Z.f_Layout_y_bits
  F_is_integer : Fun K "is_integer" "is_integer" sis_integer Z.f_is_integer Z.d_is_integer
  b_is_integer : Binds K Z.d_is_integer ["value"] []
  m_is_integer : mg "is_integer" = some (.ref Z.f_is_integer)
  F_are_integers : Fun K "are_integers" "are_integers" sare_integers Z.f_are_integers Z.d_are_integers
  b_are_integers : Binds K Z.d_are_integers ["value", "many"] []
  m_are_integers : mg "are_integers" = some (.ref Z.f_are_integers)
  F_is_box : Fun K "is_box" "is_box" sis_box Z.f_is_box Z.d_is_box
  b_is_box : Binds K Z.d_is_box ["value", "x_bits", "y_bits"] []
  m_is_box : mg "is_box" = some (.ref Z.f_is_box)
  F_check_box : Fun K "check_box" "check_box" scheck_box Z.f_check_box Z.d_check_box
  b_check_box : Binds K Z.d_check_box ["box", "x_bits", "y_bits"] []
  m_check_box : mg "check_box" = some (.ref Z.f_check_box)
  F_check_layout : Fun K "check_layout" "check_layout" scheck_layout Z.f_check_layout Z.d_check_layout
  b_check_layout : Binds K Z.d_check_layout ["layout"] []
  m_check_layout : mg "check_layout" = some (.ref Z.f_check_layout)
  F_check_layout_and_box : Fun K "check_layout_and_box" "check_layout_and_box" scheck_layout_and_box Z.f_check_layout_and_box Z.d_check_layout_and_box
  b_check_layout_and_box : Binds K Z.d_check_layout_and_box ["layout", "box"] []
  m_check_layout_and_box : mg "check_layout_and_box" = some (.ref Z.f_check_layout_and_box)
  F_feet : Fun K "feet" "feet" sfeet Z.f_feet Z.d_feet
  b_feet : Binds K Z.d_feet ["word"] []
  m_feet : mg "feet" = some (.ref Z.f_feet)
  F_count_multiples : Fun K "count_multiples" "count_multiples" scount_multiples Z.f_count_multiples Z.d_count_multiples
  b_count_multiples : Binds K Z.d_count_multiples ["digit", "low", "high"] []
  m_count_multiples : mg "count_multiples" = some (.ref Z.f_count_multiples)
  F_count_odd_multiples : Fun K "count_odd_multiples" "count_odd_multiples" scount_odd_multiples Z.f_count_odd_multiples Z.d_count_odd_multiples
  b_count_odd_multiples : Binds K Z.d_count_odd_multiples ["digit", "low", "high"] []
  m_count_odd_multiples : mg "count_odd_multiples" = some (.ref Z.f_count_odd_multiples)
  F_count_spans : Fun K "count_spans" "count_spans" scount_spans Z.f_count_spans Z.d_count_spans
  b_count_spans : Binds K Z.d_count_spans ["digit", "low", "high"] []
  m_count_spans : mg "count_spans" = some (.ref Z.f_count_spans)
  F_saved_by : Fun K "saved_by" "saved_by" ssaved_by Z.f_saved_by Z.d_saved_by
  b_saved_by : Binds K Z.d_saved_by ["letter", "i", "j", "box"] []
  m_saved_by : mg "saved_by" = some (.ref Z.f_saved_by)
  F_saved : Fun K "saved" "saved" ssaved Z.f_saved Z.d_saved
  b_saved : Binds K Z.d_saved ["layout", "box"] []
  m_saved : mg "saved" = some (.ref Z.f_saved)
  F_count_runs : Fun K "count_runs" "count_runs" scount_runs Z.f_count_runs Z.d_count_runs
  b_count_runs : Binds K Z.d_count_runs ["layout", "box"] []
  m_count_runs : mg "count_runs" = some (.ref Z.f_count_runs)
  F_is_cell : Fun K "is_cell" "is_cell" sis_cell Z.f_is_cell Z.d_is_cell
  b_is_cell : Binds K Z.d_is_cell ["value", "x_bits", "y_bits"] []
  m_is_cell : mg "is_cell" = some (.ref Z.f_is_cell)
  F_check_cell : Fun K "check_cell" "check_cell" scheck_cell Z.f_check_cell Z.d_check_cell
  b_check_cell : Binds K Z.d_check_cell ["cell", "x_bits", "y_bits"] []
  m_check_cell : mg "check_cell" = some (.ref Z.f_check_cell)
  F_Layout_key : Fun K "key" "Layout.key" sLayout_key Z.f_Layout_key Z.d_Layout_key
  b_Layout_key : Binds K Z.d_Layout_key ["self", "cell"] []
  meth_Layout_key : Meth K Z.C_Layout "key" Z.f_Layout_key
  F_ends : Fun K "ends" "ends" sends Z.f_ends Z.d_ends
  b_ends : Binds K Z.d_ends ["layout", "box"] []
  m_ends : mg "ends" = some (.ref Z.f_ends)
  F_law_right : Fun K "_law_right" "_law_right" slaw_right Z.f_law_right Z.d_law_right
  b_law_right : Binds K Z.d_law_right ["reel", "most"] []
  m_law_right : mg "_law_right" = some (.ref Z.f_law_right)
  F_law_wound : Fun K "_law_wound" "_law_wound" slaw_wound Z.f_law_wound Z.d_law_wound
  b_law_wound : Binds K Z.d_law_wound ["script", "k"] []
  m_law_wound : mg "_law_wound" = some (.ref Z.f_law_wound)
  F_law : Fun K "law" "law" slaw Z.f_law Z.d_law
  b_law : Binds K Z.d_law ["script"] []
  m_law : mg "law" = some (.ref Z.f_law)
  m_Layout : mg "Layout" = some (.ref Z.C_Layout)
  cl_Layout : Cls K Z.C_Layout
  ins_Layout : C8.InsC K Z.C_Layout
  ne_Layout : PySem.W.findIn K (.ref Z.C_Layout) "__ne__" = some (some (.builtin "object.__ne__"))
  tc_Layout : PySem.W.typeIn K (.ref Z.C_Layout) = some (.type "type")
  no_Layout_word : NoAttr K Z.C_Layout "_word"
  no_Layout_x_bits : NoAttr K Z.C_Layout "_x_bits"
  no_Layout_y_bits : NoAttr K Z.C_Layout "_y_bits"
  z_all : mg "all" = none
  z_bool : mg "bool" = none
  z_int : mg "int" = none
  z_isinstance : mg "isinstance" = none
  z_len : mg "len" = none
  z_max : mg "max" = none
  z_min : mg "min" = none
  z_range : mg "range" = none
  z_repr : mg "repr" = none
  z_sorted : mg "sorted" = none
  z_str : mg "str" = none
  z_sum : mg "sum" = none
  z_tuple : mg "tuple" = none
  m_MOST_BITS : ∃ t, mg "MOST_BITS" = some (.int 100 t)
def splaw_any (K : PySem.W.Frag) : Sp := fun vs H Q _ => ∃ (a : Addr) (ns : List Int), vs = [.ref a] ∧ SqL K H a (ns.map V.int) ∧ ns.length ≤ 63 ∧ ∀ H', Q (.bl true) H'
theorem but_same {r : Addr} {H H1 H2 : Hp} (e : Same H H1) (hr : H r = none) (b : But r H1 H2) : Same H H2 := fun c o q => b c o (ne_of_none q hr) (e c o q)
theorem kk_of (len : Nat) : ∃ kk : Nat, 1 ≤ kk ∧ kk ≤ 6 ∧ (if (if ((len : Nat) : Int) < 6 then ((len : Nat) : Int) else 6) > 1 then (if ((len : Nat) : Int) < 6 then ((len : Nat) : Int) else 6) else 1) = (kk : Int) := by
  by_cases h : ((len : Nat) : Int) < 6
  · rw [if_pos h]
    by_cases h1 : ((len : Nat) : Int) > 1
    · rw [if_pos h1]
      exact ⟨len, by omega, by omega, rfl⟩
    · rw [if_neg h1]
      exact ⟨1, by omega, by omega, rfl⟩
  · rw [if_neg h, if_pos (by omega)]
    exact ⟨6, by omega, by omega, rfl⟩
section
variable {P : Program} {w : World} {K : PySem.W.Frag} {mg : Str → Option Value} {base : Heap}
def spis_word (K : PySem.W.Frag) (Z : Ads) : Sp := fun vs H Q _ => ∃ l : List Bool, vs = [.str (wS l)] ∧ GoodW l ∧ Q (.bl true) H
theorem okis_word {Z : Ads} (T : Top K mg Z) : FnOk P w K mg base CX0 1 Z.f_is_word Z.d_is_word ["value"] (spis_word K Z) := by
  refine T.F_is_word.ok scis_word (fun vs H Q E h => ?_) (fun cdv A outer s H vs Q E hr h => ?_)
  · obtain ⟨l, rfl, g, q⟩ := h
    rfl
  · obtain ⟨l, rfl, g, q⟩ := h
    obtain ⟨tM, mM⟩ := T.m_MOST_BITS
    refine ⟨_, (pss_cons (ps_if (PW.pt (pw_or (pt_not (pt_val (pe_callB (call_isi) (by rfl) T.z_isinstance (by decide +kernel) (pa_cons (pv 0) (pa_cons (pe_bltn (v := .ty "str") (by rfl) T.z_str (by decide +kernel) rfl) pa_nil))))) (pw_or1 (pt_cmpR op_eq (pv 0) pe_str (nomark _)))))
        (pss_one (ps_ret pe_bl))
        pss_nil)
      (pss_cons (ps_par (i := 1) (j := 2) (by rfl) scis_word.nd rfl rfl (by decide) rfl rfl (pa_cons (pe_bm PySem.F.plainAttrs_str PySem.F.slot_str_count PySem.F.type_str_count mt_count (pv 0) (pa_cons pe_str pa_nil)) (pa_cons (pe_bm PySem.F.plainAttrs_str PySem.F.slot_str_count PySem.F.type_str_count mt_count (pv 0) (pa_cons pe_str pa_nil)) pa_nil)) (by rfl))
      (pss_one (ps_ret (pe_and (pe_cmpR op_eq (pe_op op_add (pv 1) (pv 2)) (pe_callB call_len_str (by rfl) T.z_len (by decide +kernel) (pa_cons (pv 0) pa_nil)) (nomark _)) (pe_and (pe_cmpR op_le (pv 1) (pe_glob (v := .int 100) (by rfl) mM ⟨_, rfl⟩) (nomark _)) (pe_one (pe_cmpR op_le (pv 2) (pe_glob (v := .int 100) (by rfl) mM ⟨_, rfl⟩) (nomark _))))))))), ?_⟩
    refine ⟨_, rfl, .str (wS l), .ty "str", _, _, true, rfl, .ty _, .base (.str _), kit_ty (by decide +kernel), true, rfl, iteF ?_⟩
    refine ⟨_, rfl, rfl, _, rfl, ite2 (fun e => ?_) (fun _ => ?_)⟩
    · have e1 := V.str.inj (of_decide_eq_true e)
      rw [wS_nil] at e1
      exact absurd (wS_inj e1) g.1
    refine ⟨_, rfl, rfl, _, _, rfl, rfl, _, rfl, rfl, _, _, rfl, rfl, _, _, rfl, ?_⟩
    rw [count_x, count_y]
    have hl := nxy l
    refine ⟨_, rfl, _, rfl, _, _, rfl, rfl, _, rfl, _, rfl, small_line (by rw [wS_len]; have := g.len; omega), rfl, true, ?_, iteT ?_⟩
    · rw [wS_len, decide_eq_true]
      rw [← hl, Int.natCast_add]
    refine ⟨_, rfl, _, _, rfl, rfl, true, congrArg V.bl (decide_eq_true (by have := g.2.1; omega)), iteT ⟨_, rfl, _, _, rfl, rfl, ?_⟩⟩
    show Q (.bl (decide (((ny l : Nat) : Int) ≤ 100))) H
    rw [decide_eq_true (by have := g.2.2; omega)]
    exact q
def spLayoutU_initU (K : PySem.W.Frag) (Z : Ads) : Sp := fun vs H Q _ => ∃ (p dx : Addr) (l : List Bool), vs = [.ref p, .str (wS l)] ∧ GoodW l ∧ H p = some (.ins Z.C_Layout dx []) ∧ ∀ H', But p H H' → H' p = some (.ins Z.C_Layout dx (lf l)) → Q .non H'
theorem okLayoutU_initU {Z : Ads} (T : Top K mg Z) : FnOk P w K mg base CX0 2 Z.f_LayoutU_initU Z.d_LayoutU_initU ["self", "word"] (spLayoutU_initU K Z) := by
  have G_is_word : FnOk P w K mg base CX0 1 Z.f_is_word Z.d_is_word ["value"] (spis_word K Z) := (okis_word T).mono (by decide)
  refine T.F_LayoutU_initU.ok scLayoutU_initU (fun vs H Q E h => ?_) (fun cdv A outer s H vs Q E hr h => ?_)
  · obtain ⟨p, dx, l, rfl, g, hp, q⟩ := h
    rfl
  · obtain ⟨p, dx, l, rfl, g, hp, q⟩ := h
    refine ⟨_, (pss_cons (ps_if (pt_not (pt_val (pe_call G_is_word (hr.mono (by decide)) (by rfl) T.m_is_word T.F_is_word.kp T.b_is_word .nil pass0 (pa_cons (pv 1) pa_nil))))
        (pss_one ps_never)
        pss_nil)
      (pss_cons (ps_fld (pv 0) (pv 1) rfl)
      (pss_cons (ps_fld (pv 0) (pe_bm PySem.F.plainAttrs_str PySem.F.slot_str_count PySem.F.type_str_count mt_count (pv 1) (pa_cons pe_str pa_nil)) rfl)
      (pss_one (ps_fld (pv 0) (pe_bm PySem.F.plainAttrs_str PySem.F.slot_str_count PySem.F.type_str_count mt_count (pv 1) (pa_cons pe_str pa_nil)) rfl))))), ?_⟩
    refine ⟨_, rfl, l, rfl, g, true, rfl, iteF ?_⟩
    refine ⟨_, rfl, _, rfl, p, _, dx, _, rfl, hp, T.cl_Layout, T.no_Layout_word, (by show 0 < 1000; decide), ?_⟩
    refine ⟨_, rfl, rfl, _, _, rfl, rfl, ?_⟩
    rw [count_x]
    refine ⟨_, rfl, p, _, dx, _, rfl, upd_same, T.cl_Layout, T.no_Layout_x_bits, (by show 1 < 1000; decide), ?_⟩
    refine ⟨_, rfl, rfl, _, _, rfl, rfl, ?_⟩
    rw [count_y]
    refine ⟨_, rfl, p, _, dx, _, rfl, upd_same, T.cl_Layout, T.no_Layout_y_bits, (by show 2 < 1000; decide), ?_⟩
    refine q _ (fun b o nb e => ?_) ?_
    · rw [upd_ne nb, upd_ne nb, upd_ne nb]
      exact e
    · rw [upd_same]
      rfl
def splaw_power (K : PySem.W.Frag) (Z : Ads) : Sp := fun vs H Q _ => ∃ d : Nat, vs = [.int d] ∧ d ≤ 1000 ∧ Q (.int (2 ^ d : Nat)) H
theorem oklaw_power {Z : Ads} (T : Top K mg Z) : FnOk P w K mg base CX0 1 Z.f_law_power Z.d_law_power ["depth"] (splaw_power K Z) := by
  refine T.F_law_power.ok sclaw_power (fun vs H Q E h => ?_) (fun cdv A outer s H vs Q E hr h => ?_)
  · obtain ⟨d, rfl, hd, q⟩ := h
    rfl
  · obtain ⟨d, rfl, hd, q⟩ := h
    refine ⟨_, (pss_cons (ps_set (i := 1) sclaw_power.nd rfl (.inl rfl) pe_int)
      (pss_cons (ps_for PassesOwn.never rfl (pi_range1 (by rfl) T.z_range (pa_cons (pv 0) pa_nil)) (pg_name (i := 2) sclaw_power.nd rfl (.inl rfl))
        (pss_one (ps_set (i := 1) sclaw_power.nd rfl (.inl rfl) (pe_op op_mul pe_int (pv 1)))))
      (pss_one (ps_ret (pv 1))))), ?_⟩
    refine ⟨_, rfl, _, rfl, by omega, by omega, for_range (lo := 0) (n := d) (fun i σ H' => H' = H ∧ ∃ y, σ = [some (.int d), some (.int (2 ^ i : Nat)), y]) ⟨rfl, none, rfl⟩ ?_ ?_⟩
    · rintro i σ H' hi ⟨rfl, y, rfl⟩
      refine ⟨_, rfl, 2, _, rfl, rfl, by exact .inl (by decide), rfl, some (.int (0 + (i : Nat))), ?_⟩
      show _ = [some (V.int d), some (V.int ((2 ^ (i + 1) : Nat) : Int)), _]
      rw [Nat.pow_succ, Nat.mul_comm]
      rfl
    · rintro σ H' ⟨rfl, y, rfl⟩
      exact ⟨_, rfl, q⟩
def splaw_spin (K : PySem.W.Frag) (Z : Ads) : Sp := fun vs H Q _ => ∃ (r : Addr) (n many : Nat), vs = [.ref r, .int many] ∧ Reel H r n ∧ n ≤ 1000000 ∧ 1 ≤ many ∧ many < 2 ^ 1000 ∧ ∀ (d : Nat) H', d < many → But r H H' → Reel H' r (n + 1) → Q (.int d) H'
theorem oklaw_spin {Z : Ads} (T : Top K mg Z) : FnOk P w K mg base CX0 1 Z.f_law_spin Z.d_law_spin ["reel", "many"] (splaw_spin K Z) := by
  refine T.F_law_spin.ok sclaw_spin (fun vs H Q E h => ?_) (fun cdv A outer s H vs Q E hr h => ?_)
  · obtain ⟨r, n, many, rfl, ⟨a, b, c, hR, ha, hb, hb2, hc, hc2⟩, hn, hm, hm2, q⟩ := h
    rfl
  · obtain ⟨r, n, many, rfl, ⟨a, b, c, hR, ha, hb, hb2, hc, hc2⟩, hn, hm, hm2, q⟩ := h
    refine ⟨_, (pss_cons (ps_if (pt_cmpR op_gt (pe_ix ix_list (pv 0) pe_int (fun _ _ => rfl)) pe_int (nomark _))
        (pss_cons (ps_set (i := 2) sclaw_spin.nd rfl (.inl rfl) (pe_op op_modN (pe_callTy call_int1 (by rfl) T.z_int (by decide +kernel) (pa_cons (pe_ix ix_list (pv 0) pe_int (fun _ _ => rfl)) pa_nil)) (pv 1)))
      (pss_cons (ps_asg (pe_op op_fdivW (pe_ix ix_list (pv 0) pe_int (fun _ _ => rfl)) (pv 1)) (pg_sub (pv 0) pe_int set_list))
      (pss_one (ps_ret (pv 2)))))
        pss_nil)
      (pss_cons (ps_asg (pe_op op_add (pe_ix ix_list (pv 0) pe_int (fun _ _ => rfl)) pe_int) (pg_sub (pv 0) pe_int set_list))
      (pss_cons (ps_set (i := 3) sclaw_spin.nd rfl (.inl rfl) (pe_op op_modN (pe_callTy call_int1 (by rfl) T.z_int (by decide +kernel) (pa_cons (pe_op op_powB (pe_op op_add (pe_ix ix_list (pv 0) pe_int (fun _ _ => rfl)) (pe_op op_mul pe_int (pe_ix ix_list (pv 0) pe_int (fun _ _ => rfl)))) pe_int) pa_nil)) (pe_op op_add (pe_op op_pow pe_int pe_int) pe_int)))
      (pss_cons (ps_set (i := 3) sclaw_spin.nd rfl (.inl rfl) (pe_op op_modN (pe_callTy call_int1 (by rfl) T.z_int (by decide +kernel) (pa_cons (pe_op op_powB (pe_op op_add (pv 3) (pe_op op_mul pe_int (pe_ix ix_list (pv 0) pe_int (fun _ _ => rfl)))) pe_int) pa_nil)) (pe_op op_add (pe_op op_pow pe_int pe_int) pe_int)))
      (pss_one (ps_ret (pe_op op_modN (pe_callTy call_int1 (by rfl) T.z_int (by decide +kernel) (pa_cons (pe_op op_fdivN (pv 3) pe_int) pa_nil)) (pv 1)))))))), ?_⟩
    have fin : ∀ (z : Int) (H' : Hp), But r H H' → Reel H' r (n + 1) → Q (.int (z.fmod (many : Int))) H' := by
      intro z H' bt rl
      have h1 : 0 ≤ z.fmod (many : Int) := Int.fmod_nonneg_of_pos _ (by omega)
      have h2 : z.fmod (many : Int) < (many : Int) := Int.fmod_lt_of_pos _ (by omega)
      have e : z.fmod (many : Int) = (((z.fmod (many : Int)).toNat : Nat) : Int) := by omega
      rw [e]
      exact q _ H' (by omega) bt rl
    refine ⟨_, rfl, r, _, 0, .int a, rfl, rfl, SqL.of hR, rfl, _, _, rfl, rfl, _, rfl, ite2 (fun e => ?_) (fun e => ?_)⟩
    · have ha0 : 0 < a := of_decide_eq_true e
      refine ⟨_, rfl, r, _, 0, .int a, rfl, rfl, SqL.of hR, rfl, .inl ⟨_, rfl, _, rfl, _, _, rfl, rfl, by omega, ?_⟩⟩
      refine ⟨_, rfl, r, _, 0, .int a, rfl, rfl, SqL.of hR, rfl, _, rfl, _, _, rfl, rfl, wide_div (b := 1000) (by omega) (by omega) (by decide) (by decide), _, rfl, r, _, _, 0, rfl, rfl, hR, rfl, ?_⟩
      refine ⟨_, rfl, fin a _ But.upd ⟨a / many, b, c, upd_same, Int.ediv_nonneg ha (by omega), hb, hb2, hc, by omega⟩⟩
    · refine ⟨_, rfl, r, _, 2, .int c, rfl, rfl, SqL.of hR, rfl, _, _, rfl, rfl, _, rfl, r, _, _, 2, rfl, rfl, hR, rfl, ?_⟩
      have hR2 : (upd H r (.lst [.int a, .int b, .int (c + 1)])) r = some (.lst [.int a, .int b, .int (c + 1)]) := upd_same
      have m1 : (10 : Int) ^ (42 : Int).toNat + 63 = 1000000000000000000000000000000000000000063 := by decide +kernel
      have m2 : (10 : Int) ^ (44 : Int).toNat + 57 = 100000000000000000000000000000000000000000057 := by decide +kernel
      have f1 : ∀ c : Int, 0 ≤ c.fmod 1000000000000000000000000000000000000000063 ∧ c.fmod 1000000000000000000000000000000000000000063 < 1000000000000000000000000000000000000000063 := fun c => ⟨Int.fmod_nonneg_of_pos _ (by decide), Int.fmod_lt_of_pos _ (by decide)⟩
      refine ⟨_, rfl, r, _, 1, .int b, rfl, rfl, SqL.of hR2, rfl, _, rfl, r, _, 2, .int (c + 1), rfl, rfl, SqL.of hR2, rfl, _, _, rfl, rfl, .inl ⟨by decide, by decide⟩, _, _, rfl, rfl, _, _, rfl, rfl, ⟨300, by omega, by decide, by decide⟩, .inl ⟨_, rfl, _, _, rfl, rfl, ⟨by decide, by decide, by decide⟩, _, _, rfl, rfl, _, _, rfl, rfl, by show ((10 : Int) ^ (42 : Int).toNat + 63) ≠ 0; rw [m1]; decide, ?_⟩⟩
      refine ⟨_, rfl, _, rfl, r, _, 2, .int (c + 1), rfl, rfl, SqL.of hR2, rfl, _, _, rfl, rfl, .inl ⟨by decide, by decide⟩, _, _, rfl, rfl, _, _, rfl, rfl, ⟨300, ?_, by decide, by decide⟩, .inl ⟨_, rfl, _, _, rfl, rfl, ⟨by decide, by decide, by decide⟩, _, _, rfl, rfl, _, _, rfl, rfl, by show ((10 : Int) ^ (44 : Int).toNat + 57) ≠ 0; rw [m2]; decide, ?_⟩⟩
      · have := f1 ((b + 86028121 * (c + 1)) ^ (3 : Int).toNat)
        show (Int.fmod ((b + 86028121 * (c + 1)) ^ (3 : Int).toNat) ((10 : Int) ^ (42 : Int).toNat + 63) + 67867967 * (c + 1)).natAbs < 2 ^ 300
        rw [m1]
        omega
      refine ⟨_, rfl, _, _, rfl, rfl, ⟨by decide, by decide⟩, .inl ⟨_, rfl, _, rfl, _, _, rfl, rfl, by omega, ?_⟩⟩
      exact fin _ _ But.upd ⟨a, b, c + 1, upd_same, ha, hb, hb2, by omega, by omega⟩
def splaw_drawn_box (K : PySem.W.Frag) (Z : Ads) : Sp := fun vs H Q _ => ∃ (r : Addr) (n : Nat) (l : List Bool), vs = [.ref r, .str (wS l)] ∧ Reel H r n ∧ n ≤ 400000 ∧ GoodW l ∧ ∀ (t : Addr) (x1 y1 x2 y2 : Nat) H', x1 ≤ x2 → x2 < 2 ^ nx l → y1 ≤ y2 → y2 < 2 ^ ny l → But r H H' → Reel H' r (n + 10) → H t = none → H' t = some (.tup [.int x1, .int y1, .int x2, .int y2]) → Q (.ref t) H'
theorem oklaw_drawn_box {Z : Ads} (T : Top K mg Z) : FnOk P w K mg base CX0 2 Z.f_law_drawn_box Z.d_law_drawn_box ["reel", "word"] (splaw_drawn_box K Z) := by
  have G_law_power : FnOk P w K mg base CX0 1 Z.f_law_power Z.d_law_power ["depth"] (splaw_power K Z) := (oklaw_power T).mono (by decide)
  have G_law_spin : FnOk P w K mg base CX0 1 Z.f_law_spin Z.d_law_spin ["reel", "many"] (splaw_spin K Z) := (oklaw_spin T).mono (by decide)
  refine T.F_law_drawn_box.ok sclaw_drawn_box (fun vs H Q E h => ?_) (fun cdv A outer s H vs Q E hr h => ?_)
  · obtain ⟨r, n, l, rfl, hR, hn, g, q⟩ := h
    rfl
  · obtain ⟨r, n, l, rfl, hR, hn, g, q⟩ := h
    refine ⟨_, (pss_cons (ps_set (i := 2) sclaw_drawn_box.nd rfl (.inl rfl) (pe_lst pa_nil))
      (pss_cons (ps_for PassesOwn.never rfl (pi_str pe_str) (pg_name (i := 3) sclaw_drawn_box.nd rfl (.inl rfl))
        (pss_cons (ps_set (i := 4) sclaw_drawn_box.nd rfl (.inl rfl) (pe_call G_law_power (hr.mono (by decide)) (by rfl) T.m_law_power T.F_law_power.kp T.b_law_power .nil pass0 (pa_cons (pe_bm PySem.F.plainAttrs_str PySem.F.slot_str_count PySem.F.type_str_count mt_count (pv 1) (pa_cons (pv 3) pa_nil)) pa_nil)))
      (pss_cons (ps_set (i := 5) sclaw_drawn_box.nd rfl (.inl rfl) (pe_ix ix_list (pe_lst (pa_cons (pe_call G_law_spin (hr.mono (by decide)) (by rfl) T.m_law_spin T.F_law_spin.kp T.b_law_spin .nil pass0 (pa_cons (pv 0) (pa_cons (pv 4) pa_nil))) (pa_cons pe_int pa_nil))) (pe_callTy call_int1 (by rfl) T.z_int (by decide +kernel) (pa_cons (pe_cmpR op_eq (pe_call G_law_spin (hr.mono (by decide)) (by rfl) T.m_law_spin T.F_law_spin.kp T.b_law_spin .nil pass0 (pa_cons (pv 0) (pa_cons pe_int pa_nil))) pe_int (nomark _)) pa_nil)) (fun _ _ => rfl)))
      (pss_cons (ps_set (i := 6) sclaw_drawn_box.nd rfl (.inl rfl) (pe_callB (call_min2 (by rfl)) (by rfl) T.z_min (by decide +kernel) (pa_cons (pe_op op_sub (pv 4) pe_int) (pa_cons (pe_op op_add (pv 5) (pe_call G_law_spin (hr.mono (by decide)) (by rfl) T.m_law_spin T.F_law_spin.kp T.b_law_spin .nil pass0 (pa_cons (pv 0) (pa_cons pe_int pa_nil)))) pa_nil))))
      (pss_one (ps_expr (pe_bm PySem.F.plainAttrs_list PySem.F.slot_list_append PySem.F.type_list_append mt_append (pv 2) (pa_cons (pe_tup (pa_cons (pv 5) (pa_cons (pe_ix ix_list (pe_lst (pa_cons (pe_op op_add (pv 5) (pe_call G_law_spin (hr.mono (by decide)) (by rfl) T.m_law_spin T.F_law_spin.kp T.b_law_spin .nil pass0 (pa_cons (pv 0) (pa_cons (pe_op op_sub (pv 4) (pv 5)) pa_nil)))) (pa_cons (pe_op op_sub (pv 4) pe_int) (pa_cons (pv 5) (pa_cons (pv 6) pa_nil))))) (pe_call G_law_spin (hr.mono (by decide)) (by rfl) T.m_law_spin T.F_law_spin.kp T.b_law_spin .nil pass0 (pa_cons (pv 0) (pa_cons pe_int pa_nil))) (fun _ _ => rfl)) pa_nil))) pa_nil))))))))
      (pss_one (ps_ret (pe_tup (pa_cons (pe_ix ix_tup (pe_ix ix_list (pv 2) pe_int (fun _ _ => rfl)) pe_int (fun _ _ => rfl)) (pa_cons (pe_ix ix_tup (pe_ix ix_list (pv 2) pe_int (fun _ _ => rfl)) pe_int (fun _ _ => rfl)) (pa_cons (pe_ix ix_tup (pe_ix ix_list (pv 2) pe_int (fun _ _ => rfl)) pe_int (fun _ _ => rfl)) (pa_cons (pe_ix ix_tup (pe_ix ix_list (pv 2) pe_int (fun _ _ => rfl)) pe_int (fun _ _ => rfl)) pa_nil))))))))), ?_⟩
    refine ⟨Nat.zero_le _, fun sp0 nsp => ?_⟩
    have hsp0 : (upd H sp0 (.lst [])) sp0 = some (.lst []) := upd_same
    have spr : sp0 ≠ r := hR.ne nsp
    have b0 : But r H (upd H sp0 (.lst [])) := Same.but (same_new (Same.refl H) nsp)
    have R0 : Reel (upd H sp0 (.lst [])) r n := hR.same (same_new (Same.refl H) nsp)
    refine ⟨_, rfl, fun i c σ H' => i + c = 2 ∧ But r H H' ∧ Reel H' r (n + 5 * i) ∧ ∃ (ts : List Addr) (y3 y4 y5 y6 : Option V), ts.length = i ∧ H' sp0 = some (.lst (ts.map V.ref)) ∧ (∀ (k : Nat) (t : Addr), ts[k]? = some t → ∃ lo hi : Nat, lo ≤ hi ∧ hi < 2 ^ cn l k ∧ H' t = some (.tup [.int lo, .int hi]) ∧ H t = none) ∧ σ = [some (.ref r), some (.str (wS l)), some (.ref sp0), y3, y4, y5, y6], ⟨2, rfl, b0, R0, [], none, none, none, none, rfl, hsp0, fun k t h => by simp at h, rfl⟩, fun i c σ H' W => ?_⟩
    obtain ⟨hc, bt, Rw, ts, y3, y4, y5, y6, hlen, hsp, hts, rfl⟩ := W
    by_cases hi : i < 2
    · refine .inr ⟨by show i < (("xy" : Str)).cps.size; rw [xy_size]; exact hi, _, fun σ' H2 nn => ⟨c - 1, by omega, nn⟩, fun x H2 hx => ?_⟩
      obtain ⟨rfl, c0, hc0, rfl⟩ := hx
      obtain ⟨_, hcnt⟩ := xy_at hc0 l
      have hcn := cn_le g i
      have pwc : 2 ^ cn l i < 2 ^ 1000 := pw (by omega)
      have pos := two_pos (cn l i)
      refine ⟨_, rfl, rfl, _, rfl, _, _, rfl, rfl, cn l i, congrArg (fun z => [V.int z]) hcnt, by omega, ?_⟩
      -- low
      refine ⟨_, rfl, _, rfl, r, _, 2 ^ cn l i, rfl, Rw, by omega, pos, pwc, fun d1 H3 hd1 b3 R3 => ⟨(by show 2 ≤ sizeLine; decide), fun la nla => ?_⟩⟩
      have kla : (upd H3 la (.lst [.int (d1 : Int), .int 0])) la = some (.lst [.int (d1 : Int), .int 0]) := upd_same
      have lar : la ≠ r := R3.ne nla
      have s4 : Same H3 (upd H3 la (.lst [.int (d1 : Int), .int 0])) := same_new (Same.refl H3) nla
      generalize (upd H3 la (.lst [.int (d1 : Int), .int 0])) = H4 at kla s4 ⊢
      refine ⟨_, rfl, r, _, 4, rfl, R3.same s4, by omega, by omega, small_pow (by omega), fun d2 H5 hd2 b5 R5 => ⟨rfl, .inr ⟨_, rfl, ?_⟩⟩⟩
      obtain ⟨lo, hlo, elo⟩ : ∃ lo : Nat, lo < 2 ^ cn l i ∧ atI [V.int (d1 : Int), V.int 0] (if decide (V.int (d2 : Int) = V.int 0) = true then 1 else 0) = some (V.int (lo : Int)) := by
        by_cases h : d2 = 0
        · subst h
          exact ⟨0, pos, rfl⟩
        · refine ⟨d1, hd1, ?_⟩
          rw [if_neg (fun z => h (by have := V.int.inj (of_decide_eq_true z); omega))]
          rfl
      refine ⟨la, _, _, V.int (lo : Int), rfl, rfl, SqL.of (b5 _ _ lar kla), elo, ?_⟩
      have b05 : But r H H5 := bt.trans (b3.trans ((Same.but s4).trans b5))
      have hsp5 : H5 sp0 = some (.lst (ts.map V.ref)) := b5 _ _ spr (s4 _ _ (b3 _ _ spr hsp))
      have k25 : But r H2 H5 := b3.trans ((Same.but s4).trans b5)
      -- near
      have e1 : ((2 ^ cn l i : Nat) : Int) - 1 = ((2 ^ cn l i - 1 : Nat) : Int) := by omega
      refine ⟨_, rfl, _, _, rfl, rfl, _, rfl, _, rfl, r, _, 4, rfl, R5, by omega, by omega, small_pow (by omega), fun d3 H6 hd3 b6 R6 => ⟨_, _, rfl, rfl, _, _, rfl, ?_⟩⟩
      obtain ⟨nr, hnr1, hnr2, enr⟩ : ∃ nr : Nat, lo ≤ nr ∧ nr < 2 ^ cn l i ∧ (if ((lo : Int) + (d3 : Int)) < (((2 ^ cn l i : Nat) : Int) - 1) then ((lo : Int) + (d3 : Int)) else (((2 ^ cn l i : Nat) : Int) - 1)) = (nr : Int) := by
        by_cases h : ((lo : Int) + (d3 : Int)) < (((2 ^ cn l i : Nat) : Int) - 1)
        · exact ⟨lo + d3, by omega, by omega, by rw [if_pos h]; omega⟩
        · exact ⟨2 ^ cn l i - 1, by omega, by omega, by rw [if_neg h]; omega⟩
      have hsp6 : H6 sp0 = some (.lst (ts.map V.ref)) := b6 _ _ spr hsp5
      have elo2 : ((2 ^ cn l i : Nat) : Int) - (lo : Int) = ((2 ^ cn l i - lo : Nat) : Int) := by omega
      refine ⟨_, rfl, .inl ⟨rfl, _, SqL.of hsp6⟩, _, rfl, _, rfl, _, rfl, _, rfl, _, rfl, _, _, rfl, rfl, r, _, 2 ^ cn l i - lo, congrArg (fun z => [V.ref r, V.int z]) elo2, R6, by omega, by omega, Nat.lt_of_le_of_lt (Nat.sub_le _ _) pwc, fun d4 H7 hd4 b7 R7 => ?_⟩
      refine ⟨_, _, rfl, rfl, _, rfl, _, _, rfl, rfl, _, rfl, _, rfl, (by show 4 ≤ sizeLine; decide), fun lb nlb => ?_⟩
      have klb : (upd H7 lb (.lst [.int ((lo : Int) + (d4 : Int)), .int (((2 ^ cn l i : Nat) : Int) - 1), .int (lo : Int), .int (if ((lo : Int) + (d3 : Int)) < (((2 ^ cn l i : Nat) : Int) - 1) then ((lo : Int) + (d3 : Int)) else (((2 ^ cn l i : Nat) : Int) - 1))])) lb = some (.lst [.int ((lo : Int) + (d4 : Int)), .int (((2 ^ cn l i : Nat) : Int) - 1), .int (lo : Int), .int (nr : Int)]) := by
        rw [← enr]
        exact upd_same
      have lbr : lb ≠ r := R7.ne nlb
      refine to_any2 (fun H8 => H8 lb = some (.lst [.int ((lo : Int) + (d4 : Int)), .int (((2 ^ cn l i : Nat) : Int) - 1), .int (lo : Int), .int (nr : Int)])) (same_new (Same.refl H7) nlb) klb (fun H8 s8 klb8 => ?_)
      refine ⟨_, rfl, r, _, 4, rfl, R7.same s8, by omega, by omega, small_pow (by omega), fun d5 H9 hd5 b9 R9 => ?_⟩
      obtain ⟨h2, hh1, hh2, eh⟩ : ∃ h2 : Nat, lo ≤ h2 ∧ h2 < 2 ^ cn l i ∧ atI [V.int ((lo : Int) + (d4 : Int)), V.int (((2 ^ cn l i : Nat) : Int) - 1), V.int (lo : Int), V.int (nr : Int)] (d5 : Int) = some (V.int (h2 : Int)) := by
        rcases d5 with _ | _ | _ | _ | d5
        · exact ⟨lo + d4, by omega, by omega, rfl⟩
        · exact ⟨2 ^ cn l i - 1, by omega, by omega, congrArg (fun z => some (V.int z)) e1⟩
        · exact ⟨lo, by omega, hlo, rfl⟩
        · exact ⟨nr, hnr1, hnr2, rfl⟩
        · omega
      refine ⟨lb, _, _, V.int (h2 : Int), rfl, rfl, SqL.of (b9 _ _ lbr klb8), eh, (by show 2 ≤ sizeLine; decide), fun tt ntt => ?_⟩
      have hsp9 : H9 sp0 = some (.lst (ts.map V.ref)) := b9 _ _ spr (s8 _ _ (b7 _ _ spr hsp6))
      have spt : sp0 ≠ tt := fun z => by rw [← z, hsp9] at ntt; cases ntt
      have b29 : But r H2 H9 := k25.trans (b6.trans (b7.trans ((Same.but s8).trans b9)))
      have b09 : But r H H9 := bt.trans b29
      have ttr : tt ≠ r := R9.ne ntt
      refine ⟨sp0, _, _, rfl, rfl, (by rw [upd_ne spt]; exact hsp9), by rw [List.length_map]; exact small_line' (by omega), ?_⟩
      have sN := same_new (o := HO.tup [.int (lo : Int), .int (h2 : Int)]) (Same.refl H9) ntt
      refine ⟨by omega, But.mut (b09.trans (Same.but sN)) nsp, (Reel.mut (R9.same sN) spr).le (by omega), ts ++ [tt], _, _, _, _, by rw [List.length_append, hlen]; rfl, ?_, ?_, rfl⟩
      · rw [List.map_append]
        exact upd_same
      · intro k t hk
        rcases Nat.lt_or_ge k i with hki | hki
        · rw [List.getElem?_append_left (by omega)] at hk
          obtain ⟨lo', hi', h1, h2', h3, h4⟩ := hts k t hk
          have tsp : t ≠ sp0 := fun z => by
            rw [z, hsp] at h3
            cases h3
          have trr : t ≠ r := fun z => by
            obtain ⟨_, _, _, e, _⟩ := hR
            rw [z, e] at h4
            cases h4
          exact ⟨lo', hi', h1, h2', by rw [upd_ne tsp]; exact sN _ _ (b29 _ _ trr h3), h4⟩
        · rw [List.getElem?_append_right (by omega), hlen] at hk
          have hk0 : k = i := by
            have := (List.getElem?_eq_some_iff.mp hk).1
            simp at this
            omega
          subst hk0
          rw [Nat.sub_self] at hk
          have := Option.some.inj hk
          subst this
          exact ⟨lo, h2, hh1, hh2, by rw [upd_ne spt.symm]; exact upd_same, b09.free ntt ttr⟩
    · have hi2 : i = 2 := by omega
      subst hi2
      refine .inl ⟨Nat.le_of_eq xy_size, ?_⟩
      obtain ⟨t1, t2, rfl⟩ : ∃ t1 t2, ts = [t1, t2] := by
        rcases ts with _ | ⟨t1, _ | ⟨t2, _ | ⟨t3, r3⟩⟩⟩
        · cases hlen
        · cases hlen
        · exact ⟨t1, t2, rfl⟩
        · simp at hlen
      obtain ⟨x1, x2, hx1, hx2, k1, _⟩ := hts 0 t1 rfl
      obtain ⟨z1, z2, hz1, hz2, k2, _⟩ := hts 1 t2 rfl
      refine ⟨_, rfl, sp0, _, 0, .ref t1, rfl, rfl, SqL.of hsp, rfl, t1, _, 0, .int x1, rfl, rfl, SqT.of k1, rfl, _, rfl, sp0, _, 1, .ref t2, rfl, rfl, SqL.of hsp, rfl, t2, _, 0, .int z1, rfl, rfl, SqT.of k2, rfl, _, rfl, sp0, _, 0, .ref t1, rfl, rfl, SqL.of hsp, rfl, t1, _, 1, .int x2, rfl, rfl, SqT.of k1, rfl, _, rfl, sp0, _, 1, .ref t2, rfl, rfl, SqL.of hsp, rfl, t2, _, 1, .int z2, rfl, rfl, SqT.of k2, rfl, (by show 4 ≤ sizeLine; decide), fun tt ntt => ?_⟩
      have tr : tt ≠ r := Rw.ne ntt
      exact q tt x1 z1 x2 z2 _ hx1 hx2 hz1 hz2 (bt.trans (Same.but (same_new (Same.refl _) ntt))) (Rw.same (same_new (Same.refl _) ntt)) (bt.free ntt tr) upd_same
def splaw_drawn_word (K : PySem.W.Frag) (Z : Ads) : Sp := fun vs H Q _ => ∃ (r : Addr) (n xm ym : Nat), vs = [.ref r, .int xm, .int ym] ∧ Reel H r n ∧ n ≤ 400000 ∧ xm ≤ 100 ∧ ym ≤ 100 ∧ ∀ l H', GoodW l → nx l ≤ max xm 1 → ny l ≤ ym → But r H H' → Reel H' r (n + 700) → Q (.str (wS l)) H'
theorem oklaw_drawn_word {Z : Ads} (T : Top K mg Z) : FnOk P w K mg base CX0 2 Z.f_law_drawn_word Z.d_law_drawn_word ["reel", "x_most", "y_most"] (splaw_drawn_word K Z) := by
  have G_law_spin : FnOk P w K mg base CX0 1 Z.f_law_spin Z.d_law_spin ["reel", "many"] (splaw_spin K Z) := (oklaw_spin T).mono (by decide)
  refine T.F_law_drawn_word.ok sclaw_drawn_word (fun vs H Q E h => ?_) (fun cdv A outer s H vs Q E hr h => ?_)
  · obtain ⟨r, n, xm, ym, rfl, hR, hn, hxm, hym, q⟩ := h
    rfl
  · obtain ⟨r, n, xm, ym, rfl, hR, hn, hxm, hym, q⟩ := h
    refine ⟨_, (pss_cons (ps_par (i := 3) (j := 4) (by rfl) sclaw_drawn_word.nd rfl rfl (by decide) rfl rfl (pa_cons (pe_lst (pa_cons (pe_call G_law_spin (hr.mono (by decide)) (by rfl) T.m_law_spin T.F_law_spin.kp T.b_law_spin .nil pass0 (pa_cons (pv 0) (pa_cons (pe_op op_add (pv 1) pe_int) pa_nil))) (pa_cons (pe_call G_law_spin (hr.mono (by decide)) (by rfl) T.m_law_spin T.F_law_spin.kp T.b_law_spin .nil pass0 (pa_cons (pv 0) (pa_cons (pe_op op_add (pv 2) pe_int) pa_nil))) pa_nil))) (pa_cons pe_str pa_nil)) (by rfl))
      (C8.pss_cut (ps_if (pt_cmpR (op_eqD (hu_of' hr)) (pv 3) (pe_lst (pa_cons pe_int (pa_cons pe_int pa_nil))) (nomark _))
        (pss_one (ps_set (i := 3) sclaw_drawn_word.nd rfl (.inl rfl) (pe_lst (pa_cons pe_int (pa_cons pe_int pa_nil)))))
        pss_nil)
      (pss_cons (ps_set (i := 5) sclaw_drawn_word.nd rfl (.inl rfl) (pe_call G_law_spin (hr.mono (by decide)) (by rfl) T.m_law_spin T.F_law_spin.kp T.b_law_spin .nil pass0 (pa_cons (pv 0) (pa_cons pe_int pa_nil))))
      (pss_cons (ps_while PassesOwn.never (pt_cmpR (op_neD (hu_of' hr)) (pv 3) (pe_lst (pa_cons pe_int (pa_cons pe_int pa_nil))) (nomark _))
        (pss_cons (ps_set (i := 6) sclaw_drawn_word.nd rfl (.inl rfl) (pe_ix ix_list (pe_lst (pa_cons (pe_call G_law_spin (hr.mono (by decide)) (by rfl) T.m_law_spin T.F_law_spin.kp T.b_law_spin .nil pass0 (pa_cons (pv 0) (pa_cons pe_int pa_nil))) (pa_cons (pe_op op_modN (pe_callB call_len_str (by rfl) T.z_len (by decide +kernel) (pa_cons (pv 4) pa_nil)) pe_int) (pa_cons (pe_call G_law_spin (hr.mono (by decide)) (by rfl) T.m_law_spin T.F_law_spin.kp T.b_law_spin .nil pass0 (pa_cons (pv 0) (pa_cons pe_int pa_nil))) pa_nil)))) (pv 5) (fun _ _ => rfl)))
      (C8.pss_cut (ps_if (pt_cmpR op_eq (pe_ix ix_list (pv 3) (pv 6) (fun _ _ => rfl)) pe_int (nomark _))
        (pss_one (ps_set (i := 6) sclaw_drawn_word.nd rfl (.inl rfl) (pe_op op_sub pe_int (pv 6))))
        pss_nil)
      (pss_cons (ps_set (i := 7) sclaw_drawn_word.nd rfl (.inl rfl) (pe_ix ix_list (pe_lst (pa_cons pe_int (pa_cons pe_int (pa_cons (pe_op op_add pe_int (pe_call G_law_spin (hr.mono (by decide)) (by rfl) T.m_law_spin T.F_law_spin.kp T.b_law_spin .nil pass0 (pa_cons (pv 0) (pa_cons (pe_ix ix_list (pv 3) (pv 6) (fun _ _ => rfl)) pa_nil)))) pa_nil)))) (pv 5) (fun _ _ => rfl)))
      (pss_cons (ps_set (i := 4) sclaw_drawn_word.nd rfl (.inl rfl) (pe_op op_add_str (pv 4) (pe_op op_mulS (pe_ix ix_str pe_str (pv 6) (fun _ _ => rfl)) (pv 7))))
      (pss_one (ps_asg (pe_op op_sub (pe_ix ix_list (pv 3) (pv 6) (fun _ _ => rfl)) (pv 7)) (pg_sub (pv 3) (pv 6) set_list))))))))
      (pss_one (ps_ret (pv 4))))))), ?_⟩
    refine ⟨_, rfl, _, rfl, _, _, rfl, rfl, r, n, xm + 1, rfl, hR, by omega, by omega, small_pow (by omega), fun d1 H1 l1 b1 R1 => ?_⟩
    refine ⟨_, rfl, _, rfl, _, _, rfl, rfl, r, n + 1, ym + 1, rfl, R1, by omega, by omega, small_pow (by omega), fun d2 H2 l2 b2 R2 => ⟨(by show 2 ≤ sizeLine; decide), fun lf0 nlf => ⟨_, _, rfl, ?_⟩⟩⟩
    have b02 : But r H H2 := b1.trans b2
    have kl0 : (upd H2 lf0 (.lst [.int (d1 : Int), .int (d2 : Int)])) lf0 = some (.lst [.int (d1 : Int), .int (d2 : Int)]) := upd_same
    have n0 : lf0 ≠ r := R2.ne nlf
    have f0 : H lf0 = none := b02.free nlf n0
    have b03 : But r H (upd H2 lf0 (.lst [.int (d1 : Int), .int (d2 : Int)])) := b02.trans (Same.but (same_new (Same.refl H2) nlf))
    have R3 : Reel (upd H2 lf0 (.lst [.int (d1 : Int), .int (d2 : Int)])) r (n + 1 + 1) := R2.same (same_new (Same.refl H2) nlf)
    generalize (upd H2 lf0 (.lst [.int (d1 : Int), .int (d2 : Int)])) = H3 at kl0 b03 R3 ⊢
    refine ⟨fun σ' H' => ∃ (lf : Addr) (u v : Nat), H' lf = some (.lst [.int (u : Int), .int (v : Int)]) ∧ H lf = none ∧ lf ≠ r ∧ 1 ≤ u + v ∧ u ≤ max xm 1 ∧ v ≤ ym ∧ But r H H' ∧ Reel H' r (n + 2) ∧ σ' = [some (.ref r), some (.int xm), some (.int ym), some (.ref lf), some (.str (wS [])), none, none, none], ?_, ?_⟩
    · refine ⟨_, rfl, (by show 2 ≤ sizeLine; decide), fun t nt => ⟨.list [.int (d1 : Int), .int (d2 : Int)], .list [.int 0, .int 0], Dp.lst (SqL.of (same_new (Same.refl H3) nt _ _ kl0)) (.cons (.int _) (.cons (.int _) .nil)), Dp.lst (SqL.of upd_same) (.cons (.int _) (.cons (.int _) .nil)), shaped_list (allc (atm_n (small_pow (by omega))) (all1 (atm_n (small_pow (by omega))))), shaped_list (allc (atm_n (n := 0) (small_pow (by omega))) (all1 (atm_n (n := 0) (small_pow (by omega))))), _, rfl, ?_⟩⟩
      rw [eqv2]
      by_cases h0 : d1 + d2 = 0
      · have hc : (((d1 : Nat) : Int) == 0 && ((d2 : Nat) : Int) == 0) = true := by
          rw [Bool.and_eq_true, beq_iff_eq, beq_iff_eq]
          omega
        refine iteT' hc ⟨(by show 2 ≤ sizeLine; decide), fun lf nf => ?_⟩
        have nn : H3 lf = none := Same.free (same_new (Same.refl H3) nt) nf
        refine ⟨lf, 1, 0, upd_same, b03.free nn (R3.ne nn), R3.ne nn, by omega, by omega, by omega, b03.trans (Same.but (same_new (same_new (Same.refl H3) nt) nf)), R3.same (same_new (same_new (Same.refl H3) nt) nf), ?_⟩
        rw [← wS_nil]
        rfl
      · have hc : (((d1 : Nat) : Int) == 0 && ((d2 : Nat) : Int) == 0) = false := by
          rw [Bool.eq_false_iff]
          intro z
          rw [Bool.and_eq_true, beq_iff_eq, beq_iff_eq] at z
          omega
        refine iteF' hc ⟨lf0, d1, d2, same_new (Same.refl H3) nt _ _ kl0, f0, n0, by omega, by omega, by omega, b03.trans (Same.but (same_new (Same.refl H3) nt)), R3.same (same_new (Same.refl H3) nt), ?_⟩
        rw [← wS_nil]
        rfl
    rintro σ' H' ⟨lf, U, V0, klf, nlf2, lr, hUV, hU, hV, b04, R4, rfl⟩
    refine ⟨_, rfl, r, n + 2, 3, rfl, R4, by omega, by omega, small_pow (by omega), fun way H5 hway b5 R5 => ?_⟩
    have kl5 := b5 _ _ lr klf
    have b05 := b04.trans b5
    refine ⟨fun m σ' H' => ∃ (u v : Nat) (l : List Bool) (y6 y7 : Option V), m = u + v ∧ H' lf = some (.lst [.int (u : Int), .int (v : Int)]) ∧ nx l + u = U ∧ ny l + v = V0 ∧ But r H H' ∧ Reel H' r (n + 3 + 3 * (U + V0 - (u + v))) ∧ σ' = [some (.ref r), some (.int xm), some (.int ym), some (.ref lf), some (.str (wS l)), some (.int way), y6, y7], ⟨_, U, V0, [], none, none, rfl, kl5, by rw [nx_nil]; omega, by rw [ny_nil]; omega, b05, R5.le (by omega), rfl⟩, fun mm σ1 H6 w => ?_⟩
    obtain ⟨u, v, l, y6, y7, rfl, kl, hu, hv, bt, Rw, rfl⟩ := w
    refine ⟨_, rfl, (by show 2 ≤ sizeLine; decide), fun t nt => ⟨.list [.int (u : Int), .int (v : Int)], .list [.int 0, .int 0], Dp.lst (SqL.of (same_new (Same.refl H6) nt _ _ kl)) (.cons (.int _) (.cons (.int _) .nil)), Dp.lst (SqL.of upd_same) (.cons (.int _) (.cons (.int _) .nil)), shaped_list (allc (atm_n (small_pow (by omega))) (all1 (atm_n (small_pow (by omega))))), shaped_list (allc (atm_n (n := 0) (small_pow (by omega))) (all1 (atm_n (n := 0) (small_pow (by omega))))), _, rfl, ?_⟩⟩
    rw [eqv2]
    refine to_any (same_new (Same.refl H6) nt) (fun H7 s7 => ?_)
    have kl7 := s7 _ _ kl
    have b7 := bt.trans (Same.but s7)
    have R7 := Rw.same s7
    have ll := nxy l
    by_cases h0 : u + v = 0
    · have hc : (!(((u : Nat) : Int) == 0 && ((v : Nat) : Int) == 0)) = false := by
        have e1 : u = 0 := by omega
        have e2 : v = 0 := by omega
        subst e1 e2
        rfl
      refine iteF' hc ⟨_, rfl, ?_⟩
      refine q l H7 ⟨ne_nil_of (by omega), by omega, by omega⟩ (by omega) (by omega) b7 (R7.le (by omega))
    · have hc : (!(((u : Nat) : Int) == 0 && ((v : Nat) : Int) == 0)) = true := by
        rw [Bool.not_eq_true', Bool.eq_false_iff]
        intro z
        rw [Bool.and_eq_true, beq_iff_eq, beq_iff_eq] at z
        omega
      refine iteT' hc ⟨_, fun _ _ z => z, ?_⟩
      -- axis
      refine ⟨_, rfl, r, _, 2, rfl, R7, by omega, by omega, small_pow (by omega), fun a1 H8 ha1 b8 R8 => ?_⟩
      refine ⟨_, rfl, _, rfl, small_line (by rw [wS_len]; omega), _, _, rfl, rfl, (by show (2 : Int) ≠ 0; decide), ?_⟩
      refine ⟨_, rfl, r, _, 2, rfl, R8, by omega, by omega, small_pow (by omega), fun a3 H9 ha3 b9 R9 => ⟨(by show 3 ≤ sizeLine; decide), fun la nla => ?_⟩⟩
      obtain ⟨ax, hax, eax⟩ : ∃ ax : Nat, ax ≤ 1 ∧ atI [V.int (a1 : Int), V.int (((wS l).length : Int).fmod 2), V.int (a3 : Int)] (way : Int) = some (V.int (ax : Int)) := by
        rcases way with _ | _ | _ | way
        · exact ⟨a1, by omega, rfl⟩
        · refine ⟨(wS l).length % 2, by omega, ?_⟩
          rw [← modNat]
          rfl
        · exact ⟨a3, by omega, rfl⟩
        · omega
      refine ⟨_, rfl, la, _, (way : Int), V.int (ax : Int), rfl, rfl, SqL.of upd_same, eax, ?_⟩
      refine to_any (same_new (Same.refl H9) nla) (fun H10 s10 => ?_)
      have kl10 := s10 _ _ (b9 _ _ lr (b8 _ _ lr kl7))
      have b10 : But r H H10 := b7.trans (b8.trans (b9.trans (Same.but s10)))
      have R10 := R9.same s10
      refine ⟨fun σ' H' => ∃ ax : Nat, ax ≤ 1 ∧ 1 ≤ pick u v ax ∧ H' = H10 ∧ σ' = [some (.ref r), some (.int xm), some (.int ym), some (.ref lf), some (.str (wS l)), some (.int way), some (.int ax), y7], ?_, ?_⟩
      · refine ⟨_, rfl, _, rfl, lf, _, (ax : Int), _, rfl, rfl, SqL.of kl10, at2 hax, rfl, _, rfl, ite2 (fun e => ?_) (fun e => ?_)⟩
        · have e0 := V.int.inj (of_decide_eq_true e)
          refine ⟨_, rfl, _, _, rfl, rfl, 1 - ax, by omega, ?_, rfl, ?_⟩
          · unfold pick at e0 ⊢
            rcases ax with _ | _ | ax
            · rw [if_pos rfl] at e0
              rw [if_neg (by decide)]
              omega
            · rw [if_neg (by decide)] at e0
              rw [if_pos rfl]
              omega
            · omega
          · have e1 : (1 : Int) - (ax : Int) = ((1 - ax : Nat) : Int) := by omega
            show [_, _, _, _, _, _, some (V.int ((1 : Int) - (ax : Int))), _] = _
            rw [e1]
        · refine ⟨ax, hax, ?_, rfl, rfl⟩
          have e0 : ¬ ((pick u v ax : Nat) : Int) = 0 := fun z => e (decide_eq_true (congrArg V.int z))
          omega
      rintro σ' H' ⟨ax, hax, hpk, rfl, rfl⟩
      have pks : pick u v ax ≤ 100 := by
        unfold pick
        split <;> omega
      -- many
      refine ⟨_, rfl, _, rfl, _, rfl, lf, _, (ax : Int), _, rfl, rfl, SqL.of kl10, at2 hax, r, _, pick u v ax, rfl, R10, by omega, hpk, small_pow (by omega), fun dm H11 hdm b11 R11 => ⟨_, _, rfl, rfl, (by show 3 ≤ sizeLine; decide), fun lm nlm => ?_⟩⟩
      obtain ⟨mv, hmv, hmv2, emv⟩ : ∃ mv : Nat, 1 ≤ mv ∧ mv ≤ pick u v ax ∧ atI [V.int 1, V.int 1, V.int ((1 : Int) + (dm : Int))] (way : Int) = some (V.int (mv : Int)) := by
        rcases way with _ | _ | _ | way
        · exact ⟨1, by omega, by omega, rfl⟩
        · exact ⟨1, by omega, by omega, rfl⟩
        · refine ⟨1 + dm, by omega, by omega, rfl⟩
        · omega
      refine ⟨_, rfl, lm, _, (way : Int), V.int (mv : Int), rfl, rfl, SqL.of upd_same, emv, ?_⟩
      refine to_any (same_new (Same.refl H11) nlm) (fun H12 s12 => ?_)
      have kl12 := s12 _ _ (b11 _ _ lr kl10)
      have b12 : But r H H12 := b10.trans (b11.trans (Same.but s12))
      have R12 := R11.same s12
      -- found
      have exy : (("xy" : Str)).cps.toList = [120, 121] := by decide +kernel
      have eat : atI (("xy" : Str)).cps.toList (ax : Int) = some (sg (decide (ax = 0))) := by
        rw [exy]
        rcases ax with _ | _ | ax
        · rfl
        · rfl
        · omega
      have e1s : (⟨#[sg (decide (ax = 0))]⟩ : Str) = wS [decide (ax = 0)] := rfl
      refine ⟨_, rfl, _, rfl, _, (ax : Int), _, rfl, rfl, small_line (by decide +kernel), eat, _, rfl, _, _, rfl, rfl, ?_, by omega, by omega, _, _, rfl, rfl, ?_, ?_⟩
      · show 1 ≤ 1000
        omega
      · rw [e1s, wS_mul, flat_one, wS_len, wS_len, List.length_replicate]
        exact small_line (by omega)
      rw [e1s, wS_mul, flat_one, wS_app]
      -- left[axis]
      refine ⟨_, rfl, _, rfl, lf, _, (ax : Int), _, rfl, rfl, SqL.of kl12, at2 hax, _, rfl, _, _, rfl, rfl, _, rfl, _, rfl, lf, _, (ax : Int), ax, rfl, rfl, kl12, ?_, ?_⟩
      · rcases ax with _ | _ | ax
        · rfl
        · rfl
        · omega
      have bL : ∀ o, But r H (upd H12 lf o) := fun o b x nb hb => by
        rw [upd_ne (ne_of_none hb nlf2)]
        exact b12 b x nb hb
      have RL : ∀ o, Reel (upd H12 lf o) r (n + 3 + 3 * (U + V0 - (u + v)) + 1 + 1 + 1) := fun o => by
        obtain ⟨c1, c2, c3, hc1, hc2⟩ := R12
        exact ⟨c1, c2, c3, by rw [upd_ne lr.symm]; exact hc1, hc2⟩
      rcases ax with _ | _ | ax
      · have e2 : ((pick u v 0 : Nat) : Int) - (mv : Int) = ((u - mv : Nat) : Int) := by
          show ((u : Nat) : Int) - (mv : Int) = _
          have : mv ≤ u := hmv2
          omega
        have hmu : mv ≤ u := hmv2
        refine ⟨u - mv + v, by omega, u - mv, v, l ++ List.replicate mv true, some (.int (0 : Nat)), some (.int mv), rfl, ?_, ?_, ?_, bL _, (RL _).le (by omega), rfl⟩
        · rw [upd_same]
          show some (HO.lst [V.int (((pick u v 0 : Nat) : Int) - (mv : Int)), V.int (v : Int)]) = _
          rw [e2]
        · rw [nx_app, nx_rt]
          omega
        · rw [ny_app, ny_rt]
          omega
      · have e2 : ((pick u v 1 : Nat) : Int) - (mv : Int) = ((v - mv : Nat) : Int) := by
          show ((v : Nat) : Int) - (mv : Int) = _
          have : mv ≤ v := hmv2
          omega
        have hmu : mv ≤ v := hmv2
        refine ⟨u + (v - mv), by omega, u, v - mv, l ++ List.replicate mv false, some (.int (1 : Nat)), some (.int mv), rfl, ?_, ?_, ?_, bL _, (RL _).le (by omega), rfl⟩
        · rw [upd_same]
          show some (HO.lst [V.int (u : Int), V.int (((pick u v 1 : Nat) : Int) - (mv : Int))]) = _
          rw [e2]
        · rw [nx_app, nx_rf]
          omega
        · rw [ny_app, ny_rf]
          omega
      · omega
def splaw_key_of (K : PySem.W.Frag) (Z : Ads) : Sp := fun vs H Q _ => ∃ (l : List Bool) (x y : Nat), vs = [.str (wS l), .int x, .int y] ∧ GoodW l ∧ ∀ H', Same H H' → Q (.int (keyL l x y : Nat)) H'
theorem oklaw_key_of {Z : Ads} (T : Top K mg Z) : FnOk P w K mg base CX0 1 Z.f_law_key_of Z.d_law_key_of ["word", "x", "y"] (splaw_key_of K Z) := by
  refine T.F_law_key_of.ok sclaw_key_of (fun vs H Q E h => ?_) (fun cdv A outer s H vs Q E hr h => ?_)
  · obtain ⟨l, x, y, rfl, g, q⟩ := h
    rfl
  · obtain ⟨l, x, y, rfl, g, q⟩ := h
    refine ⟨_, (pss_cons (ps_asg (pe_tup (pa_cons pe_int (pa_cons pe_int pa_nil))) (pg_tup (by rfl) (pgs_cons (pg_name (i := 3) sclaw_key_of.nd rfl (.inl rfl)) (pgs_cons (pg_name (i := 4) sclaw_key_of.nd rfl (.inl rfl)) pgs_nil))))
      (pss_cons (ps_for PassesOwn.never rfl (pi_str (pe_revS (pv 0))) (pg_name (i := 5) sclaw_key_of.nd rfl (.inl rfl))
        (pss_cons (ps_if (pt_cmpR op_eq (pv 5) pe_str (nomark _))
        (pss_one (ps_par (i := 3) (j := 1) (by rfl) sclaw_key_of.nd rfl rfl (by decide) rfl rfl (pa_cons (pe_op op_add (pv 3) (pe_op op_mul (pv 4) (pe_op op_modN (pe_callTy call_int1 (by rfl) T.z_int (by decide +kernel) (pa_cons (pv 1) pa_nil)) pe_int))) (pa_cons (pe_op op_fdivN (pv 1) pe_int) pa_nil)) (by rfl)))
        (pss_one (ps_par (i := 3) (j := 2) (by rfl) sclaw_key_of.nd rfl rfl (by decide) rfl rfl (pa_cons (pe_op op_add (pv 3) (pe_op op_mul (pv 4) (pe_op op_modN (pe_callTy call_int1 (by rfl) T.z_int (by decide +kernel) (pa_cons (pv 2) pa_nil)) pe_int))) (pa_cons (pe_op op_fdivN (pv 2) pe_int) pa_nil)) (by rfl))))
      (pss_one (ps_set (i := 4) sclaw_key_of.nd rfl (.inl rfl) (pe_op op_mul pe_int (pv 4))))))
      (pss_one (ps_ret (pv 3))))), ?_⟩
    have gl := g.len
    refine ⟨(by show 2 ≤ sizeLine; decide), fun t0 nt0 => ?_⟩
    refine ⟨t0, _, rfl, SqT.of upd_same, rfl, _, _, rfl, _, _, rfl, rfl, ?_⟩
    have e1 : Same H (upd H t0 (.tup [.int 0, .int 1])) := same_new (Same.refl H) nt0
    refine ⟨_, rfl, wS l, rfl, small_line (by rw [wS_len]; omega), _, congrArg V.str (wS_rev l), ?_⟩
    refine for_it (walk_str (z := wS l.reverse)) (fun i σ H' => Same H H' ∧ ∃ (u5 : Option V), σ = [some (.str (wS l)), some (.int (x / 2 ^ nx (l.drop (l.length - i)) : Nat)), some (.int (y / 2 ^ ny (l.drop (l.length - i)) : Nat)), some (.int (keyL (l.drop (l.length - i)) x y : Nat)), some (.int (2 ^ i : Nat)), u5]) ⟨e1, none, ?_⟩ (fun _ _ _ _ _ => True.intro) (fun i v σ H1 H2 hi W Y => ?_) (fun σ H' W => ?_)
    · rw [Nat.sub_zero, List.drop_length, nx_nil, ny_nil, Nat.pow_zero, Nat.div_one, Nat.div_one]
      rfl
    · obtain ⟨e2, u5, rfl⟩ := W
      obtain ⟨rfl, c, hc, rfl⟩ := Y
      rw [wS_size, List.length_reverse] at hi
      rw [rev_at l hi] at hc
      have hc' := Option.some.inj hc
      subst hc'
      obtain ⟨j, hj⟩ : ∃ j, l.length - i = j + 1 := ⟨l.length - i - 1, by omega⟩
      have hj2 : l.length - (i + 1) = j := by omega
      have hj3 : l.length - 1 - i = j := by omega
      have hjl : j < l.length := by omega
      have kd := keyL_drop l j hjl x y
      have nd := nx_drop l j hjl
      have md := ny_drop l j hjl
      have ln : nx (l.drop (j + 1)) + ny (l.drop (j + 1)) = i := by rw [nxy, List.length_drop]; omega
      have eb : decide (V.str (⟨#[sg (l[l.length - 1 - i]'(by omega))]⟩ : Str) = V.str ("x" : Str)) = l[l.length - 1 - i]'(by omega) := lt_is _
      have elt : l[l.length - 1 - i]'(by omega) = l[j] := by congr 1
      rw [elt] at eb ⊢
      rw [hj, hj2]
      refine ⟨_, rfl, rfl, _, rfl, ?_⟩
      cases hb : l[j] with
      | true =>
        rw [hb] at eb kd nd md
        rw [if_pos rfl] at kd nd md
        refine iteT' eb ?_
        refine ⟨_, rfl, _, rfl, _, rfl, .inl ⟨_, rfl, _, _, rfl, rfl, (by show (2 : Int) ≠ 0; decide), _, _, rfl, rfl, .inr ?_, _, _, rfl, rfl, _, rfl, _, _, rfl, rfl, ⟨by decide, by decide⟩, _, _, rfl, _, rfl, 2, _, rfl, rfl, .inl (by decide), e2, some (.str (lt l[j])), ?_⟩⟩
        · have := Nat.mod_lt (x / 2 ^ nx (l.drop (j + 1))) (show 0 < 2 by decide)
          show -(2 ^ 64) < Int.fmod ((x / 2 ^ nx (l.drop (j + 1)) : Nat) : Int) ((2 : Nat) : Int) ∧ Int.fmod ((x / 2 ^ nx (l.drop (j + 1)) : Nat) : Int) ((2 : Nat) : Int) < 2 ^ 64
          rw [modNat]
          omega
        · have ex1 : Int.fmod ((x / 2 ^ nx (l.drop (j + 1)) : Nat) : Int) 2 = ((x / 2 ^ nx (l.drop (j + 1)) % 2 : Nat) : Int) := modNat _ 2
          have ex2 : Int.fdiv ((x / 2 ^ nx (l.drop (j + 1)) : Nat) : Int) 2 = ((x / 2 ^ (nx (l.drop (j + 1)) + 1) : Nat) : Int) := by
            rw [show (2 : Int) = ((2 : Nat) : Int) from rfl, fdivNat, Nat.div_div_eq_div_mul, ← Nat.pow_succ]
          have ek : ((keyL (l.drop (j + 1)) x y : Nat) : Int) + ((2 ^ i : Nat) : Int) * ((x / 2 ^ nx (l.drop (j + 1)) % 2 : Nat) : Int) = ((keyL (l.drop j) x y : Nat) : Int) := by
            rw [kd, ln, Int.natCast_add, Int.natCast_mul, Int.add_comm, Int.mul_comm]
          have e2i : (2 : Int) * ((2 ^ i : Nat) : Int) = ((2 ^ (i + 1) : Nat) : Int) := by
            rw [Nat.pow_succ, Nat.mul_comm]
            rfl
          rw [nd, md, ← ek, ← e2i, hb]
          show [_, some (V.int (Int.fdiv ((x / 2 ^ nx (l.drop (j + 1)) : Nat) : Int) 2)), _, some (V.int (((keyL (l.drop (j + 1)) x y : Nat) : Int) + ((2 ^ i : Nat) : Int) * Int.fmod ((x / 2 ^ nx (l.drop (j + 1)) : Nat) : Int) 2)), _, _] = _
          rw [ex1, ex2]
          rfl
      | false =>
        rw [hb] at eb kd nd md
        rw [if_neg (by decide)] at kd nd md
        refine iteF' eb ?_
        refine ⟨_, rfl, _, rfl, _, rfl, .inl ⟨_, rfl, _, _, rfl, rfl, (by show (2 : Int) ≠ 0; decide), _, _, rfl, rfl, .inr ?_, _, _, rfl, rfl, _, rfl, _, _, rfl, rfl, ⟨by decide, by decide⟩, _, _, rfl, _, rfl, 2, _, rfl, rfl, .inl (by decide), e2, some (.str (lt l[j])), ?_⟩⟩
        · have := Nat.mod_lt (y / 2 ^ ny (l.drop (j + 1))) (show 0 < 2 by decide)
          show -(2 ^ 64) < Int.fmod ((y / 2 ^ ny (l.drop (j + 1)) : Nat) : Int) ((2 : Nat) : Int) ∧ Int.fmod ((y / 2 ^ ny (l.drop (j + 1)) : Nat) : Int) ((2 : Nat) : Int) < 2 ^ 64
          rw [modNat]
          omega
        · have ex1 : Int.fmod ((y / 2 ^ ny (l.drop (j + 1)) : Nat) : Int) 2 = ((y / 2 ^ ny (l.drop (j + 1)) % 2 : Nat) : Int) := modNat _ 2
          have ex2 : Int.fdiv ((y / 2 ^ ny (l.drop (j + 1)) : Nat) : Int) 2 = ((y / 2 ^ (ny (l.drop (j + 1)) + 1) : Nat) : Int) := by
            rw [show (2 : Int) = ((2 : Nat) : Int) from rfl, fdivNat, Nat.div_div_eq_div_mul, ← Nat.pow_succ]
          have ek : ((keyL (l.drop (j + 1)) x y : Nat) : Int) + ((2 ^ i : Nat) : Int) * ((y / 2 ^ ny (l.drop (j + 1)) % 2 : Nat) : Int) = ((keyL (l.drop j) x y : Nat) : Int) := by
            rw [kd, ln, Int.natCast_add, Int.natCast_mul, Int.add_comm, Int.mul_comm]
          have e2i : (2 : Int) * ((2 ^ i : Nat) : Int) = ((2 ^ (i + 1) : Nat) : Int) := by
            rw [Nat.pow_succ, Nat.mul_comm]
            rfl
          rw [nd, md, ← ek, ← e2i, hb]
          show [_, _, some (V.int (Int.fdiv ((y / 2 ^ ny (l.drop (j + 1)) : Nat) : Int) 2)), some (V.int (((keyL (l.drop (j + 1)) x y : Nat) : Int) + ((2 ^ i : Nat) : Int) * Int.fmod ((y / 2 ^ ny (l.drop (j + 1)) : Nat) : Int) 2)), _, _] = _
          rw [ex1, ex2]
          rfl
    · obtain ⟨e2, u5, rfl⟩ := W
      rw [wS_size, List.length_reverse, Nat.sub_self, List.drop_zero]
      exact ⟨_, rfl, q H' e2⟩
def splaw_listed_keys (K : PySem.W.Frag) (Z : Ads) : Sp := fun vs H Q _ => ∃ (a : Addr) (l : List Bool) (x1 y1 x2 y2 : Nat), vs = [.str (wS l), .ref a] ∧ GoodW l ∧ H a = some (.tup [.int (x1 : Nat), .int (y1 : Nat), .int (x2 : Nat), .int (y2 : Nat)]) ∧ Bx l x1 y1 x2 y2 ∧ nx l ≤ 4 ∧ ny l ≤ 4 ∧ ∀ (ks : List Nat) D H', ks.Pairwise (· < ·) → ks.Perm (boxN l x1 y1 (x2 + 1 - x1) (y2 + 1 - y1)) → Same H H' → H D = none → H' D = some (.lst ((ks.map fun m => ((m : Nat) : Int)).map V.int)) → Q (.ref D) H'
theorem oklaw_listed_keys {Z : Ads} (T : Top K mg Z) : FnOk P w K mg base CX0 2 Z.f_law_listed_keys Z.d_law_listed_keys ["word", "box"] (splaw_listed_keys K Z) := by
  have G_law_key_of : FnOk P w K mg base CX0 1 Z.f_law_key_of Z.d_law_key_of ["word", "x", "y"] (splaw_key_of K Z) := (oklaw_key_of T).mono (by decide)
  refine T.F_law_listed_keys.ok sclaw_listed_keys (fun vs H Q E h => ?_) (fun cdv A outer s H vs Q E hr h => ?_)
  · obtain ⟨a, l, x1, y1, x2, y2, rfl, g, ha, b, h4, h5, q⟩ := h
    rfl
  · obtain ⟨a, l, x1, y1, x2, y2, rfl, g, ha, b, h4, h5, q⟩ := h
    refine ⟨_, (pss_cons (ps_set (i := 2) sclaw_listed_keys.nd rfl (.inl rfl) (pe_lst pa_nil))
      (pss_cons (ps_for PassesOwn.never rfl (pi_range2 (by rfl) T.z_range (pa_cons (pe_ix ix_tup (pv 1) pe_int (fun _ _ => rfl)) (pa_cons (pe_op op_add (pe_ix ix_tup (pv 1) pe_int (fun _ _ => rfl)) pe_int) pa_nil))) (pg_name (i := 3) sclaw_listed_keys.nd rfl (.inr rfl))
        (pss_one (ps_set (i := 2) sclaw_listed_keys.nd rfl (.inl rfl) (pe_op op_cat (pv 2) (pe_lc (own := [("y", 4)]) (g := (gName 4)) (tt := tYes) rfl sclaw_listed_keys.nd (pi_range2 (by rfl) T.z_range (pa_cons (pe_ix ix_tup (pv 1) pe_int (fun _ _ => rfl)) (pa_cons (pe_op op_add (pe_ix ix_tup (pv 1) pe_int (fun _ _ => rfl)) pe_int) pa_nil))) (blkOk_by (own := [("y", 4)]) (N := ["word", "box", "found", "x", "y"]) (sc := defScope slaw_listed_keys) (by decide +kernel)) (fun _ _ _ _ _ => (pg_name (i := 4) sclaw_listed_keys.nd rfl (.inl rfl))) (fun _ _ _ _ _ => pts_nil) (fun _ _ _ _ _ => (pe_call G_law_key_of (hr.mono (by decide)) (by rfl) T.m_law_key_of T.F_law_key_of.kp T.b_law_key_of .nil pass0 (pa_cons (pv 0) (pa_cons (pv 3) (pa_cons (pv 4) pa_nil))))))))))
      (pss_one (ps_ret (pe_callB (cr_sortedI) (by rfl) T.z_sorted (by decide +kernel) (pa_cons (pv 2) pa_nil)))))), ?_⟩
    have px : 2 ^ nx l ≤ 16 := Nat.pow_le_pow_right (n := 2) (by decide) h4
    have py : 2 ^ ny l ≤ 16 := Nat.pow_le_pow_right (n := 2) (by decide) h5
    have bx := b.bx
    have by' := b.by_
    have bx1 := b.x
    have by1 := b.y
    refine ⟨(by show 0 ≤ sizeLine; decide), fun k0 nk0 => ?_⟩
    refine to_any2 (fun H3 => H3 k0 = some (.lst [])) (same_new (Same.refl H) nk0) upd_same (fun H3 s3 hk0 => ?_)
    have ha3 := s3 _ _ ha
    have eW : ((x2 : Int) + 1 - (x1 : Int)).toNat = x2 + 1 - x1 := by omega
    have eH : ((y2 : Int) + 1 - (y1 : Int)).toNat = y2 + 1 - y1 := by omega
    refine ⟨_, rfl, a, _, 0, .int x1, rfl, rfl, SqT.of ha3, rfl, _, rfl, a, _, 2, .int x2, rfl, rfl, SqT.of ha3, rfl, _, _, rfl, rfl, _, _, rfl, ⟨by omega, by omega, by omega, by omega⟩, ?_⟩
    rw [eW]
    refine for_range (lo := x1) (n := x2 + 1 - x1) (fun i σ H' => Same H3 H' ∧ ∃ (ks : Addr) (u3 : Option V), H' ks = some (.lst (((boxN l x1 y1 i (y2 + 1 - y1)).map fun m => ((m : Nat) : Int)).map V.int)) ∧ σ = [some (.str (wS l)), some (.ref a), some (.ref ks), u3, none]) ⟨Same.refl H3, k0, none, hk0, rfl⟩ (fun i σ H' hi W => ?_) (fun σ H4 W => ?_)
    · obtain ⟨e3, ks, u3, hks, rfl⟩ := W
      have ha' := e3 _ _ ha3
      refine ⟨_, rfl, _, rfl, a, _, 1, .int y1, rfl, rfl, SqT.of ha', rfl, _, rfl, a, _, 3, .int y2, rfl, rfl, SqT.of ha', rfl, _, _, rfl, rfl, _, _, rfl, ⟨by omega, by omega, by omega, by omega⟩, ?_⟩
      rw [eH]
      refine fun D nD => lc_range (lo := y1) (n := y2 + 1 - y1) (fun j Hc => But D H' Hc ∧ Hc D = some (.lst (((List.range j).map fun d => ((keyL l (x1 + i) (y1 + d) : Nat) : Int)).map V.int))) ⟨But.upd, upd_same⟩ (fun j Hc hj W => ?_) (fun Hc W => ?_)
      · obtain ⟨bD, hD⟩ := W
        refine ⟨rfl, ?_⟩
        unfold tYes
        refine iteT ?_
        refine ⟨_, rfl, _, rfl, _, rfl, l, x1 + i, y1 + j, rfl, g, fun H9 e9 => ?_⟩
        refine ⟨_, e9 _ _ hD, by rw [List.length_map, List.length_map, List.length_range]; exact small_line' (by omega), ?_, ?_⟩
        · intro c o nc hc
          rw [upd_ne nc]
          exact e9 _ _ (bD c o nc hc)
        · rw [upd_same, List.range_succ, List.map_append, List.map_append]
          rfl
      · obtain ⟨bD, hD⟩ := W
        have hlen : (boxN l x1 y1 i (y2 + 1 - y1)).length ≤ 16 * 16 := by rw [boxN_len]; exact Nat.mul_le_mul (by omega) (by omega)
        refine ⟨ks, D, _, _, rfl, rfl, bD _ _ (ne_of_none hks nD) hks, hD, by rw [List.length_map, List.length_map, List.length_map, List.length_map, List.length_range]; exact small_line (by omega), fun kz nkz => ?_⟩
        refine ⟨?_, kz, _, ?_, rfl⟩
        · intro c o hc
          exact same_new (Same.refl Hc) nkz _ _ (bD _ _ (ne_of_none (e3 _ _ hc) nD) (e3 _ _ hc))
        · rw [upd_same, boxN_succ]
          simp only [List.map_append, List.map_map]
          rfl
    obtain ⟨e3, ks, u3, hks, rfl⟩ := W
    refine ⟨_, rfl, ks, _, rfl, SqL.of hks, fun ns D hperm hsrt nD => ?_⟩
    obtain ⟨kn, rfl, hp, hs⟩ := nat_list hperm hsrt (boxN_nodup (by omega) _ (by omega))
    exact q kn D _ hs hp (same_new (s3.trans e3) nD) ((s3.trans e3).free nD) upd_same
def splaw_stretches (K : PySem.W.Frag) (Z : Ads) : Sp := fun vs H Q _ => ∃ (kl : Addr) (ks : List Nat), vs = [.ref kl] ∧ H kl = some (.lst ((ks.map fun m => ((m : Nat) : Int)).map V.int)) ∧ ks.length ≤ 300 ∧ (∀ k ∈ ks, k < 2 ^ 1000) ∧ ∀ (f : Addr) (ts : List V) H', Same H H' → H f = none → H' f = some (.lst ts) → ts.length + adj (fun _ => true) ks = ks.length → Q (.ref f) H'
theorem oklaw_stretches {Z : Ads} (T : Top K mg Z) : FnOk P w K mg base CX0 1 Z.f_law_stretches Z.d_law_stretches ["keys"] (splaw_stretches K Z) := by
  refine T.F_law_stretches.ok sclaw_stretches (fun vs H Q E h => ?_) (fun cdv A outer s H vs Q E hr h => ?_)
  · obtain ⟨kl, ks, rfl, hkl, hlen, hbd, q⟩ := h
    rfl
  · obtain ⟨kl, ks, rfl, hkl, hlen, hbd, q⟩ := h
    refine ⟨_, (pss_cons (ps_set (i := 1) sclaw_stretches.nd rfl (.inl rfl) (pe_lst pa_nil))
      (pss_cons (ps_for PassesOwn.never rfl (pi_list (pv 0)) (pg_name (i := 2) sclaw_stretches.nd rfl (.inl rfl))
        (pss_one (ps_if (PW.pt (pw_and (pt_cmpR (op_neD (hu_of' hr)) (pv 1) (pe_lst pa_nil) (nomark _)) (pw_and1 (pt_cmpR op_eq (pe_ix ix_tup (pe_ix ix_list (pv 1) (pe_un un_neg pe_int) (fun _ _ => rfl)) pe_int (fun _ _ => rfl)) (pe_op op_sub (pv 2) pe_int) (nomark _)))))
        (pss_one (ps_asg (pe_tup (pa_cons (pe_ix ix_tup (pe_ix ix_list (pv 1) (pe_un un_neg pe_int) (fun _ _ => rfl)) pe_int (fun _ _ => rfl)) (pa_cons (pv 2) pa_nil))) (pg_sub (pv 1) (pe_un un_neg pe_int) set_list)))
        (pss_one (ps_expr (pe_bm PySem.F.plainAttrs_list PySem.F.slot_list_append PySem.F.type_list_append mt_append (pv 1) (pa_cons (pe_tup (pa_cons (pv 2) (pa_cons (pv 2) pa_nil))) pa_nil)))))))
      (pss_one (ps_ret (pv 1))))), ?_⟩
    refine ⟨(by show 0 ≤ sizeLine; decide), fun fl nfl => ?_⟩
    have klf : kl ≠ fl := ne_of_none hkl nfl
    have s01 := same_new (o := HO.lst []) (Same.refl H) nfl
    refine ⟨_, rfl, kl, rfl, ⟨_, SqL.of (s01 _ _ hkl)⟩, for_list (K := K) (a := kl) (xs := (ks.map fun m => ((m : Nat) : Int)).map V.int) (fun i σ H' => ∃ (u2 : Option V) (ps : List (Int × Int)) (ts : List Addr), But fl H H' ∧ H' fl = some (.lst (ts.map V.ref)) ∧ TupsAt H' ts ps ∧ (∀ t ∈ ts, t ≠ fl) ∧ ps.length + adj (fun _ => true) (ks.take i) = i ∧ (∀ p ∈ ps, p.1.natAbs < 2 ^ 1000 ∧ p.2.natAbs < 2 ^ 1000) ∧ ((i = 0 ∧ ts = [] ∧ ps = []) ∨ ∃ (j : Nat) (ts' : List Addr) (t : Addr) (ps' : List (Int × Int)) (lo : Int) (ka : Nat), i = j + 1 ∧ ts = ts' ++ [t] ∧ ps = ps' ++ [(lo, (ka : Int))] ∧ ks[j]? = some ka ∧ TupsAt H' ts' ps' ∧ H' t = some (.tup [.int lo, .int ka])) ∧ σ = [some (.ref kl), some (.ref fl), u2]) ⟨none, [], [], Same.but s01, upd_same, True.intro, fun t ht => absurd ht List.not_mem_nil, rfl, fun p hp => absurd hp List.not_mem_nil, .inl ⟨rfl, rfl, rfl⟩, rfl⟩ (fun i σ H' _ W => ?_) (fun i v σ H' hv W => ?_) (fun σ H' W => ?_)⟩
    · obtain ⟨u2, ps, ts, bt, _⟩ := W
      exact SqL.of (bt _ _ klf hkl)
    · obtain ⟨u2, ps, ts, bt, hfl, htu, hne, hcnt, hb, hcase, rfl⟩ := W
      obtain ⟨kb, hkb, rfl⟩ : ∃ kb : Nat, ks[i]? = some kb ∧ v = V.int (kb : Int) := by
        rw [List.getElem?_map, List.getElem?_map] at hv
        cases e : ks[i]? with
        | none => rw [e] at hv; cases hv
        | some t => rw [e] at hv; exact ⟨t, rfl, (Option.some.inj hv).symm⟩
      have hi : i < ks.length := (List.getElem?_eq_some_iff.mp hkb).1
      have hbk := hbd kb (List.mem_of_getElem? hkb)
      have tl := htu.len
      have hpl : ps.length ≤ i := by omega
      refine ⟨_, rfl, (by show 0 ≤ sizeLine; decide), fun em nem => ?_⟩
      have sm := same_new (o := HO.lst []) (Same.refl H') nem
      refine ⟨.list (ps.map fun p => PyData.tuple [.int p.1, .int p.2]), .list [], Dp.lst (SqL.of (sm _ _ hfl)) (TupsAt.dp (TupsAt.imp (fun t a b h => sm _ _ h) htu)), Dp.lst (SqL.of upd_same) .nil, shaped_pairs ps hb, shaped_list alln, _, rfl, ?_⟩
      -- a new stretch
      have app : ∀ (G : Hp), Same H' G → (ps.length + 1) + adj (fun _ => true) (ks.take (i + 1)) = i + 1 → ∀ t2 : Addr, G t2 = none → ∃ (u2 : Option V) (ps : List (Int × Int)) (ts2 : List Addr), But fl H (upd (upd G t2 (.tup [.int (kb : Int), .int (kb : Int)])) fl (.lst (ts.map V.ref ++ [.ref t2]))) ∧ (upd (upd G t2 (.tup [.int (kb : Int), .int (kb : Int)])) fl (.lst (ts.map V.ref ++ [.ref t2]))) fl = some (.lst (ts2.map V.ref)) ∧ TupsAt (upd (upd G t2 (.tup [.int (kb : Int), .int (kb : Int)])) fl (.lst (ts.map V.ref ++ [.ref t2]))) ts2 ps ∧ (∀ t ∈ ts2, t ≠ fl) ∧ ps.length + adj (fun _ => true) (ks.take (i + 1)) = i + 1 ∧ (∀ p ∈ ps, p.1.natAbs < 2 ^ 1000 ∧ p.2.natAbs < 2 ^ 1000) ∧ ((i + 1 = 0 ∧ ts2 = [] ∧ ps = []) ∨ ∃ (j : Nat) (ts' : List Addr) (t : Addr) (ps' : List (Int × Int)) (lo : Int) (ka : Nat), i + 1 = j + 1 ∧ ts2 = ts' ++ [t] ∧ ps = ps' ++ [(lo, (ka : Int))] ∧ ks[j]? = some ka ∧ TupsAt (upd (upd G t2 (.tup [.int (kb : Int), .int (kb : Int)])) fl (.lst (ts.map V.ref ++ [.ref t2]))) ts' ps' ∧ (upd (upd G t2 (.tup [.int (kb : Int), .int (kb : Int)])) fl (.lst (ts.map V.ref ++ [.ref t2]))) t = some (.tup [.int lo, .int ka])) ∧ [some (V.ref kl), some (V.ref fl), some (V.int (kb : Int))] = [some (V.ref kl), some (V.ref fl), u2] := by
        intro G sG hc t2 nt2
        have hflG := sG _ _ hfl
        have t2f : t2 ≠ fl := fun z => by rw [z, hflG] at nt2; cases nt2
        have sN := same_new (o := HO.tup [.int (kb : Int), .int (kb : Int)]) (Same.refl G) nt2
        have kt2 : (upd (upd G t2 (.tup [.int (kb : Int), .int (kb : Int)])) fl (.lst (ts.map V.ref ++ [.ref t2]))) t2 = some (.tup [.int (kb : Int), .int (kb : Int)]) := by
          rw [upd_ne t2f]
          exact upd_same
        have old : TupsAt (upd (upd G t2 (.tup [.int (kb : Int), .int (kb : Int)])) fl (.lst (ts.map V.ref ++ [.ref t2]))) ts ps := TupsAt.imp (fun t a b h => by
          have tf : t ≠ fl := fun z => by rw [z, hfl] at h; cases h
          rw [upd_ne tf]
          exact sN _ _ (sG _ _ h)) htu
        refine ⟨_, ps ++ [((kb : Int), (kb : Int))], ts ++ [t2], ?_, ?_, TupsAt.snoc kt2 old, ?_, ?_, ?_, .inr ⟨i, ts, t2, ps, (kb : Int), kb, rfl, rfl, rfl, hkb, old, kt2⟩, rfl⟩
        · exact But.trans (bt.trans (Same.but (sG.trans sN))) But.upd
        · rw [upd_same, List.map_append]
          rfl
        · intro t ht
          rcases List.mem_append.mp ht with z | z
          · exact hne t z
          · rw [List.mem_singleton.mp z]
            exact t2f
        · rw [List.length_append]
          exact hc
        · intro p hp
          rcases List.mem_append.mp hp with z | z
          · exact hb p z
          · rw [List.mem_singleton.mp z]
            exact ⟨by rw [Int.natAbs_natCast]; exact hbk, by rw [Int.natAbs_natCast]; exact hbk⟩
      have flb : ts.length < 1000 := by omega
      rcases hcase with ⟨rfl, rfl, rfl⟩ | ⟨j, ts', t, ps', lo, ka, rfl, rfl, rfl, hka, htu', kt⟩
      · refine iteF' (by rw [show PyData.eqv (.list (([] : List (Int × Int)).map fun p => PyData.tuple [.int p.1, .int p.2])) (.list []) = true from eqv_same (shaped_list alln)]; rfl) (iteF ?_)
        refine ⟨_, rfl, .inl ⟨rfl, _, SqL.of (sm _ _ hfl)⟩, _, rfl, _, rfl, (by show 2 ≤ sizeLine; decide), fun t2 nt2 => ?_⟩
        have flt : fl ≠ t2 := ne_of_none (sm _ _ hfl) nt2
        refine ⟨fl, _, _, rfl, rfl, by rw [upd_ne flt]; exact sm _ _ hfl, small_line' (by show 0 ≤ 100000; decide), ?_⟩
        refine app _ sm ?_ t2 nt2
        have : ∀ x : Nat, adj (fun _ => true) [x] = 0 := fun _ => rfl
        rw [List.take_succ, List.take_zero, hkb]
        rfl
      · have cnt2 : adj (fun _ => true) (ks.take (j + 1 + 1)) = adj (fun _ => true) (ks.take (j + 1)) + (if kb = ka + 1 then 1 else 0) := adj_all_take hka hkb
        refine iteT' (by rw [eqv_nil]; rfl) ?_
        have hflm : (upd H' em (.lst [])) fl = some (.lst (ts'.map V.ref ++ [.ref t])) := by
          have := sm _ _ hfl
          rw [List.map_append] at this
          exact this
        have ktm := sm _ _ kt
        refine ⟨_, rfl, _, rfl, fl, _, -1, .ref t, rfl, rfl, SqL.of hflm, at_last, t, _, 1, .int ka, rfl, rfl, SqT.of ktm, rfl, _, rfl, _, _, rfl, rfl, rfl, _, rfl, ite2 (fun ec => ?_) (fun ec => ?_)⟩
        · have e0 : (ka : Int) = (kb : Int) - 1 := V.int.inj (of_decide_eq_true ec)
          rw [if_pos (show kb = ka + 1 by omega)] at cnt2
          refine ⟨_, rfl, _, rfl, fl, _, -1, .ref t, rfl, rfl, SqL.of hflm, at_last, t, _, 0, .int lo, rfl, rfl, SqT.of ktm, rfl, _, rfl, (by show 2 ≤ sizeLine; decide), fun t2 nt2 => ?_⟩
          have flt : fl ≠ t2 := ne_of_none hflm nt2
          have sN := same_new (o := HO.tup [.int lo, .int (kb : Int)]) sm nt2
          refine ⟨_, rfl, _, rfl, fl, _, -1, (ts'.map V.ref).length, rfl, rfl, (by rw [upd_ne flt]; exact hflm), by rw [List.length_append]; exact ix_last, ?_⟩
          rw [set_last]
          have kt2 : (upd (upd (upd H' em (.lst [])) t2 (.tup [.int lo, .int (kb : Int)])) fl (.lst (ts'.map V.ref ++ [.ref t2]))) t2 = some (.tup [.int lo, .int (kb : Int)]) := by
            rw [upd_ne flt.symm]
            exact upd_same
          have old : TupsAt (upd (upd (upd H' em (.lst [])) t2 (.tup [.int lo, .int (kb : Int)])) fl (.lst (ts'.map V.ref ++ [.ref t2]))) ts' ps' := TupsAt.imp (fun u a b h => by
            have tf : u ≠ fl := fun z => by rw [z, hfl] at h; cases h
            rw [upd_ne tf]
            exact sN _ _ h) htu'
          refine ⟨_, ps' ++ [(lo, (kb : Int))], ts' ++ [t2], But.trans (bt.trans (Same.but sN)) But.upd, ?_, TupsAt.snoc kt2 old, ?_, ?_, ?_, .inr ⟨j + 1, ts', t2, ps', lo, kb, rfl, rfl, rfl, hkb, old, kt2⟩, rfl⟩
          · rw [upd_same, List.map_append]
            rfl
          · intro u hu
            rcases List.mem_append.mp hu with z | z
            · exact hne u (List.mem_append_left _ z)
            · rw [List.mem_singleton.mp z]
              exact flt.symm
          · rw [List.length_append] at hcnt ⊢
            have h1 : [(lo, (ka : Int))].length = 1 := rfl
            have h2 : [(lo, (kb : Int))].length = 1 := rfl
            omega
          · intro p hp
            rcases List.mem_append.mp hp with z | z
            · exact hb p (List.mem_append_left _ z)
            · rw [List.mem_singleton.mp z]
              exact ⟨(hb (lo, (ka : Int)) (List.mem_append_right _ List.mem_cons_self)).1, by rw [Int.natAbs_natCast]; exact hbk⟩
        · rw [if_neg (show ¬ kb = ka + 1 from fun z => ec (decide_eq_true (congrArg V.int (show ((ka : Nat) : Int) = ((kb : Nat) : Int) - 1 by omega))))] at cnt2
          refine ⟨_, rfl, .inl ⟨rfl, _, SqL.of (sm _ _ hfl)⟩, _, rfl, _, rfl, (by show 2 ≤ sizeLine; decide), fun t2 nt2 => ?_⟩
          have flt : fl ≠ t2 := ne_of_none (sm _ _ hfl) nt2
          refine ⟨fl, _, _, rfl, rfl, by rw [upd_ne flt]; exact sm _ _ hfl, by rw [List.length_map]; exact small_line' (by omega), ?_⟩
          exact app _ sm (by omega) t2 nt2
    · obtain ⟨u2, ps, ts, bt, hfl, htu, hne, hcnt, hb, _, rfl⟩ := W
      rw [List.length_map, List.length_map, List.take_length] at hcnt
      refine ⟨_, rfl, q fl _ H' ?_ nfl hfl ?_⟩
      · intro c o hc
        exact bt _ _ (ne_of_none hc nfl) hc
      · rw [List.length_map, htu.len]
        exact hcnt
def sparea_of (K : PySem.W.Frag) (Z : Ads) : Sp := fun vs H Q _ => ∃ (a : Addr) (x1 y1 x2 y2 : Nat), vs = [.ref a] ∧ H a = some (.tup [.int (x1 : Nat), .int (y1 : Nat), .int (x2 : Nat), .int (y2 : Nat)]) ∧ x1 ≤ x2 ∧ y1 ≤ y2 ∧ x2 < 2 ^ 100 ∧ y2 < 2 ^ 100 ∧ Q (.int ((x2 + 1 - x1) * (y2 + 1 - y1) : Nat)) H
theorem okarea_of {Z : Ads} (T : Top K mg Z) : FnOk P w K mg base CX0 1 Z.f_area_of Z.d_area_of ["box"] (sparea_of K Z) := by
  refine T.F_area_of.ok scarea_of (fun vs H Q E h => ?_) (fun cdv A outer s H vs Q E hr h => ?_)
  · obtain ⟨a, x1, y1, x2, y2, rfl, ha, h1, h2, hx, hy, q⟩ := h
    rfl
  · obtain ⟨a, x1, y1, x2, y2, rfl, ha, h1, h2, hx, hy, q⟩ := h
    refine ⟨_, (pss_cons (ps_asg (pv 0) (pg_tup (by rfl) (pgs_cons (pg_name (i := 1) scarea_of.nd rfl (.inl rfl)) (pgs_cons (pg_name (i := 2) scarea_of.nd rfl (.inl rfl)) (pgs_cons (pg_name (i := 3) scarea_of.nd rfl (.inl rfl)) (pgs_cons (pg_name (i := 4) scarea_of.nd rfl (.inl rfl)) pgs_nil))))))
      (pss_one (ps_ret (pe_op op_mulW (pe_op op_add (pe_op op_sub (pv 3) (pv 1)) pe_int) (pe_op op_add (pe_op op_sub (pv 4) (pv 2)) pe_int))))), ?_⟩
    have e1 : (x2 : Int) - (x1 : Int) + 1 = ((x2 + 1 - x1 : Nat) : Int) := by omega
    have e2 : (y2 : Int) - (y1 : Int) + 1 = ((y2 + 1 - y1 : Nat) : Int) := by omega
    refine ⟨_, rfl, a, _, rfl, SqT.of ha, rfl, _, _, rfl, _, _, rfl, _, _, rfl, _, _, rfl, rfl, ?_⟩
    refine ⟨_, rfl, _, rfl, _, _, rfl, rfl, _, _, rfl, rfl, _, rfl, _, rfl, _, _, rfl, rfl, _, _, rfl, rfl, _, _, rfl, rfl, ?_, ?_⟩
    · show CMulW ((x2 : Int) - (x1 : Int) + 1) ((y2 : Int) - (y1 : Int) + 1)
      rw [e1, e2]
      exact cmulN (a := x2 + 1 - x1) (b := y2 + 1 - y1) (Nat.lt_of_le_of_lt (show x2 + 1 - x1 ≤ 2 ^ 100 by omega) (pw (x := 100) (by omega))) (Nat.lt_of_le_of_lt (show y2 + 1 - y1 ≤ 2 ^ 100 by omega) (pw (x := 100) (by omega)))
    · show Q (.int (((x2 : Int) - (x1 : Int) + 1) * ((y2 : Int) - (y1 : Int) + 1))) H
      rw [e1, e2]
      exact q
def spLayout_word (K : PySem.W.Frag) (Z : Ads) : Sp := fun vs H Q _ => ∃ (p : Addr) (l : List Bool), vs = [.ref p] ∧ Lay Z.C_Layout H p l ∧ Q (.str (wS l)) H
theorem okLayout_word {Z : Ads} (T : Top K mg Z) : FnOk P w K mg base CX0 1 Z.f_Layout_word Z.d_Layout_word ["self"] (spLayout_word K Z) := by
  refine T.F_Layout_word.ok scLayout_word (fun vs H Q E h => ?_) (fun cdv A outer s H vs Q E hr h => ?_)
  · obtain ⟨p, l, rfl, ⟨dx, hp⟩, q⟩ := h
    rfl
  · obtain ⟨p, l, rfl, ⟨dx, hp⟩, q⟩ := h
    refine ⟨_, (pss_one (ps_ret (pe_fld (pv 0) rfl))), ?_⟩
    exact ⟨_, rfl, p, Z.C_Layout, dx, _, _, rfl, hp, T.cl_Layout, T.no_Layout_word, lf_word l, q⟩
def spLayout_x_bits (K : PySem.W.Frag) (Z : Ads) : Sp := fun vs H Q _ => ∃ (p : Addr) (l : List Bool), vs = [.ref p] ∧ Lay Z.C_Layout H p l ∧ Q (.int (nx l)) H
theorem okLayout_x_bits {Z : Ads} (T : Top K mg Z) : FnOk P w K mg base CX0 1 Z.f_Layout_x_bits Z.d_Layout_x_bits ["self"] (spLayout_x_bits K Z) := by
  refine T.F_Layout_x_bits.ok scLayout_x_bits (fun vs H Q E h => ?_) (fun cdv A outer s H vs Q E hr h => ?_)
  · obtain ⟨p, l, rfl, ⟨dx, hp⟩, q⟩ := h
    rfl
  · obtain ⟨p, l, rfl, ⟨dx, hp⟩, q⟩ := h
    refine ⟨_, (pss_one (ps_ret (pe_fld (pv 0) rfl))), ?_⟩
    exact ⟨_, rfl, p, Z.C_Layout, dx, _, _, rfl, hp, T.cl_Layout, T.no_Layout_x_bits, lf_x l, q⟩
def spLayout_y_bits (K : PySem.W.Frag) (Z : Ads) : Sp := fun vs H Q _ => ∃ (p : Addr) (l : List Bool), vs = [.ref p] ∧ Lay Z.C_Layout H p l ∧ Q (.int (ny l)) H
theorem okLayout_y_bits {Z : Ads} (T : Top K mg Z) : FnOk P w K mg base CX0 1 Z.f_Layout_y_bits Z.d_Layout_y_bits ["self"] (spLayout_y_bits K Z) := by
  refine T.F_Layout_y_bits.ok scLayout_y_bits (fun vs H Q E h => ?_) (fun cdv A outer s H vs Q E hr h => ?_)
  · obtain ⟨p, l, rfl, ⟨dx, hp⟩, q⟩ := h
    rfl
  · obtain ⟨p, l, rfl, ⟨dx, hp⟩, q⟩ := h
    refine ⟨_, (pss_one (ps_ret (pe_fld (pv 0) rfl))), ?_⟩
    exact ⟨_, rfl, p, Z.C_Layout, dx, _, _, rfl, hp, T.cl_Layout, T.no_Layout_y_bits, lf_y l, q⟩
def spis_integer (K : PySem.W.Frag) (Z : Ads) : Sp := fun vs H Q _ => ∃ i : Int, vs = [.int i] ∧ Q (.bl true) H
theorem okis_integer {Z : Ads} (T : Top K mg Z) : FnOk P w K mg base CX0 1 Z.f_is_integer Z.d_is_integer ["value"] (spis_integer K Z) := by
  refine T.F_is_integer.ok scis_integer (fun vs H Q E h => ?_) (fun cdv A outer s H vs Q E hr h => ?_)
  · obtain ⟨i, rfl, q⟩ := h
    rfl
  · obtain ⟨i, rfl, q⟩ := h
    refine ⟨_, (pss_one (ps_ret (pe_and (pe_callB (call_isi) (by rfl) T.z_isinstance (by decide +kernel) (pa_cons (pv 0) (pa_cons (pe_bltn (v := .ty "int") (by rfl) T.z_int (by decide +kernel) rfl) pa_nil))) (pe_one (pe_not (pe_callB (call_isi) (by rfl) T.z_isinstance (by decide +kernel) (pa_cons (pv 0) (pa_cons (pe_bltn (v := .ty "bool") (by rfl) T.z_bool (by decide +kernel) rfl) pa_nil)))))))), ?_⟩
    refine ⟨_, rfl, .int i, .ty "int", _, _, true, rfl, .ty _, .base (.int i), kit_ty (by decide +kernel), true, rfl, iteT ?_⟩
    refine ⟨_, rfl, .int i, .ty "bool", _, _, false, rfl, .ty _, .base (.int i), kit_ty (by decide +kernel), false, rfl, ?_⟩
    exact q
def spare_integers (K : PySem.W.Frag) (Z : Ads) : Sp := fun vs H Q _ => ∃ (a : Addr) (ns : List Int), vs = [.ref a, .int (ns.length : Int)] ∧ H a = some (.tup (ns.map V.int)) ∧ ns.length ≤ 100 ∧ ∀ H', Same H H' → Q (.bl true) H'
theorem okare_integers {Z : Ads} (T : Top K mg Z) : FnOk P w K mg base CX0 2 Z.f_are_integers Z.d_are_integers ["value", "many"] (spare_integers K Z) := by
  have G_is_integer : FnOk P w K mg base CX0 1 Z.f_is_integer Z.d_is_integer ["value"] (spis_integer K Z) := (okis_integer T).mono (by decide)
  refine T.F_are_integers.ok scare_integers (fun vs H Q E h => ?_) (fun cdv A outer s H vs Q E hr h => ?_)
  · obtain ⟨a, ns, rfl, ha, hl, q⟩ := h
    rfl
  · obtain ⟨a, ns, rfl, ha, hl, q⟩ := h
    refine ⟨_, (pss_cons (ps_if (PW.pt (pw_or (pt_not (pt_val (pe_callB (call_isi) (by rfl) T.z_isinstance (by decide +kernel) (pa_cons (pv 0) (pa_cons (pe_bltn (v := .ty "tuple") (by rfl) T.z_tuple (by decide +kernel) rfl) pa_nil))))) (pw_or1 (pt_cmpR op_ne (pe_callB call_len_seq (by rfl) T.z_len (by decide +kernel) (pa_cons (pv 0) pa_nil)) (pv 1) (nomark _)))))
        (pss_one (ps_ret pe_bl))
        pss_nil)
      (pss_one (ps_ret (pe_callB (cr_all (by rfl)) (by rfl) T.z_all (by decide +kernel) (pa_cons (pe_lc (own := [("part", 2)]) (g := (gName 2)) (tt := tYes) rfl scare_integers.nd (pi_tup (pv 0)) (blkOk_by (own := [("part", 2)]) (N := ["value", "many", "part"]) (sc := defScope sare_integers) (by decide +kernel)) (fun _ _ _ _ _ => (pg_name (i := 2) scare_integers.nd rfl (.inl rfl))) (fun _ _ _ _ _ => pts_nil) (fun _ _ _ _ _ => (pe_call G_is_integer (hr.mono (by decide)) (by rfl) T.m_is_integer T.F_is_integer.kp T.b_is_integer .nil pass0 (pa_cons (pv 2) pa_nil)))) pa_nil))))), ?_⟩
    refine ⟨_, rfl, .ref a, .ty "tuple", _, _, true, rfl, .ty _, .base (.tup ha), kit_ty (by decide +kernel), true, rfl, iteF ?_⟩
    refine ⟨_, rfl, a, _, rfl, .inr (SqT.of ha), _, rfl, rfl, _, rfl, iteNS (by rw [List.length_map]) ?_⟩
    refine ⟨_, rfl, a, rfl, ⟨_, SqT.of ha⟩, fun d hd => lc_tup (K := K) (a := a) (xs := ns.map V.int) (fun i H' => Same H H' ∧ H' d = some (.lst ((List.replicate i true).map V.bl))) ⟨same_new (Same.refl H) hd, upd_same⟩ (fun i H' _ p => .inl (.inl (p.1 _ _ ha))) (fun i x H' hx p => ?_) (fun H' p => ?_)⟩
    · obtain ⟨z, rfl⟩ : ∃ z, x = V.int z := by
        rw [List.getElem?_map] at hx
        cases e : ns[i]? with
        | none => rw [e] at hx; cases hx
        | some z => rw [e] at hx; exact ⟨z, (Option.some.inj hx).symm⟩
      have hi : i < ns.length := by have := (List.getElem?_eq_some_iff.mp hx).1; rw [List.length_map] at this; exact this
      refine ⟨rfl, _, rfl, z, rfl, _, p.2, ?_, ?_⟩
      · rw [List.length_map, List.length_replicate]
        exact small_line' (by omega)
      · refine ⟨same_mut p.1 hd, ?_⟩
        rw [upd_same, List.replicate_succ', List.map_append]
        rfl
    · refine ⟨d, _, rfl, .inl (.inl p.2), ?_⟩
      have e : (List.replicate (ns.map V.int).length true).all id = true := by simp
      rw [e]
      exact q H' p.1
def spis_box (K : PySem.W.Frag) (Z : Ads) : Sp := fun vs H Q _ => ∃ (a : Addr) (x1 y1 x2 y2 n m : Nat), vs = [.ref a, .int n, .int m] ∧ H a = some (.tup [.int (x1 : Nat), .int (y1 : Nat), .int (x2 : Nat), .int (y2 : Nat)]) ∧ n ≤ 100 ∧ m ≤ 100 ∧ x1 ≤ x2 ∧ x2 < 2 ^ n ∧ y1 ≤ y2 ∧ y2 < 2 ^ m ∧ ∀ H', Same H H' → Q (.bl true) H'
theorem okis_box {Z : Ads} (T : Top K mg Z) : FnOk P w K mg base CX0 3 Z.f_is_box Z.d_is_box ["value", "x_bits", "y_bits"] (spis_box K Z) := by
  have G_are_integers : FnOk P w K mg base CX0 2 Z.f_are_integers Z.d_are_integers ["value", "many"] (spare_integers K Z) := (okare_integers T).mono (by decide)
  refine T.F_is_box.ok scis_box (fun vs H Q E h => ?_) (fun cdv A outer s H vs Q E hr h => ?_)
  · obtain ⟨a, x1, y1, x2, y2, n, m, rfl, ha, hn, hm, h1, hx, h2, hy, q⟩ := h
    rfl
  · obtain ⟨a, x1, y1, x2, y2, n, m, rfl, ha, hn, hm, h1, hx, h2, hy, q⟩ := h
    refine ⟨_, (pss_cons (ps_if (pt_not (pt_val (pe_call G_are_integers (hr.mono (by decide)) (by rfl) T.m_are_integers T.F_are_integers.kp T.b_are_integers .nil pass0 (pa_cons (pv 0) (pa_cons pe_int pa_nil)))))
        (pss_one (ps_ret pe_bl))
        pss_nil)
      (pss_cons (ps_asg (pv 0) (pg_tup (by rfl) (pgs_cons (pg_name (i := 3) scis_box.nd rfl (.inl rfl)) (pgs_cons (pg_name (i := 4) scis_box.nd rfl (.inl rfl)) (pgs_cons (pg_name (i := 5) scis_box.nd rfl (.inl rfl)) (pgs_cons (pg_name (i := 6) scis_box.nd rfl (.inl rfl)) pgs_nil))))))
      (pss_one (ps_ret (pe_and (pe_chain3 op_le op_le op_lt pe_int (pv 3) (pv 5) (pe_op op_shl pe_int (pv 1))) (pe_one (pe_chain3 op_le op_le op_lt pe_int (pv 4) (pv 6) (pe_op op_shl pe_int (pv 2))))))))), ?_⟩
    refine ⟨_, rfl, a, [(x1 : Int), (y1 : Int), (x2 : Int), (y2 : Int)], rfl, ha, Nat.le_of_ble_eq_true rfl, fun H1 e1 => ⟨true, rfl, iteF ?_⟩⟩
    refine ⟨_, rfl, a, _, rfl, SqT.of (e1 _ _ ha), rfl, _, _, rfl, _, _, rfl, _, _, rfl, _, _, rfl, rfl, ?_⟩
    have hx' : (x2 : Int) < 1 * 2 ^ (n : Int).toNat := by rw [Int.one_mul, Int.toNat_natCast]; exact_mod_cast hx
    have hy' : (y2 : Int) < 1 * 2 ^ (m : Int).toNat := by rw [Int.one_mul, Int.toNat_natCast]; exact_mod_cast hy
    refine ⟨_, rfl, _, _, rfl, rfl, true, congrArg V.bl (decide_eq_true (Int.natCast_nonneg x1)), iteT ⟨_, rfl, _, _, rfl, rfl, true, congrArg V.bl (decide_eq_true (Int.ofNat_le.mpr h1)), iteT ⟨_, rfl, _, _, rfl, rfl, ⟨Int.natCast_nonneg n, by omega, by decide⟩, _, _, rfl, rfl, true, congrArg V.bl (decide_eq_true hx'), iteT ?_⟩⟩⟩
    refine ⟨_, rfl, _, _, rfl, rfl, true, congrArg V.bl (decide_eq_true (Int.natCast_nonneg y1)), iteT ⟨_, rfl, _, _, rfl, rfl, true, congrArg V.bl (decide_eq_true (Int.ofNat_le.mpr h2)), iteT ⟨_, rfl, _, _, rfl, rfl, ⟨Int.natCast_nonneg m, by omega, by decide⟩, _, _, rfl, rfl, ?_⟩⟩⟩
    show Q (.bl (decide ((y2 : Int) < 1 * 2 ^ (m : Int).toNat))) H1
    rw [decide_eq_true hy']
    exact q H1 e1
def spcheck_box (K : PySem.W.Frag) (Z : Ads) : Sp := fun vs H Q _ => ∃ (a : Addr) (x1 y1 x2 y2 n m : Nat), vs = [.ref a, .int n, .int m] ∧ H a = some (.tup [.int (x1 : Nat), .int (y1 : Nat), .int (x2 : Nat), .int (y2 : Nat)]) ∧ n ≤ 100 ∧ m ≤ 100 ∧ x1 ≤ x2 ∧ x2 < 2 ^ n ∧ y1 ≤ y2 ∧ y2 < 2 ^ m ∧ ∀ H', Same H H' → Q .non H'
theorem okcheck_box {Z : Ads} (T : Top K mg Z) : FnOk P w K mg base CX0 4 Z.f_check_box Z.d_check_box ["box", "x_bits", "y_bits"] (spcheck_box K Z) := by
  have G_is_box : FnOk P w K mg base CX0 3 Z.f_is_box Z.d_is_box ["value", "x_bits", "y_bits"] (spis_box K Z) := (okis_box T).mono (by decide)
  refine T.F_check_box.ok sccheck_box (fun vs H Q E h => ?_) (fun cdv A outer s H vs Q E hr h => ?_)
  · obtain ⟨a, x1, y1, x2, y2, n, m, rfl, ha, hn, hm, h1, hx, h2, hy, q⟩ := h
    rfl
  · obtain ⟨a, x1, y1, x2, y2, n, m, rfl, ha, hn, hm, h1, hx, h2, hy, q⟩ := h
    refine ⟨_, (pss_one (ps_if (pt_not (pt_val (pe_call G_is_box (hr.mono (by decide)) (by rfl) T.m_is_box T.F_is_box.kp T.b_is_box .nil pass0 (pa_cons (pv 0) (pa_cons (pv 1) (pa_cons (pv 2) pa_nil))))))
        (pss_one ps_never)
        pss_nil)), ?_⟩
    exact ⟨_, rfl, _, rfl, _, rfl, a, x1, y1, x2, y2, n, m, rfl, ha, hn, hm, h1, hx, h2, hy, fun H1 e1 => ⟨true, rfl, iteF (q H1 e1)⟩⟩
def spcheck_layout (K : PySem.W.Frag) (Z : Ads) : Sp := fun vs H Q _ => ∃ (p : Addr) (l : List Bool), vs = [.ref p] ∧ Lay Z.C_Layout H p l ∧ Q .non H
theorem okcheck_layout {Z : Ads} (T : Top K mg Z) : FnOk P w K mg base CX0 1 Z.f_check_layout Z.d_check_layout ["layout"] (spcheck_layout K Z) := by
  refine T.F_check_layout.ok sccheck_layout (fun vs H Q E h => ?_) (fun cdv A outer s H vs Q E hr h => ?_)
  · obtain ⟨p, l, rfl, ⟨dx, hp⟩, q⟩ := h
    rfl
  · obtain ⟨p, l, rfl, ⟨dx, hp⟩, q⟩ := h
    refine ⟨_, (pss_one (ps_if (pt_not (pt_val (pe_callB (call_isi) (by rfl) T.z_isinstance (by decide +kernel) (pa_cons (pv 0) (pa_cons (pe_glob (v := .ref Z.C_Layout) (by rfl) T.m_Layout rfl) pa_nil)))))
        (pss_one ps_never)
        pss_nil)), ?_⟩
    exact ⟨_, rfl, .ref p, .ref Z.C_Layout, _, _, true, rfl, .own _, .base (TyOf.ins hp T.ins_Layout.cl T.ins_Layout.ha T.ins_Layout.hn T.ins_Layout.htk T.ins_Layout.hm), T.ins_Layout.me, true, rfl, iteF q⟩
def spcheck_layout_and_box (K : PySem.W.Frag) (Z : Ads) : Sp := fun vs H Q _ => ∃ (p a : Addr) (l : List Bool) (x1 y1 x2 y2 : Nat), vs = [.ref p, .ref a] ∧ Lay Z.C_Layout H p l ∧ GoodW l ∧ H a = some (.tup [.int (x1 : Nat), .int (y1 : Nat), .int (x2 : Nat), .int (y2 : Nat)]) ∧ Bx l x1 y1 x2 y2 ∧ ∀ H', Same H H' → Q .non H'
theorem okcheck_layout_and_box {Z : Ads} (T : Top K mg Z) : FnOk P w K mg base CX0 5 Z.f_check_layout_and_box Z.d_check_layout_and_box ["layout", "box"] (spcheck_layout_and_box K Z) := by
  have G_Layout_x_bits : FnOk P w K mg base CX0 1 Z.f_Layout_x_bits Z.d_Layout_x_bits ["self"] (spLayout_x_bits K Z) := (okLayout_x_bits T).mono (by decide)
  have G_Layout_y_bits : FnOk P w K mg base CX0 1 Z.f_Layout_y_bits Z.d_Layout_y_bits ["self"] (spLayout_y_bits K Z) := (okLayout_y_bits T).mono (by decide)
  have G_check_box : FnOk P w K mg base CX0 4 Z.f_check_box Z.d_check_box ["box", "x_bits", "y_bits"] (spcheck_box K Z) := (okcheck_box T).mono (by decide)
  have G_check_layout : FnOk P w K mg base CX0 4 Z.f_check_layout Z.d_check_layout ["layout"] (spcheck_layout K Z) := (okcheck_layout T).mono (by decide)
  refine T.F_check_layout_and_box.ok sccheck_layout_and_box (fun vs H Q E h => ?_) (fun cdv A outer s H vs Q E hr h => ?_)
  · obtain ⟨p, a, l, x1, y1, x2, y2, rfl, ⟨dx, hp⟩, g, ha, b, q⟩ := h
    rfl
  · obtain ⟨p, a, l, x1, y1, x2, y2, rfl, ⟨dx, hp⟩, g, ha, b, q⟩ := h
    refine ⟨_, (pss_cons (ps_expr (pe_call G_check_layout (hr.mono (by decide)) (by rfl) T.m_check_layout T.F_check_layout.kp T.b_check_layout .nil pass0 (pa_cons (pv 0) pa_nil)))
      (pss_one (ps_expr (pe_call G_check_box (hr.mono (by decide)) (by rfl) T.m_check_box T.F_check_box.kp T.b_check_box .nil pass0 (pa_cons (pv 1) (pa_cons (pe_prop (pv 0) T.cl_Layout T.p_Layout_x_bits G_Layout_x_bits (hr.mono (by decide)) T.b_Layout_x_bits .nil pass0 (by rfl)) (pa_cons (pe_prop (pv 0) T.cl_Layout T.p_Layout_y_bits G_Layout_y_bits (hr.mono (by decide)) T.b_Layout_y_bits .nil pass0 (by rfl)) pa_nil))))))), ?_⟩
    refine ⟨_, rfl, p, l, rfl, ⟨dx, hp⟩, ?_⟩
    exact ⟨_, rfl, _, rfl, p, dx, _, rfl, hp, p, _, rfl, ⟨dx, hp⟩, _, rfl, p, dx, _, rfl, hp, p, _, rfl, ⟨dx, hp⟩, a, x1, y1, x2, y2, nx l, ny l, rfl, ha, g.2.1, g.2.2, b.x, b.bx, b.y, b.by_, fun H1 e1 => q H1 e1⟩
def spfeet (K : PySem.W.Frag) (Z : Ads) : Sp := fun vs H Q _ => ∃ l : List Bool, vs = [.str (wS l)] ∧ l.length ≤ 300 ∧ ∀ p ts H', Same H H' → H p = none → FeetAt H' p ts (feetL l) → Q (.ref p) H'
theorem okfeet {Z : Ads} (T : Top K mg Z) : FnOk P w K mg base CX0 1 Z.f_feet Z.d_feet ["word"] (spfeet K Z) := by
  refine T.F_feet.ok scfeet (fun vs H Q E h => ?_) (fun cdv A outer s H vs Q E hr h => ?_)
  · obtain ⟨l, rfl, hl, q⟩ := h
    rfl
  · obtain ⟨l, rfl, hl, q⟩ := h
    refine ⟨_, (pss_cons (ps_par (i := 1) (j := 2) (by rfl) scfeet.nd rfl rfl (by decide) rfl rfl (pa_cons (pe_bm PySem.F.plainAttrs_str PySem.F.slot_str_count PySem.F.type_str_count mt_count (pv 0) (pa_cons pe_str pa_nil)) (pa_cons (pe_bm PySem.F.plainAttrs_str PySem.F.slot_str_count PySem.F.type_str_count mt_count (pv 0) (pa_cons pe_str pa_nil)) pa_nil)) (by rfl))
      (pss_cons (ps_set (i := 3) scfeet.nd rfl (.inl rfl) (pe_lst pa_nil))
      (pss_cons (ps_for PassesOwn.never rfl (pi_str (pv 0)) (pg_name (i := 4) scfeet.nd rfl (.inl rfl))
        (pss_cons (ps_if (pt_cmpR op_eq (pv 4) pe_str (nomark _))
        (pss_one (ps_aug (i := 1) scfeet.nd rfl (.inl rfl) pe_int ip_sub))
        (pss_one (ps_aug (i := 2) scfeet.nd rfl (.inl rfl) pe_int ip_sub)))
      (pss_one (ps_expr (pe_bm PySem.F.plainAttrs_list PySem.F.slot_list_append PySem.F.type_list_append mt_append (pv 3) (pa_cons (pe_tup (pa_cons (pv 4) (pa_cons (pv 1) (pa_cons (pv 2) pa_nil)))) pa_nil))))))
      (pss_one (ps_ret (pv 3)))))), ?_⟩
    refine ⟨_, rfl, rfl, _, _, rfl, rfl, _, rfl, rfl, _, _, rfl, rfl, _, _, rfl, ?_⟩
    rw [count_x, count_y]
    refine ⟨Nat.zero_le _, fun p np => ?_⟩
    refine ⟨_, rfl, _, rfl, fun i c σ H' => ∃ (ts : List Addr) (y : Option V), i + c = l.length ∧ σ = [some (.str (wS l)), some (.int (nx (l.drop i))), some (.int (ny (l.drop i))), some (.ref p), y] ∧ Same H H' ∧ FeetAt H' p ts ((feetL l).take i), ⟨l.length, [], none, by omega, rfl, same_new (Same.refl H) np, upd_same, rfl, fun k t f h => by simp at h⟩, fun i c σ H' W => ?_⟩
    obtain ⟨ts, y, hc, rfl, sm, hp, ht, hf⟩ := W
    by_cases hi : i < l.length
    · refine .inr ⟨by show i < (wS l).cps.size; rw [wS_size]; exact hi, fun σ' H2 => ∃ (ts : List Addr) (y : Option V), σ' = [some (.str (wS l)), some (.int (nx (l.drop (i + 1)))), some (.int (ny (l.drop (i + 1)))), some (.ref p), y] ∧ Same H H2 ∧ FeetAt H2 p ts ((feetL l).take (i + 1)), fun σ' H2 n => ⟨c - 1, by omega, n.elim fun ts h => h.elim fun y h => ⟨ts, y, by omega, h⟩⟩, fun x H2 hx => ?_⟩
      obtain ⟨rfl, c0, hc0, rfl⟩ := hx
      rw [wS_at l i hi] at hc0
      cases hc0
      have lt_len : (feetL l).take (i + 1) = (feetL l).take i ++ [(l[i], nx (l.drop (i + 1)), ny (l.drop (i + 1)))] := by
        rw [List.take_add_one, feetL_get l i hi]
        rfl
      have fin : ∀ (t : Addr), H2 t = none → FeetAt (upd (upd H2 t (.tup [.str (lt l[i]), .int (nx (l.drop (i + 1))), .int (ny (l.drop (i + 1)))])) p (.lst (ts.map V.ref ++ [.ref t]))) p (ts ++ [t]) ((feetL l).take (i + 1)) := by
        intro t nt
        have tp : t ≠ p := (ne_of_none hp nt).symm
        refine ⟨?_, ?_, fun k t' f h1 h2 => ?_⟩
        · rw [upd_same, List.map_append]
          rfl
        · rw [lt_len, List.length_append, List.length_append, ht]
          rfl
        · rw [lt_len] at h2
          by_cases hk : k < ts.length
          · rw [List.getElem?_append_left hk] at h1
            rw [List.getElem?_append_left (by omega)] at h2
            have h3 := hf k t' f h1 h2
            rw [upd_ne (fun e => by subst e; rw [hp] at h3; cases h3), upd_ne (ne_of_none h3 nt)]
            exact h3
          · have hk2 : k = ts.length := by
              have := (List.getElem?_eq_some_iff.mp h1).1
              rw [List.length_append, List.length_singleton] at this
              omega
            subst hk2
            rw [List.getElem?_append_right (Nat.le_refl _), Nat.sub_self] at h1
            rw [List.getElem?_append_right (by omega), ht, Nat.sub_self] at h2
            cases h1
            cases h2
            rw [upd_ne tp, upd_same]
      have tsl : ts.length ≤ 300 := by
        rw [ht, List.length_take, feetL_len]
        omega
      refine ⟨_, rfl, rfl, _, rfl, ?_⟩
      have nd := nx_drop l i hi
      have md := ny_drop l i hi
      have eb := lt_is l[i]
      have el : (⟨#[sg l[i]]⟩ : Str) = lt l[i] := rfl
      cases hb : l[i] with
      | true =>
        rw [hb] at nd md fin eb
        rw [if_pos rfl] at nd md
        rw [Nat.add_zero] at md
        refine iteT' eb ?_
        refine ⟨_, rfl, _, _, rfl, rfl, ?_⟩
        refine ⟨_, rfl, .inl ⟨rfl, _, SqL.of hp⟩, _, rfl, _, rfl, _, rfl, (by show 3 ≤ sizeLine; decide), fun t nt => ?_⟩
        have tp : t ≠ p := (ne_of_none hp nt).symm
        refine ⟨p, _, _, rfl, rfl, by rw [upd_ne tp.symm]; exact hp, by rw [List.length_map]; exact small_line' (by omega), ?_⟩
        have e1 : ((nx (l.drop i) : Nat) : Int) - 1 = ((nx (l.drop (i + 1)) : Nat) : Int) := by omega
        refine ⟨ts ++ [t], some (.str (lt true)), ?_, same_mut (same_new sm nt) np, ?_⟩
        · show [some (V.str (wS l)), some (V.int (((nx (l.drop i) : Nat) : Int) - 1)), some (V.int (ny (l.drop i))), some (V.ref p), some (.str (lt true))] = _
          rw [e1, md]
          try rfl
        · have := fin t nt
          rw [← e1, ← md] at this
          exact this
      | false =>
        rw [hb] at nd md fin eb
        rw [if_neg (by decide)] at nd md
        rw [Nat.add_zero] at nd
        refine iteF' eb ?_
        refine ⟨_, rfl, _, _, rfl, rfl, ?_⟩
        refine ⟨_, rfl, .inl ⟨rfl, _, SqL.of hp⟩, _, rfl, _, rfl, _, rfl, (by show 3 ≤ sizeLine; decide), fun t nt => ?_⟩
        have tp : t ≠ p := (ne_of_none hp nt).symm
        refine ⟨p, _, _, rfl, rfl, by rw [upd_ne tp.symm]; exact hp, by rw [List.length_map]; exact small_line' (by omega), ?_⟩
        have e1 : ((ny (l.drop i) : Nat) : Int) - 1 = ((ny (l.drop (i + 1)) : Nat) : Int) := by omega
        refine ⟨ts ++ [t], some (.str (lt false)), ?_, same_mut (same_new sm nt) np, ?_⟩
        · show [some (V.str (wS l)), some (V.int (nx (l.drop i))), some (V.int (((ny (l.drop i) : Nat) : Int) - 1)), some (V.ref p), some (.str (lt false))] = _
          rw [e1, nd]
          try rfl
        · have := fin t nt
          rw [← e1, ← nd] at this
          exact this
    · refine .inl ⟨by show (wS l).cps.size ≤ i; rw [wS_size]; omega, _, rfl, ?_⟩
      have e : (feetL l).take i = feetL l := List.take_of_length_le (by rw [feetL_len]; omega)
      rw [e] at hf ht
      exact q p ts H' sm np ⟨hp, ht, hf⟩
def spcount_multiples (K : PySem.W.Frag) (Z : Ads) : Sp := fun vs H Q _ => ∃ (d : Nat) (lo hi : Int), vs = [.int d, .int lo, .int hi] ∧ Q (.int (cmI d lo hi)) H
theorem okcount_multiples {Z : Ads} (T : Top K mg Z) : FnOk P w K mg base CX0 1 Z.f_count_multiples Z.d_count_multiples ["digit", "low", "high"] (spcount_multiples K Z) := by
  refine T.F_count_multiples.ok sccount_multiples (fun vs H Q E h => ?_) (fun cdv A outer s H vs Q E hr h => ?_)
  · obtain ⟨d, lo, hi, rfl, q⟩ := h
    rfl
  · obtain ⟨d, lo, hi, rfl, q⟩ := h
    refine ⟨_, (pss_cons (ps_if (pt_cmpR op_lt (pv 2) (pv 1) (nomark _))
        (pss_one (ps_ret pe_int))
        pss_nil)
      (pss_one (ps_ret (pe_op op_sub (pe_op op_shrN (pv 2) (pv 0)) (pe_op op_shrN (pe_op op_sub (pv 1) pe_int) (pv 0)))))), ?_⟩
    unfold cmI at q
    refine ⟨_, rfl, _, rfl, _, _, rfl, rfl, _, rfl, ite2 (fun e => ?_) (fun e => ?_)⟩
    · rw [if_pos (of_decide_eq_true e)] at q
      exact q
    · rw [if_neg (fun z => e (decide_eq_true z))] at q
      exact ⟨_, rfl, _, rfl, _, d, rfl, rfl, _, rfl, _, _, rfl, rfl, _, rfl, _, d, rfl, rfl, _, _, rfl, rfl, q⟩
def spcount_odd_multiples (K : PySem.W.Frag) (Z : Ads) : Sp := fun vs H Q _ => ∃ (d : Nat) (lo hi : Int), vs = [.int d, .int (lo + 1), .int hi] ∧ Q (.int (bordI d lo hi)) H
theorem okcount_odd_multiples {Z : Ads} (T : Top K mg Z) : FnOk P w K mg base CX0 2 Z.f_count_odd_multiples Z.d_count_odd_multiples ["digit", "low", "high"] (spcount_odd_multiples K Z) := by
  have G_count_multiples : FnOk P w K mg base CX0 1 Z.f_count_multiples Z.d_count_multiples ["digit", "low", "high"] (spcount_multiples K Z) := (okcount_multiples T).mono (by decide)
  refine T.F_count_odd_multiples.ok sccount_odd_multiples (fun vs H Q E h => ?_) (fun cdv A outer s H vs Q E hr h => ?_)
  · obtain ⟨d, lo, hi, rfl, q⟩ := h
    rfl
  · obtain ⟨d, lo, hi, rfl, q⟩ := h
    refine ⟨_, (pss_one (ps_ret (pe_op op_sub (pe_call G_count_multiples (hr.mono (by decide)) (by rfl) T.m_count_multiples T.F_count_multiples.kp T.b_count_multiples .nil pass0 (pa_cons (pv 0) (pa_cons (pv 1) (pa_cons (pv 2) pa_nil)))) (pe_call G_count_multiples (hr.mono (by decide)) (by rfl) T.m_count_multiples T.F_count_multiples.kp T.b_count_multiples .nil pass0 (pa_cons (pe_op op_add (pv 0) pe_int) (pa_cons (pv 1) (pa_cons (pv 2) pa_nil))))))), ?_⟩
    exact ⟨_, rfl, _, rfl, _, rfl, d, lo + 1, hi, rfl, _, rfl, _, _, rfl, rfl, _, rfl, _, rfl, d + 1, lo + 1, hi, rfl, _, _, rfl, rfl, q⟩
def spcount_spans (K : PySem.W.Frag) (Z : Ads) : Sp := fun vs H Q _ => ∃ (d : Nat) (lo hi : Int), vs = [.int d, .int lo, .int hi] ∧ d ≤ 1000 ∧ Q (.int (spanI d lo hi)) H
theorem okcount_spans {Z : Ads} (T : Top K mg Z) : FnOk P w K mg base CX0 2 Z.f_count_spans Z.d_count_spans ["digit", "low", "high"] (spcount_spans K Z) := by
  have G_count_multiples : FnOk P w K mg base CX0 1 Z.f_count_multiples Z.d_count_multiples ["digit", "low", "high"] (spcount_multiples K Z) := (okcount_multiples T).mono (by decide)
  refine T.F_count_spans.ok sccount_spans (fun vs H Q E h => ?_) (fun cdv A outer s H vs Q E hr h => ?_)
  · obtain ⟨d, lo, hi, rfl, hd, q⟩ := h
    rfl
  · obtain ⟨d, lo, hi, rfl, hd, q⟩ := h
    refine ⟨_, (pss_one (ps_ret (pe_call G_count_multiples (hr.mono (by decide)) (by rfl) T.m_count_multiples T.F_count_multiples.kp T.b_count_multiples .nil pass0 (pa_cons (pv 0) (pa_cons (pv 1) (pa_cons (pe_op op_add (pe_op op_sub (pv 2) (pe_op op_shl pe_int (pv 0))) pe_int) pa_nil)))))), ?_⟩
    refine ⟨_, rfl, _, rfl, _, rfl, _, rfl, _, _, rfl, rfl, ⟨Int.natCast_nonneg d, by omega, by decide⟩, _, _, rfl, rfl, _, _, rfl, rfl, d, lo, hi - 2 ^ d + 1, ?_, q⟩
    rw [Int.one_mul]
    rfl
def spsaved_by (K : PySem.W.Frag) (Z : Ads) : Sp := fun vs H Q _ => ∃ (c : Bool) (i j : Nat) (a : Addr) (x1 y1 x2 y2 : Nat), vs = [.str (lt c), .int i, .int j, .ref a] ∧ H a = some (.tup [.int (x1 : Nat), .int (y1 : Nat), .int (x2 : Nat), .int (y2 : Nat)]) ∧ i ≤ 200 ∧ j ≤ 200 ∧ x1 ≤ x2 ∧ y1 ≤ y2 ∧ x2 < 2 ^ 100 ∧ y2 < 2 ^ 100 ∧ Q (.int (savI c i j x1 y1 x2 y2)) H
theorem oksaved_by {Z : Ads} (T : Top K mg Z) : FnOk P w K mg base CX0 3 Z.f_saved_by Z.d_saved_by ["letter", "i", "j", "box"] (spsaved_by K Z) := by
  have G_count_odd_multiples : FnOk P w K mg base CX0 2 Z.f_count_odd_multiples Z.d_count_odd_multiples ["digit", "low", "high"] (spcount_odd_multiples K Z) := (okcount_odd_multiples T).mono (by decide)
  have G_count_spans : FnOk P w K mg base CX0 2 Z.f_count_spans Z.d_count_spans ["digit", "low", "high"] (spcount_spans K Z) := (okcount_spans T).mono (by decide)
  refine T.F_saved_by.ok scsaved_by (fun vs H Q E h => ?_) (fun cdv A outer s H vs Q E hr h => ?_)
  · obtain ⟨c, i, j, a, x1, y1, x2, y2, rfl, ha, hi, hj, h1, h2, hx, hy, q⟩ := h
    rfl
  · obtain ⟨c, i, j, a, x1, y1, x2, y2, rfl, ha, hi, hj, h1, h2, hx, hy, q⟩ := h
    refine ⟨_, (pss_cons (ps_asg (pv 3) (pg_tup (by rfl) (pgs_cons (pg_name (i := 4) scsaved_by.nd rfl (.inl rfl)) (pgs_cons (pg_name (i := 5) scsaved_by.nd rfl (.inl rfl)) (pgs_cons (pg_name (i := 6) scsaved_by.nd rfl (.inl rfl)) (pgs_cons (pg_name (i := 7) scsaved_by.nd rfl (.inl rfl)) pgs_nil))))))
      (pss_cons (ps_if (pt_cmpR op_eq (pv 0) pe_str (nomark _))
        (pss_one (ps_ret (pe_op op_mulW (pe_call G_count_odd_multiples (hr.mono (by decide)) (by rfl) T.m_count_odd_multiples T.F_count_odd_multiples.kp T.b_count_odd_multiples .nil pass0 (pa_cons (pv 1) (pa_cons (pe_op op_add (pv 4) pe_int) (pa_cons (pv 6) pa_nil)))) (pe_call G_count_spans (hr.mono (by decide)) (by rfl) T.m_count_spans T.F_count_spans.kp T.b_count_spans .nil pass0 (pa_cons (pv 2) (pa_cons (pv 5) (pa_cons (pv 7) pa_nil)))))))
        pss_nil)
      (pss_one (ps_ret (pe_op op_mulW (pe_call G_count_odd_multiples (hr.mono (by decide)) (by rfl) T.m_count_odd_multiples T.F_count_odd_multiples.kp T.b_count_odd_multiples .nil pass0 (pa_cons (pv 2) (pa_cons (pe_op op_add (pv 5) pe_int) (pa_cons (pv 7) pa_nil)))) (pe_call G_count_spans (hr.mono (by decide)) (by rfl) T.m_count_spans T.F_count_spans.kp T.b_count_spans .nil pass0 (pa_cons (pv 1) (pa_cons (pv 4) (pa_cons (pv 6) pa_nil))))))))), ?_⟩
    refine ⟨_, rfl, a, _, rfl, SqT.of ha, rfl, _, _, rfl, _, _, rfl, _, _, rfl, _, _, rfl, rfl, ?_⟩
    refine ⟨_, rfl, rfl, _, rfl, ?_⟩
    have eb := lt_is c
    unfold savI at q
    cases c with
    | true =>
      rw [if_pos rfl] at q
      exact iteT' eb ⟨_, rfl, _, rfl, _, _, rfl, rfl, _, rfl, i, x1, x2, rfl, _, rfl, _, rfl, _, rfl, j, y1, y2, rfl, by omega, _, _, rfl, rfl, sav_mul h1 h2 hx hy, q⟩
    | false =>
      rw [if_neg (by decide)] at q
      exact iteF' eb ⟨_, rfl, _, rfl, _, _, rfl, rfl, _, rfl, j, y1, y2, rfl, _, rfl, _, rfl, _, rfl, i, x1, x2, rfl, by omega, _, _, rfl, rfl, sav_mul h2 h1 hy hx, q⟩
def spsaved (K : PySem.W.Frag) (Z : Ads) : Sp := fun vs H Q _ => ∃ (p a : Addr) (l : List Bool) (x1 y1 x2 y2 : Nat), vs = [.ref p, .ref a] ∧ Lay Z.C_Layout H p l ∧ GoodW l ∧ H a = some (.tup [.int (x1 : Nat), .int (y1 : Nat), .int (x2 : Nat), .int (y2 : Nat)]) ∧ Bx l x1 y1 x2 y2 ∧ ∀ D H', Same H H' → H D = none → H' D = some (.lst ((savL l x1 y1 x2 y2).map V.int)) → Q (.ref D) H'
theorem oksaved {Z : Ads} (T : Top K mg Z) : FnOk P w K mg base CX0 6 Z.f_saved Z.d_saved ["layout", "box"] (spsaved K Z) := by
  have G_Layout_word : FnOk P w K mg base CX0 1 Z.f_Layout_word Z.d_Layout_word ["self"] (spLayout_word K Z) := (okLayout_word T).mono (by decide)
  have G_check_layout_and_box : FnOk P w K mg base CX0 5 Z.f_check_layout_and_box Z.d_check_layout_and_box ["layout", "box"] (spcheck_layout_and_box K Z) := (okcheck_layout_and_box T).mono (by decide)
  have G_feet : FnOk P w K mg base CX0 5 Z.f_feet Z.d_feet ["word"] (spfeet K Z) := (okfeet T).mono (by decide)
  have G_saved_by : FnOk P w K mg base CX0 5 Z.f_saved_by Z.d_saved_by ["letter", "i", "j", "box"] (spsaved_by K Z) := (oksaved_by T).mono (by decide)
  refine T.F_saved.ok scsaved (fun vs H Q E h => ?_) (fun cdv A outer s H vs Q E hr h => ?_)
  · obtain ⟨p, a, l, x1, y1, x2, y2, rfl, ⟨dx, hp⟩, g, ha, b, q⟩ := h
    rfl
  · obtain ⟨p, a, l, x1, y1, x2, y2, rfl, ⟨dx, hp⟩, g, ha, b, q⟩ := h
    refine ⟨_, (pss_cons (ps_expr (pe_call G_check_layout_and_box (hr.mono (by decide)) (by rfl) T.m_check_layout_and_box T.F_check_layout_and_box.kp T.b_check_layout_and_box .nil pass0 (pa_cons (pv 0) (pa_cons (pv 1) pa_nil))))
      (pss_one (ps_ret (pe_lc (own := [("letter", 2), ("i", 3), ("j", 4)]) (g := (gTup K 3 (gCons (gName 2) (gCons (gName 3) (gCons (gName 4) gNil))))) (tt := tYes) rfl scsaved.nd (pi_list (pe_call G_feet (hr.mono (by decide)) (by rfl) T.m_feet T.F_feet.kp T.b_feet .nil pass0 (pa_cons (pe_prop (pv 0) T.cl_Layout T.p_Layout_word G_Layout_word (hr.mono (by decide)) T.b_Layout_word .nil pass0 (by rfl)) pa_nil))) (blkOk_by (own := [("letter", 2), ("i", 3), ("j", 4)]) (N := ["layout", "box", "letter", "i", "j"]) (sc := defScope ssaved) (by decide +kernel)) (fun _ _ _ _ _ => (pg_tup (by rfl) (pgs_cons (pg_name (i := 2) scsaved.nd rfl (.inl rfl)) (pgs_cons (pg_name (i := 3) scsaved.nd rfl (.inl rfl)) (pgs_cons (pg_name (i := 4) scsaved.nd rfl (.inl rfl)) pgs_nil))))) (fun _ _ _ _ _ => pts_nil) (fun _ _ _ _ _ => (pe_call G_saved_by (hr.mono (by decide)) (by rfl) T.m_saved_by T.F_saved_by.kp T.b_saved_by .nil pass0 (pa_cons (pv 2) (pa_cons (pv 3) (pa_cons (pv 4) (pa_cons (pv 1) pa_nil)))))))))), ?_⟩
    have gl := g.len
    have g1 := g.2.1
    have g2 := g.2.2
    refine ⟨_, rfl, _, rfl, p, a, l, x1, y1, x2, y2, rfl, ⟨dx, hp⟩, g, ha, b, fun H1 e1 => ?_⟩
    refine ⟨_, rfl, p, dx, _, rfl, (e1 _ _ hp), p, _, rfl, ⟨dx, (e1 _ _ hp)⟩, l, rfl, by omega, fun f ts H2 e2 nf F => ?_⟩
    have lenT : ts.length = l.length := F.2.1.trans (feetL_len l)
    have hsl : (savL l x1 y1 x2 y2).length = l.length := by unfold savL; rw [List.length_map, feetL_len]
    refine ⟨f, rfl, ⟨_, SqL.of F.1⟩, fun D nD => lc_list (K := K) (a := f) (xs := ts.map V.ref) (fun i Hc => But D H2 Hc ∧ Hc D = some (.lst (((savL l x1 y1 x2 y2).take i).map V.int))) ⟨But.upd, upd_same⟩ (fun i Hc _ W => SqL.of (W.1 _ _ (ne_of_none F.1 nD) F.1)) (fun i v Hc hv W => ?_) (fun Hc W => ?_)⟩
    · obtain ⟨bD, hD⟩ := W
      obtain ⟨t, ht, rfl⟩ : ∃ t, ts[i]? = some t ∧ v = V.ref t := by
        rw [List.getElem?_map] at hv
        cases e : ts[i]? with
        | none => rw [e] at hv; cases hv
        | some t => rw [e] at hv; exact ⟨t, rfl, (Option.some.inj hv).symm⟩
      have hi : i < l.length := by rw [← lenT]; exact (List.getElem?_eq_some_iff.mp ht).1
      have hT2 : H2 t = some (.tup [.str (lt l[i]), .int (nx (l.drop (i + 1)) : Nat), .int (ny (l.drop (i + 1)) : Nat)]) := F.2.2 i t _ ht (feetL_get l i hi)
      have hT := bD _ _ (ne_of_none hT2 nD) hT2
      have ha2 := e2 _ _ (e1 _ _ ha)
      have b1 := nx_le (l.drop (i + 1))
      have b2 := ny_le (l.drop (i + 1))
      rw [List.length_drop] at b1 b2
      refine ⟨t, _, rfl, SqT.of hT, rfl, _, _, rfl, _, _, rfl, _, _, rfl, rfl, ?_⟩
      refine ⟨rfl, ?_⟩
      unfold tYes
      refine iteT ?_
      have px : 2 ^ nx l ≤ 2 ^ 100 := Nat.pow_le_pow_right (by decide) g1
      have py : 2 ^ ny l ≤ 2 ^ 100 := Nat.pow_le_pow_right (by decide) g2
      refine ⟨_, rfl, _, rfl, _, rfl, _, rfl, l[i], nx (l.drop (i + 1)), ny (l.drop (i + 1)), a, x1, y1, x2, y2, rfl, bD _ _ (ne_of_none ha2 nD) ha2, by omega, by omega, b.x, b.y, Nat.lt_of_lt_of_le b.bx px, Nat.lt_of_lt_of_le b.by_ py, ?_⟩
      refine ⟨_, hD, by rw [List.length_map]; exact Nat.lt_of_le_of_lt (List.length_take_le _ _) (small_line' (by omega)), But.trans bD But.upd, ?_⟩
      rw [upd_same, List.take_succ, savL_get l hi, List.map_append]
      rfl
    · obtain ⟨bD, hD⟩ := W
      rw [List.length_map, lenT, ← hsl, List.take_length] at hD
      have nH : H D = none := Same.free (e1.trans e2) nD
      refine q D Hc ?_ nH hD
      intro c o hc
      exact bD _ _ (ne_of_none hc nH) (e2 _ _ (e1 _ _ hc))
def spcount_runs (K : PySem.W.Frag) (Z : Ads) : Sp := fun vs H Q _ => ∃ (p a : Addr) (l : List Bool) (x1 y1 x2 y2 : Nat), vs = [.ref p, .ref a] ∧ Lay Z.C_Layout H p l ∧ GoodW l ∧ H a = some (.tup [.int (x1 : Nat), .int (y1 : Nat), .int (x2 : Nat), .int (y2 : Nat)]) ∧ Bx l x1 y1 x2 y2 ∧ ∀ H', Same H H' → Q (.int (((x2 + 1 - x1) * (y2 + 1 - y1) : Nat) - (savL l x1 y1 x2 y2).sum)) H'
theorem okcount_runs {Z : Ads} (T : Top K mg Z) : FnOk P w K mg base CX0 7 Z.f_count_runs Z.d_count_runs ["layout", "box"] (spcount_runs K Z) := by
  have G_area_of : FnOk P w K mg base CX0 6 Z.f_area_of Z.d_area_of ["box"] (sparea_of K Z) := (okarea_of T).mono (by decide)
  have G_saved : FnOk P w K mg base CX0 6 Z.f_saved Z.d_saved ["layout", "box"] (spsaved K Z) := (oksaved T).mono (by decide)
  refine T.F_count_runs.ok sccount_runs (fun vs H Q E h => ?_) (fun cdv A outer s H vs Q E hr h => ?_)
  · obtain ⟨p, a, l, x1, y1, x2, y2, rfl, ⟨dx, hp⟩, g, ha, b, q⟩ := h
    rfl
  · obtain ⟨p, a, l, x1, y1, x2, y2, rfl, ⟨dx, hp⟩, g, ha, b, q⟩ := h
    refine ⟨_, (pss_cons (ps_set (i := 2) sccount_runs.nd rfl (.inl rfl) (pe_call G_saved (hr.mono (by decide)) (by rfl) T.m_saved T.F_saved.kp T.b_saved .nil pass0 (pa_cons (pv 0) (pa_cons (pv 1) pa_nil))))
      (pss_one (ps_ret (pe_op op_sub (pe_call G_area_of (hr.mono (by decide)) (by rfl) T.m_area_of T.F_area_of.kp T.b_area_of .nil pass0 (pa_cons (pv 1) pa_nil)) (pe_callB (cr_sum (by rfl)) (by rfl) T.z_sum (by decide +kernel) (pa_cons (pv 2) pa_nil)))))), ?_⟩
    have px : 2 ^ nx l ≤ 2 ^ 100 := Nat.pow_le_pow_right (by decide) g.2.1
    have py : 2 ^ ny l ≤ 2 ^ 100 := Nat.pow_le_pow_right (by decide) g.2.2
    refine ⟨_, rfl, _, rfl, p, a, l, x1, y1, x2, y2, rfl, ⟨dx, hp⟩, g, ha, b, fun D H1 e1 nD hD => ?_⟩
    exact ⟨_, rfl, a, x1, y1, x2, y2, rfl, e1 _ _ ha, b.x, b.y, Nat.lt_of_lt_of_le b.bx px, Nat.lt_of_lt_of_le b.by_ py, _, rfl, D, _, rfl, SqL.of hD, _, _, rfl, rfl, q H1 e1⟩
def spis_cell (K : PySem.W.Frag) (Z : Ads) : Sp := fun vs H Q _ => ∃ (a : Addr) (x y n m : Nat), vs = [.ref a, .int n, .int m] ∧ H a = some (.tup [.int x, .int y]) ∧ n ≤ 100 ∧ m ≤ 100 ∧ x < 2 ^ n ∧ y < 2 ^ m ∧ ∀ H', Same H H' → Q (.bl true) H'
theorem okis_cell {Z : Ads} (T : Top K mg Z) : FnOk P w K mg base CX0 3 Z.f_is_cell Z.d_is_cell ["value", "x_bits", "y_bits"] (spis_cell K Z) := by
  have G_are_integers : FnOk P w K mg base CX0 2 Z.f_are_integers Z.d_are_integers ["value", "many"] (spare_integers K Z) := (okare_integers T).mono (by decide)
  refine T.F_is_cell.ok scis_cell (fun vs H Q E h => ?_) (fun cdv A outer s H vs Q E hr h => ?_)
  · obtain ⟨a, x, y, n, m, rfl, ha, hn, hm, hx, hy, q⟩ := h
    rfl
  · obtain ⟨a, x, y, n, m, rfl, ha, hn, hm, hx, hy, q⟩ := h
    refine ⟨_, (pss_cons (ps_if (pt_not (pt_val (pe_call G_are_integers (hr.mono (by decide)) (by rfl) T.m_are_integers T.F_are_integers.kp T.b_are_integers .nil pass0 (pa_cons (pv 0) (pa_cons pe_int pa_nil)))))
        (pss_one (ps_ret pe_bl))
        pss_nil)
      (pss_cons (ps_asg (pv 0) (pg_tup (by rfl) (pgs_cons (pg_name (i := 3) scis_cell.nd rfl (.inl rfl)) (pgs_cons (pg_name (i := 4) scis_cell.nd rfl (.inl rfl)) pgs_nil))))
      (pss_one (ps_ret (pe_and (pe_chain op_le op_lt pe_int (pv 3) (pe_op op_shl pe_int (pv 1))) (pe_one (pe_chain op_le op_lt pe_int (pv 4) (pe_op op_shl pe_int (pv 2))))))))), ?_⟩
    refine ⟨_, rfl, a, [(x : Int), (y : Int)], rfl, ha, Nat.le_of_ble_eq_true rfl, fun H1 e1 => ⟨true, rfl, iteF ?_⟩⟩
    refine ⟨_, rfl, a, _, rfl, SqT.of (e1 _ _ ha), rfl, _, _, rfl, _, _, rfl, rfl, ?_⟩
    have hx' : (x : Int) < 1 * 2 ^ (n : Int).toNat := by rw [Int.one_mul, Int.toNat_natCast]; exact_mod_cast hx
    have hy' : (y : Int) < 1 * 2 ^ (m : Int).toNat := by rw [Int.one_mul, Int.toNat_natCast]; exact_mod_cast hy
    refine ⟨_, rfl, _, _, rfl, rfl, true, congrArg V.bl (decide_eq_true (Int.natCast_nonneg x)), iteT ⟨_, rfl, _, _, rfl, rfl, ⟨Int.natCast_nonneg n, by omega, by decide⟩, _, _, rfl, rfl, true, congrArg V.bl (decide_eq_true hx'), iteT ?_⟩⟩
    refine ⟨_, rfl, _, _, rfl, rfl, true, congrArg V.bl (decide_eq_true (Int.natCast_nonneg y)), iteT ⟨_, rfl, _, _, rfl, rfl, ⟨Int.natCast_nonneg m, by omega, by decide⟩, _, _, rfl, rfl, ?_⟩⟩
    show Q (.bl (decide ((y : Int) < 1 * 2 ^ (m : Int).toNat))) H1
    rw [decide_eq_true hy']
    exact q H1 e1
def spcheck_cell (K : PySem.W.Frag) (Z : Ads) : Sp := fun vs H Q _ => ∃ (a : Addr) (x y n m : Nat), vs = [.ref a, .int n, .int m] ∧ H a = some (.tup [.int x, .int y]) ∧ n ≤ 100 ∧ m ≤ 100 ∧ x < 2 ^ n ∧ y < 2 ^ m ∧ ∀ H', Same H H' → Q .non H'
theorem okcheck_cell {Z : Ads} (T : Top K mg Z) : FnOk P w K mg base CX0 4 Z.f_check_cell Z.d_check_cell ["cell", "x_bits", "y_bits"] (spcheck_cell K Z) := by
  have G_is_cell : FnOk P w K mg base CX0 3 Z.f_is_cell Z.d_is_cell ["value", "x_bits", "y_bits"] (spis_cell K Z) := (okis_cell T).mono (by decide)
  refine T.F_check_cell.ok sccheck_cell (fun vs H Q E h => ?_) (fun cdv A outer s H vs Q E hr h => ?_)
  · obtain ⟨a, x, y, n, m, rfl, ha, hn, hm, hx, hy, q⟩ := h
    rfl
  · obtain ⟨a, x, y, n, m, rfl, ha, hn, hm, hx, hy, q⟩ := h
    refine ⟨_, (pss_one (ps_if (pt_not (pt_val (pe_call G_is_cell (hr.mono (by decide)) (by rfl) T.m_is_cell T.F_is_cell.kp T.b_is_cell .nil pass0 (pa_cons (pv 0) (pa_cons (pv 1) (pa_cons (pv 2) pa_nil))))))
        (pss_one ps_never)
        pss_nil)), ?_⟩
    refine ⟨_, rfl, _, rfl, _, rfl, a, x, y, n, m, rfl, ha, hn, hm, hx, hy, fun H1 e1 => ⟨true, rfl, iteF ?_⟩⟩
    exact q H1 e1
def spLayout_key (K : PySem.W.Frag) (Z : Ads) : Sp := fun vs H Q _ => ∃ (p a : Addr) (l : List Bool) (x y : Nat), vs = [.ref p, .ref a] ∧ Lay Z.C_Layout H p l ∧ GoodW l ∧ H a = some (.tup [.int x, .int y]) ∧ x < 2 ^ nx l ∧ y < 2 ^ ny l ∧ ∀ H', Same H H' → Q (.int (keyL l x y : Nat)) H'
theorem okLayout_key {Z : Ads} (T : Top K mg Z) : FnOk P w K mg base CX0 5 Z.f_Layout_key Z.d_Layout_key ["self", "cell"] (spLayout_key K Z) := by
  have G_check_cell : FnOk P w K mg base CX0 4 Z.f_check_cell Z.d_check_cell ["cell", "x_bits", "y_bits"] (spcheck_cell K Z) := (okcheck_cell T).mono (by decide)
  have G_feet : FnOk P w K mg base CX0 4 Z.f_feet Z.d_feet ["word"] (spfeet K Z) := (okfeet T).mono (by decide)
  refine T.F_Layout_key.ok scLayout_key (fun vs H Q E h => ?_) (fun cdv A outer s H vs Q E hr h => ?_)
  · obtain ⟨p, a, l, x, y, rfl, ⟨dx, hp⟩, g, ha, hx, hy, q⟩ := h
    rfl
  · obtain ⟨p, a, l, x, y, rfl, ⟨dx, hp⟩, g, ha, hx, hy, q⟩ := h
    refine ⟨_, (pss_cons (ps_expr (pe_call G_check_cell (hr.mono (by decide)) (by rfl) T.m_check_cell T.F_check_cell.kp T.b_check_cell .nil pass0 (pa_cons (pv 1) (pa_cons (pe_fld (pv 0) rfl) (pa_cons (pe_fld (pv 0) rfl) pa_nil)))))
      (pss_cons (ps_asg (pv 1) (pg_tup (by rfl) (pgs_cons (pg_name (i := 2) scLayout_key.nd rfl (.inl rfl)) (pgs_cons (pg_name (i := 3) scLayout_key.nd rfl (.inl rfl)) pgs_nil))))
      (pss_cons (ps_set (i := 4) scLayout_key.nd rfl (.inl rfl) pe_int)
      (pss_cons (ps_for PassesOwn.never rfl (pi_list (pe_call G_feet (hr.mono (by decide)) (by rfl) T.m_feet T.F_feet.kp T.b_feet .nil pass0 (pa_cons (pe_fld (pv 0) rfl) pa_nil))) (pg_tup (by rfl) (pgs_cons (pg_name (i := 5) scLayout_key.nd rfl (.inl rfl)) (pgs_cons (pg_name (i := 6) scLayout_key.nd rfl (.inl rfl)) (pgs_cons (pg_name (i := 7) scLayout_key.nd rfl (.inl rfl)) pgs_nil))))
        (pss_cons (ps_set (i := 8) scLayout_key.nd rfl (.inl rfl) (pe_ifExp (pt_cmpR op_eq (pv 5) pe_str (nomark _)) (pe_op op_odd (pe_op op_shrN (pv 2) (pv 6)) pe_int) (pe_op op_odd (pe_op op_shrN (pv 3) (pv 7)) pe_int)))
      (pss_one (ps_aug (i := 4) scLayout_key.nd rfl (.inl rfl) (pe_op op_shl (pv 8) (pe_op op_add (pv 6) (pv 7))) ip_add))))
      (pss_one (ps_ret (pv 4))))))), ?_⟩
    refine ⟨_, rfl, _, rfl, p, Z.C_Layout, dx, _, _, rfl, hp, T.cl_Layout, T.no_Layout_x_bits, lf_x l, _, rfl, p, Z.C_Layout, dx, _, _, rfl, hp, T.cl_Layout, T.no_Layout_y_bits, lf_y l, a, x, y, nx l, ny l, rfl, ha, g.2.1, g.2.2, hx, hy, fun H1 e1 => ?_⟩
    refine ⟨_, rfl, a, _, rfl, SqT.of (e1 _ _ ha), rfl, _, _, rfl, _, _, rfl, rfl, ?_⟩
    refine ⟨_, rfl, p, Z.C_Layout, dx, _, _, rfl, e1 _ _ hp, T.cl_Layout, T.no_Layout_word, lf_word l, l, rfl, by have := g.len; omega, fun f ts H2 e2 nf F => ?_⟩
    have lenT : ts.length = l.length := F.2.1.trans (feetL_len l)
    refine ⟨f, rfl, ⟨_, SqL.of F.1⟩, for_list (K := K) (a := f) (xs := ts.map V.ref) (fun i σ H' => ∃ (tot : Nat) (u5 u6 u7 u8 : Option V), tot + keyL (l.drop i) x y = keyL l x y ∧ Same H2 H' ∧ σ = [some (.ref p), some (.ref a), some (.int x), some (.int y), some (.int tot), u5, u6, u7, u8]) ⟨0, none, none, none, none, Nat.zero_add _, Same.refl _, rfl⟩ (fun i σ H' _ W => ?_) (fun i v σ H' hv W => ?_) (fun σ H' W => ?_)⟩
    · obtain ⟨tot, u5, u6, u7, u8, _, e3, _⟩ := W
      exact SqL.of (e3 _ _ F.1)
    · obtain ⟨tot, u5, u6, u7, u8, et, e3, rfl⟩ := W
      obtain ⟨t, ht, rfl⟩ : ∃ t, ts[i]? = some t ∧ v = V.ref t := by
        rw [List.getElem?_map] at hv
        cases e : ts[i]? with
        | none => rw [e] at hv; cases hv
        | some t => rw [e] at hv; exact ⟨t, rfl, (Option.some.inj hv).symm⟩
      have hi : i < l.length := by rw [← lenT]; exact (List.getElem?_eq_some_iff.mp ht).1
      have hT : H' t = some (.tup [.str (lt l[i]), .int (nx (l.drop (i + 1)) : Nat), .int (ny (l.drop (i + 1)) : Nat)]) := e3 _ _ (F.2.2 i t _ ht (feetL_get l i hi))
      have kd := keyL_drop l i hi x y
      refine ⟨t, _, rfl, SqT.of hT, rfl, _, _, rfl, _, _, rfl, _, _, rfl, rfl, ?_⟩
      refine ⟨_, rfl, rfl, _, rfl, ?_⟩
      have eb := lt_is l[i]
      cases hb : l[i] with
      | true =>
        rw [hb] at eb kd
        rw [if_pos rfl] at kd
        refine iteT' eb ?_
        refine ⟨_, rfl, _, rfl, _, nx (l.drop (i + 1)), rfl, rfl, x / 2 ^ nx (l.drop (i + 1)), congrArg V.int (by rw [Int.natCast_ediv, Int.natCast_pow]; rfl), rfl, ?_⟩
        refine ⟨_, rfl, _, rfl, _, rfl, _, rfl, _, _, rfl, rfl, _, _, rfl, rfl, ⟨by omega, by have := nx_le (l.drop (i + 1)); have := ny_le (l.drop (i + 1)); have := g.len; rw [List.length_drop] at *; omega, by omega⟩, _, _, rfl, rfl, ?_⟩
        refine ⟨tot + x / 2 ^ nx (l.drop (i + 1)) % 2 * 2 ^ (nx (l.drop (i + 1)) + ny (l.drop (i + 1))), some (.str (lt true)), some (.int (nx (l.drop (i + 1)) : Nat)), some (.int (ny (l.drop (i + 1)) : Nat)), some (.int (x / 2 ^ nx (l.drop (i + 1)) % 2 : Nat)), by omega, e3, ?_⟩
        rw [Int.natCast_add, Int.natCast_mul, Int.natCast_pow, show (((nx (l.drop (i + 1)) : Nat) : Int) + ((ny (l.drop (i + 1)) : Nat) : Int)).toNat = nx (l.drop (i + 1)) + ny (l.drop (i + 1)) by omega]
        rfl
      | false =>
        rw [hb] at eb kd
        rw [if_neg (by decide)] at kd
        refine iteF' eb ?_
        refine ⟨_, rfl, _, rfl, _, ny (l.drop (i + 1)), rfl, rfl, y / 2 ^ ny (l.drop (i + 1)), congrArg V.int (by rw [Int.natCast_ediv, Int.natCast_pow]; rfl), rfl, ?_⟩
        refine ⟨_, rfl, _, rfl, _, rfl, _, rfl, _, _, rfl, rfl, _, _, rfl, rfl, ⟨by omega, by have := nx_le (l.drop (i + 1)); have := ny_le (l.drop (i + 1)); have := g.len; rw [List.length_drop] at *; omega, by omega⟩, _, _, rfl, rfl, ?_⟩
        refine ⟨tot + y / 2 ^ ny (l.drop (i + 1)) % 2 * 2 ^ (nx (l.drop (i + 1)) + ny (l.drop (i + 1))), some (.str (lt false)), some (.int (nx (l.drop (i + 1)) : Nat)), some (.int (ny (l.drop (i + 1)) : Nat)), some (.int (y / 2 ^ ny (l.drop (i + 1)) % 2 : Nat)), by omega, e3, ?_⟩
        rw [Int.natCast_add, Int.natCast_mul, Int.natCast_pow, show (((nx (l.drop (i + 1)) : Nat) : Int) + ((ny (l.drop (i + 1)) : Nat) : Int)).toNat = nx (l.drop (i + 1)) + ny (l.drop (i + 1)) by omega]
        rfl
    · obtain ⟨tot, u5, u6, u7, u8, et, e3, rfl⟩ := W
      rw [List.length_map, lenT, List.drop_length] at et
      have et2 : tot = keyL l x y := by rw [← et]; rfl
      subst et2
      exact ⟨_, rfl, q H' ((e1.trans e2).trans e3)⟩
def spends (K : PySem.W.Frag) (Z : Ads) : Sp := fun vs H Q _ => ∃ (p a : Addr) (l : List Bool) (x1 y1 x2 y2 : Nat), vs = [.ref p, .ref a] ∧ Lay Z.C_Layout H p l ∧ GoodW l ∧ H a = some (.tup [.int (x1 : Nat), .int (y1 : Nat), .int (x2 : Nat), .int (y2 : Nat)]) ∧ Bx l x1 y1 x2 y2 ∧ ∀ t H', Same H H' → H t = none → H' t = some (.tup [.int (keyL l x1 y1 : Nat), .int (keyL l x2 y2 : Nat)]) → Q (.ref t) H'
theorem okends {Z : Ads} (T : Top K mg Z) : FnOk P w K mg base CX0 6 Z.f_ends Z.d_ends ["layout", "box"] (spends K Z) := by
  have G_Layout_key : FnOk P w K mg base CX0 5 Z.f_Layout_key Z.d_Layout_key ["self", "cell"] (spLayout_key K Z) := (okLayout_key T).mono (by decide)
  have G_check_layout_and_box : FnOk P w K mg base CX0 5 Z.f_check_layout_and_box Z.d_check_layout_and_box ["layout", "box"] (spcheck_layout_and_box K Z) := (okcheck_layout_and_box T).mono (by decide)
  refine T.F_ends.ok scends (fun vs H Q E h => ?_) (fun cdv A outer s H vs Q E hr h => ?_)
  · obtain ⟨p, a, l, x1, y1, x2, y2, rfl, ⟨dx, hp⟩, g, ha, b, q⟩ := h
    rfl
  · obtain ⟨p, a, l, x1, y1, x2, y2, rfl, ⟨dx, hp⟩, g, ha, b, q⟩ := h
    refine ⟨_, (pss_cons (ps_expr (pe_call G_check_layout_and_box (hr.mono (by decide)) (by rfl) T.m_check_layout_and_box T.F_check_layout_and_box.kp T.b_check_layout_and_box .nil pass0 (pa_cons (pv 0) (pa_cons (pv 1) pa_nil))))
      (pss_cons (ps_asg (pv 1) (pg_tup (by rfl) (pgs_cons (pg_name (i := 2) scends.nd rfl (.inl rfl)) (pgs_cons (pg_name (i := 3) scends.nd rfl (.inl rfl)) (pgs_cons (pg_name (i := 4) scends.nd rfl (.inl rfl)) (pgs_cons (pg_name (i := 5) scends.nd rfl (.inl rfl)) pgs_nil))))))
      (pss_one (ps_ret (pe_tup (pa_cons (pe_meth (pv 0) T.cl_Layout T.meth_Layout_key G_Layout_key (hr.mono (by decide)) T.b_Layout_key .nil pass0 (pa_cons (pe_tup (pa_cons (pv 2) (pa_cons (pv 3) pa_nil))) pa_nil)) (pa_cons (pe_meth (pv 0) T.cl_Layout T.meth_Layout_key G_Layout_key (hr.mono (by decide)) T.b_Layout_key .nil pass0 (pa_cons (pe_tup (pa_cons (pv 4) (pa_cons (pv 5) pa_nil))) pa_nil)) pa_nil))))))), ?_⟩
    obtain ⟨b1, b2, b3, b4⟩ := id b
    refine ⟨_, rfl, _, rfl, p, a, l, x1, y1, x2, y2, rfl, ⟨dx, hp⟩, g, ha, b, fun H1 e1 => ?_⟩
    refine ⟨_, rfl, a, _, rfl, SqT.of (e1 _ _ ha), rfl, _, _, rfl, _, _, rfl, _, _, rfl, _, _, rfl, rfl, ?_⟩
    have hp1 := e1 _ _ hp
    refine ⟨_, rfl, p, dx, _, rfl, hp1, rfl, _, rfl, _, rfl, (by show 2 ≤ sizeLine; decide), fun t1 nt1 => ?_⟩
    refine ⟨p, t1, l, x1, y1, rfl, ⟨dx, same_new (Same.refl H1) nt1 _ _ hp1⟩, g, upd_same, by omega, by omega, fun H2 e2 => ?_⟩
    have s12 : Same H1 H2 := (same_new (Same.refl H1) nt1).trans e2
    have hp2 := s12 _ _ hp1
    refine ⟨_, rfl, p, dx, _, rfl, hp2, rfl, _, rfl, _, rfl, (by show 2 ≤ sizeLine; decide), fun t2 nt2 => ?_⟩
    refine ⟨p, t2, l, x2, y2, rfl, ⟨dx, same_new (Same.refl H2) nt2 _ _ hp2⟩, g, upd_same, by omega, by omega, fun H3 e3 => ?_⟩
    have s13 : Same H H3 := e1.trans (s12.trans ((same_new (Same.refl H2) nt2).trans e3))
    refine ⟨(by show 2 ≤ sizeLine; decide), fun t3 nt3 => ?_⟩
    exact q t3 _ (same_new s13 nt3) (s13.free nt3) upd_same
def splaw_right (K : PySem.W.Frag) (Z : Ads) : Sp := fun vs H Q _ => ∃ (r : Addr) (n most : Nat), vs = [.ref r, .int most] ∧ Reel H r n ∧ n ≤ 300000 ∧ most ≤ 4 ∧ ∀ H', But r H H' → Reel H' r (n + 750) → Q (.bl true) H'
theorem oklaw_right {Z : Ads} (T : Top K mg Z) : FnG P w K mg base 8 Z.f_law_right Z.d_law_right ["reel", "most"] (splaw_right K Z) := by
  have G_LayoutU_initU : FnOk P w K mg base CX0 2 Z.f_LayoutU_initU Z.d_LayoutU_initU ["self", "word"] (spLayoutU_initU K Z) := (okLayoutU_initU T).mono (by decide)
  have G_law_drawn_box : FnOk P w K mg base CX0 7 Z.f_law_drawn_box Z.d_law_drawn_box ["reel", "word"] (splaw_drawn_box K Z) := (oklaw_drawn_box T).mono (by decide)
  have G_law_drawn_word : FnOk P w K mg base CX0 7 Z.f_law_drawn_word Z.d_law_drawn_word ["reel", "x_most", "y_most"] (splaw_drawn_word K Z) := (oklaw_drawn_word T).mono (by decide)
  have G_law_listed_keys : FnOk P w K mg base CX0 7 Z.f_law_listed_keys Z.d_law_listed_keys ["word", "box"] (splaw_listed_keys K Z) := (oklaw_listed_keys T).mono (by decide)
  have G_law_power : FnOk P w K mg base CX0 7 Z.f_law_power Z.d_law_power ["depth"] (splaw_power K Z) := (oklaw_power T).mono (by decide)
  have G_law_spin : FnOk P w K mg base CX0 7 Z.f_law_spin Z.d_law_spin ["reel", "many"] (splaw_spin K Z) := (oklaw_spin T).mono (by decide)
  have G_law_stretches : FnOk P w K mg base CX0 7 Z.f_law_stretches Z.d_law_stretches ["keys"] (splaw_stretches K Z) := (oklaw_stretches T).mono (by decide)
  have G_count_runs : FnOk P w K mg base CX0 7 Z.f_count_runs Z.d_count_runs ["layout", "box"] (spcount_runs K Z) := (okcount_runs T).mono (by decide)
  have G_ends : FnOk P w K mg base CX0 7 Z.f_ends Z.d_ends ["layout", "box"] (spends K Z) := (okends T).mono (by decide)
  refine okG T.F_law_right sclaw_right (fun vs H Q E h => ?_) (fun cdv A outer s H vs Q E hgd hr h => ?_)
  · obtain ⟨r, n, most, rfl, hR, hn, hmost, q⟩ := h
    rfl
  · obtain ⟨r, n, most, rfl, hR, hn, hmost, q⟩ := h
    refine ⟨_, (pss_cons (ps_set (i := 2) sclaw_right.nd rfl (.inl rfl) (pe_call G_law_drawn_word (hr.mono (by decide)) (by rfl) T.m_law_drawn_word T.F_law_drawn_word.kp T.b_law_drawn_word .nil pass0 (pa_cons (pv 0) (pa_cons (pv 1) (pa_cons (pe_ix ix_list (pe_lst (pa_cons (pv 1) (pa_cons pe_int pa_nil))) (pe_call G_law_spin (hr.mono (by decide)) (by rfl) T.m_law_spin T.F_law_spin.kp T.b_law_spin .nil pass0 (pa_cons (pv 0) (pa_cons pe_int pa_nil))) (fun _ _ => rfl)) pa_nil)))))
      (pss_cons (ps_set (i := 3) sclaw_right.nd rfl (.inl rfl) (pe_make T.mk_Layout G_LayoutU_initU (hr.mono (by decide)) (by rfl) T.m_Layout T.b_LayoutU_initU .nil pass0 (pa_cons (pv 2) pa_nil)))
      (pss_cons (ps_for PassesOwn.never rfl (pi_range1 (by rfl) T.z_range (pa_cons pe_int pa_nil)) (pg_name (i := 4) sclaw_right.nd rfl (.inl rfl))
        (pss_cons (ps_set (i := 5) sclaw_right.nd rfl (.inl rfl) (pe_call G_law_drawn_box (hr.mono (by decide)) (by rfl) T.m_law_drawn_box T.F_law_drawn_box.kp T.b_law_drawn_box .nil pass0 (pa_cons (pv 0) (pa_cons (pv 2) pa_nil))))
      (pss_cons (ps_set (i := 6) sclaw_right.nd rfl (.inl rfl) (pe_call G_law_listed_keys (hr.mono (by decide)) (by rfl) T.m_law_listed_keys T.F_law_listed_keys.kp T.b_law_listed_keys .nil pass0 (pa_cons (pv 2) (pa_cons (pv 5) pa_nil))))
      (pss_cons (ps_if (pt_cmpR op_ne (pe_callB SkE.call_repr_int (by rfl) T.z_repr (by decide +kernel) (pa_cons (pe_call G_count_runs (hr.mono (by decide)) (by rfl) T.m_count_runs T.F_count_runs.kp T.b_count_runs .nil pass0 (pa_cons (pv 3) (pa_cons (pv 5) pa_nil))) pa_nil)) (pe_callB SkE.call_repr_int (by rfl) T.z_repr (by decide +kernel) (pa_cons (pe_callB call_len_seq (by rfl) T.z_len (by decide +kernel) (pa_cons (pe_call G_law_stretches (hr.mono (by decide)) (by rfl) T.m_law_stretches T.F_law_stretches.kp T.b_law_stretches .nil pass0 (pa_cons (pv 6) pa_nil)) pa_nil)) pa_nil)) (nomark _))
        (pss_one (ps_ret pe_bl))
        pss_nil)
      (pss_one (ps_if (pt_cmpR op_ne (pe_callB (call_reprD hgd (hu_of' hr)) (by rfl) T.z_repr (by decide +kernel) (pa_cons (pe_call G_ends (hr.mono (by decide)) (by rfl) T.m_ends T.F_ends.kp T.b_ends .nil pass0 (pa_cons (pv 3) (pa_cons (pv 5) pa_nil))) pa_nil)) (pe_callB (call_reprD hgd (hu_of' hr)) (by rfl) T.z_repr (by decide +kernel) (pa_cons (pe_tup (pa_cons (pe_ix ix_list (pv 6) pe_int (fun _ _ => rfl)) (pa_cons (pe_ix ix_list (pv 6) (pe_un un_neg pe_int) (fun _ _ => rfl)) pa_nil))) pa_nil)) (nomark _))
        (pss_one (ps_ret pe_bl))
        pss_nil))))))
      (pss_cons (ps_set (i := 7) sclaw_right.nd rfl (.inl rfl) (pe_tup (pa_cons pe_int (pa_cons pe_int (pa_cons (pe_op op_sub (pe_call G_law_power (hr.mono (by decide)) (by rfl) T.m_law_power T.F_law_power.kp T.b_law_power .nil pass0 (pa_cons (pe_bm PySem.F.plainAttrs_str PySem.F.slot_str_count PySem.F.type_str_count mt_count (pv 2) (pa_cons pe_str pa_nil)) pa_nil)) pe_int) (pa_cons (pe_op op_sub (pe_call G_law_power (hr.mono (by decide)) (by rfl) T.m_law_power T.F_law_power.kp T.b_law_power .nil pass0 (pa_cons (pe_bm PySem.F.plainAttrs_str PySem.F.slot_str_count PySem.F.type_str_count mt_count (pv 2) (pa_cons pe_str pa_nil)) pa_nil)) pe_int) pa_nil))))))
      (pss_one (ps_ret (pe_and (pe_cmpR op_eq (pe_call G_count_runs (hr.mono (by decide)) (by rfl) T.m_count_runs T.F_count_runs.kp T.b_count_runs .nil pass0 (pa_cons (pv 3) (pa_cons (pv 7) pa_nil))) pe_int (nomark _)) (pe_one (pe_cmpR (op_eqD (hu_of' hr)) (pe_call G_ends (hr.mono (by decide)) (by rfl) T.m_ends T.F_ends.kp T.b_ends .nil pass0 (pa_cons (pv 3) (pa_cons (pv 7) pa_nil))) (pe_tup (pa_cons pe_int (pa_cons (pe_op op_sub (pe_call G_law_power (hr.mono (by decide)) (by rfl) T.m_law_power T.F_law_power.kp T.b_law_power .nil pass0 (pa_cons (pe_callB call_len_str (by rfl) T.z_len (by decide +kernel) (pa_cons (pv 2) pa_nil)) pa_nil)) pe_int) pa_nil))) (nomark _)))))))))), ?_⟩
    refine ⟨_, rfl, _, rfl, _, rfl, (by show 2 ≤ sizeLine; decide), fun la nla => ?_⟩
    have kla : (upd H la (.lst [.int (most : Int), .int 3])) la = some (.lst [.int (most : Int), .int 3]) := upd_same
    have lar : la ≠ r := hR.ne nla
    have s1 : Same H (upd H la (.lst [.int (most : Int), .int 3])) := same_new (Same.refl H) nla
    refine ⟨_, rfl, r, _, 2, rfl, hR.same s1, by omega, by omega, small_pow (by omega), fun d1 H1 hd1 b1 R1 => ?_⟩
    obtain ⟨ym, hym, eym⟩ : ∃ ym : Nat, ym ≤ 4 ∧ atI [V.int (most : Int), V.int 3] (d1 : Int) = some (V.int (ym : Int)) := by
      rcases d1 with _ | _ | d1
      · exact ⟨most, hmost, rfl⟩
      · exact ⟨3, by omega, rfl⟩
      · omega
    refine ⟨la, _, _, V.int (ym : Int), rfl, rfl, SqL.of (b1 _ _ lar kla), eym, ?_⟩
    refine ⟨r, _, most, ym, rfl, R1, by omega, by omega, by omega, fun l H2 g hx hy b2 R2 => ?_⟩
    have b02 : But r H H2 := (Same.but s1).trans (b1.trans b2)
    have gl := g.len
    have lx4 : nx l ≤ 4 := by omega
    have ly4 : ny l ≤ 4 := by omega
    have lxy := nxy l
    refine ⟨_, rfl, fun p dx n1 n2 n3 => ⟨p, dx, l, rfl, g, upd_same, fun H3 bt e => ⟨rfl, ?_⟩⟩⟩
    have s23 : Same H2 H3 := made_same n1 n2 bt
    have pr : p ≠ r := R2.ne n1
    have R3 : Reel H3 r (n + 701) := (R2.same s23).le (by omega)
    have b03 : But r H H3 := b02.trans (Same.but s23)
    
    refine ⟨_, rfl, by decide, by decide, for_range (lo := 0) (n := 4) (fun i σ H' => But r H3 H' ∧ Reel H' r (n + 701 + 10 * i) ∧ ∃ (y4 y5 y6 : Option V), σ = [some (.ref r), some (.int most), some (.str (wS l)), some (.ref p), y4, y5, y6, none]) ⟨But.refl, R3, none, none, none, rfl⟩ (fun i σ H4 hi W => ?_) (fun σ H4 W => ?_)⟩
    · obtain ⟨b34, R4, y4, y5, y6, rfl⟩ := W
      have hp4 : H4 p = some (.ins Z.C_Layout dx (lf l)) := b34 _ _ pr e
      refine ⟨_, rfl, _, rfl, r, _, l, rfl, R4, by omega, g, fun ta x1 y1 x2 y2 H5 h1 hx2 h2 hy2 b45 R5 nta kta => ?_⟩
      have b : Bx l x1 y1 x2 y2 := ⟨h1, h2, hx2, hy2⟩
      have hp5 := b45 _ _ pr hp4
      have px : 2 ^ nx l ≤ 16 := Nat.pow_le_pow_right (n := 2) (by decide) lx4
      have py : 2 ^ ny l ≤ 16 := Nat.pow_le_pow_right (n := 2) (by decide) ly4
      refine ⟨_, rfl, _, rfl, ta, l, x1, y1, x2, y2, rfl, g, kta, b, lx4, ly4, fun ks D H6 hsrt hprm e56 nD kD => ?_⟩
      have kta6 := e56 _ _ kta
      have hp6 := e56 _ _ hp5
      have hkl : ks.length = (x2 + 1 - x1) * (y2 + 1 - y1) := by rw [hprm.length_eq, boxN_len]
      have hkb : ks.length ≤ 16 * 16 := by rw [hkl]; exact Nat.mul_le_mul (by omega) (by omega)
      have hk1 : 1 ≤ ks.length := by rw [hkl]; exact Nat.mul_pos (by omega) (by omega)
      have hbd : ∀ k ∈ ks, k < 2 ^ 1000 := fun k hk => by
        obtain ⟨u, v, _, _, e⟩ := boxN_mem.mp (hprm.mem_iff.mp hk)
        rw [← e]
        exact pwl (keyL_lt l _ _) (by omega)
      have hsum := sav_sum b hsrt hprm
      have hal := adj_le (fun _ => true) ks
      refine ⟨_, rfl, _, rfl, p, ta, l, x1, y1, x2, y2, rfl, ⟨dx, hp6⟩, g, kta6, b, fun H7 e67 => ?_⟩
      have hlog : ∀ z : Nat, z ≤ 256 → ((z : Nat) : Int).natAbs.log2 < 1920 := fun z hz => by
        have := PySem.Flt.log2_lt_of (n := ((z : Nat) : Int).natAbs) (k := 1000) (by decide) (by rw [Int.natAbs_natCast]; exact small_pow (by omega))
        omega
      have ecnt : ((((x2 + 1 - x1) * (y2 + 1 - y1) : Nat) : Int) - (savL l x1 y1 x2 y2).sum) = ((ks.length - adj (fun _ => true) ks : Nat) : Int) := by
        rw [hsum, ← hkl]
        omega
      rw [ecnt]
      refine ⟨_, rfl, hlog _ (by omega), _, rfl, D, ks, rfl, e67 _ _ kD, by omega, hbd, fun fr ts H8 e78 nf kf hts => ?_⟩
      refine ⟨fr, _, rfl, .inl (SqL.of kf), ?_⟩
      rw [show ts.length = ks.length - adj (fun _ => true) ks by omega]
      refine ⟨_, rfl, hlog _ (by omega), rfl, _, rfl, iteNS rfl ?_⟩
      have s68 : Same H6 H8 := e67.trans e78
      have hp8 := s68 _ _ hp6
      have kta8 := s68 _ _ kta6
      have kD8 := s68 _ _ kD
      refine ⟨_, rfl, _, rfl, p, ta, l, x1, y1, x2, y2, rfl, ⟨dx, hp8⟩, g, kta8, b, fun te H9 e89 nte kte => ?_⟩
      have k1 := keyL_lt l x1 y1
      have k2 := keyL_lt l x2 y2
      have rpE : RpOk (.tuple [.int (keyL l x1 y1 : Nat), .int (keyL l x2 y2 : Nat)]) := rp_tup (allc (atm_n (pwl k1 (by omega))) (all1 (atm_n (pwl k2 (by omega))))) (Nat.le_of_ble_eq_true rfl)
      refine ⟨te, .tuple [.int (keyL l x1 y1 : Nat), .int (keyL l x2 y2 : Nat)], rfl, Dp.tup (SqT.of kte) (.cons (.int _) (.cons (.int _) .nil)), rpE.1, rpE.2.1, rpE.2.2.1, rpE.2.2.2, ?_⟩
      have kD9 := e89 _ _ kD8
      have lk := least_key b hsrt hprm
      have gk := great_key b hsrt hprm
      have a0 : atI ((ks.map fun m => ((m : Nat) : Int)).map V.int) 0 = some (V.int ((keyL l x1 y1 : Nat) : Int)) := by
        have := atI_nat (xs := (ks.map fun m => ((m : Nat) : Int)).map V.int) (j := 0) (v := V.int ((keyL l x1 y1 : Nat) : Int)) (by rw [List.getElem?_map, List.getElem?_map, lk]; rfl)
        exact this
      have a1 : atI ((ks.map fun m => ((m : Nat) : Int)).map V.int) (-1) = some (V.int ((keyL l x2 y2 : Nat) : Int)) := by
        obtain ⟨m, hm⟩ : ∃ m, ks.length = m + 1 := ⟨ks.length - 1, by omega⟩
        rw [hm, Nat.add_sub_cancel] at gk
        unfold atI
        rw [List.length_map, List.length_map, hm, ix_last]
        show ((ks.map fun m => ((m : Nat) : Int)).map V.int)[m]? = _
        rw [List.getElem?_map, List.getElem?_map, gk]
        rfl
      refine ⟨_, rfl, D, _, 0, _, rfl, rfl, SqL.of kD9, a0, _, rfl, _, rfl, D, _, -1, _, rfl, rfl, SqL.of kD9, a1, (by show 2 ≤ sizeLine; decide), fun tz ntz => ?_⟩
      refine ⟨tz, .tuple [.int (keyL l x1 y1 : Nat), .int (keyL l x2 y2 : Nat)], rfl, Dp.tup (SqT.of upd_same) (.cons (.int _) (.cons (.int _) .nil)), rpE.1, rpE.2.1, rpE.2.2.1, rpE.2.2.2, rfl, _, rfl, iteNS rfl ?_⟩
      have sE : Same H5 (upd H9 tz (.tup [.int (keyL l x1 y1 : Nat), .int (keyL l x2 y2 : Nat)])) := same_new (e56.trans (s68.trans e89)) ntz
      exact ⟨b34.trans (b45.trans (Same.but sE)), (R5.same sE).le (by omega), _, _, _, rfl⟩
    · obtain ⟨b34, R4, y4, y5, y6, rfl⟩ := W
      have hp4 : H4 p = some (.ins Z.C_Layout dx (lf l)) := b34 _ _ pr e
      have px := two_pos (nx l)
      have py := two_pos (ny l)
      have pl := two_pos l.length
      have ew : ((2 ^ nx l : Nat) : Int) - 1 = ((2 ^ nx l - 1 : Nat) : Int) := by omega
      have eh : ((2 ^ ny l : Nat) : Int) - 1 = ((2 ^ ny l - 1 : Nat) : Int) := by omega
      have el : ((2 ^ l.length : Nat) : Int) - 1 = ((2 ^ l.length - 1 : Nat) : Int) := by omega
      refine ⟨_, rfl, rfl, _, _, rfl, rfl, nx l, congrArg (fun z => [V.int z]) (count_x l), by omega, _, _, rfl, rfl, _, rfl, rfl, _, _, rfl, rfl, ny l, congrArg (fun z => [V.int z]) (count_y l), by omega, _, _, rfl, rfl, (by show 4 ≤ sizeLine; decide), fun tw ntw => ?_⟩
      refine to_any2 (fun H5 => H5 tw = some (.tup [.int (0 : Nat), .int (0 : Nat), .int (2 ^ nx l - 1 : Nat), .int (2 ^ ny l - 1 : Nat)])) (same_new (Same.refl H4) ntw) (by rw [← ew, ← eh]; exact upd_same) (fun H5 s45 ktw => ?_)
      have hp5 := s45 _ _ hp4
      have bw := whole_box l
      refine ⟨_, rfl, _, rfl, p, tw, l, 0, 0, 2 ^ nx l - 1, 2 ^ ny l - 1, rfl, ⟨dx, hp5⟩, g, ktw, bw, fun H6 e56 => ?_⟩
      rw [whole_runs]
      refine ⟨rfl, true, rfl, iteT ?_⟩
      refine ⟨_, rfl, _, rfl, p, tw, l, 0, 0, 2 ^ nx l - 1, 2 ^ ny l - 1, rfl, ⟨dx, e56 _ _ hp5⟩, g, e56 _ _ ktw, bw, fun te H7 e67 nte kte => ?_⟩
      have ones := keyL_ones l
      rw [keyL_zero, show keyL l (2 ^ nx l - 1) (2 ^ ny l - 1) = 2 ^ l.length - 1 by omega] at kte
      refine ⟨_, rfl, _, rfl, small_line (by rw [wS_len]; omega), l.length, congrArg (fun z => [V.int z]) (by rw [wS_len]), by omega, _, _, rfl, rfl, (by show 2 ≤ sizeLine; decide), fun tz ntz => ?_⟩
      have shE : SeqAt.shaped (.tuple [PyData.int (0 : Nat), .int (2 ^ l.length - 1 : Nat)]) = true := shaped_tup (allc (atm_n (n := 0) (small_pow (by omega))) (all1 (atm_n (pwl (n := l.length) (by omega) (by omega)))))
      refine ⟨.tuple [.int (0 : Nat), .int (2 ^ l.length - 1 : Nat)], .tuple [.int (0 : Nat), .int (2 ^ l.length - 1 : Nat)], Dp.tup (SqT.of (same_new (Same.refl _) ntz _ _ kte)) (.cons (.int _) (.cons (.int _) .nil)), Dp.tup (SqT.of (by rw [← el]; exact upd_same)) (.cons (.int _) (.cons (.int _) .nil)), shE, shE, ?_⟩
      rw [eqv_same shE]
      have sE := same_new (o := HO.tup [.int 0, .int (((2 ^ l.length : Nat) : Int) - 1)]) (s45.trans (e56.trans e67)) ntz
      exact q _ (b03.trans (b34.trans (Same.but sE))) ((R4.same sE).le (by omega))
def splaw_wound (K : PySem.W.Frag) (Z : Ads) : Sp := fun vs H Q _ => ∃ (a : Addr) (ns : List Int) (k : Nat), vs = [.ref a, .int k] ∧ SqL K H a (ns.map V.int) ∧ ns.length ≤ 63 ∧ k ≤ 100 ∧ ∀ r H', Same H H' → H r = none → Reel H' r 0 → Q (.ref r) H'
theorem oklaw_wound {Z : Ads} (T : Top K mg Z) : FnOk P w K mg base CX0 1 Z.f_law_wound Z.d_law_wound ["script", "k"] (splaw_wound K Z) := by
  refine T.F_law_wound.ok sclaw_wound (fun vs H Q E h => ?_) (fun cdv A outer s H vs Q E hr h => ?_)
  · obtain ⟨a, ns, k, rfl, hS, hl, hk, q⟩ := h
    rfl
  · obtain ⟨a, ns, k, rfl, hS, hl, hk, q⟩ := h
    refine ⟨_, (pss_cons (ps_set (i := 2) sclaw_wound.nd rfl (.inl rfl) pe_int)
      (pss_cons (ps_if (pt_cmpR op_lt (pv 1) (pe_callB call_len_seq (by rfl) T.z_len (by decide +kernel) (pa_cons (pv 0) pa_nil)) (nomark _))
        (pss_one (ps_set (i := 2) sclaw_wound.nd rfl (.inl rfl) (pe_ix ix_list (pv 0) (pv 1) (fun _ _ => rfl))))
        pss_nil)
      (pss_one (ps_ret (pe_lst (pa_cons (pe_callB (call_max2 (by rfl)) (by rfl) T.z_max (by decide +kernel) (pa_cons pe_int (pa_cons (pe_op op_sub (pv 2) (pe_op op_pow pe_int pe_int)) pa_nil))) (pa_cons (pe_op op_add (pe_op op_add (pe_op op_mul (pe_op op_modN (pe_callTy call_int1 (by rfl) T.z_int (by decide +kernel) (pa_cons (pv 2) pa_nil)) (pe_op op_add (pe_op op_pow pe_int pe_int) pe_int)) pe_int) (pe_op op_mul pe_int (pv 1))) pe_int) (pa_cons pe_int pa_nil)))))))), ?_⟩
    refine ⟨_, rfl, _, rfl, a, _, rfl, .inl hS, _, _, rfl, rfl, _, rfl, ?_⟩
    rw [List.length_map]
    have hm : (10 : Int) ^ (38 : Int).toNat + 133 = 100000000000000000000000000000000000133 := by decide +kernel
    have fm : ∀ c : Int, 0 ≤ c.fmod 100000000000000000000000000000000000133 ∧ c.fmod 100000000000000000000000000000000000133 < 100000000000000000000000000000000000133 := fun c => ⟨Int.fmod_nonneg_of_pos _ (by decide), Int.fmod_lt_of_pos _ (by decide)⟩
    refine ite2 (fun e => ?_) (fun _ => ?_)
    · have hk2 : k < ns.length := by
        have := of_decide_eq_true e
        omega
      refine ⟨_, rfl, _, rfl, a, _, (k : Int), .int ns[k], rfl, rfl, hS, atI_nat (j := k) (by rw [List.getElem?_map, List.getElem?_eq_getElem hk2]; rfl), ?_⟩
      refine ⟨_, rfl, _, _, rfl, rfl, ⟨by decide, by decide, by decide⟩, _, _, rfl, rfl, _, _, rfl, _, rfl, .inl ⟨_, rfl, _, _, rfl, rfl, ⟨by decide, by decide, by decide⟩, _, _, rfl, rfl, _, _, rfl, rfl, by show ((10 : Int) ^ (38 : Int).toNat + 133) ≠ 0; rw [hm]; decide, _, _, rfl, rfl, .inr ⟨by decide, by decide⟩, _, rfl, _, _, rfl, rfl, .inl ⟨by decide, by decide⟩, _, _, rfl, rfl, _, _, rfl, rfl, (by show 3 ≤ sizeLine; decide), fun r hr => ?_⟩⟩
      refine q r _ (same_new (Same.refl H) hr) hr ⟨_, _, _, upd_same, ?_, ?_, ?_, Int.le_refl 0, Int.le_refl 0⟩
      · split <;> omega
      · have := fm ns[k]
        show 0 ≤ Int.fmod ns[k] ((10 : Int) ^ (38 : Int).toNat + 133) * 67 + 141650939 * (k : Int) + 23
        rw [hm]
        omega
      · have := fm ns[k]
        show Int.fmod ns[k] ((10 : Int) ^ (38 : Int).toNat + 133) * 67 + 141650939 * (k : Int) + 23 < 2 ^ 200
        rw [hm]
        omega
    · refine ⟨_, rfl, _, _, rfl, rfl, ⟨by decide, by decide, by decide⟩, _, _, rfl, rfl, _, _, rfl, _, rfl, .inl ⟨_, rfl, _, _, rfl, rfl, ⟨by decide, by decide, by decide⟩, _, _, rfl, rfl, _, _, rfl, rfl, by show ((10 : Int) ^ (38 : Int).toNat + 133) ≠ 0; rw [hm]; decide, _, _, rfl, rfl, .inr ⟨by decide, by decide⟩, _, rfl, _, _, rfl, rfl, .inl ⟨by decide, by decide⟩, _, _, rfl, rfl, _, _, rfl, rfl, (by show 3 ≤ sizeLine; decide), fun r hr => ?_⟩⟩
      refine q r _ (same_new (Same.refl H) hr) hr ⟨_, _, _, upd_same, ?_, ?_, ?_, Int.le_refl 0, Int.le_refl 0⟩
      · split <;> omega
      · have := fm 0
        show 0 ≤ Int.fmod 0 ((10 : Int) ^ (38 : Int).toNat + 133) * 67 + 141650939 * (k : Int) + 23
        rw [hm]
        omega
      · have := fm 0
        show Int.fmod 0 ((10 : Int) ^ (38 : Int).toNat + 133) * 67 + 141650939 * (k : Int) + 23 < 2 ^ 200
        rw [hm]
        omega
def splaw (K : PySem.W.Frag) (Z : Ads) : Sp := fun vs H Q _ => ∃ (a : Addr) (ns : List Int), vs = [.ref a] ∧ SqL K H a (ns.map V.int) ∧ ns.length ≤ 63 ∧ ∀ H', Q (.bl true) H'
theorem oklaw {Z : Ads} (T : Top K mg Z) : FnG P w K mg base 9 Z.f_law Z.d_law ["script"] (splaw K Z) := by
  have G_LayoutU_initU : FnOk P w K mg base CX0 2 Z.f_LayoutU_initU Z.d_LayoutU_initU ["self", "word"] (spLayoutU_initU K Z) := (okLayoutU_initU T).mono (by decide)
  have G_law_right : FnG P w K mg base 8 Z.f_law_right Z.d_law_right ["reel", "most"] (splaw_right K Z) := (oklaw_right T).mono (by decide)
  have G_law_wound : FnOk P w K mg base CX0 8 Z.f_law_wound Z.d_law_wound ["script", "k"] (splaw_wound K Z) := (oklaw_wound T).mono (by decide)
  have G_count_runs : FnOk P w K mg base CX0 8 Z.f_count_runs Z.d_count_runs ["layout", "box"] (spcount_runs K Z) := (okcount_runs T).mono (by decide)
  have G_ends : FnOk P w K mg base CX0 8 Z.f_ends Z.d_ends ["layout", "box"] (spends K Z) := (okends T).mono (by decide)
  refine okG T.F_law sclaw (fun vs H Q E h => ?_) (fun cdv A outer s H vs Q E hgd hr h => ?_)
  · obtain ⟨a, ns, rfl, hS, hl, q⟩ := h
    rfl
  · obtain ⟨a, ns, rfl, hS, hl, q⟩ := h
    refine ⟨_, (pss_cons (ps_for PassesOwn.never rfl (pi_range1 (by rfl) T.z_range (pa_cons (pe_callB (call_max2 (by rfl)) (by rfl) T.z_max (by decide +kernel) (pa_cons pe_int (pa_cons (pe_callB (call_min2 (by rfl)) (by rfl) T.z_min (by decide +kernel) (pa_cons pe_int (pa_cons (pe_callB call_len_seq (by rfl) T.z_len (by decide +kernel) (pa_cons (pv 0) pa_nil)) pa_nil))) pa_nil))) pa_nil)) (pg_name (i := 1) sclaw.nd rfl (.inl rfl))
        (pss_cons (ps_set (i := 2) sclaw.nd rfl (.inl rfl) (pe_call G_law_wound (hr.mono (by decide)) (by rfl) T.m_law_wound T.F_law_wound.kp T.b_law_wound .nil pass0 (pa_cons (pv 0) (pa_cons (pv 1) pa_nil))))
      (pss_one (ps_for PassesOwn.never rfl (pi_list (pe_lst (pa_cons pe_int (pa_cons pe_int (pa_cons pe_int pa_nil))))) (pg_name (i := 3) sclaw.nd rfl (.inl rfl))
        (pss_one (ps_if (pt_not (pt_val (pe_callG G_law_right hgd (hr.mono (by decide)) (by rfl) T.m_law_right T.F_law_right.kp T.b_law_right (pa_cons (pv 2) (pa_cons (pv 3) pa_nil)))))
        (pss_one (ps_ret pe_bl))
        pss_nil))))))
      (pss_cons (ps_par3 (i := 4) (j := 5) (l := 6) (by rfl) sclaw.nd rfl rfl rfl (by decide) (by decide) (by decide) rfl rfl rfl (pa_cons (pe_make T.mk_Layout G_LayoutU_initU (hr.mono (by decide)) (by rfl) T.m_Layout T.b_LayoutU_initU .nil pass0 (pa_cons pe_str pa_nil)) (pa_cons (pe_tup (pa_cons pe_int (pa_cons pe_int (pa_cons pe_int (pa_cons pe_int pa_nil))))) (pa_cons (pe_tup (pa_cons pe_int (pa_cons pe_int (pa_cons pe_int (pa_cons pe_int pa_nil))))) pa_nil))) (by rfl))
      (pss_cons (ps_set (i := 7) sclaw.nd rfl (.inl rfl) (pe_lst (pa_cons (pe_call G_count_runs (hr.mono (by decide)) (by rfl) T.m_count_runs T.F_count_runs.kp T.b_count_runs .nil pass0 (pa_cons (pv 4) (pa_cons (pv 5) pa_nil))) (pa_cons (pe_call G_ends (hr.mono (by decide)) (by rfl) T.m_ends T.F_ends.kp T.b_ends .nil pass0 (pa_cons (pv 4) (pa_cons (pv 5) pa_nil))) (pa_cons (pe_call G_count_runs (hr.mono (by decide)) (by rfl) T.m_count_runs T.F_count_runs.kp T.b_count_runs .nil pass0 (pa_cons (pv 4) (pa_cons (pv 6) pa_nil))) (pa_cons (pe_call G_count_runs (hr.mono (by decide)) (by rfl) T.m_count_runs T.F_count_runs.kp T.b_count_runs .nil pass0 (pa_cons (pe_make T.mk_Layout G_LayoutU_initU (hr.mono (by decide)) (by rfl) T.m_Layout T.b_LayoutU_initU .nil pass0 (pa_cons pe_str pa_nil)) (pa_cons (pv 6) pa_nil))) pa_nil))))))
      (pss_one (ps_ret (pe_and (pe_cmpR (op_eqD (hu_of' hr)) (pv 7) (pe_lst (pa_cons pe_int (pa_cons (pe_tup (pa_cons pe_int (pa_cons pe_int pa_nil))) (pa_cons pe_int (pa_cons pe_int pa_nil))))) (nomark _)) (pe_one (pe_cmpR op_eq (pe_call G_count_runs (hr.mono (by decide)) (by rfl) T.m_count_runs T.F_count_runs.kp T.b_count_runs .nil pass0 (pa_cons (pe_make T.mk_Layout G_LayoutU_initU (hr.mono (by decide)) (by rfl) T.m_Layout T.b_LayoutU_initU .nil pass0 (pa_cons pe_str pa_nil)) (pa_cons (pv 6) pa_nil))) pe_int (nomark _))))))))), ?_⟩
    obtain ⟨kk, hk1, hk6, ek⟩ := kk_of ns.length
    refine ⟨_, rfl, a, _, rfl, .inl hS, _, _, rfl, _, _, rfl, ?_⟩
    rw [List.length_map, ek]
    refine ⟨_, rfl, by omega, by omega, for_range (lo := 0) (n := kk) (fun i σ H' => Same H H' ∧ ∃ (y1 y2 y3 y4 y5 y6 y7 : Option V), σ = [some (.ref a), y1, y2, y3, y4, y5, y6, y7]) ⟨Same.refl H, none, none, none, none, none, none, none, rfl⟩ ?_ ?_⟩
    · rintro i σ H' hi ⟨sm, y1, y2, y3, y4, y5, y6, y7, rfl⟩
      refine ⟨_, rfl, _, rfl, a, ns, i, congrArg (fun z => [V.ref a, V.int z]) (Int.zero_add _), Same.seq sm hS, hl, by omega, fun r H1 e1 nr R => ?_⟩
      refine ⟨(by show 3 ≤ sizeLine; decide), fun l nl => ?_⟩
      have sl : Same H' (upd H1 l (.lst [.int 2, .int 3, .int 4])) := same_new e1 nl
      have hll : (upd H1 l (.lst [.int 2, .int 3, .int 4])) l = some (.lst [.int 2, .int 3, .int 4]) := upd_same
      have Rl : Reel (upd H1 l (.lst [.int 2, .int 3, .int 4])) r 0 := R.same (same_new (Same.refl H1) nl)
      have lr : l ≠ r := R.ne nl
      generalize (upd H1 l (.lst [.int 2, .int 3, .int 4])) = H2 at sl hll Rl ⊢
      refine ⟨l, rfl, ⟨_, SqL.of hll⟩, for_list (K := K) (a := l) (xs := [.int 2, .int 3, .int 4]) (fun j σ H' => But r H2 H' ∧ Reel H' r (j * 750) ∧ ∃ z, σ = [some (.ref a), some (.int (0 + (i : Nat))), some (.ref r), z, y4, y5, y6, y7]) ⟨But.refl, Rl, y3, rfl⟩ (fun j σ H' _ W => SqL.of (W.1 _ _ lr hll)) (fun j x σ H' hx W => ?_) (fun σ H' W => ?_)⟩
      · obtain ⟨bt, Rj, z, rfl⟩ := W
        obtain ⟨v, hv, rfl⟩ : ∃ v : Nat, v ≤ 4 ∧ x = .int v := by
          rcases j with _ | _ | _ | j
          · exact ⟨2, by omega, (Option.some.inj hx).symm⟩
          · exact ⟨3, by omega, (Option.some.inj hx).symm⟩
          · exact ⟨4, by omega, (Option.some.inj hx).symm⟩
          · exact absurd hx (by simp)
        have hj : j < 3 := (List.getElem?_eq_some_iff.mp hx).1
        refine ⟨_, rfl, _, rfl, r, j * 750, v, rfl, Rj, by omega, by omega, fun H3 b3 R3 => ⟨true, rfl, iteF ?_⟩⟩
        exact ⟨bt.trans b3, R3.le (by omega), _, rfl⟩
      · obtain ⟨bt, Rj, z, rfl⟩ := W
        exact ⟨Same.trans sm (but_same sl nr bt), _, _, _, _, _, _, _, rfl⟩
    rintro σ H' ⟨sm, y1, y2, y3, y4, y5, y6, y7, rfl⟩
    
    have gz : GoodW [false, true, false, true] := ⟨by simp, by decide, by decide⟩
    have gy : GoodW [false, false, true, true] := ⟨by simp, by decide, by decide⟩
    have gx : GoodW [true, true, false, false] := ⟨by simp, by decide, by decide⟩
    refine fun p dx p1 p2 p3 => ⟨p, dx, [false, true, false, true], congrArg (fun z => [V.ref p, V.str z]) (by decide +kernel), gz, upd_same, fun H1 btp qp => ⟨rfl, ?_⟩⟩
    refine ⟨(by show 4 ≤ sizeLine; decide), fun sq nsq => ⟨(by show 4 ≤ sizeLine; decide), fun br nbr => ⟨_, _, _, rfl, ?_⟩⟩⟩
    refine to_any2 (fun H2 => H2 p = some (.ins Z.C_Layout dx (lf [false, true, false, true])) ∧ H2 sq = some (.tup [.int (0 : Nat), .int (0 : Nat), .int (2 : Nat), .int (2 : Nat)]) ∧ H2 br = some (.tup [.int (1 : Nat), .int (0 : Nat), .int (2 : Nat), .int (3 : Nat)])) (same_new (same_new (Same.refl H1) nsq) nbr) ⟨same_new (same_new (Same.refl H1) nsq) nbr _ _ qp, same_new (Same.refl _) nbr _ _ upd_same, upd_same⟩ (fun H2 s12 hq => ?_)
    obtain ⟨hp2, hs2, hb2⟩ := hq
    refine ⟨_, rfl, _, rfl, p, sq, [false, true, false, true], 0, 0, 2, 2, rfl, ⟨dx, hp2⟩, gz, hs2, ⟨by decide, by decide, by decide, by decide⟩, fun H3 e3 => ?_⟩
    refine ⟨_, rfl, _, rfl, p, sq, [false, true, false, true], 0, 0, 2, 2, rfl, ⟨dx, e3 _ _ hp2⟩, gz, e3 _ _ hs2, ⟨by decide, by decide, by decide, by decide⟩, fun te H4 e4 nte kte => ?_⟩
    have s24 : Same H2 H4 := e3.trans e4
    refine ⟨_, rfl, _, rfl, p, br, [false, true, false, true], 1, 0, 2, 3, rfl, ⟨dx, s24 _ _ hp2⟩, gz, s24 _ _ hb2, ⟨by decide, by decide, by decide, by decide⟩, fun H5 e5 => ?_⟩
    refine fun p6 dx6 p61 p62 p63 => ⟨p6, dx6, [false, false, true, true], congrArg (fun z => [V.ref p6, V.str z]) (by decide +kernel), gy, upd_same, fun H6 btp6 qp6 => ⟨rfl, ?_⟩⟩
    have s56 : Same H5 H6 := made_same p61 p62 btp6
    have hb6 := s56 _ _ (e5 _ _ (s24 _ _ hb2))
    refine ⟨_, rfl, p6, br, [false, false, true, true], 1, 0, 2, 3, rfl, ⟨dx6, qp6⟩, gy, hb6, ⟨by decide, by decide, by decide, by decide⟩, fun H7 e7 => ?_⟩
    refine ⟨(by show 4 ≤ sizeLine; decide), fun la nla => ?_⟩
    have kte7 := e7 _ _ (s56 _ _ (e5 _ _ kte))
    have hb7 := e7 _ _ hb6
    refine to_any2 (fun H8 => H8 la = some (.lst [.int ((((2 + 1 - 0) * (2 + 1 - 0) : Nat) : Int) - (savL [false, true, false, true] 0 0 2 2).sum), .ref te, .int ((((2 + 1 - 1) * (3 + 1 - 0) : Nat) : Int) - (savL [false, true, false, true] 1 0 2 3).sum), .int ((((2 + 1 - 1) * (3 + 1 - 0) : Nat) : Int) - (savL [false, false, true, true] 1 0 2 3).sum)])) (same_new (Same.refl H7) nla) upd_same (fun H8 s78 kl => ?_)
    rw [show ((((2 + 1 - 0) * (2 + 1 - 0) : Nat) : Int) - (savL [false, true, false, true] 0 0 2 2).sum) = 4 by decide +kernel, show ((((2 + 1 - 1) * (3 + 1 - 0) : Nat) : Int) - (savL [false, true, false, true] 1 0 2 3).sum) = 6 by decide +kernel, show ((((2 + 1 - 1) * (3 + 1 - 0) : Nat) : Int) - (savL [false, false, true, true] 1 0 2 3).sum) = 4 by decide +kernel] at kl
    have kt8 := s78 _ _ kte7
    rw [show keyL [false, true, false, true] 0 0 = 0 by decide, show keyL [false, true, false, true] 2 2 = 12 by decide] at kt8
    have hb8 := s78 _ _ hb7
    refine ⟨_, rfl, (by show 2 ≤ sizeLine; decide), fun u1 nu1 => ⟨(by show 4 ≤ sizeLine; decide), fun u2 nu2 => ?_⟩⟩
    have sE := same_new (o := HO.lst [.int 4, .ref u1, .int 6, .int 4]) (same_new (o := HO.tup [.int 0, .int 12]) (Same.refl H8) nu1) nu2
    have shp : SeqAt.shaped (.list [.int 4, .tuple [.int 0, .int 12], .int 6, .int 4]) = true := by decide +kernel
    refine ⟨.list [.int 4, .tuple [.int 0, .int 12], .int 6, .int 4], .list [.int 4, .tuple [.int 0, .int 12], .int 6, .int 4], Dp.lst (SqL.of (sE _ _ kl)) (.cons (.int _) (.cons (Dp.tup (SqT.of (sE _ _ kt8)) (.cons (.int _) (.cons (.int _) .nil))) (.cons (.int _) (.cons (.int _) .nil)))), Dp.lst (SqL.of upd_same) (.cons (.int _) (.cons (Dp.tup (SqT.of (same_new (Same.refl _) nu2 _ _ upd_same)) (.cons (.int _) (.cons (.int _) .nil))) (.cons (.int _) (.cons (.int _) .nil)))), shp, shp, true, congrArg V.bl (eqv_same shp), iteT ?_⟩
    refine fun p9 dx9 p91 p92 p93 => ⟨p9, dx9, [true, true, false, false], congrArg (fun z => [V.ref p9, V.str z]) (by decide +kernel), gx, upd_same, fun H9 btp9 qp9 => ⟨rfl, ?_⟩⟩
    have s89 := made_same p91 p92 btp9
    refine ⟨_, rfl, p9, br, [true, true, false, false], 1, 0, 2, 3, rfl, ⟨dx9, qp9⟩, gx, s89 _ _ (sE _ _ hb8), ⟨by decide, by decide, by decide, by decide⟩, fun H10 e10 => ⟨rfl, ?_⟩⟩
    have e1 : ((((2 + 1 - 1) * (3 + 1 - 0) : Nat) : Int) - (savL [true, true, false, false] 1 0 2 3).sum) = 1 := by decide +kernel
    have e2 : decide (V.int ((((2 + 1 - 1) * (3 + 1 - 0) : Nat) : Int) - (savL [true, true, false, false] 1 0 2 3).sum) = V.int 1) = true := decide_eq_true (congrArg V.int e1)
    show Q (.bl (decide (V.int ((((2 + 1 - 1) * (3 + 1 - 0) : Nat) : Int) - (savL [true, true, false, false] 1 0 2 3).sum) = V.int 1))) H10
    rw [e2]
    exact q _
end
theorem all_mk {l : PySem.W.OpenLaw} {w : World} {K : PySem.W.Frag} {h : Heap} {mg : Str → Option Value} {fa C_Layout f_is_word f_LayoutU_initU f_law_power f_law_spin f_law_drawn_box f_law_drawn_word f_law_key_of f_law_listed_keys f_law_stretches f_area_of f_Layout_word p_Layout_word f_Layout_x_bits p_Layout_x_bits f_Layout_y_bits p_Layout_y_bits f_is_integer f_are_integers f_is_box f_check_box f_check_layout f_check_layout_and_box f_feet f_count_multiples f_count_odd_multiples f_count_spans f_saved_by f_saved f_count_runs f_is_cell f_check_cell f_Layout_key f_ends f_law_right f_law_wound f_law : Addr} (X : K.In h) (G : h.Ns mainGlobals mg) (hfa : mg "law" = some (.ref fa))
    {oc_is_word kV_is_word dc_is_word pm_is_word cd_is_word ct_is_word oc_LayoutU_initU kV_LayoutU_initU dc_LayoutU_initU pm_LayoutU_initU cd_LayoutU_initU ct_LayoutU_initU oc_law_power kV_law_power dc_law_power pm_law_power cd_law_power ct_law_power oc_law_spin kV_law_spin dc_law_spin pm_law_spin cd_law_spin ct_law_spin oc_law_drawn_box kV_law_drawn_box dc_law_drawn_box pm_law_drawn_box cd_law_drawn_box ct_law_drawn_box oc_law_drawn_word kV_law_drawn_word dc_law_drawn_word pm_law_drawn_word cd_law_drawn_word ct_law_drawn_word oc_law_key_of kV_law_key_of dc_law_key_of pm_law_key_of cd_law_key_of ct_law_key_of oc_law_listed_keys kV_law_listed_keys dc_law_listed_keys pm_law_listed_keys cd_law_listed_keys ct_law_listed_keys oc_law_stretches kV_law_stretches dc_law_stretches pm_law_stretches cd_law_stretches ct_law_stretches oc_area_of kV_area_of dc_area_of pm_area_of cd_area_of ct_area_of oc_Layout_word kV_Layout_word dc_Layout_word pm_Layout_word cd_Layout_word ct_Layout_word oc_Layout_x_bits kV_Layout_x_bits dc_Layout_x_bits pm_Layout_x_bits cd_Layout_x_bits ct_Layout_x_bits oc_Layout_y_bits kV_Layout_y_bits dc_Layout_y_bits pm_Layout_y_bits cd_Layout_y_bits ct_Layout_y_bits oc_is_integer kV_is_integer dc_is_integer pm_is_integer cd_is_integer ct_is_integer oc_are_integers kV_are_integers dc_are_integers pm_are_integers cd_are_integers ct_are_integers oc_is_box kV_is_box dc_is_box pm_is_box cd_is_box ct_is_box oc_check_box kV_check_box dc_check_box pm_check_box cd_check_box ct_check_box oc_check_layout kV_check_layout dc_check_layout pm_check_layout cd_check_layout ct_check_layout oc_check_layout_and_box kV_check_layout_and_box dc_check_layout_and_box pm_check_layout_and_box cd_check_layout_and_box ct_check_layout_and_box oc_feet kV_feet dc_feet pm_feet cd_feet ct_feet oc_count_multiples kV_count_multiples dc_count_multiples pm_count_multiples cd_count_multiples ct_count_multiples oc_count_odd_multiples kV_count_odd_multiples dc_count_odd_multiples pm_count_odd_multiples cd_count_odd_multiples ct_count_odd_multiples oc_count_spans kV_count_spans dc_count_spans pm_count_spans cd_count_spans ct_count_spans oc_saved_by kV_saved_by dc_saved_by pm_saved_by cd_saved_by ct_saved_by oc_saved kV_saved dc_saved pm_saved cd_saved ct_saved oc_count_runs kV_count_runs dc_count_runs pm_count_runs cd_count_runs ct_count_runs oc_is_cell kV_is_cell dc_is_cell pm_is_cell cd_is_cell ct_is_cell oc_check_cell kV_check_cell dc_check_cell pm_check_cell cd_check_cell ct_check_cell oc_Layout_key kV_Layout_key dc_Layout_key pm_Layout_key cd_Layout_key ct_Layout_key oc_ends kV_ends dc_ends pm_ends cd_ends ct_ends oc_law_right kV_law_right dc_law_right pm_law_right cd_law_right ct_law_right oc_law_wound kV_law_wound dc_law_wound pm_law_wound cd_law_wound ct_law_wound oc_law kV_law dc_law pm_law cd_law ct_law : Value} {od_is_word an_is_word od_LayoutU_initU an_LayoutU_initU od_law_power an_law_power od_law_spin an_law_spin od_law_drawn_box an_law_drawn_box od_law_drawn_word an_law_drawn_word od_law_key_of an_law_key_of od_law_listed_keys an_law_listed_keys od_law_stretches an_law_stretches od_area_of an_area_of od_Layout_word an_Layout_word od_Layout_x_bits an_Layout_x_bits od_Layout_y_bits an_Layout_y_bits od_is_integer an_is_integer od_are_integers an_are_integers od_is_box an_is_box od_check_box an_check_box od_check_layout an_check_layout od_check_layout_and_box an_check_layout_and_box od_feet an_feet od_count_multiples an_count_multiples od_count_odd_multiples an_count_odd_multiples od_count_spans an_count_spans od_saved_by an_saved_by od_saved an_saved od_count_runs an_count_runs od_is_cell an_is_cell od_check_cell an_check_cell od_Layout_key an_Layout_key od_ends an_ends od_law_right an_law_right od_law_wound an_law_wound od_law an_law : Option Addr} {sl_is_word sl_LayoutU_initU sl_law_power sl_law_spin sl_law_drawn_box sl_law_drawn_word sl_law_key_of sl_law_listed_keys sl_law_stretches sl_area_of sl_Layout_word sl_Layout_x_bits sl_Layout_y_bits sl_is_integer sl_are_integers sl_is_box sl_check_box sl_check_layout sl_check_layout_and_box sl_feet sl_count_multiples sl_count_odd_multiples sl_count_spans sl_saved_by sl_saved sl_count_runs sl_is_cell sl_check_cell sl_Layout_key sl_ends sl_law_right sl_law_wound sl_law : Array (Option Value)} {rs_Layout_word rs_Layout_x_bits rs_Layout_y_bits : List Value} {t_MOST_BITS : Tok}
    (a_Layout : PySem.W.nsIn K mainGlobals "Layout" = some (some (.ref C_Layout)))
    (a_is_word : PySem.W.nsIn K mainGlobals "is_word" = some (some (.ref f_is_word)))
    (l_is_word : K.lookup f_is_word = some ⟨oc_is_word, od_is_word, .func (PySem.W.fnOf "is_word" "is_word" (defArgs sis_word) (defBody sis_word) (defScope sis_word) .none kV_is_word dc_is_word pm_is_word an_is_word cd_is_word ct_is_word), sl_is_word⟩)
    (c_is_word : PySem.W.codeIn K cd_is_word "is_word" = true)
    (k_is_word : PySem.W.keepIn K (.ref f_is_word) = true)
    (a_LayoutU_initU : PySem.W.findIn K (.ref C_Layout) "__init__" = some (some (.ref f_LayoutU_initU)))
    (i_LayoutU_initU : PySem.W.isFn K (.ref f_LayoutU_initU) = true)
    (l_LayoutU_initU : K.lookup f_LayoutU_initU = some ⟨oc_LayoutU_initU, od_LayoutU_initU, .func (PySem.W.fnOf "__init__" "Layout.__init__" (defArgs sLayoutU_initU) (defBody sLayoutU_initU) (defScope sLayoutU_initU) .none kV_LayoutU_initU dc_LayoutU_initU pm_LayoutU_initU an_LayoutU_initU cd_LayoutU_initU ct_LayoutU_initU), sl_LayoutU_initU⟩)
    (c_LayoutU_initU : PySem.W.codeIn K cd_LayoutU_initU "Layout.__init__" = true)
    (k_LayoutU_initU : PySem.W.keepIn K (.ref f_LayoutU_initU) = true)
    (a_law_power : PySem.W.nsIn K mainGlobals "_law_power" = some (some (.ref f_law_power)))
    (l_law_power : K.lookup f_law_power = some ⟨oc_law_power, od_law_power, .func (PySem.W.fnOf "_law_power" "_law_power" (defArgs slaw_power) (defBody slaw_power) (defScope slaw_power) .none kV_law_power dc_law_power pm_law_power an_law_power cd_law_power ct_law_power), sl_law_power⟩)
    (c_law_power : PySem.W.codeIn K cd_law_power "_law_power" = true)
    (k_law_power : PySem.W.keepIn K (.ref f_law_power) = true)
    (a_law_spin : PySem.W.nsIn K mainGlobals "_law_spin" = some (some (.ref f_law_spin)))
    (l_law_spin : K.lookup f_law_spin = some ⟨oc_law_spin, od_law_spin, .func (PySem.W.fnOf "_law_spin" "_law_spin" (defArgs slaw_spin) (defBody slaw_spin) (defScope slaw_spin) .none kV_law_spin dc_law_spin pm_law_spin an_law_spin cd_law_spin ct_law_spin), sl_law_spin⟩)
    (c_law_spin : PySem.W.codeIn K cd_law_spin "_law_spin" = true)
    (k_law_spin : PySem.W.keepIn K (.ref f_law_spin) = true)
    (a_law_drawn_box : PySem.W.nsIn K mainGlobals "_law_drawn_box" = some (some (.ref f_law_drawn_box)))
    (l_law_drawn_box : K.lookup f_law_drawn_box = some ⟨oc_law_drawn_box, od_law_drawn_box, .func (PySem.W.fnOf "_law_drawn_box" "_law_drawn_box" (defArgs slaw_drawn_box) (defBody slaw_drawn_box) (defScope slaw_drawn_box) .none kV_law_drawn_box dc_law_drawn_box pm_law_drawn_box an_law_drawn_box cd_law_drawn_box ct_law_drawn_box), sl_law_drawn_box⟩)
    (c_law_drawn_box : PySem.W.codeIn K cd_law_drawn_box "_law_drawn_box" = true)
    (k_law_drawn_box : PySem.W.keepIn K (.ref f_law_drawn_box) = true)
    (a_law_drawn_word : PySem.W.nsIn K mainGlobals "_law_drawn_word" = some (some (.ref f_law_drawn_word)))
    (l_law_drawn_word : K.lookup f_law_drawn_word = some ⟨oc_law_drawn_word, od_law_drawn_word, .func (PySem.W.fnOf "_law_drawn_word" "_law_drawn_word" (defArgs slaw_drawn_word) (defBody slaw_drawn_word) (defScope slaw_drawn_word) .none kV_law_drawn_word dc_law_drawn_word pm_law_drawn_word an_law_drawn_word cd_law_drawn_word ct_law_drawn_word), sl_law_drawn_word⟩)
    (c_law_drawn_word : PySem.W.codeIn K cd_law_drawn_word "_law_drawn_word" = true)
    (k_law_drawn_word : PySem.W.keepIn K (.ref f_law_drawn_word) = true)
    (a_law_key_of : PySem.W.nsIn K mainGlobals "_law_key_of" = some (some (.ref f_law_key_of)))
    (l_law_key_of : K.lookup f_law_key_of = some ⟨oc_law_key_of, od_law_key_of, .func (PySem.W.fnOf "_law_key_of" "_law_key_of" (defArgs slaw_key_of) (defBody slaw_key_of) (defScope slaw_key_of) .none kV_law_key_of dc_law_key_of pm_law_key_of an_law_key_of cd_law_key_of ct_law_key_of), sl_law_key_of⟩)
    (c_law_key_of : PySem.W.codeIn K cd_law_key_of "_law_key_of" = true)
    (k_law_key_of : PySem.W.keepIn K (.ref f_law_key_of) = true)
    (a_law_listed_keys : PySem.W.nsIn K mainGlobals "_law_listed_keys" = some (some (.ref f_law_listed_keys)))
    (l_law_listed_keys : K.lookup f_law_listed_keys = some ⟨oc_law_listed_keys, od_law_listed_keys, .func (PySem.W.fnOf "_law_listed_keys" "_law_listed_keys" (defArgs slaw_listed_keys) (defBody slaw_listed_keys) (defScope slaw_listed_keys) .none kV_law_listed_keys dc_law_listed_keys pm_law_listed_keys an_law_listed_keys cd_law_listed_keys ct_law_listed_keys), sl_law_listed_keys⟩)
    (c_law_listed_keys : PySem.W.codeIn K cd_law_listed_keys "_law_listed_keys" = true)
    (k_law_listed_keys : PySem.W.keepIn K (.ref f_law_listed_keys) = true)
    (a_law_stretches : PySem.W.nsIn K mainGlobals "_law_stretches" = some (some (.ref f_law_stretches)))
    (l_law_stretches : K.lookup f_law_stretches = some ⟨oc_law_stretches, od_law_stretches, .func (PySem.W.fnOf "_law_stretches" "_law_stretches" (defArgs slaw_stretches) (defBody slaw_stretches) (defScope slaw_stretches) .none kV_law_stretches dc_law_stretches pm_law_stretches an_law_stretches cd_law_stretches ct_law_stretches), sl_law_stretches⟩)
    (c_law_stretches : PySem.W.codeIn K cd_law_stretches "_law_stretches" = true)
    (k_law_stretches : PySem.W.keepIn K (.ref f_law_stretches) = true)
    (a_area_of : PySem.W.nsIn K mainGlobals "area_of" = some (some (.ref f_area_of)))
    (l_area_of : K.lookup f_area_of = some ⟨oc_area_of, od_area_of, .func (PySem.W.fnOf "area_of" "area_of" (defArgs sarea_of) (defBody sarea_of) (defScope sarea_of) .none kV_area_of dc_area_of pm_area_of an_area_of cd_area_of ct_area_of), sl_area_of⟩)
    (c_area_of : PySem.W.codeIn K cd_area_of "area_of" = true)
    (k_area_of : PySem.W.keepIn K (.ref f_area_of) = true)
    (a_Layout_word : PySem.W.findIn K (.ref C_Layout) "word" = some (some (.ref p_Layout_word)))
    (g_Layout_word : PySem.W.specialIn K (.ref p_Layout_word) "__get__" = some (some (.builtin "property.__get__")))
    (t_Layout_word : PySem.W.takesIn K (.ref p_Layout_word) = some true)
    (r_Layout_word : PySem.W.recIn K p_Layout_word "property" = some (.ref f_Layout_word :: rs_Layout_word))
    (l_Layout_word : K.lookup f_Layout_word = some ⟨oc_Layout_word, od_Layout_word, .func (PySem.W.fnOf "word" "Layout.word" (defArgs sLayout_word) (defBody sLayout_word) (defScope sLayout_word) .none kV_Layout_word dc_Layout_word pm_Layout_word an_Layout_word cd_Layout_word ct_Layout_word), sl_Layout_word⟩)
    (c_Layout_word : PySem.W.codeIn K cd_Layout_word "Layout.word" = true)
    (k_Layout_word : PySem.W.keepIn K (.ref f_Layout_word) = true)
    (a_Layout_x_bits : PySem.W.findIn K (.ref C_Layout) "x_bits" = some (some (.ref p_Layout_x_bits)))
    (g_Layout_x_bits : PySem.W.specialIn K (.ref p_Layout_x_bits) "__get__" = some (some (.builtin "property.__get__")))
    (t_Layout_x_bits : PySem.W.takesIn K (.ref p_Layout_x_bits) = some true)
    (r_Layout_x_bits : PySem.W.recIn K p_Layout_x_bits "property" = some (.ref f_Layout_x_bits :: rs_Layout_x_bits))
    (l_Layout_x_bits : K.lookup f_Layout_x_bits = some ⟨oc_Layout_x_bits, od_Layout_x_bits, .func (PySem.W.fnOf "x_bits" "Layout.x_bits" (defArgs sLayout_x_bits) (defBody sLayout_x_bits) (defScope sLayout_x_bits) .none kV_Layout_x_bits dc_Layout_x_bits pm_Layout_x_bits an_Layout_x_bits cd_Layout_x_bits ct_Layout_x_bits), sl_Layout_x_bits⟩)
    (c_Layout_x_bits : PySem.W.codeIn K cd_Layout_x_bits "Layout.x_bits" = true)
    (k_Layout_x_bits : PySem.W.keepIn K (.ref f_Layout_x_bits) = true)
    (a_Layout_y_bits : PySem.W.findIn K (.ref C_Layout) "y_bits" = some (some (.ref p_Layout_y_bits)))
    (g_Layout_y_bits : PySem.W.specialIn K (.ref p_Layout_y_bits) "__get__" = some (some (.builtin "property.__get__")))
    (t_Layout_y_bits : PySem.W.takesIn K (.ref p_Layout_y_bits) = some true)
    (r_Layout_y_bits : PySem.W.recIn K p_Layout_y_bits "property" = some (.ref f_Layout_y_bits :: rs_Layout_y_bits))
    (l_Layout_y_bits : K.lookup f_Layout_y_bits = some ⟨oc_Layout_y_bits, od_Layout_y_bits, .func (PySem.W.fnOf "y_bits" "Layout.y_bits" (defArgs sLayout_y_bits) (defBody sLayout_y_bits) (defScope sLayout_y_bits) .none kV_Layout_y_bits dc_Layout_y_bits pm_Layout_y_bits an_Layout_y_bits cd_Layout_y_bits ct_Layout_y_bits), sl_Layout_y_bits⟩)
    (c_Layout_y_bits : PySem.W.codeIn K cd_Layout_y_bits "Layout.y_bits" = true)
    (k_Layout_y_bits : PySem.W.keepIn K (.ref f_Layout_y_bits) = true)
    (a_is_integer : PySem.W.nsIn K mainGlobals "is_integer" = some (some (.ref f_is_integer)))
    (l_is_integer : K.lookup f_is_integer = some ⟨oc_is_integer, od_is_integer, .func (PySem.W.fnOf "is_integer" "is_integer" (defArgs sis_integer) (defBody sis_integer) (defScope sis_integer) .none kV_is_integer dc_is_integer pm_is_integer an_is_integer cd_is_integer ct_is_integer), sl_is_integer⟩)
    (c_is_integer : PySem.W.codeIn K cd_is_integer "is_integer" = true)
    (k_is_integer : PySem.W.keepIn K (.ref f_is_integer) = true)
    (a_are_integers : PySem.W.nsIn K mainGlobals "are_integers" = some (some (.ref f_are_integers)))
    (l_are_integers : K.lookup f_are_integers = some ⟨oc_are_integers, od_are_integers, .func (PySem.W.fnOf "are_integers" "are_integers" (defArgs sare_integers) (defBody sare_integers) (defScope sare_integers) .none kV_are_integers dc_are_integers pm_are_integers an_are_integers cd_are_integers ct_are_integers), sl_are_integers⟩)
    (c_are_integers : PySem.W.codeIn K cd_are_integers "are_integers" = true)
    (k_are_integers : PySem.W.keepIn K (.ref f_are_integers) = true)
    (a_is_box : PySem.W.nsIn K mainGlobals "is_box" = some (some (.ref f_is_box)))
    (l_is_box : K.lookup f_is_box = some ⟨oc_is_box, od_is_box, .func (PySem.W.fnOf "is_box" "is_box" (defArgs sis_box) (defBody sis_box) (defScope sis_box) .none kV_is_box dc_is_box pm_is_box an_is_box cd_is_box ct_is_box), sl_is_box⟩)
    (c_is_box : PySem.W.codeIn K cd_is_box "is_box" = true)
    (k_is_box : PySem.W.keepIn K (.ref f_is_box) = true)
    (a_check_box : PySem.W.nsIn K mainGlobals "check_box" = some (some (.ref f_check_box)))
    (l_check_box : K.lookup f_check_box = some ⟨oc_check_box, od_check_box, .func (PySem.W.fnOf "check_box" "check_box" (defArgs scheck_box) (defBody scheck_box) (defScope scheck_box) .none kV_check_box dc_check_box pm_check_box an_check_box cd_check_box ct_check_box), sl_check_box⟩)
    (c_check_box : PySem.W.codeIn K cd_check_box "check_box" = true)
    (k_check_box : PySem.W.keepIn K (.ref f_check_box) = true)
    (a_check_layout : PySem.W.nsIn K mainGlobals "check_layout" = some (some (.ref f_check_layout)))
    (l_check_layout : K.lookup f_check_layout = some ⟨oc_check_layout, od_check_layout, .func (PySem.W.fnOf "check_layout" "check_layout" (defArgs scheck_layout) (defBody scheck_layout) (defScope scheck_layout) .none kV_check_layout dc_check_layout pm_check_layout an_check_layout cd_check_layout ct_check_layout), sl_check_layout⟩)
    (c_check_layout : PySem.W.codeIn K cd_check_layout "check_layout" = true)
    (k_check_layout : PySem.W.keepIn K (.ref f_check_layout) = true)
    (a_check_layout_and_box : PySem.W.nsIn K mainGlobals "check_layout_and_box" = some (some (.ref f_check_layout_and_box)))
    (l_check_layout_and_box : K.lookup f_check_layout_and_box = some ⟨oc_check_layout_and_box, od_check_layout_and_box, .func (PySem.W.fnOf "check_layout_and_box" "check_layout_and_box" (defArgs scheck_layout_and_box) (defBody scheck_layout_and_box) (defScope scheck_layout_and_box) .none kV_check_layout_and_box dc_check_layout_and_box pm_check_layout_and_box an_check_layout_and_box cd_check_layout_and_box ct_check_layout_and_box), sl_check_layout_and_box⟩)
    (c_check_layout_and_box : PySem.W.codeIn K cd_check_layout_and_box "check_layout_and_box" = true)
    (k_check_layout_and_box : PySem.W.keepIn K (.ref f_check_layout_and_box) = true)
    (a_feet : PySem.W.nsIn K mainGlobals "feet" = some (some (.ref f_feet)))
    (l_feet : K.lookup f_feet = some ⟨oc_feet, od_feet, .func (PySem.W.fnOf "feet" "feet" (defArgs sfeet) (defBody sfeet) (defScope sfeet) .none kV_feet dc_feet pm_feet an_feet cd_feet ct_feet), sl_feet⟩)
    (c_feet : PySem.W.codeIn K cd_feet "feet" = true)
    (k_feet : PySem.W.keepIn K (.ref f_feet) = true)
    (a_count_multiples : PySem.W.nsIn K mainGlobals "count_multiples" = some (some (.ref f_count_multiples)))
    (l_count_multiples : K.lookup f_count_multiples = some ⟨oc_count_multiples, od_count_multiples, .func (PySem.W.fnOf "count_multiples" "count_multiples" (defArgs scount_multiples) (defBody scount_multiples) (defScope scount_multiples) .none kV_count_multiples dc_count_multiples pm_count_multiples an_count_multiples cd_count_multiples ct_count_multiples), sl_count_multiples⟩)
    (c_count_multiples : PySem.W.codeIn K cd_count_multiples "count_multiples" = true)
    (k_count_multiples : PySem.W.keepIn K (.ref f_count_multiples) = true)
    (a_count_odd_multiples : PySem.W.nsIn K mainGlobals "count_odd_multiples" = some (some (.ref f_count_odd_multiples)))
    (l_count_odd_multiples : K.lookup f_count_odd_multiples = some ⟨oc_count_odd_multiples, od_count_odd_multiples, .func (PySem.W.fnOf "count_odd_multiples" "count_odd_multiples" (defArgs scount_odd_multiples) (defBody scount_odd_multiples) (defScope scount_odd_multiples) .none kV_count_odd_multiples dc_count_odd_multiples pm_count_odd_multiples an_count_odd_multiples cd_count_odd_multiples ct_count_odd_multiples), sl_count_odd_multiples⟩)
    (c_count_odd_multiples : PySem.W.codeIn K cd_count_odd_multiples "count_odd_multiples" = true)
    (k_count_odd_multiples : PySem.W.keepIn K (.ref f_count_odd_multiples) = true)
    (a_count_spans : PySem.W.nsIn K mainGlobals "count_spans" = some (some (.ref f_count_spans)))
    (l_count_spans : K.lookup f_count_spans = some ⟨oc_count_spans, od_count_spans, .func (PySem.W.fnOf "count_spans" "count_spans" (defArgs scount_spans) (defBody scount_spans) (defScope scount_spans) .none kV_count_spans dc_count_spans pm_count_spans an_count_spans cd_count_spans ct_count_spans), sl_count_spans⟩)
    (c_count_spans : PySem.W.codeIn K cd_count_spans "count_spans" = true)
    (k_count_spans : PySem.W.keepIn K (.ref f_count_spans) = true)
    (a_saved_by : PySem.W.nsIn K mainGlobals "saved_by" = some (some (.ref f_saved_by)))
    (l_saved_by : K.lookup f_saved_by = some ⟨oc_saved_by, od_saved_by, .func (PySem.W.fnOf "saved_by" "saved_by" (defArgs ssaved_by) (defBody ssaved_by) (defScope ssaved_by) .none kV_saved_by dc_saved_by pm_saved_by an_saved_by cd_saved_by ct_saved_by), sl_saved_by⟩)
    (c_saved_by : PySem.W.codeIn K cd_saved_by "saved_by" = true)
    (k_saved_by : PySem.W.keepIn K (.ref f_saved_by) = true)
    (a_saved : PySem.W.nsIn K mainGlobals "saved" = some (some (.ref f_saved)))
    (l_saved : K.lookup f_saved = some ⟨oc_saved, od_saved, .func (PySem.W.fnOf "saved" "saved" (defArgs ssaved) (defBody ssaved) (defScope ssaved) .none kV_saved dc_saved pm_saved an_saved cd_saved ct_saved), sl_saved⟩)
    (c_saved : PySem.W.codeIn K cd_saved "saved" = true)
    (k_saved : PySem.W.keepIn K (.ref f_saved) = true)
    (a_count_runs : PySem.W.nsIn K mainGlobals "count_runs" = some (some (.ref f_count_runs)))
    (l_count_runs : K.lookup f_count_runs = some ⟨oc_count_runs, od_count_runs, .func (PySem.W.fnOf "count_runs" "count_runs" (defArgs scount_runs) (defBody scount_runs) (defScope scount_runs) .none kV_count_runs dc_count_runs pm_count_runs an_count_runs cd_count_runs ct_count_runs), sl_count_runs⟩)
    (c_count_runs : PySem.W.codeIn K cd_count_runs "count_runs" = true)
    (k_count_runs : PySem.W.keepIn K (.ref f_count_runs) = true)
    (a_is_cell : PySem.W.nsIn K mainGlobals "is_cell" = some (some (.ref f_is_cell)))
    (l_is_cell : K.lookup f_is_cell = some ⟨oc_is_cell, od_is_cell, .func (PySem.W.fnOf "is_cell" "is_cell" (defArgs sis_cell) (defBody sis_cell) (defScope sis_cell) .none kV_is_cell dc_is_cell pm_is_cell an_is_cell cd_is_cell ct_is_cell), sl_is_cell⟩)
    (c_is_cell : PySem.W.codeIn K cd_is_cell "is_cell" = true)
    (k_is_cell : PySem.W.keepIn K (.ref f_is_cell) = true)
    (a_check_cell : PySem.W.nsIn K mainGlobals "check_cell" = some (some (.ref f_check_cell)))
    (l_check_cell : K.lookup f_check_cell = some ⟨oc_check_cell, od_check_cell, .func (PySem.W.fnOf "check_cell" "check_cell" (defArgs scheck_cell) (defBody scheck_cell) (defScope scheck_cell) .none kV_check_cell dc_check_cell pm_check_cell an_check_cell cd_check_cell ct_check_cell), sl_check_cell⟩)
    (c_check_cell : PySem.W.codeIn K cd_check_cell "check_cell" = true)
    (k_check_cell : PySem.W.keepIn K (.ref f_check_cell) = true)
    (a_Layout_key : PySem.W.findIn K (.ref C_Layout) "key" = some (some (.ref f_Layout_key)))
    (i_Layout_key : PySem.W.isFn K (.ref f_Layout_key) = true)
    (l_Layout_key : K.lookup f_Layout_key = some ⟨oc_Layout_key, od_Layout_key, .func (PySem.W.fnOf "key" "Layout.key" (defArgs sLayout_key) (defBody sLayout_key) (defScope sLayout_key) .none kV_Layout_key dc_Layout_key pm_Layout_key an_Layout_key cd_Layout_key ct_Layout_key), sl_Layout_key⟩)
    (c_Layout_key : PySem.W.codeIn K cd_Layout_key "Layout.key" = true)
    (k_Layout_key : PySem.W.keepIn K (.ref f_Layout_key) = true)
    (a_ends : PySem.W.nsIn K mainGlobals "ends" = some (some (.ref f_ends)))
    (l_ends : K.lookup f_ends = some ⟨oc_ends, od_ends, .func (PySem.W.fnOf "ends" "ends" (defArgs sends) (defBody sends) (defScope sends) .none kV_ends dc_ends pm_ends an_ends cd_ends ct_ends), sl_ends⟩)
    (c_ends : PySem.W.codeIn K cd_ends "ends" = true)
    (k_ends : PySem.W.keepIn K (.ref f_ends) = true)
    (a_law_right : PySem.W.nsIn K mainGlobals "_law_right" = some (some (.ref f_law_right)))
    (l_law_right : K.lookup f_law_right = some ⟨oc_law_right, od_law_right, .func (PySem.W.fnOf "_law_right" "_law_right" (defArgs slaw_right) (defBody slaw_right) (defScope slaw_right) .none kV_law_right dc_law_right pm_law_right an_law_right cd_law_right ct_law_right), sl_law_right⟩)
    (c_law_right : PySem.W.codeIn K cd_law_right "_law_right" = true)
    (k_law_right : PySem.W.keepIn K (.ref f_law_right) = true)
    (a_law_wound : PySem.W.nsIn K mainGlobals "_law_wound" = some (some (.ref f_law_wound)))
    (l_law_wound : K.lookup f_law_wound = some ⟨oc_law_wound, od_law_wound, .func (PySem.W.fnOf "_law_wound" "_law_wound" (defArgs slaw_wound) (defBody slaw_wound) (defScope slaw_wound) .none kV_law_wound dc_law_wound pm_law_wound an_law_wound cd_law_wound ct_law_wound), sl_law_wound⟩)
    (c_law_wound : PySem.W.codeIn K cd_law_wound "_law_wound" = true)
    (k_law_wound : PySem.W.keepIn K (.ref f_law_wound) = true)
    (a_law : PySem.W.nsIn K mainGlobals "law" = some (some (.ref f_law)))
    (l_law : K.lookup f_law = some ⟨oc_law, od_law, .func (PySem.W.fnOf "law" "law" (defArgs slaw) (defBody slaw) (defScope slaw) .none kV_law dc_law pm_law an_law cd_law ct_law), sl_law⟩)
    (c_law : PySem.W.codeIn K cd_law "law" = true)
    (k_law : PySem.W.keepIn K (.ref f_law) = true)
    (pg_Layout : PySem.W.plainGet K C_Layout Str.empty = true)
    (hd_Layout : PySem.W.hasDictIn K C_Layout = true)
    (po_Layout : PySem.W.plainOver K C_Layout = true)
    (sa_Layout : PySem.W.findIn K (.ref C_Layout) "__setattr__" = some (some (.builtin "object.__setattr__")))
    (mk_Layout : PySem.W.makesIn K C_Layout = true)
    (kc_Layout : PySem.W.keepIn K (.ref C_Layout) = true)
    (ia_Layout : PySem.W.findIn K (.ref C_Layout) "__class__" = some (some (.builtin "object.__class__")))
    (ib_Layout : PySem.W.specialIn K (.builtin "object.__class__") "__get__" = some (some (.builtin "getset_descriptor.__get__")))
    (ic_Layout : PySem.W.takesIn K (.builtin "object.__class__") = some true)
    (id_Layout : PySem.W.mroIn K C_Layout (.type "object") = some true)
    (ne_Layout : PySem.W.findIn K (.ref C_Layout) "__ne__" = some (some (.builtin "object.__ne__")))
    (tc_Layout : PySem.W.typeIn K (.ref C_Layout) = some (.type "type"))
    (no_Layout_word : PySem.W.findIn K (.ref C_Layout) "_word" = some none)
    (no_Layout_x_bits : PySem.W.findIn K (.ref C_Layout) "_x_bits" = some none)
    (no_Layout_y_bits : PySem.W.findIn K (.ref C_Layout) "_y_bits" = some none)
    (z_all : PySem.W.nsIn K mainGlobals "all" = some none)
    (z_bool : PySem.W.nsIn K mainGlobals "bool" = some none)
    (z_int : PySem.W.nsIn K mainGlobals "int" = some none)
    (z_isinstance : PySem.W.nsIn K mainGlobals "isinstance" = some none)
    (z_len : PySem.W.nsIn K mainGlobals "len" = some none)
    (z_max : PySem.W.nsIn K mainGlobals "max" = some none)
    (z_min : PySem.W.nsIn K mainGlobals "min" = some none)
    (z_range : PySem.W.nsIn K mainGlobals "range" = some none)
    (z_repr : PySem.W.nsIn K mainGlobals "repr" = some none)
    (z_sorted : PySem.W.nsIn K mainGlobals "sorted" = some none)
    (z_str : PySem.W.nsIn K mainGlobals "str" = some none)
    (z_sum : PySem.W.nsIn K mainGlobals "sum" = some none)
    (z_tuple : PySem.W.nsIn K mainGlobals "tuple" = some none)
    (v_MOST_BITS : PySem.W.nsIn K mainGlobals "MOST_BITS" = some (some (.int 100 t_MOST_BITS))) :
    ∃ (Z : Ads) (fd : FuncData), (∀ (s : Shared) (v : Value), BindsTo s fd ⟨[v], []⟩ [("script", v)]) ∧ ∀ base : Heap, K.In base → base.Ns mainGlobals mg → FnG l.prog w K mg base 9 fa fd ["script"] (splaw K Z) := by
  have e := hfa.symm.trans (PySem.W.mg_of X G a_law)
  cases e
  have F_is_word := fun_mk (st := sis_word) l_is_word c_is_word k_is_word
  have b_is_word := F_is_word.binds (ps := ["value"]) fun _ _ _ _ _ _ us hl => match us, hl with | [_], _ => rfl
  have F_LayoutU_initU := fun_mk (st := sLayoutU_initU) l_LayoutU_initU c_LayoutU_initU k_LayoutU_initU
  have b_LayoutU_initU := F_LayoutU_initU.binds (ps := ["self", "word"]) fun _ _ _ _ _ _ us hl => match us, hl with | [_, _], _ => rfl
  have F_law_power := fun_mk (st := slaw_power) l_law_power c_law_power k_law_power
  have b_law_power := F_law_power.binds (ps := ["depth"]) fun _ _ _ _ _ _ us hl => match us, hl with | [_], _ => rfl
  have F_law_spin := fun_mk (st := slaw_spin) l_law_spin c_law_spin k_law_spin
  have b_law_spin := F_law_spin.binds (ps := ["reel", "many"]) fun _ _ _ _ _ _ us hl => match us, hl with | [_, _], _ => rfl
  have F_law_drawn_box := fun_mk (st := slaw_drawn_box) l_law_drawn_box c_law_drawn_box k_law_drawn_box
  have b_law_drawn_box := F_law_drawn_box.binds (ps := ["reel", "word"]) fun _ _ _ _ _ _ us hl => match us, hl with | [_, _], _ => rfl
  have F_law_drawn_word := fun_mk (st := slaw_drawn_word) l_law_drawn_word c_law_drawn_word k_law_drawn_word
  have b_law_drawn_word := F_law_drawn_word.binds (ps := ["reel", "x_most", "y_most"]) fun _ _ _ _ _ _ us hl => match us, hl with | [_, _, _], _ => rfl
  have F_law_key_of := fun_mk (st := slaw_key_of) l_law_key_of c_law_key_of k_law_key_of
  have b_law_key_of := F_law_key_of.binds (ps := ["word", "x", "y"]) fun _ _ _ _ _ _ us hl => match us, hl with | [_, _, _], _ => rfl
  have F_law_listed_keys := fun_mk (st := slaw_listed_keys) l_law_listed_keys c_law_listed_keys k_law_listed_keys
  have b_law_listed_keys := F_law_listed_keys.binds (ps := ["word", "box"]) fun _ _ _ _ _ _ us hl => match us, hl with | [_, _], _ => rfl
  have F_law_stretches := fun_mk (st := slaw_stretches) l_law_stretches c_law_stretches k_law_stretches
  have b_law_stretches := F_law_stretches.binds (ps := ["keys"]) fun _ _ _ _ _ _ us hl => match us, hl with | [_], _ => rfl
  have F_area_of := fun_mk (st := sarea_of) l_area_of c_area_of k_area_of
  have b_area_of := F_area_of.binds (ps := ["box"]) fun _ _ _ _ _ _ us hl => match us, hl with | [_], _ => rfl
  have F_Layout_word := fun_mk (st := sLayout_word) l_Layout_word c_Layout_word k_Layout_word
  have b_Layout_word := F_Layout_word.binds (ps := ["self"]) fun _ _ _ _ _ _ us hl => match us, hl with | [_], _ => rfl
  have F_Layout_x_bits := fun_mk (st := sLayout_x_bits) l_Layout_x_bits c_Layout_x_bits k_Layout_x_bits
  have b_Layout_x_bits := F_Layout_x_bits.binds (ps := ["self"]) fun _ _ _ _ _ _ us hl => match us, hl with | [_], _ => rfl
  have F_Layout_y_bits := fun_mk (st := sLayout_y_bits) l_Layout_y_bits c_Layout_y_bits k_Layout_y_bits
  have b_Layout_y_bits := F_Layout_y_bits.binds (ps := ["self"]) fun _ _ _ _ _ _ us hl => match us, hl with | [_], _ => rfl
  have F_is_integer := fun_mk (st := sis_integer) l_is_integer c_is_integer k_is_integer
  have b_is_integer := F_is_integer.binds (ps := ["value"]) fun _ _ _ _ _ _ us hl => match us, hl with | [_], _ => rfl
  have F_are_integers := fun_mk (st := sare_integers) l_are_integers c_are_integers k_are_integers
  have b_are_integers := F_are_integers.binds (ps := ["value", "many"]) fun _ _ _ _ _ _ us hl => match us, hl with | [_, _], _ => rfl
  have F_is_box := fun_mk (st := sis_box) l_is_box c_is_box k_is_box
  have b_is_box := F_is_box.binds (ps := ["value", "x_bits", "y_bits"]) fun _ _ _ _ _ _ us hl => match us, hl with | [_, _, _], _ => rfl
  have F_check_box := fun_mk (st := scheck_box) l_check_box c_check_box k_check_box
  have b_check_box := F_check_box.binds (ps := ["box", "x_bits", "y_bits"]) fun _ _ _ _ _ _ us hl => match us, hl with | [_, _, _], _ => rfl
  have F_check_layout := fun_mk (st := scheck_layout) l_check_layout c_check_layout k_check_layout
  have b_check_layout := F_check_layout.binds (ps := ["layout"]) fun _ _ _ _ _ _ us hl => match us, hl with | [_], _ => rfl
  have F_check_layout_and_box := fun_mk (st := scheck_layout_and_box) l_check_layout_and_box c_check_layout_and_box k_check_layout_and_box
  have b_check_layout_and_box := F_check_layout_and_box.binds (ps := ["layout", "box"]) fun _ _ _ _ _ _ us hl => match us, hl with | [_, _], _ => rfl
  have F_feet := fun_mk (st := sfeet) l_feet c_feet k_feet
  have b_feet := F_feet.binds (ps := ["word"]) fun _ _ _ _ _ _ us hl => match us, hl with | [_], _ => rfl
  have F_count_multiples := fun_mk (st := scount_multiples) l_count_multiples c_count_multiples k_count_multiples
  have b_count_multiples := F_count_multiples.binds (ps := ["digit", "low", "high"]) fun _ _ _ _ _ _ us hl => match us, hl with | [_, _, _], _ => rfl
  have F_count_odd_multiples := fun_mk (st := scount_odd_multiples) l_count_odd_multiples c_count_odd_multiples k_count_odd_multiples
  have b_count_odd_multiples := F_count_odd_multiples.binds (ps := ["digit", "low", "high"]) fun _ _ _ _ _ _ us hl => match us, hl with | [_, _, _], _ => rfl
  have F_count_spans := fun_mk (st := scount_spans) l_count_spans c_count_spans k_count_spans
  have b_count_spans := F_count_spans.binds (ps := ["digit", "low", "high"]) fun _ _ _ _ _ _ us hl => match us, hl with | [_, _, _], _ => rfl
  have F_saved_by := fun_mk (st := ssaved_by) l_saved_by c_saved_by k_saved_by
  have b_saved_by := F_saved_by.binds (ps := ["letter", "i", "j", "box"]) fun _ _ _ _ _ _ us hl => match us, hl with | [_, _, _, _], _ => rfl
  have F_saved := fun_mk (st := ssaved) l_saved c_saved k_saved
  have b_saved := F_saved.binds (ps := ["layout", "box"]) fun _ _ _ _ _ _ us hl => match us, hl with | [_, _], _ => rfl
  have F_count_runs := fun_mk (st := scount_runs) l_count_runs c_count_runs k_count_runs
  have b_count_runs := F_count_runs.binds (ps := ["layout", "box"]) fun _ _ _ _ _ _ us hl => match us, hl with | [_, _], _ => rfl
  have F_is_cell := fun_mk (st := sis_cell) l_is_cell c_is_cell k_is_cell
  have b_is_cell := F_is_cell.binds (ps := ["value", "x_bits", "y_bits"]) fun _ _ _ _ _ _ us hl => match us, hl with | [_, _, _], _ => rfl
  have F_check_cell := fun_mk (st := scheck_cell) l_check_cell c_check_cell k_check_cell
  have b_check_cell := F_check_cell.binds (ps := ["cell", "x_bits", "y_bits"]) fun _ _ _ _ _ _ us hl => match us, hl with | [_, _, _], _ => rfl
  have F_Layout_key := fun_mk (st := sLayout_key) l_Layout_key c_Layout_key k_Layout_key
  have b_Layout_key := F_Layout_key.binds (ps := ["self", "cell"]) fun _ _ _ _ _ _ us hl => match us, hl with | [_, _], _ => rfl
  have F_ends := fun_mk (st := sends) l_ends c_ends k_ends
  have b_ends := F_ends.binds (ps := ["layout", "box"]) fun _ _ _ _ _ _ us hl => match us, hl with | [_, _], _ => rfl
  have F_law_right := fun_mk (st := slaw_right) l_law_right c_law_right k_law_right
  have b_law_right := F_law_right.binds (ps := ["reel", "most"]) fun _ _ _ _ _ _ us hl => match us, hl with | [_, _], _ => rfl
  have F_law_wound := fun_mk (st := slaw_wound) l_law_wound c_law_wound k_law_wound
  have b_law_wound := F_law_wound.binds (ps := ["script", "k"]) fun _ _ _ _ _ _ us hl => match us, hl with | [_, _], _ => rfl
  have F_law := fun_mk (st := slaw) l_law c_law k_law
  have b_law := F_law.binds (ps := ["script"]) fun _ _ _ _ _ _ us hl => match us, hl with | [_], _ => rfl
  have T : Top K mg ⟨C_Layout, f_is_word, _, f_LayoutU_initU, _, f_law_power, _, f_law_spin, _, f_law_drawn_box, _, f_law_drawn_word, _, f_law_key_of, _, f_law_listed_keys, _, f_law_stretches, _, f_area_of, _, f_Layout_word, _, p_Layout_word, f_Layout_x_bits, _, p_Layout_x_bits, f_Layout_y_bits, _, p_Layout_y_bits, f_is_integer, _, f_are_integers, _, f_is_box, _, f_check_box, _, f_check_layout, _, f_check_layout_and_box, _, f_feet, _, f_count_multiples, _, f_count_odd_multiples, _, f_count_spans, _, f_saved_by, _, f_saved, _, f_count_runs, _, f_is_cell, _, f_check_cell, _, f_Layout_key, _, f_ends, _, f_law_right, _, f_law_wound, _, fa, _⟩ := ⟨F_is_word, b_is_word, PySem.W.mg_of X G a_is_word, F_LayoutU_initU, b_LayoutU_initU, ⟨mk_Layout, a_LayoutU_initU, i_LayoutU_initU, kc_Layout⟩, F_law_power, b_law_power, PySem.W.mg_of X G a_law_power, F_law_spin, b_law_spin, PySem.W.mg_of X G a_law_spin, F_law_drawn_box, b_law_drawn_box, PySem.W.mg_of X G a_law_drawn_box, F_law_drawn_word, b_law_drawn_word, PySem.W.mg_of X G a_law_drawn_word, F_law_key_of, b_law_key_of, PySem.W.mg_of X G a_law_key_of, F_law_listed_keys, b_law_listed_keys, PySem.W.mg_of X G a_law_listed_keys, F_law_stretches, b_law_stretches, PySem.W.mg_of X G a_law_stretches, F_area_of, b_area_of, PySem.W.mg_of X G a_area_of, F_Layout_word, b_Layout_word, ⟨a_Layout_word, g_Layout_word, t_Layout_word, ⟨_, r_Layout_word⟩⟩, F_Layout_x_bits, b_Layout_x_bits, ⟨a_Layout_x_bits, g_Layout_x_bits, t_Layout_x_bits, ⟨_, r_Layout_x_bits⟩⟩, F_Layout_y_bits, b_Layout_y_bits, ⟨a_Layout_y_bits, g_Layout_y_bits, t_Layout_y_bits, ⟨_, r_Layout_y_bits⟩⟩, F_is_integer, b_is_integer, PySem.W.mg_of X G a_is_integer, F_are_integers, b_are_integers, PySem.W.mg_of X G a_are_integers, F_is_box, b_is_box, PySem.W.mg_of X G a_is_box, F_check_box, b_check_box, PySem.W.mg_of X G a_check_box, F_check_layout, b_check_layout, PySem.W.mg_of X G a_check_layout, F_check_layout_and_box, b_check_layout_and_box, PySem.W.mg_of X G a_check_layout_and_box, F_feet, b_feet, PySem.W.mg_of X G a_feet, F_count_multiples, b_count_multiples, PySem.W.mg_of X G a_count_multiples, F_count_odd_multiples, b_count_odd_multiples, PySem.W.mg_of X G a_count_odd_multiples, F_count_spans, b_count_spans, PySem.W.mg_of X G a_count_spans, F_saved_by, b_saved_by, PySem.W.mg_of X G a_saved_by, F_saved, b_saved, PySem.W.mg_of X G a_saved, F_count_runs, b_count_runs, PySem.W.mg_of X G a_count_runs, F_is_cell, b_is_cell, PySem.W.mg_of X G a_is_cell, F_check_cell, b_check_cell, PySem.W.mg_of X G a_check_cell, F_Layout_key, b_Layout_key, ⟨a_Layout_key, i_Layout_key, k_Layout_key⟩, F_ends, b_ends, PySem.W.mg_of X G a_ends, F_law_right, b_law_right, PySem.W.mg_of X G a_law_right, F_law_wound, b_law_wound, PySem.W.mg_of X G a_law_wound, F_law, b_law, PySem.W.mg_of X G a_law, PySem.W.mg_of X G a_Layout, ⟨pg_Layout, hd_Layout, po_Layout, sa_Layout⟩, ⟨⟨pg_Layout, hd_Layout, po_Layout, sa_Layout⟩, ia_Layout, ib_Layout, ic_Layout, id_Layout, kitOne_self _ _⟩, ne_Layout, tc_Layout, no_Layout_word, no_Layout_x_bits, no_Layout_y_bits, PySem.W.mg_none_of X G z_all, PySem.W.mg_none_of X G z_bool, PySem.W.mg_none_of X G z_int, PySem.W.mg_none_of X G z_isinstance, PySem.W.mg_none_of X G z_len, PySem.W.mg_none_of X G z_max, PySem.W.mg_none_of X G z_min, PySem.W.mg_none_of X G z_range, PySem.W.mg_none_of X G z_repr, PySem.W.mg_none_of X G z_sorted, PySem.W.mg_none_of X G z_str, PySem.W.mg_none_of X G z_sum, PySem.W.mg_none_of X G z_tuple, ⟨_, PySem.W.mg_of X G v_MOST_BITS⟩⟩
  exact ⟨_, PySem.W.fnOf "law" "law" (defArgs slaw) (defBody slaw) (defScope slaw) .none kV_law dc_law pm_law an_law cd_law ct_law, fun s v => .of_eq rfl, fun base _ _ => oklaw T⟩
theorem all_mk2 {l : PySem.W.OpenLaw} {w : World} {K : PySem.W.Frag} {mg : Str → Option Value} {fa : Addr} (h : ∃ (Z : Ads) (fd : FuncData), (∀ (s : Shared) (v : Value), BindsTo s fd ⟨[v], []⟩ [("script", v)]) ∧ ∀ base : Heap, K.In base → base.Ns mainGlobals mg → FnG l.prog w K mg base 9 fa fd ["script"] (splaw K Z)) :
    ∃ fd : FuncData, (∀ (s : Shared) (v : Value), BindsTo s fd ⟨[v], []⟩ [("script", v)]) ∧ ∀ base : Heap, K.In base → base.Ns mainGlobals mg → FnG l.prog w K mg base 9 fa fd ["script"] (splaw_any K) := by
  obtain ⟨Z, fd, h1, h2⟩ := h
  exact ⟨fd, h1, h2⟩
end Lk
open PySem PySem.W PyProof.Rows
set_option maxHeartbeats 0 in
theorem PySem.Challenge.cw_lacekeys_k04_runs_by_listing_keys_holds : PySem.Challenge.rw_lacekeys_k04_runs_by_listing_keys.Holds := by
  w_on; o_law; k_head; (case hw => w_witness2)
  k_fill
  refine Lk.walkG (l := PySem.Challenge.rw_lacekeys_k04_runs_by_listing_keys) (n := 63) (k := 9) (x := "script") (sp := fun w => Lk.splaw_any _) rfl (by decide) rfl ⟨rfl, by decide, by decide⟩ (fun w h Y => PySem.W.kIn_of Y) ?F (fun _ _ a ns hl _ hS => ⟨a, ns, rfl, hS, hl, fun _ => rfl⟩)
  case F =>
    intro w mg fa h KX G hmg
    refine' Lk.all_mk2 (Lk.all_mk (l := PySem.Challenge.rw_lacekeys_k04_runs_by_listing_keys) (w := w) KX G hmg ?a_Layout ?a_is_word ?l_is_word ?c_is_word ?k_is_word ?a_LayoutU_initU ?i_LayoutU_initU ?l_LayoutU_initU ?c_LayoutU_initU ?k_LayoutU_initU ?a_law_power ?l_law_power ?c_law_power ?k_law_power ?a_law_spin ?l_law_spin ?c_law_spin ?k_law_spin ?a_law_drawn_box ?l_law_drawn_box ?c_law_drawn_box ?k_law_drawn_box ?a_law_drawn_word ?l_law_drawn_word ?c_law_drawn_word ?k_law_drawn_word ?a_law_key_of ?l_law_key_of ?c_law_key_of ?k_law_key_of ?a_law_listed_keys ?l_law_listed_keys ?c_law_listed_keys ?k_law_listed_keys ?a_law_stretches ?l_law_stretches ?c_law_stretches ?k_law_stretches ?a_area_of ?l_area_of ?c_area_of ?k_area_of ?a_Layout_word ?g_Layout_word ?t_Layout_word ?r_Layout_word ?l_Layout_word ?c_Layout_word ?k_Layout_word ?a_Layout_x_bits ?g_Layout_x_bits ?t_Layout_x_bits ?r_Layout_x_bits ?l_Layout_x_bits ?c_Layout_x_bits ?k_Layout_x_bits ?a_Layout_y_bits ?g_Layout_y_bits ?t_Layout_y_bits ?r_Layout_y_bits ?l_Layout_y_bits ?c_Layout_y_bits ?k_Layout_y_bits ?a_is_integer ?l_is_integer ?c_is_integer ?k_is_integer ?a_are_integers ?l_are_integers ?c_are_integers ?k_are_integers ?a_is_box ?l_is_box ?c_is_box ?k_is_box ?a_check_box ?l_check_box ?c_check_box ?k_check_box ?a_check_layout ?l_check_layout ?c_check_layout ?k_check_layout ?a_check_layout_and_box ?l_check_layout_and_box ?c_check_layout_and_box ?k_check_layout_and_box ?a_feet ?l_feet ?c_feet ?k_feet ?a_count_multiples ?l_count_multiples ?c_count_multiples ?k_count_multiples ?a_count_odd_multiples ?l_count_odd_multiples ?c_count_odd_multiples ?k_count_odd_multiples ?a_count_spans ?l_count_spans ?c_count_spans ?k_count_spans ?a_saved_by ?l_saved_by ?c_saved_by ?k_saved_by ?a_saved ?l_saved ?c_saved ?k_saved ?a_count_runs ?l_count_runs ?c_count_runs ?k_count_runs ?a_is_cell ?l_is_cell ?c_is_cell ?k_is_cell ?a_check_cell ?l_check_cell ?c_check_cell ?k_check_cell ?a_Layout_key ?i_Layout_key ?l_Layout_key ?c_Layout_key ?k_Layout_key ?a_ends ?l_ends ?c_ends ?k_ends ?a_law_right ?l_law_right ?c_law_right ?k_law_right ?a_law_wound ?l_law_wound ?c_law_wound ?k_law_wound ?a_law ?l_law ?c_law ?k_law ?pg_Layout ?hd_Layout ?po_Layout ?sa_Layout ?mk_Layout ?kc_Layout ?ia_Layout ?ib_Layout ?ic_Layout ?id_Layout ?ne_Layout ?tc_Layout ?no_Layout_word ?no_Layout_x_bits ?no_Layout_y_bits ?z_all ?z_bool ?z_int ?z_isinstance ?z_len ?z_max ?z_min ?z_range ?z_repr ?z_sorted ?z_str ?z_sum ?z_tuple ?v_MOST_BITS)
    (case a_Layout => k_is)
    (case a_is_word => k_is)
    (case l_is_word => k_is)
    (case c_is_word => k_is)
    (case k_is_word => k_is)
    (case a_LayoutU_initU => k_is)
    (case i_LayoutU_initU => k_is)
    (case l_LayoutU_initU => k_is)
    (case c_LayoutU_initU => k_is)
    (case k_LayoutU_initU => k_is)
    (case a_law_power => k_is)
    (case l_law_power => k_is)
    (case c_law_power => k_is)
    (case k_law_power => k_is)
    (case a_law_spin => k_is)
    (case l_law_spin => k_is)
    (case c_law_spin => k_is)
    (case k_law_spin => k_is)
    (case a_law_drawn_box => k_is)
    (case l_law_drawn_box => k_is)
    (case c_law_drawn_box => k_is)
    (case k_law_drawn_box => k_is)
    (case a_law_drawn_word => k_is)
    (case l_law_drawn_word => k_is)
    (case c_law_drawn_word => k_is)
    (case k_law_drawn_word => k_is)
    (case a_law_key_of => k_is)
    (case l_law_key_of => k_is)
    (case c_law_key_of => k_is)
    (case k_law_key_of => k_is)
    (case a_law_listed_keys => k_is)
    (case l_law_listed_keys => k_is)
    (case c_law_listed_keys => k_is)
    (case k_law_listed_keys => k_is)
    (case a_law_stretches => k_is)
    (case l_law_stretches => k_is)
    (case c_law_stretches => k_is)
    (case k_law_stretches => k_is)
    (case a_area_of => k_is)
    (case l_area_of => k_is)
    (case c_area_of => k_is)
    (case k_area_of => k_is)
    (case a_Layout_word => k_is)
    (case g_Layout_word => k_is)
    (case t_Layout_word => k_is)
    (case r_Layout_word => k_is)
    (case l_Layout_word => k_is)
    (case c_Layout_word => k_is)
    (case k_Layout_word => k_is)
    (case a_Layout_x_bits => k_is)
    (case g_Layout_x_bits => k_is)
    (case t_Layout_x_bits => k_is)
    (case r_Layout_x_bits => k_is)
    (case l_Layout_x_bits => k_is)
    (case c_Layout_x_bits => k_is)
    (case k_Layout_x_bits => k_is)
    (case a_Layout_y_bits => k_is)
    (case g_Layout_y_bits => k_is)
    (case t_Layout_y_bits => k_is)
    (case r_Layout_y_bits => k_is)
    (case l_Layout_y_bits => k_is)
    (case c_Layout_y_bits => k_is)
    (case k_Layout_y_bits => k_is)
    (case a_is_integer => k_is)
    (case l_is_integer => k_is)
    (case c_is_integer => k_is)
    (case k_is_integer => k_is)
    (case a_are_integers => k_is)
    (case l_are_integers => k_is)
    (case c_are_integers => k_is)
    (case k_are_integers => k_is)
    (case a_is_box => k_is)
    (case l_is_box => k_is)
    (case c_is_box => k_is)
    (case k_is_box => k_is)
    (case a_check_box => k_is)
    (case l_check_box => k_is)
    (case c_check_box => k_is)
    (case k_check_box => k_is)
    (case a_check_layout => k_is)
    (case l_check_layout => k_is)
    (case c_check_layout => k_is)
    (case k_check_layout => k_is)
    (case a_check_layout_and_box => k_is)
    (case l_check_layout_and_box => k_is)
    (case c_check_layout_and_box => k_is)
    (case k_check_layout_and_box => k_is)
    (case a_feet => k_is)
    (case l_feet => k_is)
    (case c_feet => k_is)
    (case k_feet => k_is)
    (case a_count_multiples => k_is)
    (case l_count_multiples => k_is)
    (case c_count_multiples => k_is)
    (case k_count_multiples => k_is)
    (case a_count_odd_multiples => k_is)
    (case l_count_odd_multiples => k_is)
    (case c_count_odd_multiples => k_is)
    (case k_count_odd_multiples => k_is)
    (case a_count_spans => k_is)
    (case l_count_spans => k_is)
    (case c_count_spans => k_is)
    (case k_count_spans => k_is)
    (case a_saved_by => k_is)
    (case l_saved_by => k_is)
    (case c_saved_by => k_is)
    (case k_saved_by => k_is)
    (case a_saved => k_is)
    (case l_saved => k_is)
    (case c_saved => k_is)
    (case k_saved => k_is)
    (case a_count_runs => k_is)
    (case l_count_runs => k_is)
    (case c_count_runs => k_is)
    (case k_count_runs => k_is)
    (case a_is_cell => k_is)
    (case l_is_cell => k_is)
    (case c_is_cell => k_is)
    (case k_is_cell => k_is)
    (case a_check_cell => k_is)
    (case l_check_cell => k_is)
    (case c_check_cell => k_is)
    (case k_check_cell => k_is)
    (case a_Layout_key => k_is)
    (case i_Layout_key => k_is)
    (case l_Layout_key => k_is)
    (case c_Layout_key => k_is)
    (case k_Layout_key => k_is)
    (case a_ends => k_is)
    (case l_ends => k_is)
    (case c_ends => k_is)
    (case k_ends => k_is)
    (case a_law_right => k_is)
    (case l_law_right => k_is)
    (case c_law_right => k_is)
    (case k_law_right => k_is)
    (case a_law_wound => k_is)
    (case l_law_wound => k_is)
    (case c_law_wound => k_is)
    (case k_law_wound => k_is)
    (case a_law => k_is)
    (case l_law => k_is)
    (case c_law => k_is)
    (case k_law => k_is)
    (case pg_Layout => k_is)
    (case hd_Layout => k_is)
    (case po_Layout => k_is)
    (case sa_Layout => k_is)
    (case mk_Layout => k_is)
    (case kc_Layout => k_is)
    (case ia_Layout => k_is)
    (case ib_Layout => k_is)
    (case ic_Layout => k_is)
    (case id_Layout => k_is)
    (case ne_Layout => k_is)
    (case tc_Layout => k_is)
    (case no_Layout_word => k_is)
    (case no_Layout_x_bits => k_is)
    (case no_Layout_y_bits => k_is)
    (case z_all => k_is)
    (case z_bool => k_is)
    (case z_int => k_is)
    (case z_isinstance => k_is)
    (case z_len => k_is)
    (case z_max => k_is)
    (case z_min => k_is)
    (case z_range => k_is)
    (case z_repr => k_is)
    (case z_sorted => k_is)
    (case z_str => k_is)
    (case z_sum => k_is)
    (case z_tuple => k_is)
    (case v_MOST_BITS => k_is)

