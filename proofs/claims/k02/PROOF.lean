import PyProof.Rows.All
import Wide.All
import OpenK.AllK
import Wide.FinOn
import HandS.ForMost
import HandS.Wide
import HandS.WideBits
import HandS.Property
import HandS.OwnEq
import HandS.IsInst
import HandS.Style
import HandS.Codes
import HandS.SortInts
import PyProof.ReprRoads
import PyProof.Rows.RegReprOcc
import PyProof.ReprLen
import PyProof.Rows.StrRev
import PySem.Challenge.RW_lacekeys_k02_made_layouts
set_option linter.all false
namespace Lk
/-! ### words as lists of letters: true is x -/
def nx (l : List Bool) : Nat := l.count true
def ny (l : List Bool) : Nat := l.count false
theorem nx_nil : nx [] = 0 := rfl
theorem ny_nil : ny [] = 0 := rfl
theorem nx_t (r : List Bool) : nx (true :: r) = nx r + 1 := by simp [nx]
theorem nx_f (r : List Bool) : nx (false :: r) = nx r := by simp [nx]
theorem ny_t (r : List Bool) : ny (true :: r) = ny r := by simp [ny]
theorem ny_f (r : List Bool) : ny (false :: r) = ny r + 1 := by simp [ny]
theorem nxy (l : List Bool) : nx l + ny l = l.length := by
  induction l with
  | nil => rfl
  | cons b r ih =>
    cases b
    · rw [nx_f, ny_f, List.length_cons]; omega
    · rw [nx_t, ny_t, List.length_cons]; omega
theorem nx_app (a b : List Bool) : nx (a ++ b) = nx a + nx b := by simp [nx, List.count_append]
theorem ny_app (a b : List Bool) : ny (a ++ b) = ny a + ny b := by simp [ny, List.count_append]
theorem nx_rt (n : Nat) : nx (List.replicate n true) = n := by simp [nx]
theorem nx_rf (n : Nat) : nx (List.replicate n false) = 0 := by simp [nx, List.count_replicate]
theorem ny_rt (n : Nat) : ny (List.replicate n true) = 0 := by simp [ny, List.count_replicate]
theorem ny_rf (n : Nat) : ny (List.replicate n false) = n := by simp [ny]
theorem nx_le (l : List Bool) : nx l ≤ l.length := by have := nxy l; omega
theorem ny_le (l : List Bool) : ny l ≤ l.length := by have := nxy l; omega
/-- the letters and their feet -/
def feetL : List Bool → List (Bool × Nat × Nat)
  | [] => []
  | b :: r => (b, nx r, ny r) :: feetL r
theorem feetL_len (l : List Bool) : (feetL l).length = l.length := by
  induction l with
  | nil => rfl
  | cons b r ih => simp [feetL, ih]
theorem feetL_get : ∀ (l : List Bool) (k : Nat) (h : k < l.length), (feetL l)[k]? = some (l[k], nx (l.drop (k + 1)), ny (l.drop (k + 1)))
  | b :: r, 0, _ => rfl
  | b :: r, k + 1, h => by
    show (feetL r)[k]? = _
    rw [feetL_get r k (by simpa using h)]
    rfl
/-- the key of a cell -/
def keyL : List Bool → Nat → Nat → Nat
  | [], _, _ => 0
  | true :: r, x, y => x / 2 ^ nx r % 2 * 2 ^ r.length + keyL r x y
  | false :: r, x, y => y / 2 ^ ny r % 2 * 2 ^ r.length + keyL r x y
def xOf : List Bool → Nat → Nat
  | [], _ => 0
  | true :: r, k => k / 2 ^ r.length % 2 * 2 ^ nx r + xOf r k
  | false :: r, k => xOf r k
def yOf : List Bool → Nat → Nat
  | [], _ => 0
  | true :: r, k => yOf r k
  | false :: r, k => k / 2 ^ r.length % 2 * 2 ^ ny r + yOf r k
theorem bit_lt {d k : Nat} (n : Nat) (hd : d < 2) (hk : k < 2 ^ n) : d * 2 ^ n + k < 2 ^ (n + 1) := by
  have h1 : d * 2 ^ n ≤ 1 * 2 ^ n := Nat.mul_le_mul_right _ (by omega)
  rw [Nat.pow_succ]
  omega
theorem two_pos (n : Nat) : 0 < 2 ^ n := Nat.pow_pos (by decide)
theorem keyL_lt : ∀ (l : List Bool) (x y : Nat), keyL l x y < 2 ^ l.length
  | [], _, _ => Nat.zero_lt_one
  | true :: r, x, y => bit_lt _ (Nat.mod_lt _ (by decide)) (keyL_lt r x y)
  | false :: r, x, y => bit_lt _ (Nat.mod_lt _ (by decide)) (keyL_lt r x y)
theorem xOf_lt : ∀ (l : List Bool) (k : Nat), xOf l k < 2 ^ nx l
  | [], _ => Nat.zero_lt_one
  | true :: r, k => by
    rw [nx_t]
    exact bit_lt _ (Nat.mod_lt _ (by decide)) (xOf_lt r k)
  | false :: r, k => by
    rw [nx_f]
    exact xOf_lt r k
theorem yOf_lt : ∀ (l : List Bool) (k : Nat), yOf l k < 2 ^ ny l
  | [], _ => Nat.zero_lt_one
  | true :: r, k => by
    rw [ny_t]
    exact yOf_lt r k
  | false :: r, k => by
    rw [ny_f]
    exact bit_lt _ (Nat.mod_lt _ (by decide)) (yOf_lt r k)
theorem top_bit {c k : Nat} (n : Nat) : (c * 2 ^ (n + 1) + k) / 2 ^ n % 2 = k / 2 ^ n % 2 := by
  rw [Nat.pow_succ, show c * (2 ^ n * 2) + k = k + 2 ^ n * (2 * c) by
    rw [Nat.mul_comm c, Nat.mul_assoc]
    omega]
  rw [Nat.add_mul_div_left _ _ (two_pos n), Nat.add_mul_mod_self_left]
theorem xOf_high : ∀ (l : List Bool) (c k : Nat), xOf l (c * 2 ^ l.length + k) = xOf l k
  | [], _, _ => rfl
  | true :: r, c, k => by
    show (c * 2 ^ (r.length + 1) + k) / 2 ^ r.length % 2 * 2 ^ nx r + xOf r (c * 2 ^ (r.length + 1) + k) = _
    rw [top_bit, show c * 2 ^ (r.length + 1) = c * 2 * 2 ^ r.length by rw [Nat.pow_succ, Nat.mul_comm (2 ^ r.length), Nat.mul_assoc], xOf_high r]
    rfl
  | false :: r, c, k => by
    show xOf r (c * 2 ^ (r.length + 1) + k) = _
    rw [show c * 2 ^ (r.length + 1) = c * 2 * 2 ^ r.length by rw [Nat.pow_succ, Nat.mul_comm (2 ^ r.length), Nat.mul_assoc], xOf_high r]
    rfl
theorem yOf_high : ∀ (l : List Bool) (c k : Nat), yOf l (c * 2 ^ l.length + k) = yOf l k
  | [], _, _ => rfl
  | false :: r, c, k => by
    show (c * 2 ^ (r.length + 1) + k) / 2 ^ r.length % 2 * 2 ^ ny r + yOf r (c * 2 ^ (r.length + 1) + k) = _
    rw [top_bit, show c * 2 ^ (r.length + 1) = c * 2 * 2 ^ r.length by rw [Nat.pow_succ, Nat.mul_comm (2 ^ r.length), Nat.mul_assoc], yOf_high r]
    rfl
  | true :: r, c, k => by
    show yOf r (c * 2 ^ (r.length + 1) + k) = _
    rw [show c * 2 ^ (r.length + 1) = c * 2 * 2 ^ r.length by rw [Nat.pow_succ, Nat.mul_comm (2 ^ r.length), Nat.mul_assoc], yOf_high r]
    rfl
theorem lead_bit {d k : Nat} (n : Nat) (hd : d < 2) (hk : k < 2 ^ n) : (d * 2 ^ n + k) / 2 ^ n % 2 = d := by
  rw [Nat.add_comm, Nat.add_mul_div_right _ _ (two_pos n), Nat.div_eq_of_lt hk, Nat.zero_add, Nat.mod_eq_of_lt hd]
theorem mod_succ (x n : Nat) : x % 2 ^ (n + 1) = x / 2 ^ n % 2 * 2 ^ n + x % 2 ^ n := by
  rw [Nat.mod_pow_succ, Nat.add_comm, Nat.mul_comm]
theorem xOf_key : ∀ (l : List Bool) (x y : Nat), xOf l (keyL l x y) = x % 2 ^ nx l
  | [], x, _ => by
    rw [nx_nil, Nat.pow_zero, Nat.mod_one]
    rfl
  | true :: r, x, y => by
    show (x / 2 ^ nx r % 2 * 2 ^ r.length + keyL r x y) / 2 ^ r.length % 2 * 2 ^ nx r + xOf r (x / 2 ^ nx r % 2 * 2 ^ r.length + keyL r x y) = _
    rw [lead_bit _ (Nat.mod_lt _ (by decide)) (keyL_lt r x y), xOf_high, xOf_key r, nx_t, mod_succ]
  | false :: r, x, y => by
    show xOf r (y / 2 ^ ny r % 2 * 2 ^ r.length + keyL r x y) = _
    rw [xOf_high, xOf_key r, nx_f]
theorem yOf_key : ∀ (l : List Bool) (x y : Nat), yOf l (keyL l x y) = y % 2 ^ ny l
  | [], x, y => by
    rw [ny_nil, Nat.pow_zero, Nat.mod_one]
    rfl
  | false :: r, x, y => by
    show (y / 2 ^ ny r % 2 * 2 ^ r.length + keyL r x y) / 2 ^ r.length % 2 * 2 ^ ny r + yOf r (y / 2 ^ ny r % 2 * 2 ^ r.length + keyL r x y) = _
    rw [lead_bit _ (Nat.mod_lt _ (by decide)) (keyL_lt r x y), yOf_high, yOf_key r, ny_f, mod_succ]
  | true :: r, x, y => by
    show yOf r (x / 2 ^ nx r % 2 * 2 ^ r.length + keyL r x y) = _
    rw [yOf_high, yOf_key r, ny_t]
/-- a key hangs on the low digits alone -/
theorem digit_high {c x : Nat} {n m : Nat} (h : n < m) : (c * 2 ^ m + x) / 2 ^ n % 2 = x / 2 ^ n % 2 := by
  obtain ⟨d, rfl⟩ : ∃ d, m = d + (n + 1) := ⟨m - (n + 1), by omega⟩
  rw [Nat.pow_add, ← Nat.mul_assoc]
  exact top_bit n
theorem keyL_high : ∀ (l : List Bool) (c d x y n m : Nat), nx l ≤ n → ny l ≤ m → keyL l (c * 2 ^ n + x) (d * 2 ^ m + y) = keyL l x y
  | [], _, _, _, _, _, _, _, _ => rfl
  | true :: r, c, d, x, y, n, m, hn, hm => by
    rw [nx_t] at hn
    rw [ny_t] at hm
    show (c * 2 ^ n + x) / 2 ^ nx r % 2 * 2 ^ r.length + keyL r (c * 2 ^ n + x) (d * 2 ^ m + y) = _
    rw [digit_high (by omega), keyL_high r c d x y n m (by omega) hm]
    rfl
  | false :: r, c, d, x, y, n, m, hn, hm => by
    rw [nx_f] at hn
    rw [ny_f] at hm
    show (d * 2 ^ m + y) / 2 ^ ny r % 2 * 2 ^ r.length + keyL r (c * 2 ^ n + x) (d * 2 ^ m + y) = _
    rw [digit_high (by omega), keyL_high r c d x y n m hn (by omega)]
    rfl
theorem keyL_mod (l : List Bool) (x y : Nat) : keyL l x y = keyL l (x % 2 ^ nx l) (y % 2 ^ ny l) := by
  have h := keyL_high l (x / 2 ^ nx l) (y / 2 ^ ny l) (x % 2 ^ nx l) (y % 2 ^ ny l) (nx l) (ny l) (Nat.le_refl _) (Nat.le_refl _)
  rw [Nat.mul_comm, Nat.div_add_mod, Nat.mul_comm, Nat.div_add_mod] at h
  exact h
/-- two words, one behind the other -/
theorem keyL_app : ∀ (a b : List Bool) (x y : Nat), keyL (a ++ b) x y = keyL a (x / 2 ^ nx b) (y / 2 ^ ny b) * 2 ^ b.length + keyL b x y
  | [], b, x, y => by
    show keyL b x y = 0 * 2 ^ b.length + keyL b x y
    rw [Nat.zero_mul, Nat.zero_add]
  | true :: r, b, x, y => by
    show x / 2 ^ nx (r ++ b) % 2 * 2 ^ (r ++ b).length + keyL (r ++ b) x y = (x / 2 ^ nx b / 2 ^ nx r % 2 * 2 ^ r.length + keyL r (x / 2 ^ nx b) (y / 2 ^ ny b)) * 2 ^ b.length + keyL b x y
    rw [keyL_app r b, nx_app, List.length_append, Nat.div_div_eq_div_mul, ← Nat.pow_add, Nat.add_comm (nx b), Nat.add_mul, Nat.pow_add 2 r.length, Nat.mul_assoc]
    omega
  | false :: r, b, x, y => by
    show y / 2 ^ ny (r ++ b) % 2 * 2 ^ (r ++ b).length + keyL (r ++ b) x y = (y / 2 ^ ny b / 2 ^ ny r % 2 * 2 ^ r.length + keyL r (x / 2 ^ nx b) (y / 2 ^ ny b)) * 2 ^ b.length + keyL b x y
    rw [keyL_app r b, ny_app, List.length_append, Nat.div_div_eq_div_mul, ← Nat.pow_add, Nat.add_comm (ny b), Nat.add_mul, Nat.pow_add 2 r.length, Nat.mul_assoc]
    omega
theorem keyL_rt : ∀ (n x y : Nat), keyL (List.replicate n true) x y = x % 2 ^ n
  | 0, x, y => by
    rw [Nat.pow_zero, Nat.mod_one]
    rfl
  | n + 1, x, y => by
    rw [List.replicate_succ]
    show x / 2 ^ nx (List.replicate n true) % 2 * 2 ^ (List.replicate n true).length + keyL (List.replicate n true) x y = _
    rw [nx_rt, List.length_replicate, keyL_rt n, mod_succ]
theorem keyL_rf : ∀ (n x y : Nat), keyL (List.replicate n false) x y = y % 2 ^ n
  | 0, x, y => by
    rw [Nat.pow_zero, Nat.mod_one]
    rfl
  | n + 1, x, y => by
    rw [List.replicate_succ]
    show y / 2 ^ ny (List.replicate n false) % 2 * 2 ^ (List.replicate n false).length + keyL (List.replicate n false) x y = _
    rw [ny_rf, List.length_replicate, keyL_rf n, mod_succ]
def rowsL (n m : Nat) : List Bool := List.replicate m false ++ List.replicate n true
def colsL (n m : Nat) : List Bool := List.replicate n true ++ List.replicate m false
theorem nx_rows (n m : Nat) : nx (rowsL n m) = n := by rw [rowsL, nx_app, nx_rf, nx_rt, Nat.zero_add]
theorem ny_rows (n m : Nat) : ny (rowsL n m) = m := by rw [rowsL, ny_app, ny_rf, ny_rt, Nat.add_zero]
theorem nx_cols (n m : Nat) : nx (colsL n m) = n := by rw [colsL, nx_app, nx_rf, nx_rt, Nat.add_zero]
theorem ny_cols (n m : Nat) : ny (colsL n m) = m := by rw [colsL, ny_app, ny_rf, ny_rt, Nat.zero_add]
theorem len_rows (n m : Nat) : (rowsL n m).length = n + m := by rw [← nxy, nx_rows, ny_rows]
theorem len_cols (n m : Nat) : (colsL n m).length = n + m := by rw [← nxy, nx_cols, ny_cols]
theorem key_rows (n m x y : Nat) : keyL (rowsL n m) x y = y % 2 ^ m * 2 ^ n + x % 2 ^ n := by
  rw [rowsL, keyL_app, keyL_rf, keyL_rt, ny_rt, List.length_replicate, Nat.pow_zero, Nat.div_one]
theorem key_cols (n m x y : Nat) : keyL (colsL n m) x y = x % 2 ^ n * 2 ^ m + y % 2 ^ m := by
  rw [colsL, keyL_app, keyL_rf, keyL_rt, nx_rf, List.length_replicate, Nat.pow_zero, Nat.div_one]
/-- the parts of a key as they are summed up -/
theorem keyL_drop (l : List Bool) (k : Nat) (h : k < l.length) (x y : Nat) :
    keyL (l.drop k) x y = (if l[k] = true then x / 2 ^ nx (l.drop (k + 1)) % 2 else y / 2 ^ ny (l.drop (k + 1)) % 2) * 2 ^ (nx (l.drop (k + 1)) + ny (l.drop (k + 1))) + keyL (l.drop (k + 1)) x y := by
  rw [List.drop_eq_getElem_cons h, nxy]
  cases l[k] <;> rfl
theorem xOf_drop (l : List Bool) (k : Nat) (h : k < l.length) (q : Nat) :
    xOf (l.drop k) q = (if l[k] = true then q / 2 ^ (nx (l.drop (k + 1)) + ny (l.drop (k + 1))) % 2 * 2 ^ nx (l.drop (k + 1)) else 0) + xOf (l.drop (k + 1)) q := by
  rw [List.drop_eq_getElem_cons h, nxy]
  cases l[k]
  · rw [if_neg (by decide), Nat.zero_add]
    rfl
  · rfl
theorem yOf_drop (l : List Bool) (k : Nat) (h : k < l.length) (q : Nat) :
    yOf (l.drop k) q = (if l[k] = true then 0 else q / 2 ^ (nx (l.drop (k + 1)) + ny (l.drop (k + 1))) % 2 * 2 ^ ny (l.drop (k + 1))) + yOf (l.drop (k + 1)) q := by
  rw [List.drop_eq_getElem_cons h, nxy]
  cases l[k]
  · rfl
  · rw [if_pos rfl, Nat.zero_add]
    rfl
theorem nx_drop (l : List Bool) (k : Nat) (h : k < l.length) : nx (l.drop k) = nx (l.drop (k + 1)) + (if l[k] = true then 1 else 0) := by
  rw [List.drop_eq_getElem_cons h]
  cases l[k]
  · rw [nx_f]
    rfl
  · rw [nx_t, if_pos rfl]
theorem ny_drop (l : List Bool) (k : Nat) (h : k < l.length) : ny (l.drop k) = ny (l.drop (k + 1)) + (if l[k] = true then 0 else 1) := by
  rw [List.drop_eq_getElem_cons h]
  cases l[k]
  · rw [ny_f, if_neg (by decide)]
  · rw [ny_t]
    rfl
def yxs : Nat → List Bool
  | 0 => []
  | t + 1 => false :: true :: yxs t
theorem flat_yx (t : Nat) : (List.replicate t [false, true]).flatten = yxs t := by
  induction t with
  | zero => rfl
  | succ t ih =>
    rw [List.replicate_succ, List.flatten_cons, ih]
    rfl
theorem yxs_succ (t : Nat) : yxs (t + 1) = yxs t ++ [false, true] := by
  induction t with
  | zero => rfl
  | succ t ih =>
    have e : yxs (t + 1 + 1) = false :: true :: yxs (t + 1) := rfl
    rw [e]
    conv => lhs; rw [ih]
    rfl
theorem nx_yxs (t : Nat) : nx (yxs t) = t := by
  induction t with
  | zero => rfl
  | succ t ih =>
    show nx (false :: true :: yxs t) = _
    rw [nx_f, nx_t, ih]
theorem ny_yxs (t : Nat) : ny (yxs t) = t := by
  induction t with
  | zero => rfl
  | succ t ih =>
    show ny (false :: true :: yxs t) = _
    rw [ny_f, ny_t, ih]
def lacedL (n m : Nat) : List Bool := List.replicate (n - min n m) true ++ List.replicate (m - min n m) false ++ yxs (min n m)
theorem nx_laced (n m : Nat) : nx (lacedL n m) = n := by
  rw [lacedL, nx_app, nx_app, nx_rt, nx_rf, nx_yxs]
  omega
theorem ny_laced (n m : Nat) : ny (lacedL n m) = m := by
  rw [lacedL, ny_app, ny_app, ny_rt, ny_rf, ny_yxs]
  omega
def tiledL (n m a b : Nat) : List Bool := rowsL (n - a) (m - b) ++ rowsL a b
theorem nx_tiled {n m a b : Nat} (ha : a ≤ n) : nx (tiledL n m a b) = n := by
  rw [tiledL, nx_app, nx_rows, nx_rows]
  omega
theorem ny_tiled {n m a b : Nat} (hb : b ≤ m) : ny (tiledL n m a b) = m := by
  rw [tiledL, ny_app, ny_rows, ny_rows]
  omega
theorem key_tiled {n m a b x y : Nat} (ha : a ≤ n) (hb : b ≤ m) (hx : x < 2 ^ n) (hy : y < 2 ^ m) :
    keyL (tiledL n m a b) x y = (y / 2 ^ b * 2 ^ (n - a) + x / 2 ^ a) * 2 ^ (a + b) + (y % 2 ^ b * 2 ^ a + x % 2 ^ a) := by
  rw [tiledL, keyL_app, key_rows, key_rows, nx_rows, ny_rows, len_rows]
  have h1 : y / 2 ^ b < 2 ^ (m - b) := by
    rw [Nat.div_lt_iff_lt_mul (two_pos b), ← Nat.pow_add]
    rw [show m - b + b = m by omega]
    exact hy
  have h2 : x / 2 ^ a < 2 ^ (n - a) := by
    rw [Nat.div_lt_iff_lt_mul (two_pos a), ← Nat.pow_add]
    rw [show n - a + a = n by omega]
    exact hx
  rw [Nat.mod_eq_of_lt h1, Nat.mod_eq_of_lt h2]
theorem tiled00 (n m : Nat) : tiledL n m 0 0 = rowsL n m := by
  show rowsL (n - 0) (m - 0) ++ [] = _
  rw [List.append_nil, Nat.sub_zero, Nat.sub_zero]
theorem tilednm (n m : Nat) : tiledL n m n m = rowsL n m := by
  show rowsL (n - n) (m - m) ++ rowsL n m = _
  rw [Nat.sub_self, Nat.sub_self]
  rfl
theorem ne_nil_of {l : List Bool} (h : 1 ≤ nx l + ny l) : l ≠ [] := by
  intro e
  subst e
  rw [nx_nil, ny_nil] at h
  omega
end Lk

set_option Elab.async false
set_option linter.all false
set_option maxRecDepth 100000
set_option maxHeartbeats 4000000
namespace Lk
open PySem PySem.Spec PyProof.Rows L2
/-! ### rules of our own -/
section
variable {X : Cx}
/-- a power of a great base -/
def CPowB (i j : Int) : Prop := ∃ b : Nat, i.natAbs < 2 ^ b ∧ 0 ≤ j ∧ (b : Int) * j ≤ 100000
theorem op_powB : OpR X (binaryOp .Pow) (rI CPowB fun i j => .int (i ^ j.toNat)) :=
  opI fun i j _ _ _ _ _ hc q => by
    obtain ⟨b, h1, h2, h3⟩ := hc
    refine pow_int h2 ?_ q
    have h4 := intBits_le h1
    have h5 : ((Builtin.Int.intBits i : Nat) : Int) * j ≤ (b : Int) * j := Int.mul_le_mul_of_nonneg_right (by omega) h2
    omega
/-- a text times a number -/
def rMulS : R2 := fun x y H Q => ∃ (a : Str) (n : Int), x = .str a ∧ y = .int n ∧ a.length ≤ 1000 ∧ -1000 ≤ n ∧ n ≤ 1000 ∧ Q (.str (Txt.mul a n)) H
theorem op_mulS : OpR X (binaryOp .Mult) rMulS := by
  intro pins s σ H x y v u Q I rx ry h
  obtain ⟨a, n, rfl, rfl, h1, h2, h3, q⟩ := h
  obtain ⟨t, rfl⟩ := rx
  obtain ⟨t', rfl⟩ := ry
  exact SB.mul (mulOk_of 1000 1000 h1 h3 (by omega) (by decide) (by decide)) fun t1 k => ⟨.str (Txt.mul a n), H, I.tok k, ⟨t1, rfl⟩, q⟩
/-- repr of data -/
def rRepr (K : PySem.W.Frag) : List V → Hp → VK → Prop := fun xs H Q => ∃ (a : Addr) (d : PyData), xs = [.ref a] ∧ Dp K H (.ref a) d ∧ d.showable = true ∧ d.hasDict = false ∧ d.depth ≤ 8 ∧ d.shown.length ≤ sizeLine ∧ Q (.str d.shown) H
theorem call_reprD (hg : X.A.guards = some []) (hu : X.A.units + 64 < cLine) : CallR X (.builtin "repr") (rRepr X.K) := by
  intro pins s σ H xs us Q I r h
  obtain ⟨a, d, rfl, hd, h1, h2, h3, h4, q⟩ := h
  obtain ⟨u, rfl, ru⟩ : ∃ u, us = [u] ∧ RelV (.ref a) u := by
    cases r with
    | cons r1 r2 =>
      cases r2
      exact ⟨_, rfl, r1⟩
  obtain ⟨as, hr⟩ := Dp.reads I d _ u hd ru
  obtain rfl : u = Value.ref a := ru
  refine repr_of_reads' hr h1 (fun z => by rw [h2] at z; cases z) hg (by omega) (fun b o e => e) (fun h' t tk kept => ?_) h4
  exact ⟨.str d.shown, H, I.kept kept, ⟨t, rfl⟩, q⟩
end

theorem kitOne_self (K : PySem.W.Frag) (v : Value) : PySem.W.kitOne K v v = some true := by
  unfold PySem.W.kitOne
  rw [if_pos (beq_self_eq_true v)]

/-! ### defs that are called where no repr is under way -/
structure FnG (P : Program) (w : World) (K : PySem.W.Frag) (mg : Str → Option Value) (base : Heap) (k : Nat) (f : Addr) (fd : FuncData) (ps : List Str) (sp : Sp) : Prop where
  wide : ∀ vs H Q E, sp vs H Q E → vs.length = ps.length
  goes : ∀ (A : Around) (outer : List Env) (s : Shared) (H : Hp) (args : Args) (us : List Value) (vs : List V) (Q : VK) (E : XK), A.guards = some [] → Room k A →
    Env0 P w K mg base A outer s H → BindsTo s fd args (ps.zip us) → Vals vs us → sp vs H Q E → codeAny (model P w) A (.call (.ref f) args) (CR CX0 outer P w H s Q E) s
section
variable {P : Program} {w : World} {K : PySem.W.Frag} {mg : Str → Option Value} {base : Heap} {k : Nat} {f : Addr} {fd : FuncData} {ps : List Str} {sp : Sp}
theorem FnG.mono {j : Nat} (F : FnG P w K mg base j f fd ps sp) (h : j ≤ k) : FnG P w K mg base k f fd ps sp :=
  ⟨F.wide, fun A outer s H args us vs Q E hg hr => F.goes A outer s H args us vs Q E hg (hr.mono h)⟩
theorem okG {x qual : Str} {st : Stmt} {N : List Str} (F : Fun K x qual st f fd) (S : FnScope N ps (defScope st)) (len : ∀ vs H Q E, sp vs H Q E → vs.length = ps.length)
    (hbody : ∀ (cdv : Value) (A : Around) (outer : List Env) (s : Shared) (H : Hp) (vs : List V) (Q : VK) (E : XK), A.guards = some [] → Room k (A.deeper (envOfC qual (defScope st) s.heap.objs.size f cdv)) → sp vs H Q E →
      ∃ t, PSs (cxOf CX0 P w K mg base N qual (defScope st) f cdv A outer s H E).nox (defBody st) t ∧ t { nx := fun _ H' => Q .non H', rt := Q } (start N vs) H) : FnG P w K mg base (k + 1) f fd ps sp := by
  obtain ⟨oc, od, kV, doc, pm, an, cdv, ct, osl, rfl, lk, hcd⟩ := F.ex
  refine ⟨len, fun A outer s H args us vs Q E hg hr e0 hb r hsp => ?_⟩
  have KX : K.In s.heap := e0.mod.kin.keeps fun b o e => (e0.bs b o e).1
  have kinds : ∀ y ∈ ps.zip us, (defScope st).names.lookup y.1 = some .local ∨ ((defScope st).names.lookup y.1 = some .cell ∧ ((cellsFrom (s.heap.objs.size + 1) (defScope st).names []).lookup y.1).isSome = true) := by
    rintro ⟨n, v⟩ hy
    rcases S.par n (List.of_mem_zip hy).1 with z | z
    · exact .inl z
    · exact .inr ⟨z, PySem.W.cellsFrom_some _ _ _ (.inl z)⟩
  refine codeAny_call_function hr.depth (KX _ _ lk) rfl S.co S.gen rfl (PySem.W.codeRec_of KX hcd) (hb _ _ _ _ ?_)
  refine wpAny_newFunctionEnv_cells S.kind kinds fun env he s1 x => ?_
  subst he
  refine ⟨(e0.mod.nolimit.keeps fun b o e => (e0.bs b o e).1).keeps x.toInCall.keep, codeAny_func ?_⟩
  obtain ⟨t, ht, hq⟩ := hbody cdv A outer s H vs Q E hg (hr.deeper _) hsp
  have I := inv_start (CX := CX0) (E := E) S hr.hd e0 (len _ _ _ _ hsp) r x
  refine wpAny_mono (ht.nox.run [] s1 _ H _ I hq) (fun fl s' hs => ?_) fun e s' hs => hs
  cases fl with
  | ret u =>
    obtain ⟨v, σ', H', J, rv, q⟩ := hs
    exact ⟨v, H', J.os, J.bare, J.base, J.hok, rv, q⟩
  | next =>
    obtain ⟨σ', H', J, q⟩ := hs
    exact ⟨V.non, H', J.os, J.bare, J.base, J.hok, rfl, q⟩
  | brk => exact hs.elim fun _ z => z.elim fun _ z => z.2.elim
  | cont => exact hs.elim fun _ z => z.elim fun _ z => z.2.elim
end
section
variable {X : Cx} {k : Nat} {f : Addr} {fd : FuncData} {ps : List Str} {sp : Sp} {x : Str} {p pos : Pos} {e : Expr} {es : List Expr} {t : TA}
theorem pe_callG (F : FnG X.prog X.w X.K X.mg X.base k f fd ps sp) (hgd : X.A.guards = some []) (hr : Room k X.A) (hg : Gl X x) (hm : X.mg x = some (.ref f)) (hk : PySem.W.keepIn X.K (.ref f) = true) (hb : Binds X.K fd ps [])
    (ha : PA X (e :: es) t) (hdb : (x == ("__debug__" : Str)) = false := by decide) (he : starEach (e :: es) X.env = (false, eval e X.env) :: starEach es X.env := by rfl)
    (hpl : (backTo pos (starEach es X.env)).any (·.1) = false := by rfl) : PE X (.Call (.Name x p) (e :: es) [] pos) (tCall sp [] E0 t) := by
  refine ⟨fun pins s σ H Q I h => wpAny_Call_Name_kw (ld_glob I hg hm ?_ hdb)⟩
  refine PySem.W.callWith_K (h₀ := X.base) I.ok.mod.kin hk (thn (ha.run pos pins s σ H _ I h) fun us s1 hus => ?_) he hpl
  obtain ⟨vs, H1, I1, r, q⟩ := hus
  refine ⟨I1.kIn, wpAny_call (codeAny_mono (F.goes X.A X.stack s1 H1 ⟨us, []⟩ us vs Q E0 hgd hr I1.env0 ?_ r ?_) fun r s' hq => ?_)⟩
  · have l : us.length = ps.length := by
      rw [← r.length]
      have := F.wide _ _ _ _ q
      rw [List.append_nil] at this
      exact this
    have z := hb s1 us I1.kIn (by rw [List.append_nil]; exact l)
    rw [List.append_nil] at z
    exact z
  · have z := q
    rw [List.append_nil] at z
    exact z
  · cases r with
    | error e => exact hq.elim
    | ok fl =>
      cases fl with
      | ret u => exact I1.after hq
      | next => exact False.elim hq
      | brk => exact False.elim hq
      | cont => exact False.elim hq
end

/-! ### the law's own end -/
theorem callG {P : Program} {w : World} {K : PySem.W.Frag} {mg mb : Str → Option Value} {k : Nat} {fa a : Addr} {fd : FuncData} {x : Str} {sp : Sp} {s₁ : Shared} {vs : List Value} {ns : List Int}
    (KX : K.In s₁.heap) (hns : s₁.heap.Ns mainGlobals mg) (hb : s₁.heap.Ns builtinsNs mb) (hbb : ∀ x : Str, x ≠ "__name__" → mb x = bootBuiltins x) (hlim : s₁.heap.NoLimit) (hg : s₁.gens = #[])
    (ha : s₁.heap.get? a = some { cls := .type "list", data := .seq vs.toArray }) (hi : IntsAre vs ns) (hl : ns.length ≤ sizeLine) (hr : Room k callerA)
    (F : ∀ base : Heap, K.In base → base.Ns mainGlobals mg → FnG P w K mg base k fa fd [x] sp) (hbind : ∀ (s : Shared) (u : Value), BindsTo s fd ⟨[u], []⟩ [(x, u)])
    (hsp : ∀ H : Hp, Only H → SqL K H a (ns.map V.int) → sp [.ref a] H (fun v _ => v = .bl true) fun _ _ _ => False) :
    codeAny (model P w) callerA (.call (.ref fa) ⟨[.ref a], []⟩) (fun r s' => r = .ok (.ret (.bool true)) ∧ OldK s₁.heap s'.heap ∧ s'.os = s₁.os ∧ AllBare s'.gens) s₁ := by
  let o₁ : Obj := { cls := .type "list", data := .seq vs.toArray }
  -- what is tracked at the start: the script, unless it is an object of the module's
  obtain ⟨H, hO, hS, hok, hA, hKa⟩ : ∃ H : Hp, Only H ∧ SqL K H a (ns.map V.int) ∧ HOk P w H s₁.heap ∧ (∀ b, H b ≠ none → b = a) ∧ (H a ≠ none → K.lookup a = none) := by
    have lv : (ns.map V.int).length ≤ sizeLine := by
      rw [List.length_map]
      exact hl
    cases hk : K.lookup a with
    | some o =>
      have eo := (KX a o hk).symm.trans ha
      cases eo
      refine ⟨fun _ => none, fun _ => .inl rfl, .inr ⟨_, vs.toArray, _, hk, rfl, rfl, rfl, ?_, ?_⟩, ?_, ?_, ?_⟩
      · rw [List.size_toArray, hi.length]
        exact hl
      · exact vals_ints hi
      · intro b u z
        exact absurd (show (none : Option HO) = some u from z) (by intro y; cases y)
      · intro b z
        exact absurd rfl z
      · intro z
        exact absurd rfl z
    | none =>
      have at_a : (fun b => if b = a then some (HO.frz o₁ (.lst (ns.map V.int))) else none : Hp) a = some (HO.frz o₁ (.lst (ns.map V.int))) := if_pos rfl
      have off : ∀ b, b ≠ a → (fun b => if b = a then some (HO.frz o₁ (.lst (ns.map V.int))) else none : Hp) b = none := fun b hb => if_neg hb
      refine ⟨fun b => if b = a then some (.frz o₁ (.lst (ns.map V.int))) else none, fun b => ?_, .inl (.inr ⟨o₁, at_a⟩), fun b u z => ?_, fun b z => ?_, fun _ => rfl⟩
      · by_cases hb : b = a
        · subst hb
          exact .inr ⟨_, _, at_a⟩
        · exact .inl (off b hb)
      · by_cases hb : b = a
        · subst hb
          have z2 := at_a.symm.trans z
          cases z2
          exact ⟨ha, lv, vs, _, vals_ints hi, ha⟩
        · have z2 := (off b hb).symm.trans z
          cases z2
      · by_cases hb : b = a
        · exact hb
        · exact absurd (off b hb) z
  have nodict : ∀ {b : Addr} {o : Obj} {es : Array DictEntry} {ep : Nat}, s₁.heap.get? b = some o → o.data = .dict es ep → H b = none := by
    intro b o es ep eo ed
    cases q : H b with
    | none => rfl
    | some u =>
      have hb : b = a := hA b (by rw [q]; intro z; cases z)
      subst hb
      have z := ha.symm.trans eo
      cases z
      cases ed
  have nsK : ∀ {b : Addr} {m : Str → Option Value}, s₁.heap.Ns b m → (hidT s₁.heap H).Ns b m := by
    rintro b m ⟨o, es, ep, eo, ed, r⟩
    exact ⟨o, es, ep, hidT_get eo (nodict eo ed), ed, r⟩
  have KB : K.In (hidT s₁.heap H) := by
    intro b o eo
    refine hidT_get (KX b o eo) ?_
    cases q : H b with
    | none => rfl
    | some u =>
      have hb : b = a := hA b (by rw [q]; intro z; cases z)
      subst hb
      have z := hKa (by rw [q]; intro z; cases z)
      rw [eo] at z
      cases z
  have M : Mod K mg (hidT s₁.heap H) := by
    obtain ⟨mc, l1, l2⟩ := hlim
    exact ⟨KB, nsK hns, ⟨mb, nsK hb, hbb⟩, ⟨mc, nsK l1, l2⟩⟩
  have e0 : Env0 P w K mg (hidT s₁.heap H) callerA [] s₁ H := by
    refine ⟨rfl, M, fun b o e => of_hidT e, Nat.le_of_eq (hidT_size _ _), trivial, fun b hb => ?_, hok, .of_eq hg⟩
    exact absurd (show b ∈ ([] : List Addr) from hb) List.not_mem_nil
  refine codeAny_mono ((F _ KB (nsK hns)).goes callerA [] s₁ H ⟨[.ref a], []⟩ [.ref a] [.ref a] _ _ rfl hr e0 (hbind s₁ (.ref a)) (.cons rfl .nil) (hsp H hO hS)) fun r s' h => ?_
  cases r with
  | error e => exact h.elim
  | ok fl =>
    cases fl with
    | next => exact False.elim h
    | brk => exact False.elim h
    | cont => exact False.elim h
    | ret u =>
      obtain ⟨v, H', os, bare, un, hok', rv, (hv : v = .bl true)⟩ := h
      subst hv
      obtain rfl : u = Value.bool true := rv
      refine ⟨rfl, OldK.of_keep fun b o eo => ?_, os, bare⟩
      cases q : H b with
      | none => exact un.keep b o eo q (fun z => List.not_mem_nil z) List.not_mem_nil
      | some u =>
        rcases hO b with z | ⟨ob, xs, z⟩
        · rw [q] at z
          cases z
        · obtain ⟨e1, _⟩ := hok b _ z
          obtain ⟨e2, _⟩ := hok' b _ (un.frzs b ob _ z)
          have e3 := eo.symm.trans e1
          cases e3
          exact e2
theorem walkG {l : PySem.W.OpenLaw} {n k : Nat} {q : Program} {loose : List Str} {XP : (Str → Option Value) → Heap → Prop} {YP : World → Heap → Prop} {d : DefRec} {K : Params → PySem.W.Frag} {sp : World → Sp} {x : Str}
    (hn : l.most = some n) (hn2 : n ≤ sizeLine) (hdf : d.params.defaults = []) (hr : Room k callerA) (hY : ∀ (w : World) (h : Heap), YP w h → (K w.params).In h)
    (F : ∀ (w : World) (mg : Str → Option Value) (fa : Addr) (h : Heap), (K w.params).In h → h.Ns mainGlobals mg → mg d.name = some (.ref fa) →
      ∃ fd : FuncData, (∀ (s : Shared) (u : Value), BindsTo s fd ⟨[u], []⟩ [(x, u)]) ∧ ∀ base : Heap, (K w.params).In base → base.Ns mainGlobals mg → FnG l.prog w (K w.params) mg base k fa fd [x] (sp w))
    (hsp : ∀ (w : World) (H : Hp) (a : Addr) (ns : List Int), ns.length ≤ n → Only H → SqL (K w.params) H a (ns.map V.int) → sp w [.ref a] H (fun v _ => v = .bl true) fun _ _ _ => False) :
    PySem.W.WalkO q loose XP YP l.row.toRowW d [] (fun f vs => PySem.call f vs) := by
  refine Att.attach_call hn hdf fun w s₀ s₁ mg mb fa o pm cd doc a vs ns G Y ho hd hcd hmg hobj hints hlen hg => ?_
  obtain ⟨fd, hb, hF⟩ := F w mg fa _ (hY w _ Y) G.T.g hmg
  exact callG (hY w _ Y) G.T.g G.T.b G.T.builtins G.T.nolimit hg hobj hints (Nat.le_trans hlen hn2) hr hF hb fun H hO hS => hsp w H a ns hlen hO hS
end Lk

set_option Elab.async false
set_option linter.all false
set_option maxRecDepth 100000
set_option maxHeartbeats 4000000
namespace Lk
open PySem PySem.Spec PyProof.Rows L2
/-! ### the texts of words -/
def sg (b : Bool) : Nat := if b = true then 120 else 121
def wS (l : List Bool) : Str := ⟨(l.map sg).toArray⟩
theorem wS_len (l : List Bool) : (wS l).length = l.length := by simp [wS, Str.length]
theorem wS_x : (("x" : Str)) = wS [true] := by decide +kernel
theorem wS_y : (("y" : Str)) = wS [false] := by decide +kernel
theorem wS_yx : (("yx" : Str)) = wS [false, true] := by decide +kernel
theorem wS_nil : (("" : Str)) = wS [] := by decide +kernel
theorem wS_empty : Str.empty = wS [] := rfl
theorem wS_app (a b : List Bool) : wS a ++ wS b = wS (a ++ b) := by
  show (⟨(a.map sg).toArray ++ (b.map sg).toArray⟩ : Str) = ⟨((a ++ b).map sg).toArray⟩
  rw [List.map_append, List.append_toArray]
theorem sg_inj {a b : Bool} (h : sg a = sg b) : a = b := by
  cases a <;> cases b <;> first | rfl | (exact absurd h (by decide))
theorem map_sg_inj : ∀ {a b : List Bool}, a.map sg = b.map sg → a = b
  | [], [], _ => rfl
  | [], _ :: _, h => by cases h
  | _ :: _, [], h => by cases h
  | x :: a, y :: b, h => by
    injection h with h1 h2
    rw [sg_inj h1, map_sg_inj h2]
theorem wS_inj {a b : List Bool} (h : wS a = wS b) : a = b := by
  have h1 : (a.map sg).toArray = (b.map sg).toArray := congrArg Str.cps h
  exact map_sg_inj (by simpa using h1)
theorem wS_mul (l : List Bool) (n : Nat) : Txt.mul (wS l) (n : Int) = wS (List.replicate n l).flatten := by
  unfold Txt.mul
  by_cases h : (n : Int) < 1
  · have e : n = 0 := by omega
    subst e
    rw [if_pos h]
    rfl
  · rw [if_neg h]
    have key : ∀ (k : Nat) (acc : Array Nat), (List.replicate k (wS l).cps).foldl (· ++ ·) acc = acc ++ ((List.replicate k l).flatten.map sg).toArray := by
      intro k
      induction k with
      | zero => intro acc; simp
      | succ k ih =>
        intro acc
        rw [List.replicate_succ, List.foldl_cons, ih, List.replicate_succ, List.flatten_cons, List.map_append, ← List.append_toArray, Array.append_assoc]
        rfl
    split
    · rename_i hc
      rw [Bool.or_eq_true, beq_iff_eq, beq_iff_eq] at hc
      rcases hc with hc | hc
      · have e : n = 1 := by omega
        subst e
        show wS l = wS (l ++ [])
        rw [List.append_nil]
      · have e : l = [] := by
          rw [wS_len] at hc
          exact List.length_eq_zero_iff.mp hc
        subst e
        have : (List.replicate n ([] : List Bool)).flatten = [] := by simp
        rw [this]
    · show (⟨(List.replicate n (wS l).cps).foldl (· ++ ·) #[]⟩ : Str) = _
      rw [key]
      simp [wS]
theorem flat_one (n : Nat) (b : Bool) : (List.replicate n [b]).flatten = List.replicate n b := by
  induction n with
  | zero => rfl
  | succ n ih =>
    rw [List.replicate_succ, List.flatten_cons, ih, List.replicate_succ]
    rfl
theorem mul_x (n : Nat) : Txt.mul ("x" : Str) (n : Int) = wS (List.replicate n true) := by rw [wS_x, wS_mul, flat_one]
theorem mul_y (n : Nat) : Txt.mul ("y" : Str) (n : Int) = wS (List.replicate n false) := by rw [wS_y, wS_mul, flat_one]
theorem wS_list (l : List Bool) : (wS l).cps.toList = l.map sg := by simp [wS]
theorem count_x (l : List Bool) : Txt.count (wS l) ("x" : Str) = (nx l : Int) := by
  rw [show ("x" : Str) = ⟨#[120]⟩ by decide +kernel, count_cnt, wS_list]
  induction l with
  | nil => rfl
  | cons b r ih =>
    rw [List.map_cons, cnt_cons, ih]
    cases b
    · rw [nx_f, if_neg (by decide)]
      omega
    · rw [nx_t, if_pos (by decide)]
      omega
theorem count_y (l : List Bool) : Txt.count (wS l) ("y" : Str) = (ny l : Int) := by
  rw [show ("y" : Str) = ⟨#[121]⟩ by decide +kernel, count_cnt, wS_list]
  induction l with
  | nil => rfl
  | cons b r ih =>
    rw [List.map_cons, cnt_cons, ih]
    cases b
    · rw [ny_f, if_pos (by decide)]
      omega
    · rw [ny_t, if_neg (by decide)]
      omega
/-- one letter -/
def lt (b : Bool) : Str := ⟨#[sg b]⟩
theorem lt_x : lt true = ("x" : Str) := by decide +kernel
theorem lt_y : lt false = ("y" : Str) := by decide +kernel
theorem lt_is (b : Bool) : decide (V.str (lt b) = V.str ("x" : Str)) = b := by cases b <;> decide +kernel
theorem wS_at (l : List Bool) (k : Nat) (h : k < l.length) : (wS l).cps[k]? = some (sg l[k]) := by
  simp [wS, h]
theorem wS_size (l : List Bool) : (wS l).cps.size = l.length := wS_len l
theorem small_line {n : Nat} (h : n ≤ 100000) : n ≤ sizeLine := Nat.le_trans h (by decide)
theorem small_line' {n : Nat} (h : n ≤ 100000) : n < sizeLine := Nat.lt_of_le_of_lt h (by decide)
theorem hu_of' {X : Cx} {k : Nat} (hr : Room k X.A) : X.A.units + 64 < cLine := hr.units

/-! ### heaps -/
theorem same_new {H H' : Hp} {p : Addr} {o : HO} (e : Same H H') (h : H' p = none) : Same H (upd H' p o) := fun b x q => by
  rw [upd_ne (ne_of_none (e b x q) h)]
  exact e b x q
theorem same_mut {H H' : Hp} {p : Addr} {o : HO} (e : Same H H') (h : H p = none) : Same H (upd H' p o) := fun b x q => by
  rw [upd_ne (ne_of_none q h)]
  exact e b x q
theorem Same.seqT {K : PySem.W.Frag} {H H' : Hp} {a : Addr} {xs : List V} (e : Same H H') (h : SqT K H a xs) : SqT K H' a xs := by
  rcases h with (h | ⟨o, h⟩) | h
  · exact .inl (.inl (e _ _ h))
  · exact .inl (.inr ⟨o, e _ _ h⟩)
  · exact .inr h
/-- all but the object at r -/
def But (r : Addr) (H H' : Hp) : Prop := ∀ b o, b ≠ r → H b = some o → H' b = some o
theorem But.refl {r : Addr} {H : Hp} : But r H H := fun _ _ _ q => q
theorem But.trans {r : Addr} {H H1 H2 : Hp} (a : But r H H1) (b : But r H1 H2) : But r H H2 := fun c o n q => b c o n (a c o n q)
theorem Same.but {r : Addr} {H H' : Hp} (e : Same H H') : But r H H' := fun b o _ q => e b o q
theorem But.upd {r : Addr} {H : Hp} {o : HO} : But r H (upd H r o) := fun b x n q => by
  rw [upd_ne n]
  exact q
theorem But.free {r : Addr} {H H' : Hp} (e : But r H H') {p : Addr} (h : H' p = none) (n : p ≠ r) : H p = none := by
  cases q : H p with
  | none => rfl
  | some o =>
    rw [e p o n q] at h
    cases h
/-- the reel: three numbers; the third is at most n -/
def Reel (H : Hp) (r : Addr) (n : Nat) : Prop := ∃ a b c : Int, H r = some (.lst [.int a, .int b, .int c]) ∧ 0 ≤ a ∧ 0 ≤ b ∧ b < 2 ^ 200 ∧ 0 ≤ c ∧ c ≤ (n : Int)
theorem Reel.same {H H' : Hp} {r : Addr} {n : Nat} (e : Same H H') (h : Reel H r n) : Reel H' r n := by
  obtain ⟨a, b, c, h1, h2⟩ := h
  exact ⟨a, b, c, e _ _ h1, h2⟩
theorem Reel.le {H : Hp} {r : Addr} {n m : Nat} (h : Reel H r n) (hm : n ≤ m) : Reel H r m := by
  obtain ⟨a, b, c, h1, h2, h3, h4, h5, h6⟩ := h
  exact ⟨a, b, c, h1, h2, h3, h4, h5, by omega⟩
/-- a Layout -/
def lf (l : List Bool) : List (Str × V) := [("_word", .str (wS l)), ("_x_bits", .int (nx l)), ("_y_bits", .int (ny l))]
def Lay (C : Addr) (H : Hp) (p : Addr) (l : List Bool) : Prop := ∃ dx, H p = some (.ins C dx (lf l))
theorem Lay.same {C : Addr} {H H' : Hp} {p : Addr} {l : List Bool} (e : Same H H') (h : Lay C H p l) : Lay C H' p l := by
  obtain ⟨dx, h⟩ := h
  exact ⟨dx, e _ _ h⟩
theorem Lay.but {C r : Addr} {H H' : Hp} {p : Addr} {l : List Bool} (e : But r H H') (n : p ≠ r) (h : Lay C H p l) : Lay C H' p l := by
  obtain ⟨dx, h⟩ := h
  exact ⟨dx, e _ _ n h⟩
theorem lf_word (l : List Bool) : (lf l).lookup ("_word" : Str) = some (.str (wS l)) := rfl
theorem lf_x (l : List Bool) : (lf l).lookup ("_x_bits" : Str) = some (.int (nx l)) := rfl
theorem lf_y (l : List Bool) : (lf l).lookup ("_y_bits" : Str) = some (.int (ny l)) := rfl
/-- a word as Layout takes it -/
def GoodW (l : List Bool) : Prop := l ≠ [] ∧ nx l ≤ 100 ∧ ny l ≤ 100
theorem GoodW.len {l : List Bool} (h : GoodW l) : l.length ≤ 200 := by
  have := nxy l
  have := h.2
  omega
theorem good_of {l : List Bool} {n m : Nat} (h1 : nx l = n) (h2 : ny l = m) (hn : n ≤ 100) (hm : m ≤ 100) (h : 1 ≤ n + m) : GoodW l := ⟨ne_nil_of (by omega), by omega, by omega⟩
theorem made_same {C x dx : Addr} {H H' : Hp} (n1 : H x = none) (n2 : H dx = none) (e : But x (upd (upd H dx (.own x)) x (.ins C dx [])) H') : Same H H' := fun b o q => by
  have nb : b ≠ x := ne_of_none q n1
  refine e b o nb ?_
  rw [upd_ne nb, upd_ne (ne_of_none q n2)]
  exact q
theorem len_x : ("x" : Str).length ≤ 1000 := by decide +kernel
theorem len_y : ("y" : Str).length ≤ 1000 := by decide +kernel
theorem len_yx : ("yx" : Str).length ≤ 1000 := by decide +kernel
theorem mul_yx (n : Nat) : Txt.mul ("yx" : Str) (n : Int) = wS (yxs n) := by rw [wS_yx, wS_mul, flat_yx]
theorem add_yx {n m : Nat} (hn : n ≤ 100) (hm : m ≤ 100) : (Txt.mul ("y" : Str) (m : Int)).length + (Txt.mul ("x" : Str) (n : Int)).length ≤ sizeLine := by
  rw [mul_x, mul_y, wS_len, wS_len, List.length_replicate, List.length_replicate]
  exact small_line (by omega)
theorem add_xy {n m : Nat} (hn : n ≤ 100) (hm : m ≤ 100) : (Txt.mul ("x" : Str) (n : Int)).length + (Txt.mul ("y" : Str) (m : Int)).length ≤ sizeLine := by
  rw [mul_x, mul_y, wS_len, wS_len, List.length_replicate, List.length_replicate]
  exact small_line (by omega)
theorem small_pow {k : Nat} (h : k ≤ 1000000) : k < 2 ^ 1000 := Nat.lt_of_le_of_lt h (by decide +kernel)
theorem pw {x : Nat} (h : x ≤ 999) : 2 ^ x < 2 ^ 1000 := Nat.pow_lt_pow_right (by decide) (by omega)
theorem pwl {a n m : Nat} (h : a < 2 ^ n) (hn : n ≤ m) : a < 2 ^ m := Nat.lt_of_lt_of_le h (Nat.pow_le_pow_right (by decide) hn)
theorem cmulN {a b : Nat} (ha : a < 2 ^ 1000) (hb : b < 2 ^ 1000) : CMulW (a : Int) (b : Int) :=
  wide_mul (a := 1000) (b := 1000) (by rw [Int.natAbs_natCast]; exact ha) (by rw [Int.natAbs_natCast]; exact hb) (by decide) (by decide) (by decide)
theorem cdivN {a : Int} {b : Nat} (h0 : 0 < b) (hb : b < 2 ^ 1000) : CDivW a (b : Int) :=
  wide_div (b := 1000) (by omega) (by rw [Int.natAbs_natCast]; exact hb) (by decide) (by decide)
theorem Reel.ne {H : Hp} {r p : Addr} {n : Nat} (h : Reel H r n) (hp : H p = none) : p ≠ r := fun z => by
  obtain ⟨_, _, _, e, _⟩ := h
  rw [z, e] at hp
  cases hp
@[elab_as_elim] theorem to_any {p : Hp → Prop} {H H' : Hp} (e : Same H H') (h : ∀ H2, Same H H2 → p H2) : p H' := h H' e
theorem modNat (a b : Nat) : ((a : Int)).fmod (b : Int) = ((a % b : Nat) : Int) := by
  rw [Int.fmod_eq_emod_of_nonneg _ (by omega)]
  rfl
theorem divNat (a b : Nat) : ((a : Int)) / (b : Int) = ((a / b : Nat) : Int) := rfl
theorem fdivNat (a b : Nat) : ((a : Int)).fdiv (b : Int) = ((a / b : Nat) : Int) := by
  rw [Int.fdiv_eq_ediv_of_nonneg _ (by omega)]
  rfl
theorem join0 : ∀ (ys : List (List Bool)), Txt.join ("" : Str) (ys.map wS) = wS ys.flatten
  | [] => by decide +kernel
  | y :: r => by
    have key : ∀ (r : List (List Bool)) (acc : List Bool), (r.map wS).foldl (fun acc p => acc ++ ("" : Str).cps ++ p.cps) (wS acc).cps = (wS (acc ++ r.flatten)).cps := by
      intro r
      induction r with
      | nil =>
        intro acc
        simp
      | cons z r ih =>
        intro acc
        have e0 : ("" : Str).cps = #[] := by decide +kernel
        rw [List.map_cons, List.foldl_cons, e0, Array.append_empty]
        have e1 : (wS acc).cps ++ (wS z).cps = (wS (acc ++ z)).cps := congrArg Str.cps (wS_app acc z)
        rw [e1]
        have := ih (acc ++ z)
        rw [e0] at this
        rw [this, List.flatten_cons, List.append_assoc]
    show (⟨(r.map wS).foldl (fun acc p => acc ++ ("" : Str).cps ++ p.cps) (wS y).cps⟩ : Str) = _
    rw [key r y, List.flatten_cons]
/-- the feet as they stand -/
def FeetAt (H : Hp) (p : Addr) (ts : List Addr) (fl : List (Bool × Nat × Nat)) : Prop :=
  H p = some (.lst (ts.map V.ref)) ∧ ts.length = fl.length ∧ ∀ (k : Nat) (t : Addr) (f : Bool × Nat × Nat), ts[k]? = some t → fl[k]? = some f → H t = some (.tup [.str (lt f.1), .int (f.2.1 : Nat), .int (f.2.2 : Nat)])
theorem FeetAt.same {H H' : Hp} {p : Addr} {ts : List Addr} {fl : List (Bool × Nat × Nat)} (e : Same H H') (h : FeetAt H p ts fl) : FeetAt H' p ts fl :=
  ⟨e _ _ h.1, h.2.1, fun k t f h1 h2 => e _ _ (h.2.2 k t f h1 h2)⟩
theorem iteT' {A B : Prop} {c : Bool} (e : c = true) (h : A) : if c = true then A else B := by
  rw [if_pos e]
  exact h
theorem iteF' {A B : Prop} {c : Bool} (e : c = false) (h : B) : if c = true then A else B := by
  rw [e, if_neg Bool.false_ne_true]
  exact h
end Lk

set_option Elab.async false
set_option linter.all false
set_option maxRecDepth 100000
set_option maxHeartbeats 4000000
namespace Lk
open PySem PySem.Spec PyProof.Rows L2
/-! ### plain data: numbers of a thousand bits, short words -/
def Atm : PyData → Prop
  | .int i => i.natAbs < 2 ^ 1000
  | .str x => ∃ l : List Bool, x = wS l ∧ l.length ≤ 1000
  | .none => True
  | .bool _ => True
  | _ => False
theorem sg_lt (b : Bool) : sg b < 128 := by cases b <;> decide
theorem wS_cp {l : List Bool} {c : Nat} (h : c ∈ (wS l).cps.toList) : c < 128 := by
  rw [wS_list] at h
  obtain ⟨b, _, e⟩ := List.mem_map.mp h
  rw [← e]
  exact sg_lt b
theorem ofString_len (s : String) : (Str.ofString s).length = s.length := by
  rw [Str.ofString_eq_toList]
  show (s.toList.map Char.toNat).toArray.size = _
  rw [List.size_toArray, List.length_map]
  first
    | rfl
    | exact String.length_toList
    | exact s.length_toList
    | exact (String.length_toList s)
theorem atm_ok (d : PyData) (h : Atm d) : d.showable = true ∧ d.hasDict = false ∧ d.depth = 0 ∧ d.canLay0 = true ∧ d.leavesShort 1002 = true ∧ d.weight ≤ 1000 := by
  cases d with
  | none => simp [PyData.showable, PyData.hasDict, PyData.depth, PyData.canLay0, PyData.leavesShort, PyData.weight]
  | bool b => simp [PyData.showable, PyData.hasDict, PyData.depth, PyData.canLay0, PyData.leavesShort, PyData.weight]
  | int i =>
    have h' : i.natAbs < 2 ^ 1000 := h
    have hl : i.natAbs.log2 < 1000 := PySem.Flt.log2_lt_of (by decide) h'
    refine ⟨?_, by simp only [PyData.hasDict], by simp only [PyData.depth], by simp only [PyData.canLay0], ?_, ?_⟩
    · simp only [PyData.showable]
      exact decide_eq_true (by omega)
    · simp only [PyData.leavesShort, PyData.shown]
      refine decide_eq_true ?_
      rw [ofString_len]
      have := int_text_length_le (by decide) hl
      omega
    · simp only [PyData.weight]
      split <;> omega
  | str x =>
    obtain ⟨l, rfl, hl⟩ : ∃ l : List Bool, x = wS l ∧ l.length ≤ 1000 := h
    refine ⟨by simp only [PyData.showable], by simp only [PyData.hasDict], by simp only [PyData.depth], ?_, ?_, ?_⟩
    · simp only [PyData.canLay0]
      show (wS l).cps.all (· < 0x110000) = true
      rw [← Array.all_toList, List.all_eq_true]
      intro c hc
      exact decide_eq_true (Nat.lt_trans (wS_cp hc) (by decide))
    · simp only [PyData.leavesShort]
      rw [List.all_eq_true]
      intro c hc
      exact decide_eq_true (Nat.lt_trans (wS_cp hc) (by decide))
    · simp only [PyData.weight]
      rw [wS_size]
      exact hl
  | list _ => exact h.elim
  | tuple _ => exact h.elim
  | dict _ => exact h.elim
theorem atms_ok : ∀ ds : List PyData, (∀ d ∈ ds, Atm d) → PyData.showableAll ds = true ∧ PyData.hasDictAll ds = false ∧ PyData.depthAll ds = 0 ∧ PyData.canLayAll0 ds = true ∧ PyData.leavesShortAll 1002 ds = true ∧ PyData.weightAll ds ≤ 1001 * ds.length
  | [], _ => by simp [PyData.showableAll, PyData.hasDictAll, PyData.depthAll, PyData.canLayAll0, PyData.leavesShortAll, PyData.weightAll]
  | d :: ds, h => by
    obtain ⟨a1, a2, a3, a4, a5, a6⟩ := atm_ok d (h d List.mem_cons_self)
    obtain ⟨b1, b2, b3, b4, b5, b6⟩ := atms_ok ds fun e he => h e (List.mem_cons_of_mem _ he)
    refine ⟨?_, ?_, ?_, ?_, ?_, ?_⟩
    · simp only [PyData.showableAll, a1, b1, Bool.and_self]
    · simp only [PyData.hasDictAll, a2, b2, Bool.or_self]
    · simp only [PyData.depthAll, a3, b3, Nat.max_self]
    · simp only [PyData.canLayAll0, a4, b4, Bool.and_self]
    · simp only [PyData.leavesShortAll, a5, b5, Bool.and_self]
    · simp only [PyData.weightAll, List.length_cons]
      omega
/-- what repr and == ask of a list or tuple of such -/
def RpOk (d : PyData) : Prop := d.showable = true ∧ d.hasDict = false ∧ d.depth ≤ 8 ∧ d.shown.length ≤ sizeLine
theorem rp_list {ds : List PyData} (h : ∀ d ∈ ds, Atm d) (hl : ds.length ≤ 10) : RpOk (.list ds) := by
  obtain ⟨b1, b2, b3, b4, b5, b6⟩ := atms_ok ds h
  refine ⟨by simpa only [PyData.showable] using b1, by simpa only [PyData.hasDict] using b2, ?_, ?_⟩
  · simp only [PyData.depth, b3]
    omega
  · have s := PyData.shown_le 1002 (by decide) (.list ds) (by simpa only [PyData.leavesShort] using b5)
    have e : (PyData.list ds).weight = PyData.weightAll ds := by simp only [PyData.weight]
    rw [e] at s
    have : sizeLine = 16777216 := sizeLine_eq
    omega
theorem rp_tup {ds : List PyData} (h : ∀ d ∈ ds, Atm d) (hl : ds.length ≤ 10) : RpOk (.tuple ds) := by
  obtain ⟨b1, b2, b3, b4, b5, b6⟩ := atms_ok ds h
  refine ⟨by simpa only [PyData.showable] using b1, by simpa only [PyData.hasDict] using b2, ?_, ?_⟩
  · simp only [PyData.depth, b3]
    omega
  · have s := PyData.shown_le 1002 (by decide) (.tuple ds) (by simpa only [PyData.leavesShort] using b5)
    have e : (PyData.tuple ds).weight = PyData.weightAll ds := by simp only [PyData.weight]
    rw [e] at s
    have : sizeLine = 16777216 := sizeLine_eq
    omega
theorem shaped_list {ds : List PyData} (h : ∀ d ∈ ds, Atm d) : SeqAt.shaped (.list ds) = true := by
  obtain ⟨b1, b2, b3, b4, b5, b6⟩ := atms_ok ds h
  unfold SeqAt.shaped
  rw [Bool.and_eq_true]
  refine ⟨by simpa only [PyData.canLay0] using b4, decide_eq_true ?_⟩
  simp only [PyData.depth, b3]
  omega
theorem shaped_tup {ds : List PyData} (h : ∀ d ∈ ds, Atm d) : SeqAt.shaped (.tuple ds) = true := by
  obtain ⟨b1, b2, b3, b4, b5, b6⟩ := atms_ok ds h
  unfold SeqAt.shaped
  rw [Bool.and_eq_true]
  refine ⟨by simpa only [PyData.canLay0] using b4, decide_eq_true ?_⟩
  simp only [PyData.depth, b3]
  omega
theorem all1 {p : PyData → Prop} {a : PyData} (ha : p a) : ∀ d ∈ [a], p d := fun d hd => by
  rw [List.mem_singleton.mp hd]
  exact ha
theorem allc {p : PyData → Prop} {a : PyData} {r : List PyData} (ha : p a) (hr : ∀ d ∈ r, p d) : ∀ d ∈ a :: r, p d := fun d hd => by
  rcases List.mem_cons.mp hd with e | e
  · rw [e]
    exact ha
  · exact hr d e
theorem alln {p : PyData → Prop} : ∀ d ∈ ([] : List PyData), p d := fun d hd => absurd hd List.not_mem_nil
theorem atm_w {l : List Bool} (h : l.length ≤ 1000) : Atm (.str (wS l)) := ⟨l, rfl, h⟩
theorem atm_n {n : Nat} (h : n < 2 ^ 1000) : Atm (.int (n : Int)) := by
  show (n : Int).natAbs < 2 ^ 1000
  rw [Int.natAbs_natCast]
  exact h
theorem eqv_same {d : PyData} (h : SeqAt.shaped d = true) : PyData.eqv d d = true := SeqAt.eqv_refl d (SeqAt.canLay_of_shaped h)
def cn (l : List Bool) (i : Nat) : Nat := if i = 0 then nx l else ny l
theorem cn_le {l : List Bool} (h : GoodW l) (i : Nat) : cn l i ≤ 100 := by
  unfold cn
  split
  · exact h.2.1
  · exact h.2.2
theorem xy_at {i c : Nat} (h : (("xy" : Str)).cps[i]? = some c) (l : List Bool) : i < 2 ∧ Txt.count (wS l) ⟨#[c]⟩ = ((cn l i : Nat) : Int) := by
  have e : ("xy" : Str) = ⟨#[120, 121]⟩ := by decide +kernel
  rw [e] at h
  rcases i with _ | _ | i
  · have hc : c = 120 := (Option.some.inj h).symm
    subst hc
    refine ⟨by omega, ?_⟩
    rw [show (⟨#[120]⟩ : Str) = ("x" : Str) by decide +kernel, count_x]
    rfl
  · have hc : c = 121 := (Option.some.inj h).symm
    subst hc
    refine ⟨by omega, ?_⟩
    rw [show (⟨#[121]⟩ : Str) = ("y" : Str) by decide +kernel, count_y]
    rfl
  · simp at h
theorem xy_size : (("xy" : Str)).cps.size = 2 := by decide +kernel
theorem eqv2 (a b c d : Int) : PyData.eqv (.list [.int a, .int b]) (.list [.int c, .int d]) = (a == c && b == d) := by
  simp only [PyData.eqv, PyData.eqvAll, Bool.and_true]
def pick (u v ax : Nat) : Nat := if ax = 0 then u else v
theorem at2 {u v ax : Nat} (h : ax ≤ 1) : atI [V.int (u : Int), V.int (v : Int)] (ax : Int) = some (V.int ((pick u v ax : Nat) : Int)) := by
  rcases ax with _ | _ | ax
  · rfl
  · rfl
  · omega
end Lk

set_option Elab.async false
set_option linter.all false
set_option maxRecDepth 100000
set_option maxHeartbeats 4000000
namespace Lk
open PySem PySem.Spec PyProof.Rows L2
/-! ### a text backwards -/
def tRevS (te : TE) : TE := fun σ H Q => te σ H fun x H1 => ∃ z : Str, x = .str z ∧ z.length ≤ sizeLine ∧ Q (.str ⟨z.cps.reverse⟩) H1
section
variable {X : Cx}
theorem rev_picked (z : Str) : ((Builtin.Str.strSliceIndices none none (-1) z.length).filterMap (z.cps[·]?)).toArray = z.cps.reverse := by
  rw [picked_rev]
  apply Array.ext'
  rw [List.toList_toArray, Array.toList_reverse]
  obtain ⟨⟨l⟩⟩ := z
  show ((List.range l.length).map fun k => l.length - 1 - k).filterMap (fun i => (l.toArray)[i]?) = l.reverse
  apply List.ext_getElem?
  intro i
  rw [filterMap_get]
  · rw [List.map_map, List.getElem?_map]
    by_cases hi : i < l.length
    · rw [List.getElem?_range hi, List.getElem?_reverse hi]
      show some (l.toArray.getD (l.length - 1 - i) 0) = _
      have h2 : l.length - 1 - i < l.length := by omega
      rw [List.getElem?_eq_getElem h2]
      simp [Array.getD, h2]
    · rw [List.getElem?_eq_none (by simpa using hi), List.getElem?_eq_none (by simpa using hi)]
      rfl
  · intro j hj
    obtain ⟨k, hk, rfl⟩ := List.mem_map.mp hj
    have := List.mem_range.mp hk
    show l.length - 1 - k < l.toArray.size
    rw [List.size_toArray]
    omega
theorem pe_revS {e : Expr} {te : TE} {k : Nat} {p1 p2 p3 pos : Pos} (he : PE X e te) : PE X (.Subscript e (.Slice none none (some (.UnaryOp .USub (.Constant (.int 1) k p1) p2)) p3) pos) (tRevS te) := by
  refine ⟨fun pins s0 σ H0 Q I0 h0 => ?_⟩
  refine Subscript_ (thn (he.run pins s0 σ H0 _ I0 h0) fun v s1 got => ?_)
  obtain ⟨x, H1, I1, rx, z, rfl, hz, q⟩ := got
  obtain ⟨t, rfl⟩ := rx
  have minus : PO X (some (.UnaryOp .USub (.Constant (.int 1) k p1) p2)) (tPart (tUn (rU fun i => .int (-i)) (tC (.int 1)))) := po_some (pe_un un_neg pe_int)
  refine wpAny_Slice (thn (po_none.run pins s1 σ H1 (fun o Hx => o = none ∧ Hx = H1) I1 ⟨rfl, rfl⟩) fun va s2 ga => ?_)
  obtain ⟨oa, Ha, Ia, pa, rfl, rfl⟩ := ga
  refine thn (po_none.run pins s2 σ Ha (fun o Hx => o = none ∧ Hx = Ha) Ia ⟨rfl, rfl⟩) fun vb s3 gb => ?_
  obtain ⟨ob, Hb, Ib, pb, rfl, rfl⟩ := gb
  refine thn (minus.run pins s3 σ Hb (fun o Hx => o = some (-1) ∧ Hx = Hb) Ib ⟨1, rfl, -1, rfl, rfl, rfl⟩) fun vc s4 gc => ?_
  obtain ⟨oc, Hc, Ic, pc, rfl, rfl⟩ := gc
  have Id : Inv X pins σ Hc { s4 with heap := s4.heap.push { cls := .type "slice", data := .fields #[va, vb, vc] } } := Ic.kept (t' := s4.toks) fun b ob qq => Heap.get?_push_of_some _ qq
  obtain ⟨la, rfl, ea⟩ := IsPart.raw pa
  obtain ⟨lb, rfl, eb⟩ := IsPart.raw pb
  obtain ⟨lc, rfl, ec⟩ := IsPart.raw pc
  obtain rfl : la = none := by
    cases la with
    | none => rfl
    | some y => cases ea
  obtain rfl : lb = none := by
    cases lb with
    | none => rfl
    | some y => cases eb
  obtain ⟨uu, rfl⟩ : ∃ uu, lc = some (-1, uu) := by
    cases lc with
    | none => cases ec
    | some y =>
      obtain ⟨y1, y2⟩ := y
      have : y1 = -1 := Option.some.inj ec
      subst this
      exact ⟨y2, rfl⟩
  refine tail_any (typeIs_str _ _ _) PySem.F.slot_str_getitem.lookup ?_ (by with_unfolding_all rfl)
  refine wpAny_getItem_str_slice (l := none) (u := none) (st := some (-1, uu)) ⟨_, Heap.get?_push_size _ rfl, rfl, rfl⟩ rfl ?_
  have hp := rev_picked z
  unfold sliceMade
  show Made.post (if ((-1 : Int) == 1 && (Builtin.Str.strSliceIndices none none (-1) z.length).length == z.length) = true then Made.val (.str z t) else Made.str ⟨((Builtin.Str.strSliceIndices none none (-1) z.length).filterMap (z.cps[·]?)).toArray⟩) _ _
  rw [if_neg (by simp), hp]
  refine ⟨?_, .str ⟨z.cps.reverse⟩, Hc, Id.tok _, ⟨_, rfl⟩, q⟩
  show z.cps.reverse.size ≤ sizeLine
  rw [Array.size_reverse]
  exact hz
end
end Lk

set_option Elab.async false
set_option linter.all false
set_option maxRecDepth 100000
set_option maxHeartbeats 4000000
namespace Lk
open PySem PySem.Spec PyProof.Rows L2

local macro_rules | `(tactic| walk_at "sd") => `(tactic| first
  | exact (by assumption)
  | exact Nat.le_of_ble_eq_true rfl
  | decide
  | exact .inl ⟨by decide, by decide⟩
  | exact .inr ⟨by decide, by decide⟩
  | exact ⟨by decide, by decide, by decide⟩
  | exact ⟨by decide, by decide⟩
  | exact .inl ⟨rfl, _, SqL.of (by assumption)⟩
  | exact ⟨Int.natCast_nonneg _, by omega, by decide⟩
  | exact ⟨by omega, by omega, by omega⟩
  | omega)
local macro_rules | `(tactic| walk_at "rd1") => `(tactic| first
  | refine ⟨_, rfl, ?_⟩
  | refine ⟨_, _, rfl, rfl, ?_⟩
  | refine .inl ⟨_, rfl, ?_⟩
  | refine .inl ⟨_, _, rfl, rfl, ?_⟩
  | refine .inr ⟨_, rfl, ?_⟩
  | refine ⟨_, _, rfl, ?_⟩
  | refine ⟨_, _, _, rfl, ?_⟩
  | refine ⟨_, _, _, _, rfl, rfl, SqL.of (by assumption), rfl, ?_⟩
  | refine ⟨_, _, _, _, rfl, rfl, SqT.of (by assumption), rfl, ?_⟩
  | refine ⟨_, _, rfl, SqT.of (by assumption), rfl, ?_⟩
  | refine ⟨_, _, rfl, SqT.of upd_same, rfl, ?_⟩
  | refine ⟨_, _, rfl, SqL.of (by assumption), rfl, ?_⟩
  | refine ⟨_, _, _, _, rfl, rfl, (by assumption), rfl, ?_⟩
  | refine ⟨_, _, _, rfl, (by assumption), ?_⟩
  | refine ⟨_, _, rfl, ⟨_, (by assumption)⟩, ?_⟩
  | refine ⟨rfl, ?_⟩
  | refine And.intro (by walk_at "sd") ?_)
local macro_rules | `(tactic| walk_at "rd") => `(tactic| repeat walk_at "rd1")
def topS (i : Nat) : Stmt := PySem.Challenge.pw_lacekeys_k02_made_layouts.main.body.getD i (.Pass ⟨0, 0, 0, 0⟩)
abbrev sLayout_word : Stmt := inClass (topS 19) 2
theorem scLayout_word : FnScope ["self"] ["self"] (defScope sLayout_word) := ⟨rfl, rfl, rfl, by decide +kernel, rfl, by decide +kernel, by decide +kernel⟩
abbrev sLayoutU_eqU : Stmt := inClass (topS 19) 1
theorem scLayoutU_eqU : FnScope ["self", "other"] ["self", "other"] (defScope sLayoutU_eqU) := ⟨rfl, rfl, rfl, by decide +kernel, rfl, by decide +kernel, by decide +kernel⟩
abbrev sis_integer : Stmt := topS 8
theorem scis_integer : FnScope ["value"] ["value"] (defScope sis_integer) := ⟨rfl, rfl, rfl, by decide +kernel, rfl, by decide +kernel, by decide +kernel⟩
abbrev sis_between : Stmt := topS 9
theorem scis_between : FnScope ["value", "low", "high"] ["value", "low", "high"] (defScope sis_between) := ⟨rfl, rfl, rfl, by decide +kernel, rfl, by decide +kernel, by decide +kernel⟩
abbrev scheck_key : Stmt := topS 14
theorem sccheck_key : FnScope ["key", "x_bits", "y_bits"] ["key", "x_bits", "y_bits"] (defScope scheck_key) := ⟨rfl, rfl, rfl, by decide +kernel, rfl, by decide +kernel, by decide +kernel⟩
abbrev sfeet : Stmt := topS 17
theorem scfeet : FnScope ["word", "i", "j", "found", "letter"] ["word"] (defScope sfeet) := ⟨rfl, rfl, rfl, by decide +kernel, rfl, by decide +kernel, by decide +kernel⟩
abbrev sLayout_cell : Stmt := inClass (topS 19) 6
theorem scLayout_cell : FnScope ["self", "key", "x", "y", "letter", "i", "j", "digit"] ["self", "key"] (defScope sLayout_cell) := ⟨rfl, rfl, rfl, by decide +kernel, rfl, by decide +kernel, by decide +kernel⟩
abbrev sare_integers : Stmt := topS 10
theorem scare_integers : FnScope ["value", "many", "part"] ["value", "many"] (defScope sare_integers) := ⟨rfl, rfl, rfl, by decide +kernel, rfl, by decide +kernel, by decide +kernel⟩
abbrev sis_cell : Stmt := topS 11
theorem scis_cell : FnScope ["value", "x_bits", "y_bits", "x", "y"] ["value", "x_bits", "y_bits"] (defScope sis_cell) := ⟨rfl, rfl, rfl, by decide +kernel, rfl, by decide +kernel, by decide +kernel⟩
abbrev scheck_cell : Stmt := topS 13
theorem sccheck_cell : FnScope ["cell", "x_bits", "y_bits"] ["cell", "x_bits", "y_bits"] (defScope scheck_cell) := ⟨rfl, rfl, rfl, by decide +kernel, rfl, by decide +kernel, by decide +kernel⟩
abbrev sLayout_key : Stmt := inClass (topS 19) 5
theorem scLayout_key : FnScope ["self", "cell", "x", "y", "total", "letter", "i", "j", "digit"] ["self", "cell"] (defScope sLayout_key) := ⟨rfl, rfl, rfl, by decide +kernel, rfl, by decide +kernel, by decide +kernel⟩
abbrev slaw_power : Stmt := topS 28
theorem sclaw_power : FnScope ["depth", "found", "turn"] ["depth"] (defScope slaw_power) := ⟨rfl, rfl, rfl, by decide +kernel, rfl, by decide +kernel, by decide +kernel⟩
abbrev slaw_spin : Stmt := topS 27
theorem sclaw_spin : FnScope ["reel", "many", "drawn", "mixed"] ["reel", "many"] (defScope slaw_spin) := ⟨rfl, rfl, rfl, by decide +kernel, rfl, by decide +kernel, by decide +kernel⟩
abbrev sis_word : Stmt := topS 16
theorem scis_word : FnScope ["value", "x_bits", "y_bits"] ["value"] (defScope sis_word) := ⟨rfl, rfl, rfl, by decide +kernel, rfl, by decide +kernel, by decide +kernel⟩
abbrev sLayoutU_initU : Stmt := inClass (topS 19) 0
theorem scLayoutU_initU : FnScope ["self", "word"] ["self", "word"] (defScope sLayoutU_initU) := ⟨rfl, rfl, rfl, by decide +kernel, rfl, by decide +kernel, by decide +kernel⟩
abbrev scheck_bits : Stmt := topS 12
theorem sccheck_bits : FnScope ["x_bits", "y_bits"] ["x_bits", "y_bits"] (defScope scheck_bits) := ⟨rfl, rfl, rfl, by decide +kernel, rfl, by decide +kernel, by decide +kernel⟩
abbrev scolumns : Stmt := topS 21
theorem sccolumns : FnScope ["x_bits", "y_bits"] ["x_bits", "y_bits"] (defScope scolumns) := ⟨rfl, rfl, rfl, by decide +kernel, rfl, by decide +kernel, by decide +kernel⟩
abbrev slaced : Stmt := topS 22
theorem sclaced : FnScope ["x_bits", "y_bits", "turns"] ["x_bits", "y_bits"] (defScope slaced) := ⟨rfl, rfl, rfl, by decide +kernel, rfl, by decide +kernel, by decide +kernel⟩
abbrev srows_word : Stmt := topS 24
theorem scrows_word : FnScope ["x_bits", "y_bits"] ["x_bits", "y_bits"] (defScope srows_word) := ⟨rfl, rfl, rfl, by decide +kernel, rfl, by decide +kernel, by decide +kernel⟩
abbrev srows : Stmt := topS 20
theorem scrows : FnScope ["x_bits", "y_bits"] ["x_bits", "y_bits"] (defScope srows) := ⟨rfl, rfl, rfl, by decide +kernel, rfl, by decide +kernel, by decide +kernel⟩
abbrev stiled : Stmt := topS 23
theorem sctiled : FnScope ["x_bits", "y_bits", "tile_x", "tile_y"] ["x_bits", "y_bits", "tile_x", "tile_y"] (defScope stiled) := ⟨rfl, rfl, rfl, by decide +kernel, rfl, by decide +kernel, by decide +kernel⟩
abbrev slaw_right : Stmt := topS 29
theorem sclaw_right : FnScope ["reel", "most", "x_bits", "y_bits", "one", "two", "wide", "high", "x", "y", "due", "left", "turn", "tile_x", "tile_y", "some", "parts", "size", "across", "tile", "line", "spot", "within"] ["reel", "most"] (defScope slaw_right) := ⟨rfl, rfl, rfl, by decide +kernel, rfl, by decide +kernel, by decide +kernel⟩
abbrev slaw_wound : Stmt := topS 26
theorem sclaw_wound : FnScope ["script", "k", "cell"] ["script", "k"] (defScope slaw_wound) := ⟨rfl, rfl, rfl, by decide +kernel, rfl, by decide +kernel, by decide +kernel⟩
abbrev slaw : Stmt := topS 30
theorem sclaw : FnScope ["script", "k", "reel", "most", "told"] ["script"] (defScope slaw) := ⟨rfl, rfl, rfl, by decide +kernel, rfl, by decide +kernel, by decide +kernel⟩
structure Ads where
  C_Layout : Addr
  f_Layout_word : Addr
  d_Layout_word : FuncData
  p_Layout_word : Addr
  f_LayoutU_eqU : Addr
  d_LayoutU_eqU : FuncData
  f_is_integer : Addr
  d_is_integer : FuncData
  f_is_between : Addr
  d_is_between : FuncData
  f_check_key : Addr
  d_check_key : FuncData
  f_feet : Addr
  d_feet : FuncData
  f_Layout_cell : Addr
  d_Layout_cell : FuncData
  f_are_integers : Addr
  d_are_integers : FuncData
  f_is_cell : Addr
  d_is_cell : FuncData
  f_check_cell : Addr
  d_check_cell : FuncData
  f_Layout_key : Addr
  d_Layout_key : FuncData
  f_law_power : Addr
  d_law_power : FuncData
  f_law_spin : Addr
  d_law_spin : FuncData
  f_is_word : Addr
  d_is_word : FuncData
  f_LayoutU_initU : Addr
  d_LayoutU_initU : FuncData
  f_check_bits : Addr
  d_check_bits : FuncData
  f_columns : Addr
  d_columns : FuncData
  f_laced : Addr
  d_laced : FuncData
  f_rows_word : Addr
  d_rows_word : FuncData
  f_rows : Addr
  d_rows : FuncData
  f_tiled : Addr
  d_tiled : FuncData
  f_law_right : Addr
  d_law_right : FuncData
  f_law_wound : Addr
  d_law_wound : FuncData
  f_law : Addr
  d_law : FuncData
structure Top (K : PySem.W.Frag) (mg : Str → Option Value) (Z : Ads) : Prop where
  F_Layout_word : Fun K "word" "Layout.word" sLayout_word Z.f_Layout_word Z.d_Layout_word
  b_Layout_word : Binds K Z.d_Layout_word ["self"] []
  p_Layout_word : PropOf K Z.C_Layout "word" Z.p_Layout_word Z.f_Layout_word
  F_LayoutU_eqU : Fun K "__eq__" "Layout.__eq__" sLayoutU_eqU Z.f_LayoutU_eqU Z.d_LayoutU_eqU
  b_LayoutU_eqU : Binds K Z.d_LayoutU_eqU ["self", "other"] []
  meth_LayoutU_eqU : Meth K Z.C_Layout "__eq__" Z.f_LayoutU_eqU
  F_is_integer : Fun K "is_integer" "is_integer" sis_integer Z.f_is_integer Z.d_is_integer
  b_is_integer : Binds K Z.d_is_integer ["value"] []
  m_is_integer : mg "is_integer" = some (.ref Z.f_is_integer)
  F_is_between : Fun K "is_between" "is_between" sis_between Z.f_is_between Z.d_is_between
  b_is_between : Binds K Z.d_is_between ["value", "low", "high"] []
  m_is_between : mg "is_between" = some (.ref Z.f_is_between)
  F_check_key : Fun K "check_key" "check_key" scheck_key Z.f_check_key Z.d_check_key
  b_check_key : Binds K Z.d_check_key ["key", "x_bits", "y_bits"] []
  m_check_key : mg "check_key" = some (.ref Z.f_check_key)
  F_feet : Fun K "feet" "feet" sfeet Z.f_feet Z.d_feet
  b_feet : Binds K Z.d_feet ["word"] []
  m_feet : mg "feet" = some (.ref Z.f_feet)
  F_Layout_cell : Fun K "cell" "Layout.cell" sLayout_cell Z.f_Layout_cell Z.d_Layout_cell
  b_Layout_cell : Binds K Z.d_Layout_cell ["self", "key"] []
  meth_Layout_cell : Meth K Z.C_Layout "cell" Z.f_Layout_cell
  F_are_integers : Fun K "are_integers" "are_integers" sare_integers Z.f_are_integers Z.d_are_integers
  b_are_integers : Binds K Z.d_are_integers ["value", "many"] []
  m_are_integers : mg "are_integers" = some (.ref Z.f_are_integers)
  F_is_cell : Fun K "is_cell" "is_cell" sis_cell Z.f_is_cell Z.d_is_cell
  b_is_cell : Binds K Z.d_is_cell ["value", "x_bits", "y_bits"] []
  m_is_cell : mg "is_cell" = some (.ref Z.f_is_cell)
  F_check_cell : Fun K "check_cell" "check_cell" scheck_cell Z.f_check_cell Z.d_check_cell
  b_check_cell : Binds K Z.d_check_cell ["cell", "x_bits", "y_bits"] []
  m_check_cell : mg "check_cell" = some (.ref Z.f_check_cell)
  F_Layout_key : Fun K "key" "Layout.key" sLayout_key Z.f_Layout_key Z.d_Layout_key
  b_Layout_key : Binds K Z.d_Layout_key ["self", "cell"] []
  meth_Layout_key : Meth K Z.C_Layout "key" Z.f_Layout_key
  F_law_power : Fun K "_law_power" "_law_power" slaw_power Z.f_law_power Z.d_law_power
  b_law_power : Binds K Z.d_law_power ["depth"] []
  m_law_power : mg "_law_power" = some (.ref Z.f_law_power)
  F_law_spin : Fun K "_law_spin" "_law_spin" slaw_spin Z.f_law_spin Z.d_law_spin
  b_law_spin : Binds K Z.d_law_spin ["reel", "many"] []
  m_law_spin : mg "_law_spin" = some (.ref Z.f_law_spin)
  F_is_word : Fun K "is_word" "is_word" sis_word Z.f_is_word Z.d_is_word
  b_is_word : Binds K Z.d_is_word ["value"] []
  m_is_word : mg "is_word" = some (.ref Z.f_is_word)
  F_LayoutU_initU : Fun K "__init__" "Layout.__init__" sLayoutU_initU Z.f_LayoutU_initU Z.d_LayoutU_initU
  b_LayoutU_initU : Binds K Z.d_LayoutU_initU ["self", "word"] []
  mk_Layout : Mk K Z.C_Layout Z.f_LayoutU_initU
  F_check_bits : Fun K "check_bits" "check_bits" scheck_bits Z.f_check_bits Z.d_check_bits
  b_check_bits : Binds K Z.d_check_bits ["x_bits", "y_bits"] []
  m_check_bits : mg "check_bits" = some (.ref Z.f_check_bits)
  F_columns : Fun K "columns" "columns" scolumns Z.f_columns Z.d_columns
  b_columns : Binds K Z.d_columns ["x_bits", "y_bits"] []
  m_columns : mg "columns" = some (.ref Z.f_columns)
  F_laced : Fun K "laced" "laced" slaced Z.f_laced Z.d_laced
  b_laced : Binds K Z.d_laced ["x_bits", "y_bits"] []
  m_laced : mg "laced" = some (.ref Z.f_laced)
  F_rows_word : Fun K "_rows_word" "_rows_word" srows_word Z.f_rows_word Z.d_rows_word
  b_rows_word : Binds K Z.d_rows_word ["x_bits", "y_bits"] []
  m_rows_word : mg "_rows_word" = some (.ref Z.f_rows_word)
  F_rows : Fun K "rows" "rows" srows Z.f_rows Z.d_rows
  b_rows : Binds K Z.d_rows ["x_bits", "y_bits"] []
  m_rows : mg "rows" = some (.ref Z.f_rows)
  F_tiled : Fun K "tiled" "tiled" stiled Z.f_tiled Z.d_tiled
  b_tiled : Binds K Z.d_tiled ["x_bits", "y_bits", "tile_x", "tile_y"] []
  m_tiled : mg "tiled" = some (.ref Z.f_tiled)
  F_law_right : Fun K "_law_right" "_law_right" slaw_right Z.f_law_right Z.d_law_right
  b_law_right : Binds K Z.d_law_right ["reel", "most"] []
  m_law_right : mg "_law_right" = some (.ref Z.f_law_right)
  F_law_wound : Fun K "_law_wound" "_law_wound" slaw_wound Z.f_law_wound Z.d_law_wound
  b_law_wound : Binds K Z.d_law_wound ["script", "k"] []
  m_law_wound : mg "_law_wound" = some (.ref Z.f_law_wound)
  F_law : Fun K "law" "law" slaw Z.f_law Z.d_law
  b_law : Binds K Z.d_law ["script"] []
  m_law : mg "law" = some (.ref Z.f_law)
  m_Layout : mg "Layout" = some (.ref Z.C_Layout)
  cl_Layout : Cls K Z.C_Layout
  ins_Layout : C8.InsC K Z.C_Layout
  no_Layout_word : NoAttr K Z.C_Layout "_word"
  no_Layout_x_bits : NoAttr K Z.C_Layout "_x_bits"
  no_Layout_y_bits : NoAttr K Z.C_Layout "_y_bits"
  z_all : mg "all" = none
  z_bool : mg "bool" = none
  z_int : mg "int" = none
  z_isinstance : mg "isinstance" = none
  z_len : mg "len" = none
  z_max : mg "max" = none
  z_min : mg "min" = none
  z_range : mg "range" = none
  z_repr : mg "repr" = none
  z_str : mg "str" = none
  z_tuple : mg "tuple" = none
  m_MOST_BITS : ∃ t, mg "MOST_BITS" = some (.int 100 t)
def splaw_any (K : PySem.W.Frag) : Sp := fun vs H Q _ => ∃ (a : Addr) (ns : List Int), vs = [.ref a] ∧ SqL K H a (ns.map V.int) ∧ ns.length ≤ 63 ∧ ∀ H', Q (.bl true) H'
theorem but_same {r : Addr} {H H1 H2 : Hp} (e : Same H H1) (hr : H r = none) (b : But r H1 H2) : Same H H2 := fun c o q => b c o (ne_of_none q hr) (e c o q)
theorem kk_of (len : Nat) : ∃ kk : Nat, 1 ≤ kk ∧ kk ≤ 6 ∧ (if (if ((len : Nat) : Int) < 6 then ((len : Nat) : Int) else 6) > 1 then (if ((len : Nat) : Int) < 6 then ((len : Nat) : Int) else 6) else 1) = (kk : Int) := by
  by_cases h : ((len : Nat) : Int) < 6
  · rw [if_pos h]
    by_cases h1 : ((len : Nat) : Int) > 1
    · rw [if_pos h1]
      exact ⟨len, by omega, by omega, rfl⟩
    · rw [if_neg h1]
      exact ⟨1, by omega, by omega, rfl⟩
  · rw [if_neg h, if_pos (by omega)]
    exact ⟨6, by omega, by omega, rfl⟩
section
variable {P : Program} {w : World} {K : PySem.W.Frag} {mg : Str → Option Value} {base : Heap}
def spLayout_word (K : PySem.W.Frag) (Z : Ads) : Sp := fun vs H Q _ => ∃ (p : Addr) (l : List Bool), vs = [.ref p] ∧ Lay Z.C_Layout H p l ∧ Q (.str (wS l)) H
theorem okLayout_word {Z : Ads} (T : Top K mg Z) : FnOk P w K mg base CX0 1 Z.f_Layout_word Z.d_Layout_word ["self"] (spLayout_word K Z) := by
  refine T.F_Layout_word.ok scLayout_word (fun vs H Q E h => ?_) (fun cdv A outer s H vs Q E hr h => ?_)
  · obtain ⟨p, l, rfl, ⟨dx, hp⟩, q⟩ := h
    rfl
  · obtain ⟨p, l, rfl, ⟨dx, hp⟩, q⟩ := h
    refine ⟨_, (pss_one (ps_ret (pe_fld (pv 0) rfl))), ?_⟩
    exact ⟨_, rfl, p, Z.C_Layout, dx, _, _, rfl, hp, T.cl_Layout, T.no_Layout_word, lf_word l, q⟩
def spLayoutU_eqU (K : PySem.W.Frag) (Z : Ads) : Sp := L2.spEq fun a b H => ∃ l, Lay Z.C_Layout H a l ∧ Lay Z.C_Layout H b l
theorem okLayoutU_eqU {Z : Ads} (T : Top K mg Z) : FnOk P w K mg base CX0 1 Z.f_LayoutU_eqU Z.d_LayoutU_eqU ["self", "other"] (spLayoutU_eqU K Z) := by
  refine T.F_LayoutU_eqU.ok scLayoutU_eqU (fun vs H Q E h => ?_) (fun cdv A outer s H vs Q E hr h => ?_)
  · obtain ⟨a, b, rfl, ⟨l, ⟨dxa, ha⟩, ⟨dxb, hb⟩⟩, q⟩ := h
    rfl
  · obtain ⟨a, b, rfl, ⟨l, ⟨dxa, ha⟩, ⟨dxb, hb⟩⟩, q⟩ := h
    refine ⟨_, (pss_one (ps_ret (pe_and (pe_callB (call_isi) (by rfl) T.z_isinstance (by decide +kernel) (pa_cons (pv 1) (pa_cons (pe_glob (v := .ref Z.C_Layout) (by rfl) T.m_Layout rfl) pa_nil))) (pe_one (pe_cmpR op_eq (pe_fld (pv 0) rfl) (pe_fld (pv 1) rfl) (nomark _)))))), ?_⟩
    refine ⟨_, rfl, .ref b, .ref Z.C_Layout, _, _, true, rfl, .own _, .base (TyOf.ins hb T.ins_Layout.cl T.ins_Layout.ha T.ins_Layout.hn T.ins_Layout.htk T.ins_Layout.hm), T.ins_Layout.me, true, rfl, iteT ?_⟩
    refine ⟨_, rfl, a, Z.C_Layout, dxa, _, _, rfl, ha, T.cl_Layout, T.no_Layout_word, lf_word l, _, rfl, b, Z.C_Layout, dxb, _, _, rfl, hb, T.cl_Layout, T.no_Layout_word, lf_word l, rfl, ?_⟩
    rw [decide_eq_true rfl]
    exact q H Ext.rfl'
def spis_integer (K : PySem.W.Frag) (Z : Ads) : Sp := fun vs H Q _ => ∃ i : Int, vs = [.int i] ∧ Q (.bl true) H
theorem okis_integer {Z : Ads} (T : Top K mg Z) : FnOk P w K mg base CX0 1 Z.f_is_integer Z.d_is_integer ["value"] (spis_integer K Z) := by
  refine T.F_is_integer.ok scis_integer (fun vs H Q E h => ?_) (fun cdv A outer s H vs Q E hr h => ?_)
  · obtain ⟨i, rfl, q⟩ := h
    rfl
  · obtain ⟨i, rfl, q⟩ := h
    refine ⟨_, (pss_one (ps_ret (pe_and (pe_callB (call_isi) (by rfl) T.z_isinstance (by decide +kernel) (pa_cons (pv 0) (pa_cons (pe_bltn (v := .ty "int") (by rfl) T.z_int (by decide +kernel) rfl) pa_nil))) (pe_one (pe_not (pe_callB (call_isi) (by rfl) T.z_isinstance (by decide +kernel) (pa_cons (pv 0) (pa_cons (pe_bltn (v := .ty "bool") (by rfl) T.z_bool (by decide +kernel) rfl) pa_nil)))))))), ?_⟩
    refine ⟨_, rfl, .int i, .ty "int", _, _, true, rfl, .ty _, .base (.int i), kit_ty (by decide +kernel), true, rfl, iteT ?_⟩
    refine ⟨_, rfl, .int i, .ty "bool", _, _, false, rfl, .ty _, .base (.int i), kit_ty (by decide +kernel), false, rfl, ?_⟩
    exact q
def spis_between (K : PySem.W.Frag) (Z : Ads) : Sp := fun vs H Q _ => ∃ v lo hi : Int, vs = [.int v, .int lo, .int hi] ∧ lo ≤ v ∧ v ≤ hi ∧ Q (.bl true) H
theorem okis_between {Z : Ads} (T : Top K mg Z) : FnOk P w K mg base CX0 2 Z.f_is_between Z.d_is_between ["value", "low", "high"] (spis_between K Z) := by
  have G_is_integer : FnOk P w K mg base CX0 1 Z.f_is_integer Z.d_is_integer ["value"] (spis_integer K Z) := (okis_integer T).mono (by decide)
  refine T.F_is_between.ok scis_between (fun vs H Q E h => ?_) (fun cdv A outer s H vs Q E hr h => ?_)
  · obtain ⟨v, lo, hi, rfl, h1, h2, q⟩ := h
    rfl
  · obtain ⟨v, lo, hi, rfl, h1, h2, q⟩ := h
    refine ⟨_, (pss_one (ps_ret (pe_and (pe_call G_is_integer (hr.mono (by decide)) (by rfl) T.m_is_integer T.F_is_integer.kp T.b_is_integer .nil pass0 (pa_cons (pv 0) pa_nil)) (pe_one (pe_chain op_le op_le (pv 1) (pv 0) (pv 2)))))), ?_⟩
    refine ⟨_, rfl, v, rfl, true, rfl, iteT ?_⟩
    refine ⟨_, rfl, _, rfl, _, _, rfl, rfl, true, congrArg V.bl (decide_eq_true h1), iteT ⟨_, rfl, _, _, rfl, rfl, ?_⟩⟩
    show Q (.bl (decide (v ≤ hi))) H
    rw [decide_eq_true h2]
    exact q
def spcheck_key (K : PySem.W.Frag) (Z : Ads) : Sp := fun vs H Q _ => ∃ (k n m : Nat), vs = [.int k, .int n, .int m] ∧ n ≤ 100 ∧ m ≤ 100 ∧ k < 2 ^ (n + m) ∧ Q .non H
theorem okcheck_key {Z : Ads} (T : Top K mg Z) : FnOk P w K mg base CX0 3 Z.f_check_key Z.d_check_key ["key", "x_bits", "y_bits"] (spcheck_key K Z) := by
  have G_is_between : FnOk P w K mg base CX0 2 Z.f_is_between Z.d_is_between ["value", "low", "high"] (spis_between K Z) := (okis_between T).mono (by decide)
  refine T.F_check_key.ok sccheck_key (fun vs H Q E h => ?_) (fun cdv A outer s H vs Q E hr h => ?_)
  · obtain ⟨k, n, m, rfl, hn, hm, hk, q⟩ := h
    rfl
  · obtain ⟨k, n, m, rfl, hn, hm, hk, q⟩ := h
    refine ⟨_, (pss_one (ps_if (pt_not (pt_val (pe_call G_is_between (hr.mono (by decide)) (by rfl) T.m_is_between T.F_is_between.kp T.b_is_between .nil pass0 (pa_cons (pv 0) (pa_cons pe_int (pa_cons (pe_op op_sub (pe_op op_shl pe_int (pe_op op_add (pv 1) (pv 2))) pe_int) pa_nil))))))
        (pss_one ps_never)
        pss_nil)), ?_⟩
    have e : ((n : Int) + (m : Int)).toNat = n + m := by omega
    refine ⟨_, rfl, _, rfl, _, rfl, _, _, rfl, rfl, _, _, rfl, rfl, ⟨by omega, by omega, by decide⟩, _, _, rfl, rfl, _, _, _, rfl, Int.natCast_nonneg k, ?_, true, rfl, iteF q⟩
    rw [Int.one_mul, e]
    have : ((k : Nat) : Int) < ((2 ^ (n + m) : Nat) : Int) := by omega
    rw [Int.natCast_pow] at this
    have two : ((2 : Nat) : Int) = 2 := rfl
    rw [two] at this
    omega
def spfeet (K : PySem.W.Frag) (Z : Ads) : Sp := fun vs H Q _ => ∃ l : List Bool, vs = [.str (wS l)] ∧ l.length ≤ 300 ∧ ∀ p ts H', Same H H' → H p = none → FeetAt H' p ts (feetL l) → Q (.ref p) H'
theorem okfeet {Z : Ads} (T : Top K mg Z) : FnOk P w K mg base CX0 1 Z.f_feet Z.d_feet ["word"] (spfeet K Z) := by
  refine T.F_feet.ok scfeet (fun vs H Q E h => ?_) (fun cdv A outer s H vs Q E hr h => ?_)
  · obtain ⟨l, rfl, hl, q⟩ := h
    rfl
  · obtain ⟨l, rfl, hl, q⟩ := h
    refine ⟨_, (pss_cons (ps_par (i := 1) (j := 2) (by rfl) scfeet.nd rfl rfl (by decide) rfl rfl (pa_cons (pe_bm PySem.F.plainAttrs_str PySem.F.slot_str_count PySem.F.type_str_count mt_count (pv 0) (pa_cons pe_str pa_nil)) (pa_cons (pe_bm PySem.F.plainAttrs_str PySem.F.slot_str_count PySem.F.type_str_count mt_count (pv 0) (pa_cons pe_str pa_nil)) pa_nil)) (by rfl))
      (pss_cons (ps_set (i := 3) scfeet.nd rfl (.inl rfl) (pe_lst pa_nil))
      (pss_cons (ps_for PassesOwn.never rfl (pi_str (pv 0)) (pg_name (i := 4) scfeet.nd rfl (.inl rfl))
        (pss_cons (ps_if (pt_cmpR op_eq (pv 4) pe_str (nomark _))
        (pss_one (ps_aug (i := 1) scfeet.nd rfl (.inl rfl) pe_int ip_sub))
        (pss_one (ps_aug (i := 2) scfeet.nd rfl (.inl rfl) pe_int ip_sub)))
      (pss_one (ps_expr (pe_bm PySem.F.plainAttrs_list PySem.F.slot_list_append PySem.F.type_list_append mt_append (pv 3) (pa_cons (pe_tup (pa_cons (pv 4) (pa_cons (pv 1) (pa_cons (pv 2) pa_nil)))) pa_nil))))))
      (pss_one (ps_ret (pv 3)))))), ?_⟩
    refine ⟨_, rfl, rfl, _, _, rfl, rfl, _, rfl, rfl, _, _, rfl, rfl, _, _, rfl, ?_⟩
    rw [count_x, count_y]
    refine ⟨Nat.zero_le _, fun p np => ?_⟩
    refine ⟨_, rfl, _, rfl, fun i c σ H' => ∃ (ts : List Addr) (y : Option V), i + c = l.length ∧ σ = [some (.str (wS l)), some (.int (nx (l.drop i))), some (.int (ny (l.drop i))), some (.ref p), y] ∧ Same H H' ∧ FeetAt H' p ts ((feetL l).take i), ⟨l.length, [], none, by omega, rfl, same_new (Same.refl H) np, upd_same, rfl, fun k t f h => by simp at h⟩, fun i c σ H' W => ?_⟩
    obtain ⟨ts, y, hc, rfl, sm, hp, ht, hf⟩ := W
    by_cases hi : i < l.length
    · refine .inr ⟨by show i < (wS l).cps.size; rw [wS_size]; exact hi, fun σ' H2 => ∃ (ts : List Addr) (y : Option V), σ' = [some (.str (wS l)), some (.int (nx (l.drop (i + 1)))), some (.int (ny (l.drop (i + 1)))), some (.ref p), y] ∧ Same H H2 ∧ FeetAt H2 p ts ((feetL l).take (i + 1)), fun σ' H2 n => ⟨c - 1, by omega, n.elim fun ts h => h.elim fun y h => ⟨ts, y, by omega, h⟩⟩, fun x H2 hx => ?_⟩
      obtain ⟨rfl, c0, hc0, rfl⟩ := hx
      rw [wS_at l i hi] at hc0
      cases hc0
      have lt_len : (feetL l).take (i + 1) = (feetL l).take i ++ [(l[i], nx (l.drop (i + 1)), ny (l.drop (i + 1)))] := by
        rw [List.take_add_one, feetL_get l i hi]
        rfl
      have fin : ∀ (t : Addr), H2 t = none → FeetAt (upd (upd H2 t (.tup [.str (lt l[i]), .int (nx (l.drop (i + 1))), .int (ny (l.drop (i + 1)))])) p (.lst (ts.map V.ref ++ [.ref t]))) p (ts ++ [t]) ((feetL l).take (i + 1)) := by
        intro t nt
        have tp : t ≠ p := (ne_of_none hp nt).symm
        refine ⟨?_, ?_, fun k t' f h1 h2 => ?_⟩
        · rw [upd_same, List.map_append]
          rfl
        · rw [lt_len, List.length_append, List.length_append, ht]
          rfl
        · rw [lt_len] at h2
          by_cases hk : k < ts.length
          · rw [List.getElem?_append_left hk] at h1
            rw [List.getElem?_append_left (by omega)] at h2
            have h3 := hf k t' f h1 h2
            rw [upd_ne (fun e => by subst e; rw [hp] at h3; cases h3), upd_ne (ne_of_none h3 nt)]
            exact h3
          · have hk2 : k = ts.length := by
              have := (List.getElem?_eq_some_iff.mp h1).1
              rw [List.length_append, List.length_singleton] at this
              omega
            subst hk2
            rw [List.getElem?_append_right (Nat.le_refl _), Nat.sub_self] at h1
            rw [List.getElem?_append_right (by omega), ht, Nat.sub_self] at h2
            cases h1
            cases h2
            rw [upd_ne tp, upd_same]
      have tsl : ts.length ≤ 300 := by
        rw [ht, List.length_take, feetL_len]
        omega
      refine ⟨_, rfl, rfl, _, rfl, ?_⟩
      have nd := nx_drop l i hi
      have md := ny_drop l i hi
      have eb := lt_is l[i]
      have el : (⟨#[sg l[i]]⟩ : Str) = lt l[i] := rfl
      cases hb : l[i] with
      | true =>
        rw [hb] at nd md fin eb
        rw [if_pos rfl] at nd md
        rw [Nat.add_zero] at md
        refine iteT' eb ?_
        refine ⟨_, rfl, _, _, rfl, rfl, ?_⟩
        refine ⟨_, rfl, .inl ⟨rfl, _, SqL.of hp⟩, _, rfl, _, rfl, _, rfl, (by show 3 ≤ sizeLine; decide), fun t nt => ?_⟩
        have tp : t ≠ p := (ne_of_none hp nt).symm
        refine ⟨p, _, _, rfl, rfl, by rw [upd_ne tp.symm]; exact hp, by rw [List.length_map]; exact small_line' (by omega), ?_⟩
        have e1 : ((nx (l.drop i) : Nat) : Int) - 1 = ((nx (l.drop (i + 1)) : Nat) : Int) := by omega
        refine ⟨ts ++ [t], some (.str (lt true)), ?_, same_mut (same_new sm nt) np, ?_⟩
        · show [some (V.str (wS l)), some (V.int (((nx (l.drop i) : Nat) : Int) - 1)), some (V.int (ny (l.drop i))), some (V.ref p), some (.str (lt true))] = _
          rw [e1, md]
          try rfl
        · have := fin t nt
          rw [← e1, ← md] at this
          exact this
      | false =>
        rw [hb] at nd md fin eb
        rw [if_neg (by decide)] at nd md
        rw [Nat.add_zero] at nd
        refine iteF' eb ?_
        refine ⟨_, rfl, _, _, rfl, rfl, ?_⟩
        refine ⟨_, rfl, .inl ⟨rfl, _, SqL.of hp⟩, _, rfl, _, rfl, _, rfl, (by show 3 ≤ sizeLine; decide), fun t nt => ?_⟩
        have tp : t ≠ p := (ne_of_none hp nt).symm
        refine ⟨p, _, _, rfl, rfl, by rw [upd_ne tp.symm]; exact hp, by rw [List.length_map]; exact small_line' (by omega), ?_⟩
        have e1 : ((ny (l.drop i) : Nat) : Int) - 1 = ((ny (l.drop (i + 1)) : Nat) : Int) := by omega
        refine ⟨ts ++ [t], some (.str (lt false)), ?_, same_mut (same_new sm nt) np, ?_⟩
        · show [some (V.str (wS l)), some (V.int (nx (l.drop i))), some (V.int (((ny (l.drop i) : Nat) : Int) - 1)), some (V.ref p), some (.str (lt false))] = _
          rw [e1, nd]
          try rfl
        · have := fin t nt
          rw [← e1, ← nd] at this
          exact this
    · refine .inl ⟨by show (wS l).cps.size ≤ i; rw [wS_size]; omega, _, rfl, ?_⟩
      have e : (feetL l).take i = feetL l := List.take_of_length_le (by rw [feetL_len]; omega)
      rw [e] at hf ht
      exact q p ts H' sm np ⟨hp, ht, hf⟩
def spLayout_cell (K : PySem.W.Frag) (Z : Ads) : Sp := fun vs H Q _ => ∃ (p : Addr) (l : List Bool) (k : Nat), vs = [.ref p, .int k] ∧ Lay Z.C_Layout H p l ∧ GoodW l ∧ k < 2 ^ l.length ∧ ∀ t H', Same H H' → H t = none → H' t = some (.tup [.int (xOf l k : Nat), .int (yOf l k : Nat)]) → Q (.ref t) H'
theorem okLayout_cell {Z : Ads} (T : Top K mg Z) : FnOk P w K mg base CX0 4 Z.f_Layout_cell Z.d_Layout_cell ["self", "key"] (spLayout_cell K Z) := by
  have G_check_key : FnOk P w K mg base CX0 3 Z.f_check_key Z.d_check_key ["key", "x_bits", "y_bits"] (spcheck_key K Z) := (okcheck_key T).mono (by decide)
  have G_feet : FnOk P w K mg base CX0 3 Z.f_feet Z.d_feet ["word"] (spfeet K Z) := (okfeet T).mono (by decide)
  refine T.F_Layout_cell.ok scLayout_cell (fun vs H Q E h => ?_) (fun cdv A outer s H vs Q E hr h => ?_)
  · obtain ⟨p, l, k, rfl, ⟨dx, hp⟩, g, hk, q⟩ := h
    rfl
  · obtain ⟨p, l, k, rfl, ⟨dx, hp⟩, g, hk, q⟩ := h
    refine ⟨_, (pss_cons (ps_expr (pe_call G_check_key (hr.mono (by decide)) (by rfl) T.m_check_key T.F_check_key.kp T.b_check_key .nil pass0 (pa_cons (pv 1) (pa_cons (pe_fld (pv 0) rfl) (pa_cons (pe_fld (pv 0) rfl) pa_nil)))))
      (pss_cons (ps_asg (pe_tup (pa_cons pe_int (pa_cons pe_int pa_nil))) (pg_tup (by rfl) (pgs_cons (pg_name (i := 2) scLayout_cell.nd rfl (.inl rfl)) (pgs_cons (pg_name (i := 3) scLayout_cell.nd rfl (.inl rfl)) pgs_nil))))
      (pss_cons (ps_for PassesOwn.never rfl (pi_list (pe_call G_feet (hr.mono (by decide)) (by rfl) T.m_feet T.F_feet.kp T.b_feet .nil pass0 (pa_cons (pe_fld (pv 0) rfl) pa_nil))) (pg_tup (by rfl) (pgs_cons (pg_name (i := 4) scLayout_cell.nd rfl (.inl rfl)) (pgs_cons (pg_name (i := 5) scLayout_cell.nd rfl (.inl rfl)) (pgs_cons (pg_name (i := 6) scLayout_cell.nd rfl (.inl rfl)) pgs_nil))))
        (pss_cons (ps_set (i := 7) scLayout_cell.nd rfl (.inl rfl) (pe_op op_odd (pe_op op_shrN (pv 1) (pe_op op_add (pv 5) (pv 6))) pe_int))
      (pss_one (ps_if (pt_cmpR op_eq (pv 4) pe_str (nomark _))
        (pss_one (ps_aug (i := 2) scLayout_cell.nd rfl (.inl rfl) (pe_op op_shl (pv 7) (pv 5)) ip_add))
        (pss_one (ps_aug (i := 3) scLayout_cell.nd rfl (.inl rfl) (pe_op op_shl (pv 7) (pv 6)) ip_add))))))
      (pss_one (ps_ret (pe_tup (pa_cons (pv 2) (pa_cons (pv 3) pa_nil)))))))), ?_⟩
    refine ⟨_, rfl, _, rfl, p, Z.C_Layout, dx, _, _, rfl, hp, T.cl_Layout, T.no_Layout_x_bits, lf_x l, _, rfl, p, Z.C_Layout, dx, _, _, rfl, hp, T.cl_Layout, T.no_Layout_y_bits, lf_y l, k, nx l, ny l, rfl, g.2.1, g.2.2, by rw [nxy]; exact hk, ?_⟩
    refine ⟨(by show 2 ≤ sizeLine; decide), fun t0 nt0 => ?_⟩
    refine ⟨t0, _, rfl, SqT.of upd_same, rfl, _, _, rfl, _, _, rfl, rfl, ?_⟩
    have e1 : Same H (upd H t0 (.tup [.int 0, .int 0])) := same_new (Same.refl H) nt0
    refine ⟨_, rfl, p, Z.C_Layout, dx, _, _, rfl, e1 _ _ hp, T.cl_Layout, T.no_Layout_word, lf_word l, l, rfl, by have := g.len; omega, fun f ts H2 e2 nf F => ?_⟩
    have lenT : ts.length = l.length := F.2.1.trans (feetL_len l)
    refine ⟨f, rfl, ⟨_, SqL.of F.1⟩, for_list (K := K) (a := f) (xs := ts.map V.ref) (fun i σ H' => ∃ (x y : Nat) (u4 u5 u6 u7 : Option V), x + xOf (l.drop i) k = xOf l k ∧ y + yOf (l.drop i) k = yOf l k ∧ Same H2 H' ∧ σ = [some (.ref p), some (.int k), some (.int x), some (.int y), u4, u5, u6, u7]) ⟨0, 0, none, none, none, none, Nat.zero_add _, Nat.zero_add _, Same.refl _, rfl⟩ (fun i σ H' _ W => ?_) (fun i v σ H' hv W => ?_) (fun σ H' W => ?_)⟩
    · obtain ⟨x, y, u4, u5, u6, u7, _, _, e3, _⟩ := W
      exact SqL.of (e3 _ _ F.1)
    · obtain ⟨x, y, u4, u5, u6, u7, ex, ey, e3, rfl⟩ := W
      obtain ⟨t, ht, rfl⟩ : ∃ t, ts[i]? = some t ∧ v = V.ref t := by
        rw [List.getElem?_map] at hv
        cases e : ts[i]? with
        | none => rw [e] at hv; cases hv
        | some t => rw [e] at hv; exact ⟨t, rfl, (Option.some.inj hv).symm⟩
      have hi : i < l.length := by rw [← lenT]; exact (List.getElem?_eq_some_iff.mp ht).1
      have hT : H' t = some (.tup [.str (lt l[i]), .int (nx (l.drop (i + 1)) : Nat), .int (ny (l.drop (i + 1)) : Nat)]) := e3 _ _ (F.2.2 i t _ ht (feetL_get l i hi))
      have xd := xOf_drop l i hi k
      have yd := yOf_drop l i hi k
      refine ⟨t, _, rfl, SqT.of hT, rfl, _, _, rfl, _, _, rfl, _, _, rfl, rfl, ?_⟩
      refine ⟨_, rfl, _, rfl, _, rfl, _, _, rfl, rfl, _, nx (l.drop (i + 1)) + ny (l.drop (i + 1)), rfl, congrArg V.int (Int.natCast_add _ _).symm, k / 2 ^ (nx (l.drop (i + 1)) + ny (l.drop (i + 1))), congrArg V.int (by rw [Int.natCast_ediv, Int.natCast_pow]; rfl), rfl, ?_⟩
      refine ⟨_, rfl, rfl, _, rfl, ?_⟩
      have eb := lt_is l[i]
      have b1 := nx_le (l.drop (i + 1))
      have b2 := ny_le (l.drop (i + 1))
      have b3 := g.len
      rw [List.length_drop] at b1 b2
      cases hb : l[i] with
      | true =>
        rw [hb] at eb xd yd
        rw [if_pos rfl] at xd yd
        refine iteT' eb ?_
        refine ⟨_, rfl, _, rfl, _, rfl, _, _, rfl, rfl, ⟨by omega, by omega, by omega⟩, _, _, rfl, rfl, ?_⟩
        refine ⟨x + k / 2 ^ (nx (l.drop (i + 1)) + ny (l.drop (i + 1))) % 2 * 2 ^ nx (l.drop (i + 1)), y, some (.str (lt true)), some (.int (nx (l.drop (i + 1)) : Nat)), some (.int (ny (l.drop (i + 1)) : Nat)), some (.int (k / 2 ^ (nx (l.drop (i + 1)) + ny (l.drop (i + 1))) % 2 : Nat)), by omega, by omega, e3, ?_⟩
        rw [Int.natCast_add, Int.natCast_mul, Int.natCast_pow]
        rfl
      | false =>
        rw [hb] at eb xd yd
        rw [if_neg (by decide)] at xd yd
        refine iteF' eb ?_
        refine ⟨_, rfl, _, rfl, _, rfl, _, _, rfl, rfl, ⟨by omega, by omega, by omega⟩, _, _, rfl, rfl, ?_⟩
        refine ⟨x, y + k / 2 ^ (nx (l.drop (i + 1)) + ny (l.drop (i + 1))) % 2 * 2 ^ ny (l.drop (i + 1)), some (.str (lt false)), some (.int (nx (l.drop (i + 1)) : Nat)), some (.int (ny (l.drop (i + 1)) : Nat)), some (.int (k / 2 ^ (nx (l.drop (i + 1)) + ny (l.drop (i + 1))) % 2 : Nat)), by omega, by omega, e3, ?_⟩
        rw [Int.natCast_add, Int.natCast_mul, Int.natCast_pow]
        rfl
    · obtain ⟨x, y, u4, u5, u6, u7, ex, ey, e3, rfl⟩ := W
      rw [List.length_map, lenT, List.drop_length] at ex ey
      have ex2 : x = xOf l k := by rw [← ex]; rfl
      have ey2 : y = yOf l k := by rw [← ey]; rfl
      subst ex2 ey2
      refine ⟨_, rfl, _, rfl, (by show 2 ≤ sizeLine; decide), fun t nt => ?_⟩
      exact q t _ (same_new ((e1.trans e2).trans e3) nt) (((e1.trans e2).trans e3).free nt) upd_same
def spare_integers (K : PySem.W.Frag) (Z : Ads) : Sp := fun vs H Q _ => ∃ (a : Addr) (ns : List Int), vs = [.ref a, .int (ns.length : Int)] ∧ H a = some (.tup (ns.map V.int)) ∧ ns.length ≤ 100 ∧ ∀ H', Same H H' → Q (.bl true) H'
theorem okare_integers {Z : Ads} (T : Top K mg Z) : FnOk P w K mg base CX0 2 Z.f_are_integers Z.d_are_integers ["value", "many"] (spare_integers K Z) := by
  have G_is_integer : FnOk P w K mg base CX0 1 Z.f_is_integer Z.d_is_integer ["value"] (spis_integer K Z) := (okis_integer T).mono (by decide)
  refine T.F_are_integers.ok scare_integers (fun vs H Q E h => ?_) (fun cdv A outer s H vs Q E hr h => ?_)
  · obtain ⟨a, ns, rfl, ha, hl, q⟩ := h
    rfl
  · obtain ⟨a, ns, rfl, ha, hl, q⟩ := h
    refine ⟨_, (pss_cons (ps_if (PW.pt (pw_or (pt_not (pt_val (pe_callB (call_isi) (by rfl) T.z_isinstance (by decide +kernel) (pa_cons (pv 0) (pa_cons (pe_bltn (v := .ty "tuple") (by rfl) T.z_tuple (by decide +kernel) rfl) pa_nil))))) (pw_or1 (pt_cmpR op_ne (pe_callB call_len_seq (by rfl) T.z_len (by decide +kernel) (pa_cons (pv 0) pa_nil)) (pv 1) (nomark _)))))
        (pss_one (ps_ret pe_bl))
        pss_nil)
      (pss_one (ps_ret (pe_callB (cr_all (by rfl)) (by rfl) T.z_all (by decide +kernel) (pa_cons (pe_lc (own := [("part", 2)]) (g := (gName 2)) (tt := tYes) rfl scare_integers.nd (pi_tup (pv 0)) (blkOk_by (own := [("part", 2)]) (N := ["value", "many", "part"]) (sc := defScope sare_integers) (by decide +kernel)) (fun _ _ _ _ _ => (pg_name (i := 2) scare_integers.nd rfl (.inl rfl))) (fun _ _ _ _ _ => pts_nil) (fun _ _ _ _ _ => (pe_call G_is_integer (hr.mono (by decide)) (by rfl) T.m_is_integer T.F_is_integer.kp T.b_is_integer .nil pass0 (pa_cons (pv 2) pa_nil)))) pa_nil))))), ?_⟩
    refine ⟨_, rfl, .ref a, .ty "tuple", _, _, true, rfl, .ty _, .base (.tup ha), kit_ty (by decide +kernel), true, rfl, iteF ?_⟩
    refine ⟨_, rfl, a, _, rfl, .inr (SqT.of ha), _, rfl, rfl, _, rfl, iteNS (by rw [List.length_map]) ?_⟩
    refine ⟨_, rfl, a, rfl, ⟨_, SqT.of ha⟩, fun d hd => lc_tup (K := K) (a := a) (xs := ns.map V.int) (fun i H' => Same H H' ∧ H' d = some (.lst ((List.replicate i true).map V.bl))) ⟨same_new (Same.refl H) hd, upd_same⟩ (fun i H' _ p => .inl (.inl (p.1 _ _ ha))) (fun i x H' hx p => ?_) (fun H' p => ?_)⟩
    · obtain ⟨z, rfl⟩ : ∃ z, x = V.int z := by
        rw [List.getElem?_map] at hx
        cases e : ns[i]? with
        | none => rw [e] at hx; cases hx
        | some z => rw [e] at hx; exact ⟨z, (Option.some.inj hx).symm⟩
      have hi : i < ns.length := by have := (List.getElem?_eq_some_iff.mp hx).1; rw [List.length_map] at this; exact this
      refine ⟨rfl, _, rfl, z, rfl, _, p.2, ?_, ?_⟩
      · rw [List.length_map, List.length_replicate]
        exact small_line' (by omega)
      · refine ⟨same_mut p.1 hd, ?_⟩
        rw [upd_same, List.replicate_succ', List.map_append]
        rfl
    · refine ⟨d, _, rfl, .inl (.inl p.2), ?_⟩
      have e : (List.replicate (ns.map V.int).length true).all id = true := by simp
      rw [e]
      exact q H' p.1
def spis_cell (K : PySem.W.Frag) (Z : Ads) : Sp := fun vs H Q _ => ∃ (a : Addr) (x y n m : Nat), vs = [.ref a, .int n, .int m] ∧ H a = some (.tup [.int x, .int y]) ∧ n ≤ 100 ∧ m ≤ 100 ∧ x < 2 ^ n ∧ y < 2 ^ m ∧ ∀ H', Same H H' → Q (.bl true) H'
theorem okis_cell {Z : Ads} (T : Top K mg Z) : FnOk P w K mg base CX0 3 Z.f_is_cell Z.d_is_cell ["value", "x_bits", "y_bits"] (spis_cell K Z) := by
  have G_are_integers : FnOk P w K mg base CX0 2 Z.f_are_integers Z.d_are_integers ["value", "many"] (spare_integers K Z) := (okare_integers T).mono (by decide)
  refine T.F_is_cell.ok scis_cell (fun vs H Q E h => ?_) (fun cdv A outer s H vs Q E hr h => ?_)
  · obtain ⟨a, x, y, n, m, rfl, ha, hn, hm, hx, hy, q⟩ := h
    rfl
  · obtain ⟨a, x, y, n, m, rfl, ha, hn, hm, hx, hy, q⟩ := h
    refine ⟨_, (pss_cons (ps_if (pt_not (pt_val (pe_call G_are_integers (hr.mono (by decide)) (by rfl) T.m_are_integers T.F_are_integers.kp T.b_are_integers .nil pass0 (pa_cons (pv 0) (pa_cons pe_int pa_nil)))))
        (pss_one (ps_ret pe_bl))
        pss_nil)
      (pss_cons (ps_asg (pv 0) (pg_tup (by rfl) (pgs_cons (pg_name (i := 3) scis_cell.nd rfl (.inl rfl)) (pgs_cons (pg_name (i := 4) scis_cell.nd rfl (.inl rfl)) pgs_nil))))
      (pss_one (ps_ret (pe_and (pe_chain op_le op_lt pe_int (pv 3) (pe_op op_shl pe_int (pv 1))) (pe_one (pe_chain op_le op_lt pe_int (pv 4) (pe_op op_shl pe_int (pv 2))))))))), ?_⟩
    refine ⟨_, rfl, a, [(x : Int), (y : Int)], rfl, ha, Nat.le_of_ble_eq_true rfl, fun H1 e1 => ⟨true, rfl, iteF ?_⟩⟩
    refine ⟨_, rfl, a, _, rfl, SqT.of (e1 _ _ ha), rfl, _, _, rfl, _, _, rfl, rfl, ?_⟩
    have hx' : (x : Int) < 1 * 2 ^ (n : Int).toNat := by rw [Int.one_mul, Int.toNat_natCast]; exact_mod_cast hx
    have hy' : (y : Int) < 1 * 2 ^ (m : Int).toNat := by rw [Int.one_mul, Int.toNat_natCast]; exact_mod_cast hy
    refine ⟨_, rfl, _, _, rfl, rfl, true, congrArg V.bl (decide_eq_true (Int.natCast_nonneg x)), iteT ⟨_, rfl, _, _, rfl, rfl, ⟨Int.natCast_nonneg n, by omega, by decide⟩, _, _, rfl, rfl, true, congrArg V.bl (decide_eq_true hx'), iteT ?_⟩⟩
    refine ⟨_, rfl, _, _, rfl, rfl, true, congrArg V.bl (decide_eq_true (Int.natCast_nonneg y)), iteT ⟨_, rfl, _, _, rfl, rfl, ⟨Int.natCast_nonneg m, by omega, by decide⟩, _, _, rfl, rfl, ?_⟩⟩
    show Q (.bl (decide ((y : Int) < 1 * 2 ^ (m : Int).toNat))) H1
    rw [decide_eq_true hy']
    exact q H1 e1
def spcheck_cell (K : PySem.W.Frag) (Z : Ads) : Sp := fun vs H Q _ => ∃ (a : Addr) (x y n m : Nat), vs = [.ref a, .int n, .int m] ∧ H a = some (.tup [.int x, .int y]) ∧ n ≤ 100 ∧ m ≤ 100 ∧ x < 2 ^ n ∧ y < 2 ^ m ∧ ∀ H', Same H H' → Q .non H'
theorem okcheck_cell {Z : Ads} (T : Top K mg Z) : FnOk P w K mg base CX0 4 Z.f_check_cell Z.d_check_cell ["cell", "x_bits", "y_bits"] (spcheck_cell K Z) := by
  have G_is_cell : FnOk P w K mg base CX0 3 Z.f_is_cell Z.d_is_cell ["value", "x_bits", "y_bits"] (spis_cell K Z) := (okis_cell T).mono (by decide)
  refine T.F_check_cell.ok sccheck_cell (fun vs H Q E h => ?_) (fun cdv A outer s H vs Q E hr h => ?_)
  · obtain ⟨a, x, y, n, m, rfl, ha, hn, hm, hx, hy, q⟩ := h
    rfl
  · obtain ⟨a, x, y, n, m, rfl, ha, hn, hm, hx, hy, q⟩ := h
    refine ⟨_, (pss_one (ps_if (pt_not (pt_val (pe_call G_is_cell (hr.mono (by decide)) (by rfl) T.m_is_cell T.F_is_cell.kp T.b_is_cell .nil pass0 (pa_cons (pv 0) (pa_cons (pv 1) (pa_cons (pv 2) pa_nil))))))
        (pss_one ps_never)
        pss_nil)), ?_⟩
    refine ⟨_, rfl, _, rfl, _, rfl, a, x, y, n, m, rfl, ha, hn, hm, hx, hy, fun H1 e1 => ⟨true, rfl, iteF ?_⟩⟩
    exact q H1 e1
def spLayout_key (K : PySem.W.Frag) (Z : Ads) : Sp := fun vs H Q _ => ∃ (p a : Addr) (l : List Bool) (x y : Nat), vs = [.ref p, .ref a] ∧ Lay Z.C_Layout H p l ∧ GoodW l ∧ H a = some (.tup [.int x, .int y]) ∧ x < 2 ^ nx l ∧ y < 2 ^ ny l ∧ ∀ H', Same H H' → Q (.int (keyL l x y : Nat)) H'
theorem okLayout_key {Z : Ads} (T : Top K mg Z) : FnOk P w K mg base CX0 5 Z.f_Layout_key Z.d_Layout_key ["self", "cell"] (spLayout_key K Z) := by
  have G_check_cell : FnOk P w K mg base CX0 4 Z.f_check_cell Z.d_check_cell ["cell", "x_bits", "y_bits"] (spcheck_cell K Z) := (okcheck_cell T).mono (by decide)
  have G_feet : FnOk P w K mg base CX0 4 Z.f_feet Z.d_feet ["word"] (spfeet K Z) := (okfeet T).mono (by decide)
  refine T.F_Layout_key.ok scLayout_key (fun vs H Q E h => ?_) (fun cdv A outer s H vs Q E hr h => ?_)
  · obtain ⟨p, a, l, x, y, rfl, ⟨dx, hp⟩, g, ha, hx, hy, q⟩ := h
    rfl
  · obtain ⟨p, a, l, x, y, rfl, ⟨dx, hp⟩, g, ha, hx, hy, q⟩ := h
    refine ⟨_, (pss_cons (ps_expr (pe_call G_check_cell (hr.mono (by decide)) (by rfl) T.m_check_cell T.F_check_cell.kp T.b_check_cell .nil pass0 (pa_cons (pv 1) (pa_cons (pe_fld (pv 0) rfl) (pa_cons (pe_fld (pv 0) rfl) pa_nil)))))
      (pss_cons (ps_asg (pv 1) (pg_tup (by rfl) (pgs_cons (pg_name (i := 2) scLayout_key.nd rfl (.inl rfl)) (pgs_cons (pg_name (i := 3) scLayout_key.nd rfl (.inl rfl)) pgs_nil))))
      (pss_cons (ps_set (i := 4) scLayout_key.nd rfl (.inl rfl) pe_int)
      (pss_cons (ps_for PassesOwn.never rfl (pi_list (pe_call G_feet (hr.mono (by decide)) (by rfl) T.m_feet T.F_feet.kp T.b_feet .nil pass0 (pa_cons (pe_fld (pv 0) rfl) pa_nil))) (pg_tup (by rfl) (pgs_cons (pg_name (i := 5) scLayout_key.nd rfl (.inl rfl)) (pgs_cons (pg_name (i := 6) scLayout_key.nd rfl (.inl rfl)) (pgs_cons (pg_name (i := 7) scLayout_key.nd rfl (.inl rfl)) pgs_nil))))
        (pss_cons (ps_set (i := 8) scLayout_key.nd rfl (.inl rfl) (pe_ifExp (pt_cmpR op_eq (pv 5) pe_str (nomark _)) (pe_op op_odd (pe_op op_shrN (pv 2) (pv 6)) pe_int) (pe_op op_odd (pe_op op_shrN (pv 3) (pv 7)) pe_int)))
      (pss_one (ps_aug (i := 4) scLayout_key.nd rfl (.inl rfl) (pe_op op_shl (pv 8) (pe_op op_add (pv 6) (pv 7))) ip_add))))
      (pss_one (ps_ret (pv 4))))))), ?_⟩
    refine ⟨_, rfl, _, rfl, p, Z.C_Layout, dx, _, _, rfl, hp, T.cl_Layout, T.no_Layout_x_bits, lf_x l, _, rfl, p, Z.C_Layout, dx, _, _, rfl, hp, T.cl_Layout, T.no_Layout_y_bits, lf_y l, a, x, y, nx l, ny l, rfl, ha, g.2.1, g.2.2, hx, hy, fun H1 e1 => ?_⟩
    refine ⟨_, rfl, a, _, rfl, SqT.of (e1 _ _ ha), rfl, _, _, rfl, _, _, rfl, rfl, ?_⟩
    refine ⟨_, rfl, p, Z.C_Layout, dx, _, _, rfl, e1 _ _ hp, T.cl_Layout, T.no_Layout_word, lf_word l, l, rfl, by have := g.len; omega, fun f ts H2 e2 nf F => ?_⟩
    have lenT : ts.length = l.length := F.2.1.trans (feetL_len l)
    refine ⟨f, rfl, ⟨_, SqL.of F.1⟩, for_list (K := K) (a := f) (xs := ts.map V.ref) (fun i σ H' => ∃ (tot : Nat) (u5 u6 u7 u8 : Option V), tot + keyL (l.drop i) x y = keyL l x y ∧ Same H2 H' ∧ σ = [some (.ref p), some (.ref a), some (.int x), some (.int y), some (.int tot), u5, u6, u7, u8]) ⟨0, none, none, none, none, Nat.zero_add _, Same.refl _, rfl⟩ (fun i σ H' _ W => ?_) (fun i v σ H' hv W => ?_) (fun σ H' W => ?_)⟩
    · obtain ⟨tot, u5, u6, u7, u8, _, e3, _⟩ := W
      exact SqL.of (e3 _ _ F.1)
    · obtain ⟨tot, u5, u6, u7, u8, et, e3, rfl⟩ := W
      obtain ⟨t, ht, rfl⟩ : ∃ t, ts[i]? = some t ∧ v = V.ref t := by
        rw [List.getElem?_map] at hv
        cases e : ts[i]? with
        | none => rw [e] at hv; cases hv
        | some t => rw [e] at hv; exact ⟨t, rfl, (Option.some.inj hv).symm⟩
      have hi : i < l.length := by rw [← lenT]; exact (List.getElem?_eq_some_iff.mp ht).1
      have hT : H' t = some (.tup [.str (lt l[i]), .int (nx (l.drop (i + 1)) : Nat), .int (ny (l.drop (i + 1)) : Nat)]) := e3 _ _ (F.2.2 i t _ ht (feetL_get l i hi))
      have kd := keyL_drop l i hi x y
      refine ⟨t, _, rfl, SqT.of hT, rfl, _, _, rfl, _, _, rfl, _, _, rfl, rfl, ?_⟩
      refine ⟨_, rfl, rfl, _, rfl, ?_⟩
      have eb := lt_is l[i]
      cases hb : l[i] with
      | true =>
        rw [hb] at eb kd
        rw [if_pos rfl] at kd
        refine iteT' eb ?_
        refine ⟨_, rfl, _, rfl, _, nx (l.drop (i + 1)), rfl, rfl, x / 2 ^ nx (l.drop (i + 1)), congrArg V.int (by rw [Int.natCast_ediv, Int.natCast_pow]; rfl), rfl, ?_⟩
        refine ⟨_, rfl, _, rfl, _, rfl, _, rfl, _, _, rfl, rfl, _, _, rfl, rfl, ⟨by omega, by have := nx_le (l.drop (i + 1)); have := ny_le (l.drop (i + 1)); have := g.len; rw [List.length_drop] at *; omega, by omega⟩, _, _, rfl, rfl, ?_⟩
        refine ⟨tot + x / 2 ^ nx (l.drop (i + 1)) % 2 * 2 ^ (nx (l.drop (i + 1)) + ny (l.drop (i + 1))), some (.str (lt true)), some (.int (nx (l.drop (i + 1)) : Nat)), some (.int (ny (l.drop (i + 1)) : Nat)), some (.int (x / 2 ^ nx (l.drop (i + 1)) % 2 : Nat)), by omega, e3, ?_⟩
        rw [Int.natCast_add, Int.natCast_mul, Int.natCast_pow, show (((nx (l.drop (i + 1)) : Nat) : Int) + ((ny (l.drop (i + 1)) : Nat) : Int)).toNat = nx (l.drop (i + 1)) + ny (l.drop (i + 1)) by omega]
        rfl
      | false =>
        rw [hb] at eb kd
        rw [if_neg (by decide)] at kd
        refine iteF' eb ?_
        refine ⟨_, rfl, _, rfl, _, ny (l.drop (i + 1)), rfl, rfl, y / 2 ^ ny (l.drop (i + 1)), congrArg V.int (by rw [Int.natCast_ediv, Int.natCast_pow]; rfl), rfl, ?_⟩
        refine ⟨_, rfl, _, rfl, _, rfl, _, rfl, _, _, rfl, rfl, _, _, rfl, rfl, ⟨by omega, by have := nx_le (l.drop (i + 1)); have := ny_le (l.drop (i + 1)); have := g.len; rw [List.length_drop] at *; omega, by omega⟩, _, _, rfl, rfl, ?_⟩
        refine ⟨tot + y / 2 ^ ny (l.drop (i + 1)) % 2 * 2 ^ (nx (l.drop (i + 1)) + ny (l.drop (i + 1))), some (.str (lt false)), some (.int (nx (l.drop (i + 1)) : Nat)), some (.int (ny (l.drop (i + 1)) : Nat)), some (.int (y / 2 ^ ny (l.drop (i + 1)) % 2 : Nat)), by omega, e3, ?_⟩
        rw [Int.natCast_add, Int.natCast_mul, Int.natCast_pow, show (((nx (l.drop (i + 1)) : Nat) : Int) + ((ny (l.drop (i + 1)) : Nat) : Int)).toNat = nx (l.drop (i + 1)) + ny (l.drop (i + 1)) by omega]
        rfl
    · obtain ⟨tot, u5, u6, u7, u8, et, e3, rfl⟩ := W
      rw [List.length_map, lenT, List.drop_length] at et
      have et2 : tot = keyL l x y := by rw [← et]; rfl
      subst et2
      exact ⟨_, rfl, q H' ((e1.trans e2).trans e3)⟩
def splaw_power (K : PySem.W.Frag) (Z : Ads) : Sp := fun vs H Q _ => ∃ d : Nat, vs = [.int d] ∧ d ≤ 1000 ∧ Q (.int (2 ^ d : Nat)) H
theorem oklaw_power {Z : Ads} (T : Top K mg Z) : FnOk P w K mg base CX0 1 Z.f_law_power Z.d_law_power ["depth"] (splaw_power K Z) := by
  refine T.F_law_power.ok sclaw_power (fun vs H Q E h => ?_) (fun cdv A outer s H vs Q E hr h => ?_)
  · obtain ⟨d, rfl, hd, q⟩ := h
    rfl
  · obtain ⟨d, rfl, hd, q⟩ := h
    refine ⟨_, (pss_cons (ps_set (i := 1) sclaw_power.nd rfl (.inl rfl) pe_int)
      (pss_cons (ps_for PassesOwn.never rfl (pi_range1 (by rfl) T.z_range (pa_cons (pv 0) pa_nil)) (pg_name (i := 2) sclaw_power.nd rfl (.inl rfl))
        (pss_one (ps_set (i := 1) sclaw_power.nd rfl (.inl rfl) (pe_op op_mul pe_int (pv 1)))))
      (pss_one (ps_ret (pv 1))))), ?_⟩
    refine ⟨_, rfl, _, rfl, by omega, by omega, for_range (lo := 0) (n := d) (fun i σ H' => H' = H ∧ ∃ y, σ = [some (.int d), some (.int (2 ^ i : Nat)), y]) ⟨rfl, none, rfl⟩ ?_ ?_⟩
    · rintro i σ H' hi ⟨rfl, y, rfl⟩
      refine ⟨_, rfl, 2, _, rfl, rfl, by exact .inl (by decide), rfl, some (.int (0 + (i : Nat))), ?_⟩
      show _ = [some (V.int d), some (V.int ((2 ^ (i + 1) : Nat) : Int)), _]
      rw [Nat.pow_succ, Nat.mul_comm]
      rfl
    · rintro σ H' ⟨rfl, y, rfl⟩
      exact ⟨_, rfl, q⟩
def splaw_spin (K : PySem.W.Frag) (Z : Ads) : Sp := fun vs H Q _ => ∃ (r : Addr) (n many : Nat), vs = [.ref r, .int many] ∧ Reel H r n ∧ n ≤ 1000000 ∧ 1 ≤ many ∧ many < 2 ^ 1000 ∧ ∀ (d : Nat) H', d < many → But r H H' → Reel H' r (n + 1) → Q (.int d) H'
theorem oklaw_spin {Z : Ads} (T : Top K mg Z) : FnOk P w K mg base CX0 1 Z.f_law_spin Z.d_law_spin ["reel", "many"] (splaw_spin K Z) := by
  refine T.F_law_spin.ok sclaw_spin (fun vs H Q E h => ?_) (fun cdv A outer s H vs Q E hr h => ?_)
  · obtain ⟨r, n, many, rfl, ⟨a, b, c, hR, ha, hb, hb2, hc, hc2⟩, hn, hm, hm2, q⟩ := h
    rfl
  · obtain ⟨r, n, many, rfl, ⟨a, b, c, hR, ha, hb, hb2, hc, hc2⟩, hn, hm, hm2, q⟩ := h
    refine ⟨_, (pss_cons (ps_if (pt_cmpR op_gt (pe_ix ix_list (pv 0) pe_int (fun _ _ => rfl)) pe_int (nomark _))
        (pss_cons (ps_set (i := 2) sclaw_spin.nd rfl (.inl rfl) (pe_op op_modN (pe_callTy call_int1 (by rfl) T.z_int (by decide +kernel) (pa_cons (pe_ix ix_list (pv 0) pe_int (fun _ _ => rfl)) pa_nil)) (pv 1)))
      (pss_cons (ps_asg (pe_op op_fdivW (pe_ix ix_list (pv 0) pe_int (fun _ _ => rfl)) (pv 1)) (pg_sub (pv 0) pe_int set_list))
      (pss_one (ps_ret (pv 2)))))
        pss_nil)
      (pss_cons (ps_asg (pe_op op_add (pe_ix ix_list (pv 0) pe_int (fun _ _ => rfl)) pe_int) (pg_sub (pv 0) pe_int set_list))
      (pss_cons (ps_set (i := 3) sclaw_spin.nd rfl (.inl rfl) (pe_op op_modN (pe_callTy call_int1 (by rfl) T.z_int (by decide +kernel) (pa_cons (pe_op op_powB (pe_op op_add (pe_ix ix_list (pv 0) pe_int (fun _ _ => rfl)) (pe_op op_mul pe_int (pe_ix ix_list (pv 0) pe_int (fun _ _ => rfl)))) pe_int) pa_nil)) (pe_op op_add (pe_op op_pow pe_int pe_int) pe_int)))
      (pss_cons (ps_set (i := 3) sclaw_spin.nd rfl (.inl rfl) (pe_op op_modN (pe_callTy call_int1 (by rfl) T.z_int (by decide +kernel) (pa_cons (pe_op op_powB (pe_op op_add (pv 3) (pe_op op_mul pe_int (pe_ix ix_list (pv 0) pe_int (fun _ _ => rfl)))) pe_int) pa_nil)) (pe_op op_add (pe_op op_pow pe_int pe_int) pe_int)))
      (pss_one (ps_ret (pe_op op_modN (pe_callTy call_int1 (by rfl) T.z_int (by decide +kernel) (pa_cons (pe_op op_fdivN (pv 3) pe_int) pa_nil)) (pv 1)))))))), ?_⟩
    have fin : ∀ (z : Int) (H' : Hp), But r H H' → Reel H' r (n + 1) → Q (.int (z.fmod (many : Int))) H' := by
      intro z H' bt rl
      have h1 : 0 ≤ z.fmod (many : Int) := Int.fmod_nonneg_of_pos _ (by omega)
      have h2 : z.fmod (many : Int) < (many : Int) := Int.fmod_lt_of_pos _ (by omega)
      have e : z.fmod (many : Int) = (((z.fmod (many : Int)).toNat : Nat) : Int) := by omega
      rw [e]
      exact q _ H' (by omega) bt rl
    refine ⟨_, rfl, r, _, 0, .int a, rfl, rfl, SqL.of hR, rfl, _, _, rfl, rfl, _, rfl, ite2 (fun e => ?_) (fun e => ?_)⟩
    · have ha0 : 0 < a := of_decide_eq_true e
      refine ⟨_, rfl, r, _, 0, .int a, rfl, rfl, SqL.of hR, rfl, .inl ⟨_, rfl, _, rfl, _, _, rfl, rfl, by omega, ?_⟩⟩
      refine ⟨_, rfl, r, _, 0, .int a, rfl, rfl, SqL.of hR, rfl, _, rfl, _, _, rfl, rfl, wide_div (b := 1000) (by omega) (by omega) (by decide) (by decide), _, rfl, r, _, _, 0, rfl, rfl, hR, rfl, ?_⟩
      refine ⟨_, rfl, fin a _ But.upd ⟨a / many, b, c, upd_same, Int.ediv_nonneg ha (by omega), hb, hb2, hc, by omega⟩⟩
    · refine ⟨_, rfl, r, _, 2, .int c, rfl, rfl, SqL.of hR, rfl, _, _, rfl, rfl, _, rfl, r, _, _, 2, rfl, rfl, hR, rfl, ?_⟩
      have hR2 : (upd H r (.lst [.int a, .int b, .int (c + 1)])) r = some (.lst [.int a, .int b, .int (c + 1)]) := upd_same
      have m1 : (10 : Int) ^ (42 : Int).toNat + 63 = 1000000000000000000000000000000000000000063 := by decide +kernel
      have m2 : (10 : Int) ^ (44 : Int).toNat + 57 = 100000000000000000000000000000000000000000057 := by decide +kernel
      have f1 : ∀ c : Int, 0 ≤ c.fmod 1000000000000000000000000000000000000000063 ∧ c.fmod 1000000000000000000000000000000000000000063 < 1000000000000000000000000000000000000000063 := fun c => ⟨Int.fmod_nonneg_of_pos _ (by decide), Int.fmod_lt_of_pos _ (by decide)⟩
      refine ⟨_, rfl, r, _, 1, .int b, rfl, rfl, SqL.of hR2, rfl, _, rfl, r, _, 2, .int (c + 1), rfl, rfl, SqL.of hR2, rfl, _, _, rfl, rfl, .inl ⟨by decide, by decide⟩, _, _, rfl, rfl, _, _, rfl, rfl, ⟨300, by omega, by decide, by decide⟩, .inl ⟨_, rfl, _, _, rfl, rfl, ⟨by decide, by decide, by decide⟩, _, _, rfl, rfl, _, _, rfl, rfl, by show ((10 : Int) ^ (42 : Int).toNat + 63) ≠ 0; rw [m1]; decide, ?_⟩⟩
      refine ⟨_, rfl, _, rfl, r, _, 2, .int (c + 1), rfl, rfl, SqL.of hR2, rfl, _, _, rfl, rfl, .inl ⟨by decide, by decide⟩, _, _, rfl, rfl, _, _, rfl, rfl, ⟨300, ?_, by decide, by decide⟩, .inl ⟨_, rfl, _, _, rfl, rfl, ⟨by decide, by decide, by decide⟩, _, _, rfl, rfl, _, _, rfl, rfl, by show ((10 : Int) ^ (44 : Int).toNat + 57) ≠ 0; rw [m2]; decide, ?_⟩⟩
      · have := f1 ((b + 86028121 * (c + 1)) ^ (3 : Int).toNat)
        show (Int.fmod ((b + 86028121 * (c + 1)) ^ (3 : Int).toNat) ((10 : Int) ^ (42 : Int).toNat + 63) + 67867967 * (c + 1)).natAbs < 2 ^ 300
        rw [m1]
        omega
      refine ⟨_, rfl, _, _, rfl, rfl, ⟨by decide, by decide⟩, .inl ⟨_, rfl, _, rfl, _, _, rfl, rfl, by omega, ?_⟩⟩
      exact fin _ _ But.upd ⟨a, b, c + 1, upd_same, ha, hb, hb2, by omega, by omega⟩
def spis_word (K : PySem.W.Frag) (Z : Ads) : Sp := fun vs H Q _ => ∃ l : List Bool, vs = [.str (wS l)] ∧ GoodW l ∧ Q (.bl true) H
theorem okis_word {Z : Ads} (T : Top K mg Z) : FnOk P w K mg base CX0 1 Z.f_is_word Z.d_is_word ["value"] (spis_word K Z) := by
  refine T.F_is_word.ok scis_word (fun vs H Q E h => ?_) (fun cdv A outer s H vs Q E hr h => ?_)
  · obtain ⟨l, rfl, g, q⟩ := h
    rfl
  · obtain ⟨l, rfl, g, q⟩ := h
    obtain ⟨tM, mM⟩ := T.m_MOST_BITS
    refine ⟨_, (pss_cons (ps_if (PW.pt (pw_or (pt_not (pt_val (pe_callB (call_isi) (by rfl) T.z_isinstance (by decide +kernel) (pa_cons (pv 0) (pa_cons (pe_bltn (v := .ty "str") (by rfl) T.z_str (by decide +kernel) rfl) pa_nil))))) (pw_or1 (pt_cmpR op_eq (pv 0) pe_str (nomark _)))))
        (pss_one (ps_ret pe_bl))
        pss_nil)
      (pss_cons (ps_par (i := 1) (j := 2) (by rfl) scis_word.nd rfl rfl (by decide) rfl rfl (pa_cons (pe_bm PySem.F.plainAttrs_str PySem.F.slot_str_count PySem.F.type_str_count mt_count (pv 0) (pa_cons pe_str pa_nil)) (pa_cons (pe_bm PySem.F.plainAttrs_str PySem.F.slot_str_count PySem.F.type_str_count mt_count (pv 0) (pa_cons pe_str pa_nil)) pa_nil)) (by rfl))
      (pss_one (ps_ret (pe_and (pe_cmpR op_eq (pe_op op_add (pv 1) (pv 2)) (pe_callB call_len_str (by rfl) T.z_len (by decide +kernel) (pa_cons (pv 0) pa_nil)) (nomark _)) (pe_and (pe_cmpR op_le (pv 1) (pe_glob (v := .int 100) (by rfl) mM ⟨_, rfl⟩) (nomark _)) (pe_one (pe_cmpR op_le (pv 2) (pe_glob (v := .int 100) (by rfl) mM ⟨_, rfl⟩) (nomark _))))))))), ?_⟩
    refine ⟨_, rfl, .str (wS l), .ty "str", _, _, true, rfl, .ty _, .base (.str _), kit_ty (by decide +kernel), true, rfl, iteF ?_⟩
    refine ⟨_, rfl, rfl, _, rfl, ite2 (fun e => ?_) (fun _ => ?_)⟩
    · have e1 := V.str.inj (of_decide_eq_true e)
      rw [wS_nil] at e1
      exact absurd (wS_inj e1) g.1
    refine ⟨_, rfl, rfl, _, _, rfl, rfl, _, rfl, rfl, _, _, rfl, rfl, _, _, rfl, ?_⟩
    rw [count_x, count_y]
    have hl := nxy l
    refine ⟨_, rfl, _, rfl, _, _, rfl, rfl, _, rfl, _, rfl, small_line (by rw [wS_len]; have := g.len; omega), rfl, true, ?_, iteT ?_⟩
    · rw [wS_len, decide_eq_true]
      rw [← hl, Int.natCast_add]
    refine ⟨_, rfl, _, _, rfl, rfl, true, congrArg V.bl (decide_eq_true (by have := g.2.1; omega)), iteT ⟨_, rfl, _, _, rfl, rfl, ?_⟩⟩
    show Q (.bl (decide (((ny l : Nat) : Int) ≤ 100))) H
    rw [decide_eq_true (by have := g.2.2; omega)]
    exact q
def spLayoutU_initU (K : PySem.W.Frag) (Z : Ads) : Sp := fun vs H Q _ => ∃ (p dx : Addr) (l : List Bool), vs = [.ref p, .str (wS l)] ∧ GoodW l ∧ H p = some (.ins Z.C_Layout dx []) ∧ ∀ H', But p H H' → H' p = some (.ins Z.C_Layout dx (lf l)) → Q .non H'
theorem okLayoutU_initU {Z : Ads} (T : Top K mg Z) : FnOk P w K mg base CX0 2 Z.f_LayoutU_initU Z.d_LayoutU_initU ["self", "word"] (spLayoutU_initU K Z) := by
  have G_is_word : FnOk P w K mg base CX0 1 Z.f_is_word Z.d_is_word ["value"] (spis_word K Z) := (okis_word T).mono (by decide)
  refine T.F_LayoutU_initU.ok scLayoutU_initU (fun vs H Q E h => ?_) (fun cdv A outer s H vs Q E hr h => ?_)
  · obtain ⟨p, dx, l, rfl, g, hp, q⟩ := h
    rfl
  · obtain ⟨p, dx, l, rfl, g, hp, q⟩ := h
    refine ⟨_, (pss_cons (ps_if (pt_not (pt_val (pe_call G_is_word (hr.mono (by decide)) (by rfl) T.m_is_word T.F_is_word.kp T.b_is_word .nil pass0 (pa_cons (pv 1) pa_nil))))
        (pss_one ps_never)
        pss_nil)
      (pss_cons (ps_fld (pv 0) (pv 1) rfl)
      (pss_cons (ps_fld (pv 0) (pe_bm PySem.F.plainAttrs_str PySem.F.slot_str_count PySem.F.type_str_count mt_count (pv 1) (pa_cons pe_str pa_nil)) rfl)
      (pss_one (ps_fld (pv 0) (pe_bm PySem.F.plainAttrs_str PySem.F.slot_str_count PySem.F.type_str_count mt_count (pv 1) (pa_cons pe_str pa_nil)) rfl))))), ?_⟩
    refine ⟨_, rfl, l, rfl, g, true, rfl, iteF ?_⟩
    refine ⟨_, rfl, _, rfl, p, _, dx, _, rfl, hp, T.cl_Layout, T.no_Layout_word, (by show 0 < 1000; decide), ?_⟩
    refine ⟨_, rfl, rfl, _, _, rfl, rfl, ?_⟩
    rw [count_x]
    refine ⟨_, rfl, p, _, dx, _, rfl, upd_same, T.cl_Layout, T.no_Layout_x_bits, (by show 1 < 1000; decide), ?_⟩
    refine ⟨_, rfl, rfl, _, _, rfl, rfl, ?_⟩
    rw [count_y]
    refine ⟨_, rfl, p, _, dx, _, rfl, upd_same, T.cl_Layout, T.no_Layout_y_bits, (by show 2 < 1000; decide), ?_⟩
    refine q _ (fun b o nb e => ?_) ?_
    · rw [upd_ne nb, upd_ne nb, upd_ne nb]
      exact e
    · rw [upd_same]
      rfl
def spcheck_bits (K : PySem.W.Frag) (Z : Ads) : Sp := fun vs H Q _ => ∃ n m : Nat, vs = [.int n, .int m] ∧ n ≤ 100 ∧ m ≤ 100 ∧ 1 ≤ n + m ∧ Q .non H
theorem okcheck_bits {Z : Ads} (T : Top K mg Z) : FnOk P w K mg base CX0 3 Z.f_check_bits Z.d_check_bits ["x_bits", "y_bits"] (spcheck_bits K Z) := by
  have G_is_between : FnOk P w K mg base CX0 2 Z.f_is_between Z.d_is_between ["value", "low", "high"] (spis_between K Z) := (okis_between T).mono (by decide)
  refine T.F_check_bits.ok sccheck_bits (fun vs H Q E h => ?_) (fun cdv A outer s H vs Q E hr h => ?_)
  · obtain ⟨n, m, rfl, hn, hm, h1, q⟩ := h
    rfl
  · obtain ⟨n, m, rfl, hn, hm, h1, q⟩ := h
    obtain ⟨tM, mM⟩ := T.m_MOST_BITS
    refine ⟨_, (pss_cons (ps_if (pt_not (pt_val (pe_call G_is_between (hr.mono (by decide)) (by rfl) T.m_is_between T.F_is_between.kp T.b_is_between .nil pass0 (pa_cons (pv 0) (pa_cons pe_int (pa_cons (pe_glob (v := .int 100) (by rfl) mM ⟨_, rfl⟩) pa_nil))))))
        (pss_one ps_never)
        pss_nil)
      (pss_cons (ps_if (pt_not (pt_val (pe_call G_is_between (hr.mono (by decide)) (by rfl) T.m_is_between T.F_is_between.kp T.b_is_between .nil pass0 (pa_cons (pv 1) (pa_cons pe_int (pa_cons (pe_glob (v := .int 100) (by rfl) mM ⟨_, rfl⟩) pa_nil))))))
        (pss_one ps_never)
        pss_nil)
      (pss_one (ps_if (PW.pt (pw_and (pt_cmpR op_eq (pv 0) pe_int (nomark _)) (pw_and1 (pt_cmpR op_eq (pv 1) pe_int (nomark _)))))
        (pss_one ps_never)
        pss_nil)))), ?_⟩
    refine ⟨_, rfl, _, _, _, rfl, by omega, by omega, true, rfl, iteF ?_⟩
    refine ⟨_, rfl, _, _, _, rfl, by omega, by omega, true, rfl, iteF ?_⟩
    refine ⟨_, rfl, rfl, _, rfl, ite2 (fun e => ?_) (fun _ => iteF q)⟩
    have e0 := V.int.inj (of_decide_eq_true e)
    refine ⟨_, rfl, rfl, _, rfl, ite2 (fun f => ?_) (fun _ => q)⟩
    have f0 := V.int.inj (of_decide_eq_true f)
    omega
def spcolumns (K : PySem.W.Frag) (Z : Ads) : Sp := fun vs H Q _ => ∃ n m : Nat, vs = [.int n, .int m] ∧ n ≤ 100 ∧ m ≤ 100 ∧ 1 ≤ n + m ∧ ∀ p H', Same H H' → H p = none → Lay Z.C_Layout H' p (colsL n m) → Q (.ref p) H'
theorem okcolumns {Z : Ads} (T : Top K mg Z) : FnOk P w K mg base CX0 4 Z.f_columns Z.d_columns ["x_bits", "y_bits"] (spcolumns K Z) := by
  have G_LayoutU_initU : FnOk P w K mg base CX0 2 Z.f_LayoutU_initU Z.d_LayoutU_initU ["self", "word"] (spLayoutU_initU K Z) := (okLayoutU_initU T).mono (by decide)
  have G_check_bits : FnOk P w K mg base CX0 3 Z.f_check_bits Z.d_check_bits ["x_bits", "y_bits"] (spcheck_bits K Z) := (okcheck_bits T).mono (by decide)
  refine T.F_columns.ok sccolumns (fun vs H Q E h => ?_) (fun cdv A outer s H vs Q E hr h => ?_)
  · obtain ⟨n, m, rfl, hn, hm, h1, q⟩ := h
    rfl
  · obtain ⟨n, m, rfl, hn, hm, h1, q⟩ := h
    refine ⟨_, (pss_cons (ps_expr (pe_call G_check_bits (hr.mono (by decide)) (by rfl) T.m_check_bits T.F_check_bits.kp T.b_check_bits .nil pass0 (pa_cons (pv 0) (pa_cons (pv 1) pa_nil))))
      (pss_one (ps_ret (pe_make T.mk_Layout G_LayoutU_initU (hr.mono (by decide)) (by rfl) T.m_Layout T.b_LayoutU_initU .nil pass0 (pa_cons (pe_op op_add_str (pe_op op_mulS pe_str (pv 0)) (pe_op op_mulS pe_str (pv 1))) pa_nil))))), ?_⟩
    refine ⟨_, rfl, _, rfl, n, m, rfl, hn, hm, h1, ?_⟩
    refine ⟨_, rfl, _, _, rfl, rfl, len_x, by omega, by omega, _, rfl, _, _, rfl, rfl, len_y, by omega, by omega, _, _, rfl, rfl, ?_, ?_⟩
    · rw [mul_x, mul_y, wS_len, wS_len, List.length_replicate, List.length_replicate]
      exact small_line (by omega)
    rw [mul_x, mul_y, wS_app]
    intro p dx n1 n2 n3
    refine ⟨p, dx, colsL n m, rfl, good_of (nx_cols n m) (ny_cols n m) hn hm h1, upd_same, fun H' bt e => ⟨rfl, ?_⟩⟩
    exact q p H' (made_same n1 n2 bt) n1 ⟨dx, e⟩
def splaced (K : PySem.W.Frag) (Z : Ads) : Sp := fun vs H Q _ => ∃ n m : Nat, vs = [.int n, .int m] ∧ n ≤ 100 ∧ m ≤ 100 ∧ 1 ≤ n + m ∧ ∀ p H', Same H H' → H p = none → Lay Z.C_Layout H' p (lacedL n m) → Q (.ref p) H'
theorem oklaced {Z : Ads} (T : Top K mg Z) : FnOk P w K mg base CX0 4 Z.f_laced Z.d_laced ["x_bits", "y_bits"] (splaced K Z) := by
  have G_LayoutU_initU : FnOk P w K mg base CX0 2 Z.f_LayoutU_initU Z.d_LayoutU_initU ["self", "word"] (spLayoutU_initU K Z) := (okLayoutU_initU T).mono (by decide)
  have G_check_bits : FnOk P w K mg base CX0 3 Z.f_check_bits Z.d_check_bits ["x_bits", "y_bits"] (spcheck_bits K Z) := (okcheck_bits T).mono (by decide)
  refine T.F_laced.ok sclaced (fun vs H Q E h => ?_) (fun cdv A outer s H vs Q E hr h => ?_)
  · obtain ⟨n, m, rfl, hn, hm, h1, q⟩ := h
    rfl
  · obtain ⟨n, m, rfl, hn, hm, h1, q⟩ := h
    refine ⟨_, (pss_cons (ps_expr (pe_call G_check_bits (hr.mono (by decide)) (by rfl) T.m_check_bits T.F_check_bits.kp T.b_check_bits .nil pass0 (pa_cons (pv 0) (pa_cons (pv 1) pa_nil))))
      (pss_cons (ps_set (i := 2) sclaced.nd rfl (.inl rfl) (pe_callB (call_min2 (by rfl)) (by rfl) T.z_min (by decide +kernel) (pa_cons (pv 0) (pa_cons (pv 1) pa_nil))))
      (pss_one (ps_ret (pe_make T.mk_Layout G_LayoutU_initU (hr.mono (by decide)) (by rfl) T.m_Layout T.b_LayoutU_initU .nil pass0 (pa_cons (pe_op op_add_str (pe_op op_add_str (pe_op op_mulS pe_str (pe_op op_sub (pv 0) (pv 2))) (pe_op op_mulS pe_str (pe_op op_sub (pv 1) (pv 2)))) (pe_op op_mulS pe_str (pv 2))) pa_nil)))))), ?_⟩
    refine ⟨_, rfl, _, rfl, n, m, rfl, hn, hm, h1, ?_⟩
    refine ⟨_, rfl, _, rfl, _, _, rfl, ?_⟩
    have em : (if (m : Int) < (n : Int) then (m : Int) else (n : Int)) = ((min n m : Nat) : Int) := by
      split <;> omega
    rw [em]
    have e1 : (n : Int) - ((min n m : Nat) : Int) = ((n - min n m : Nat) : Int) := by omega
    have e2 : (m : Int) - ((min n m : Nat) : Int) = ((m - min n m : Nat) : Int) := by omega
    refine ⟨_, rfl, _, rfl, _, _, rfl, rfl, _, _, rfl, congrArg V.int e1, len_x, by omega, by omega, _, rfl, _, rfl, _, _, rfl, rfl, _, _, rfl, congrArg V.int e2, len_y, by omega, by omega, _, _, rfl, rfl, ?_, _, rfl, _, _, rfl, rfl, len_yx, by omega, by omega, _, _, rfl, rfl, ?_, ?_⟩
    · rw [mul_x, mul_y, wS_len, wS_len, List.length_replicate, List.length_replicate]
      exact small_line (by omega)
    · rw [mul_x, mul_y, mul_yx, wS_app, wS_len, wS_len, List.length_append, List.length_replicate, List.length_replicate, ← nxy, nx_yxs, ny_yxs]
      exact small_line (by omega)
    rw [mul_x, mul_y, mul_yx, wS_app, wS_app]
    intro p dx n1 n2 n3
    refine ⟨p, dx, lacedL n m, rfl, good_of (nx_laced n m) (ny_laced n m) hn hm h1, upd_same, fun H' bt e => ⟨rfl, ?_⟩⟩
    exact q p H' (made_same n1 n2 bt) n1 ⟨dx, e⟩
def sprows_word (K : PySem.W.Frag) (Z : Ads) : Sp := fun vs H Q _ => ∃ n m : Nat, vs = [.int n, .int m] ∧ n ≤ 100 ∧ m ≤ 100 ∧ Q (.str (wS (rowsL n m))) H
theorem okrows_word {Z : Ads} (T : Top K mg Z) : FnOk P w K mg base CX0 1 Z.f_rows_word Z.d_rows_word ["x_bits", "y_bits"] (sprows_word K Z) := by
  refine T.F_rows_word.ok scrows_word (fun vs H Q E h => ?_) (fun cdv A outer s H vs Q E hr h => ?_)
  · obtain ⟨n, m, rfl, hn, hm, q⟩ := h
    rfl
  · obtain ⟨n, m, rfl, hn, hm, q⟩ := h
    refine ⟨_, (pss_one (ps_ret (pe_op op_add_str (pe_op op_mulS pe_str (pv 1)) (pe_op op_mulS pe_str (pv 0))))), ?_⟩
    refine ⟨_, rfl, _, _, rfl, rfl, len_y, by omega, by omega, _, rfl, _, _, rfl, rfl, len_x, by omega, by omega, _, _, rfl, rfl, ?_, ?_⟩
    · rw [mul_x, mul_y, wS_len, wS_len, List.length_replicate, List.length_replicate]
      exact small_line (by omega)
    · rw [mul_x, mul_y, wS_app]
      exact q
def sprows (K : PySem.W.Frag) (Z : Ads) : Sp := fun vs H Q _ => ∃ n m : Nat, vs = [.int n, .int m] ∧ n ≤ 100 ∧ m ≤ 100 ∧ 1 ≤ n + m ∧ ∀ p H', Same H H' → H p = none → Lay Z.C_Layout H' p (rowsL n m) → Q (.ref p) H'
theorem okrows {Z : Ads} (T : Top K mg Z) : FnOk P w K mg base CX0 4 Z.f_rows Z.d_rows ["x_bits", "y_bits"] (sprows K Z) := by
  have G_LayoutU_initU : FnOk P w K mg base CX0 2 Z.f_LayoutU_initU Z.d_LayoutU_initU ["self", "word"] (spLayoutU_initU K Z) := (okLayoutU_initU T).mono (by decide)
  have G_rows_word : FnOk P w K mg base CX0 3 Z.f_rows_word Z.d_rows_word ["x_bits", "y_bits"] (sprows_word K Z) := (okrows_word T).mono (by decide)
  have G_check_bits : FnOk P w K mg base CX0 3 Z.f_check_bits Z.d_check_bits ["x_bits", "y_bits"] (spcheck_bits K Z) := (okcheck_bits T).mono (by decide)
  refine T.F_rows.ok scrows (fun vs H Q E h => ?_) (fun cdv A outer s H vs Q E hr h => ?_)
  · obtain ⟨n, m, rfl, hn, hm, h1, q⟩ := h
    rfl
  · obtain ⟨n, m, rfl, hn, hm, h1, q⟩ := h
    refine ⟨_, (pss_cons (ps_expr (pe_call G_check_bits (hr.mono (by decide)) (by rfl) T.m_check_bits T.F_check_bits.kp T.b_check_bits .nil pass0 (pa_cons (pv 0) (pa_cons (pv 1) pa_nil))))
      (pss_one (ps_ret (pe_make T.mk_Layout G_LayoutU_initU (hr.mono (by decide)) (by rfl) T.m_Layout T.b_LayoutU_initU .nil pass0 (pa_cons (pe_call G_rows_word (hr.mono (by decide)) (by rfl) T.m_rows_word T.F_rows_word.kp T.b_rows_word .nil pass0 (pa_cons (pv 0) (pa_cons (pv 1) pa_nil))) pa_nil))))), ?_⟩
    refine ⟨_, rfl, _, rfl, n, m, rfl, hn, hm, h1, ?_⟩
    refine ⟨_, rfl, _, rfl, n, m, rfl, hn, hm, ?_⟩
    intro p dx n1 n2 n3
    refine ⟨p, dx, rowsL n m, rfl, good_of (nx_rows n m) (ny_rows n m) hn hm h1, upd_same, fun H' bt e => ⟨rfl, ?_⟩⟩
    exact q p H' (made_same n1 n2 bt) n1 ⟨dx, e⟩
def sptiled (K : PySem.W.Frag) (Z : Ads) : Sp := fun vs H Q _ => ∃ n m a b : Nat, vs = [.int n, .int m, .int a, .int b] ∧ n ≤ 100 ∧ m ≤ 100 ∧ 1 ≤ n + m ∧ a ≤ n ∧ b ≤ m ∧ ∀ p H', Same H H' → H p = none → Lay Z.C_Layout H' p (tiledL n m a b) → Q (.ref p) H'
theorem oktiled {Z : Ads} (T : Top K mg Z) : FnOk P w K mg base CX0 4 Z.f_tiled Z.d_tiled ["x_bits", "y_bits", "tile_x", "tile_y"] (sptiled K Z) := by
  have G_LayoutU_initU : FnOk P w K mg base CX0 2 Z.f_LayoutU_initU Z.d_LayoutU_initU ["self", "word"] (spLayoutU_initU K Z) := (okLayoutU_initU T).mono (by decide)
  have G_rows_word : FnOk P w K mg base CX0 3 Z.f_rows_word Z.d_rows_word ["x_bits", "y_bits"] (sprows_word K Z) := (okrows_word T).mono (by decide)
  have G_check_bits : FnOk P w K mg base CX0 3 Z.f_check_bits Z.d_check_bits ["x_bits", "y_bits"] (spcheck_bits K Z) := (okcheck_bits T).mono (by decide)
  have G_is_between : FnOk P w K mg base CX0 3 Z.f_is_between Z.d_is_between ["value", "low", "high"] (spis_between K Z) := (okis_between T).mono (by decide)
  refine T.F_tiled.ok sctiled (fun vs H Q E h => ?_) (fun cdv A outer s H vs Q E hr h => ?_)
  · obtain ⟨n, m, a, b, rfl, hn, hm, h1, ha, hb, q⟩ := h
    rfl
  · obtain ⟨n, m, a, b, rfl, hn, hm, h1, ha, hb, q⟩ := h
    refine ⟨_, (pss_cons (ps_expr (pe_call G_check_bits (hr.mono (by decide)) (by rfl) T.m_check_bits T.F_check_bits.kp T.b_check_bits .nil pass0 (pa_cons (pv 0) (pa_cons (pv 1) pa_nil))))
      (pss_cons (ps_if (pt_not (pt_val (pe_call G_is_between (hr.mono (by decide)) (by rfl) T.m_is_between T.F_is_between.kp T.b_is_between .nil pass0 (pa_cons (pv 2) (pa_cons pe_int (pa_cons (pv 0) pa_nil))))))
        (pss_one ps_never)
        pss_nil)
      (pss_cons (ps_if (pt_not (pt_val (pe_call G_is_between (hr.mono (by decide)) (by rfl) T.m_is_between T.F_is_between.kp T.b_is_between .nil pass0 (pa_cons (pv 3) (pa_cons pe_int (pa_cons (pv 1) pa_nil))))))
        (pss_one ps_never)
        pss_nil)
      (pss_one (ps_ret (pe_make T.mk_Layout G_LayoutU_initU (hr.mono (by decide)) (by rfl) T.m_Layout T.b_LayoutU_initU .nil pass0 (pa_cons (pe_op op_add_str (pe_call G_rows_word (hr.mono (by decide)) (by rfl) T.m_rows_word T.F_rows_word.kp T.b_rows_word .nil pass0 (pa_cons (pe_op op_sub (pv 0) (pv 2)) (pa_cons (pe_op op_sub (pv 1) (pv 3)) pa_nil))) (pe_call G_rows_word (hr.mono (by decide)) (by rfl) T.m_rows_word T.F_rows_word.kp T.b_rows_word .nil pass0 (pa_cons (pv 2) (pa_cons (pv 3) pa_nil)))) pa_nil))))))), ?_⟩
    refine ⟨_, rfl, _, rfl, n, m, rfl, hn, hm, h1, ?_⟩
    refine ⟨_, rfl, _, rfl, _, _, _, rfl, by omega, by omega, true, rfl, iteF ?_⟩
    refine ⟨_, rfl, _, rfl, _, _, _, rfl, by omega, by omega, true, rfl, iteF ?_⟩
    have e1 : (n : Int) - (a : Int) = ((n - a : Nat) : Int) := by omega
    have e2 : (m : Int) - (b : Int) = ((m - b : Nat) : Int) := by omega
    refine ⟨_, rfl, _, rfl, _, _, rfl, rfl, _, rfl, _, rfl, _, _, rfl, rfl, n - a, m - b, ?_, by omega, by omega, ?_⟩
    · show [V.int ((n : Int) - (a : Int)), V.int ((m : Int) - (b : Int))] = _
      rw [e1, e2]
    refine ⟨_, rfl, _, rfl, a, b, rfl, by omega, by omega, _, _, rfl, rfl, ?_, ?_⟩
    · rw [wS_len, wS_len, len_rows, len_rows]
      exact small_line (by omega)
    rw [wS_app]
    intro p dx n1 n2 n3
    refine ⟨p, dx, tiledL n m a b, rfl, good_of (nx_tiled ha) (ny_tiled hb) hn hm h1, upd_same, fun H' bt e => ⟨rfl, ?_⟩⟩
    exact q p H' (made_same n1 n2 bt) n1 ⟨dx, e⟩
def splaw_right (K : PySem.W.Frag) (Z : Ads) : Sp := fun vs H Q _ => ∃ (r : Addr) (n most : Nat), vs = [.ref r, .int most] ∧ Reel H r n ∧ n ≤ 500000 ∧ most ≤ 100 ∧ ∀ H', But r H H' → Reel H' r (n + 100) → Q (.bl true) H'
theorem oklaw_right {Z : Ads} (T : Top K mg Z) : FnG P w K mg base 6 Z.f_law_right Z.d_law_right ["reel", "most"] (splaw_right K Z) := by
  have G_LayoutU_eqU : FnOk P w K mg base CX0 1 Z.f_LayoutU_eqU Z.d_LayoutU_eqU ["self", "other"] (spLayoutU_eqU K Z) := (okLayoutU_eqU T).mono (by decide)
  have G_Layout_cell : FnOk P w K mg base CX0 5 Z.f_Layout_cell Z.d_Layout_cell ["self", "key"] (spLayout_cell K Z) := (okLayout_cell T).mono (by decide)
  have G_Layout_key : FnOk P w K mg base CX0 5 Z.f_Layout_key Z.d_Layout_key ["self", "cell"] (spLayout_key K Z) := (okLayout_key T).mono (by decide)
  have G_Layout_word : FnOk P w K mg base CX0 1 Z.f_Layout_word Z.d_Layout_word ["self"] (spLayout_word K Z) := (okLayout_word T).mono (by decide)
  have G_law_power : FnOk P w K mg base CX0 5 Z.f_law_power Z.d_law_power ["depth"] (splaw_power K Z) := (oklaw_power T).mono (by decide)
  have G_law_spin : FnOk P w K mg base CX0 5 Z.f_law_spin Z.d_law_spin ["reel", "many"] (splaw_spin K Z) := (oklaw_spin T).mono (by decide)
  have G_columns : FnOk P w K mg base CX0 5 Z.f_columns Z.d_columns ["x_bits", "y_bits"] (spcolumns K Z) := (okcolumns T).mono (by decide)
  have G_laced : FnOk P w K mg base CX0 5 Z.f_laced Z.d_laced ["x_bits", "y_bits"] (splaced K Z) := (oklaced T).mono (by decide)
  have G_rows : FnOk P w K mg base CX0 5 Z.f_rows Z.d_rows ["x_bits", "y_bits"] (sprows K Z) := (okrows T).mono (by decide)
  have G_tiled : FnOk P w K mg base CX0 5 Z.f_tiled Z.d_tiled ["x_bits", "y_bits", "tile_x", "tile_y"] (sptiled K Z) := (oktiled T).mono (by decide)
  refine okG T.F_law_right sclaw_right (fun vs H Q E h => ?_) (fun cdv A outer s H vs Q E hgd hr h => ?_)
  · obtain ⟨r, n, most, rfl, hR, hn, hmost, q⟩ := h
    rfl
  · obtain ⟨r, n, most, rfl, hR, hn, hmost, q⟩ := h
    refine ⟨_, (pss_cons (ps_par (i := 2) (j := 3) (by rfl) sclaw_right.nd rfl rfl (by decide) rfl rfl (pa_cons (pe_call G_law_spin (hr.mono (by decide)) (by rfl) T.m_law_spin T.F_law_spin.kp T.b_law_spin .nil pass0 (pa_cons (pv 0) (pa_cons (pe_op op_add (pv 1) pe_int) pa_nil))) (pa_cons (pe_call G_law_spin (hr.mono (by decide)) (by rfl) T.m_law_spin T.F_law_spin.kp T.b_law_spin .nil pass0 (pa_cons (pv 0) (pa_cons (pe_op op_add (pv 1) pe_int) pa_nil))) pa_nil)) (by rfl))
      (C8.pss_cut (ps_if (pt_cmpR op_eq (pe_op op_add (pv 2) (pv 3)) pe_int (nomark _))
        (pss_one (ps_set (i := 2) sclaw_right.nd rfl (.inl rfl) pe_int))
        pss_nil)
      (pss_cons (ps_par (i := 4) (j := 5) (by rfl) sclaw_right.nd rfl rfl (by decide) rfl rfl (pa_cons (pe_call G_rows (hr.mono (by decide)) (by rfl) T.m_rows T.F_rows.kp T.b_rows .nil pass0 (pa_cons (pv 2) (pa_cons (pv 3) pa_nil))) (pa_cons (pe_call G_columns (hr.mono (by decide)) (by rfl) T.m_columns T.F_columns.kp T.b_columns .nil pass0 (pa_cons (pv 2) (pa_cons (pv 3) pa_nil))) pa_nil)) (by rfl))
      (pss_cons (ps_if (pt_cmpR op_ne (pe_callB (call_reprD hgd (hu_of' hr)) (by rfl) T.z_repr (by decide +kernel) (pa_cons (pe_lst (pa_cons (pe_prop (pv 4) T.cl_Layout T.p_Layout_word G_Layout_word (hr.mono (by decide)) T.b_Layout_word .nil pass0 (by rfl)) (pa_cons (pe_prop (pv 5) T.cl_Layout T.p_Layout_word G_Layout_word (hr.mono (by decide)) T.b_Layout_word .nil pass0 (by rfl)) pa_nil))) pa_nil)) (pe_callB (call_reprD hgd (hu_of' hr)) (by rfl) T.z_repr (by decide +kernel) (pa_cons (pe_lst (pa_cons (pe_op op_add_str (pe_op op_mulS pe_str (pv 3)) (pe_op op_mulS pe_str (pv 2))) (pa_cons (pe_op op_add_str (pe_op op_mulS pe_str (pv 2)) (pe_op op_mulS pe_str (pv 3))) pa_nil))) pa_nil)) (nomark _))
        (pss_one (ps_ret pe_bl))
        pss_nil)
      (pss_cons (ps_par (i := 6) (j := 7) (by rfl) sclaw_right.nd rfl rfl (by decide) rfl rfl (pa_cons (pe_call G_law_power (hr.mono (by decide)) (by rfl) T.m_law_power T.F_law_power.kp T.b_law_power .nil pass0 (pa_cons (pv 2) pa_nil)) (pa_cons (pe_call G_law_power (hr.mono (by decide)) (by rfl) T.m_law_power T.F_law_power.kp T.b_law_power .nil pass0 (pa_cons (pv 3) pa_nil)) pa_nil)) (by rfl))
      (pss_cons (ps_par (i := 8) (j := 9) (by rfl) sclaw_right.nd rfl rfl (by decide) rfl rfl (pa_cons (pe_call G_law_spin (hr.mono (by decide)) (by rfl) T.m_law_spin T.F_law_spin.kp T.b_law_spin .nil pass0 (pa_cons (pv 0) (pa_cons (pv 6) pa_nil))) (pa_cons (pe_call G_law_spin (hr.mono (by decide)) (by rfl) T.m_law_spin T.F_law_spin.kp T.b_law_spin .nil pass0 (pa_cons (pv 0) (pa_cons (pv 7) pa_nil))) pa_nil)) (by rfl))
      (pss_cons (ps_if (PW.pt (pw_or (pt_cmpR op_ne (pe_meth (pv 4) T.cl_Layout T.meth_Layout_key G_Layout_key (hr.mono (by decide)) T.b_Layout_key .nil pass0 (pa_cons (pe_tup (pa_cons (pv 8) (pa_cons (pv 9) pa_nil))) pa_nil)) (pe_op op_add (pe_op op_mulW (pv 9) (pv 6)) (pv 8)) (nomark _)) (pw_or1 (pt_cmpR op_ne (pe_meth (pv 5) T.cl_Layout T.meth_Layout_key G_Layout_key (hr.mono (by decide)) T.b_Layout_key .nil pass0 (pa_cons (pe_tup (pa_cons (pv 8) (pa_cons (pv 9) pa_nil))) pa_nil)) (pe_op op_add (pe_op op_mulW (pv 8) (pv 7)) (pv 9)) (nomark _)))))
        (pss_one (ps_ret pe_bl))
        pss_nil)
      (pss_cons (ps_par (i := 10) (j := 11) (by rfl) sclaw_right.nd rfl rfl (by decide) rfl rfl (pa_cons pe_str (pa_cons (pe_lst (pa_cons (pv 2) (pa_cons (pv 3) pa_nil))) pa_nil)) (by rfl))
      (pss_cons (ps_for PassesOwn.never rfl (pi_range1 (by rfl) T.z_range (pa_cons (pe_callB (call_min2 (by rfl)) (by rfl) T.z_min (by decide +kernel) (pa_cons (pv 2) (pa_cons (pv 3) pa_nil))) pa_nil)) (pg_name (i := 12) sclaw_right.nd rfl (.inl rfl))
        (pss_one (ps_set (i := 10) sclaw_right.nd rfl (.inl rfl) (pe_op op_add_str (pv 10) pe_str))))
      (pss_cons (ps_set (i := 10) sclaw_right.nd rfl (.inl rfl) (pe_op op_add_str (pe_op op_add_str (pe_op op_mulS pe_str (pe_op op_sub (pv 2) (pe_callB (cr_min (by rfl)) (by rfl) T.z_min (by decide +kernel) (pa_cons (pv 11) pa_nil)))) (pe_op op_mulS pe_str (pe_op op_sub (pv 3) (pe_callB (cr_min (by rfl)) (by rfl) T.z_min (by decide +kernel) (pa_cons (pv 11) pa_nil))))) (pv 10)))
      (pss_cons (ps_if (PW.pt (pw_or (pt_cmpR op_ne (pe_prop (pe_call G_laced (hr.mono (by decide)) (by rfl) T.m_laced T.F_laced.kp T.b_laced .nil pass0 (pa_cons (pv 2) (pa_cons (pv 3) pa_nil))) T.cl_Layout T.p_Layout_word G_Layout_word (hr.mono (by decide)) T.b_Layout_word .nil pass0 (by rfl)) (pv 10) (nomark _)) (pw_or1 (pt_not (pt_val (pe_callB (call_isi) (by rfl) T.z_isinstance (by decide +kernel) (pa_cons (pe_call G_laced (hr.mono (by decide)) (by rfl) T.m_laced T.F_laced.kp T.b_laced .nil pass0 (pa_cons (pv 2) (pa_cons (pv 3) pa_nil))) (pa_cons (pe_glob (v := .ref Z.C_Layout) (by rfl) T.m_Layout rfl) pa_nil))))))))
        (pss_one (ps_ret pe_bl))
        pss_nil)
      (pss_cons (ps_par (i := 13) (j := 14) (by rfl) sclaw_right.nd rfl rfl (by decide) rfl rfl (pa_cons (pe_call G_law_spin (hr.mono (by decide)) (by rfl) T.m_law_spin T.F_law_spin.kp T.b_law_spin .nil pass0 (pa_cons (pv 0) (pa_cons (pe_op op_add (pv 2) pe_int) pa_nil))) (pa_cons (pe_call G_law_spin (hr.mono (by decide)) (by rfl) T.m_law_spin T.F_law_spin.kp T.b_law_spin .nil pass0 (pa_cons (pv 0) (pa_cons (pe_op op_add (pv 3) pe_int) pa_nil))) pa_nil)) (by rfl))
      (pss_cons (ps_set (i := 15) sclaw_right.nd rfl (.inl rfl) (pe_call G_tiled (hr.mono (by decide)) (by rfl) T.m_tiled T.F_tiled.kp T.b_tiled .nil pass0 (pa_cons (pv 2) (pa_cons (pv 3) (pa_cons (pv 13) (pa_cons (pv 14) pa_nil))))))
      (pss_cons (ps_set (i := 16) sclaw_right.nd rfl (.inl rfl) (pe_lst (pa_cons (pe_op op_mulS pe_str (pe_op op_sub (pv 3) (pv 14))) (pa_cons (pe_op op_mulS pe_str (pe_op op_sub (pv 2) (pv 13))) (pa_cons (pe_op op_mulS pe_str (pv 14)) (pa_cons (pe_op op_mulS pe_str (pv 13)) pa_nil))))))
      (pss_cons (ps_if (pt_cmpR op_ne (pe_prop (pv 15) T.cl_Layout T.p_Layout_word G_Layout_word (hr.mono (by decide)) T.b_Layout_word .nil pass0 (by rfl)) (pe_join pe_str (pv 16)) (nomark _))
        (pss_one (ps_ret pe_bl))
        pss_nil)
      (pss_cons (ps_par (i := 17) (j := 18) (by rfl) sclaw_right.nd rfl rfl (by decide) rfl rfl (pa_cons (pe_call G_law_power (hr.mono (by decide)) (by rfl) T.m_law_power T.F_law_power.kp T.b_law_power .nil pass0 (pa_cons (pe_op op_add (pv 13) (pv 14)) pa_nil)) (pa_cons (pe_call G_law_power (hr.mono (by decide)) (by rfl) T.m_law_power T.F_law_power.kp T.b_law_power .nil pass0 (pa_cons (pe_op op_sub (pv 2) (pv 13)) pa_nil)) pa_nil)) (by rfl))
      (pss_cons (ps_set (i := 19) sclaw_right.nd rfl (.inl rfl) (pe_op op_add (pe_op op_mulW (pe_op op_fdivW (pv 9) (pe_call G_law_power (hr.mono (by decide)) (by rfl) T.m_law_power T.F_law_power.kp T.b_law_power .nil pass0 (pa_cons (pv 14) pa_nil))) (pv 18)) (pe_op op_fdivW (pv 8) (pe_call G_law_power (hr.mono (by decide)) (by rfl) T.m_law_power T.F_law_power.kp T.b_law_power .nil pass0 (pa_cons (pv 13) pa_nil)))))
      (pss_cons (ps_par (i := 20) (j := 21) (by rfl) sclaw_right.nd rfl rfl (by decide) rfl rfl (pa_cons (pe_op op_modN (pe_callTy call_int1 (by rfl) T.z_int (by decide +kernel) (pa_cons (pv 9) pa_nil)) (pe_call G_law_power (hr.mono (by decide)) (by rfl) T.m_law_power T.F_law_power.kp T.b_law_power .nil pass0 (pa_cons (pv 14) pa_nil))) (pa_cons (pe_op op_modN (pe_callTy call_int1 (by rfl) T.z_int (by decide +kernel) (pa_cons (pv 8) pa_nil)) (pe_call G_law_power (hr.mono (by decide)) (by rfl) T.m_law_power T.F_law_power.kp T.b_law_power .nil pass0 (pa_cons (pv 13) pa_nil))) pa_nil)) (by rfl))
      (pss_cons (ps_set (i := 22) sclaw_right.nd rfl (.inl rfl) (pe_op op_add (pe_op op_mulW (pv 20) (pe_call G_law_power (hr.mono (by decide)) (by rfl) T.m_law_power T.F_law_power.kp T.b_law_power .nil pass0 (pa_cons (pv 13) pa_nil))) (pv 21)))
      (pss_cons (ps_if (PW.pt (pw_or (pt_cmpR op_ne (pe_meth (pv 15) T.cl_Layout T.meth_Layout_key G_Layout_key (hr.mono (by decide)) T.b_Layout_key .nil pass0 (pa_cons (pe_tup (pa_cons (pv 8) (pa_cons (pv 9) pa_nil))) pa_nil)) (pe_op op_add (pe_op op_mulW (pv 19) (pv 17)) (pv 22)) (nomark _)) (pw_or1 (pt_cmpR (op_neD (hu_of' hr)) (pe_meth (pv 15) T.cl_Layout T.meth_Layout_cell G_Layout_cell (hr.mono (by decide)) T.b_Layout_cell .nil pass0 (pa_cons (pe_op op_add (pe_op op_mulW (pv 19) (pv 17)) (pv 22)) pa_nil)) (pe_tup (pa_cons (pv 8) (pa_cons (pv 9) pa_nil))) (nomark _)))))
        (pss_one (ps_ret pe_bl))
        pss_nil)
      (pss_one (ps_ret (pe_and (pe_cmpR (op_eqG (rcG_ins G_LayoutU_eqU T.meth_LayoutU_eqU.at_ T.meth_LayoutU_eqU.fn T.b_LayoutU_eqU pass0) (hr.mono (by decide))) (pe_call G_tiled (hr.mono (by decide)) (by rfl) T.m_tiled T.F_tiled.kp T.b_tiled .nil pass0 (pa_cons (pv 2) (pa_cons (pv 3) (pa_cons pe_int (pa_cons pe_int pa_nil))))) (pv 4) (nomark _)) (pe_one (pe_cmpR (op_eqG (rcG_ins G_LayoutU_eqU T.meth_LayoutU_eqU.at_ T.meth_LayoutU_eqU.fn T.b_LayoutU_eqU pass0) (hr.mono (by decide))) (pe_call G_tiled (hr.mono (by decide)) (by rfl) T.m_tiled T.F_tiled.kp T.b_tiled .nil pass0 (pa_cons (pv 2) (pa_cons (pv 3) (pa_cons (pv 2) (pa_cons (pv 3) pa_nil))))) (pv 4) (nomark _)))))))))))))))))))))))))), ?_⟩
    refine ⟨_, rfl, _, rfl, _, _, rfl, rfl, r, n, most + 1, rfl, hR, by omega, by omega, small_pow (by omega), fun d1 H1 l1 b1 R1 => ?_⟩
    refine ⟨_, rfl, _, rfl, _, _, rfl, rfl, r, n + 1, most + 1, rfl, R1, by omega, by omega, small_pow (by omega), fun d2 H2 l2 b2 R2 => ⟨_, _, rfl, ?_⟩⟩
    have b02 : But r H H2 := b1.trans b2
    refine ⟨fun σ' H' => ∃ x m : Nat, x ≤ 100 ∧ m ≤ 100 ∧ 1 ≤ x + m ∧ H' = H2 ∧ σ' = [some (.ref r), some (.int most), some (.int x), some (.int m)] ++ List.replicate 19 none, ?_, ?_⟩
    · refine ⟨_, rfl, _, rfl, _, _, rfl, rfl, rfl, _, rfl, ite2 (fun e => ?_) (fun e => ?_)⟩
      · have e0 := V.int.inj (of_decide_eq_true e)
        exact ⟨1, d2, by omega, by omega, by omega, rfl, rfl⟩
      · have e0 : ¬ ((d1 : Int) + (d2 : Int) = 0) := fun z => e (decide_eq_true (congrArg V.int z))
        exact ⟨d1, d2, by omega, by omega, by omega, rfl, rfl⟩
    rintro σ' H' ⟨x, m, hx, hm, h1, rfl, rfl⟩
    have gr := good_of (nx_rows x m) (ny_rows x m) hx hm h1
    have gc := good_of (nx_cols x m) (ny_cols x m) hx hm h1
    refine ⟨_, rfl, _, rfl, x, m, rfl, hx, hm, h1, fun p1 H3 e3 np1 La => ?_⟩
    refine ⟨_, rfl, _, rfl, x, m, rfl, hx, hm, h1, fun p2 H4 e4 np2 Lb => ⟨_, _, rfl, ?_⟩⟩
    obtain ⟨dx1, hp1⟩ := La.same e4
    obtain ⟨dx2, hp2⟩ := Lb
    have n1 : p1 ≠ r := R2.ne np1
    have n2 : p2 ≠ r := (R2.same e3).ne np2
    have rpD : RpOk (.list [.str (wS (rowsL x m)), .str (wS (colsL x m))]) := rp_list (allc (atm_w (by rw [len_rows]; omega)) (all1 (atm_w (by rw [len_cols]; omega)))) (Nat.le_of_ble_eq_true rfl)
    refine ⟨_, rfl, p1, dx1, _, rfl, hp1, p1, _, rfl, ⟨dx1, hp1⟩, _, rfl, p2, dx2, _, rfl, hp2, p2, _, rfl, ⟨dx2, hp2⟩, (by show 2 ≤ sizeLine; decide), fun q1 nq1 => ?_⟩
    refine ⟨q1, .list [.str (wS (rowsL x m)), .str (wS (colsL x m))], rfl, Dp.lst (SqL.of upd_same) (.cons (.str _) (.cons (.str _) .nil)), rpD.1, rpD.2.1, rpD.2.2.1, rpD.2.2.2, ?_⟩
    refine ⟨_, rfl, _, _, rfl, rfl, len_y, by omega, by omega, _, rfl, _, _, rfl, rfl, len_x, by omega, by omega, _, _, rfl, rfl, add_yx hx hm, _, rfl, _, _, rfl, rfl, len_x, by omega, by omega, _, rfl, _, _, rfl, rfl, len_y, by omega, by omega, _, _, rfl, rfl, add_xy hx hm, (by show 2 ≤ sizeLine; decide), fun q2 nq2 => ?_⟩
    rw [mul_x, mul_y, wS_app, wS_app]
    refine ⟨q2, .list [.str (wS (rowsL x m)), .str (wS (colsL x m))], rfl, Dp.lst (SqL.of upd_same) (.cons (.str _) (.cons (.str _) .nil)), rpD.1, rpD.2.1, rpD.2.2.1, rpD.2.2.2, rfl, _, rfl, iteNS rfl ?_⟩
    refine to_any (same_new (same_new (Same.refl H4) nq1) nq2) (fun H6 s6 => ?_)
    refine ⟨_, rfl, x, rfl, by omega, _, rfl, m, rfl, by omega, _, _, rfl, ?_⟩
    have R6 : Reel H6 r (n + 1 + 1) := R2.same (e3.trans (e4.trans s6))
    refine ⟨_, rfl, _, rfl, r, _, 2 ^ x, rfl, R6, by omega, two_pos x, pw (by omega), fun cx H7 hcx b7 R7 => ?_⟩
    refine ⟨_, rfl, _, rfl, r, _, 2 ^ m, rfl, R7, by omega, two_pos m, pw (by omega), fun cy H8 hcy b8 R8 => ⟨_, _, rfl, ?_⟩⟩
    have b08 : But r H H8 := b02.trans ((Same.but (e3.trans (e4.trans s6))).trans (b7.trans b8))
    have k1 : H8 p1 = some (.ins Z.C_Layout dx1 (lf (rowsL x m))) := b8 _ _ n1 (b7 _ _ n1 (s6 _ _ hp1))
    have k2 : H8 p2 = some (.ins Z.C_Layout dx2 (lf (colsL x m))) := b8 _ _ n2 (b7 _ _ n2 (s6 _ _ hp2))
    have wx : cx < 2 ^ 1000 := pwl hcx (by omega)
    have wy : cy < 2 ^ 1000 := pwl hcy (by omega)
    refine ⟨_, rfl, p1, dx1, _, rfl, k1, rfl, _, rfl, _, rfl, (by show 2 ≤ sizeLine; decide), fun t1 nt1 => ?_⟩
    refine ⟨p1, t1, rowsL x m, cx, cy, rfl, ⟨dx1, same_new (Same.refl H8) nt1 _ _ k1⟩, gr, upd_same, by rw [nx_rows]; exact hcx, by rw [ny_rows]; exact hcy, fun H9 e9 => ?_⟩
    refine ⟨_, rfl, _, rfl, _, _, rfl, rfl, cmulN wy (pw (by omega)), _, rfl, _, _, rfl, rfl, rfl, _, rfl, iteNS (congrArg V.int (by rw [key_rows, Nat.mod_eq_of_lt hcy, Nat.mod_eq_of_lt hcx, Int.natCast_add, Int.natCast_mul])) ?_⟩
    have s89 : Same H8 H9 := (same_new (Same.refl H8) nt1).trans e9
    refine ⟨_, rfl, p2, dx2, _, rfl, s89 _ _ k2, rfl, _, rfl, _, rfl, (by show 2 ≤ sizeLine; decide), fun t2 nt2 => ?_⟩
    refine ⟨p2, t2, colsL x m, cx, cy, rfl, ⟨dx2, same_new s89 nt2 _ _ k2⟩, gc, upd_same, by rw [nx_cols]; exact hcx, by rw [ny_cols]; exact hcy, fun H10 e10 => ?_⟩
    refine ⟨_, rfl, _, rfl, _, _, rfl, rfl, cmulN wx (pw (by omega)), _, rfl, _, _, rfl, rfl, rfl, _, rfl, iteNS (congrArg V.int (by rw [key_cols, Nat.mod_eq_of_lt hcy, Nat.mod_eq_of_lt hcx, Int.natCast_add, Int.natCast_mul])) ?_⟩
    have s810 : Same H8 H10 := (same_new s89 nt2).trans e10
    -- due, left = '', [x_bits, y_bits]
    refine ⟨_, rfl, _, rfl, (by show 2 ≤ sizeLine; decide), fun lf0 nlf => ⟨_, _, rfl, ?_⟩⟩
    have emin : (if (m : Int) < (x : Int) then (m : Int) else (x : Int)) = ((min x m : Nat) : Int) := by split <;> omega
    have klf : (upd H10 lf0 (.lst [.int (x : Int), .int (m : Int)])) lf0 = some (.lst [.int (x : Int), .int (m : Int)]) := upd_same
    have s811 : Same H8 (upd H10 lf0 (.lst [.int (x : Int), .int (m : Int)])) := same_new s810 nlf
    generalize (upd H10 lf0 (.lst [.int (x : Int), .int (m : Int)])) = H11 at klf s811 ⊢
    refine ⟨_, rfl, _, rfl, _, _, rfl, ?_⟩
    rw [emin]
    refine ⟨_, rfl, by omega, by omega, for_range (lo := 0) (n := min x m) (fun i σ H' => H' = H11 ∧ ∃ y, σ = [some (.ref r), some (.int most), some (.int x), some (.int m), some (.ref p1), some (.ref p2), some (.int (2 ^ x : Nat)), some (.int (2 ^ m : Nat)), some (.int cx), some (.int cy), some (.str (wS (yxs i))), some (.ref lf0), y] ++ List.replicate 10 none) ⟨rfl, none, ?_⟩ ?_ ?_⟩
    · rw [wS_nil]
      rfl
    · rintro i σ H' hi ⟨rfl, y, rfl⟩
      refine ⟨_, rfl, _, _, rfl, rfl, ?_, rfl, some (.int (0 + (i : Nat))), ?_⟩
      · rw [wS_yx, wS_len, wS_len, ← nxy, nx_yxs, ny_yxs]
        exact small_line (by show i + i + 2 ≤ 100000; omega)
      · rw [wS_yx, wS_app, ← yxs_succ]
        rfl
    rintro σ H' ⟨rfl, y, rfl⟩
    -- due = 'x' * (x_bits - min(left)) + 'y' * (y_bits - min(left)) + due
    have e1 : (x : Int) - ((min x m : Nat) : Int) = ((x - min x m : Nat) : Int) := by omega
    have e2 : (m : Int) - ((min x m : Nat) : Int) = ((m - min x m : Nat) : Int) := by omega
    have mins : ∀ z : Int, z ∈ [(x : Int), (m : Int)] → (∀ y ∈ [(x : Int), (m : Int)], z ≤ y) → z = ((min x m : Nat) : Int) := by
      intro z hz hle
      have h1 := hle x List.mem_cons_self
      have h2 := hle m (List.mem_cons_of_mem _ List.mem_cons_self)
      rcases List.mem_cons.mp hz with e | e
      · omega
      · have := List.mem_singleton.mp e
        omega
    refine ⟨_, rfl, _, rfl, lf0, [(x : Int), (m : Int)], rfl, SqL.of klf, Nat.zero_lt_succ _, fun z1 hz1 hl1 => ?_⟩
    rw [mins z1 hz1 hl1]
    refine ⟨_, _, rfl, rfl, _, _, rfl, congrArg V.int e1, len_x, by omega, by omega, _, rfl, _, rfl, lf0, [(x : Int), (m : Int)], rfl, SqL.of klf, Nat.zero_lt_succ _, fun z2 hz2 hl2 => ?_⟩
    rw [mins z2 hz2 hl2]
    refine ⟨_, _, rfl, rfl, _, _, rfl, congrArg V.int e2, len_y, by omega, by omega, _, _, rfl, rfl, add_xy (by omega) (by omega), _, rfl, _, _, rfl, rfl, ?_, ?_⟩
    · rw [mul_x, mul_y, wS_app, wS_len, wS_len, List.length_append, List.length_replicate, List.length_replicate, ← nxy (yxs _), nx_yxs, ny_yxs]
      exact small_line (by omega)
    rw [mul_x, mul_y, wS_app, wS_app]
    have s8 : Same H8 H' := s811
    -- laced
    refine ⟨_, rfl, _, rfl, x, m, rfl, hx, hm, h1, fun p3 H12 e12 np3 Lc => ?_⟩
    obtain ⟨dx3, hp3⟩ := id Lc
    refine ⟨p3, dx3, _, rfl, hp3, p3, _, rfl, Lc, _, rfl, rfl, _, rfl, iteNS rfl ?_⟩
    refine ⟨_, rfl, _, rfl, x, m, rfl, hx, hm, h1, fun p4 H13 e13 np4 Ld => ?_⟩
    obtain ⟨dx4, hp4⟩ := id Ld
    refine ⟨.ref p4, .ref Z.C_Layout, _, _, true, rfl, .own _, .base (TyOf.ins hp4 T.ins_Layout.cl T.ins_Layout.ha T.ins_Layout.hn T.ins_Layout.htk T.ins_Layout.hm), T.ins_Layout.me, true, rfl, iteF ?_⟩
    have s813 : Same H8 H13 := s8.trans (e12.trans e13)
    have R13 : Reel H13 r (n + 1 + 1 + 1 + 1) := R8.same s813
    -- tile_x, tile_y
    refine ⟨_, rfl, _, rfl, _, _, rfl, rfl, r, _, x + 1, rfl, R13, by omega, by omega, small_pow (by omega), fun ta H14 hta b14 R14 => ?_⟩
    refine ⟨_, rfl, _, rfl, _, _, rfl, rfl, r, _, m + 1, rfl, R14, by omega, by omega, small_pow (by omega), fun tb H15 htb b15 R15 => ⟨_, _, rfl, ?_⟩⟩
    have b815 : But r H8 H15 := (Same.but s813).trans (b14.trans b15)
    have gt := good_of (nx_tiled (n := x) (m := m) (a := ta) (b := tb) (by omega)) (ny_tiled (by omega)) hx hm h1
    refine ⟨_, rfl, _, rfl, _, rfl, _, rfl, x, m, ta, tb, rfl, hx, hm, h1, by omega, by omega, fun p5 H16 e16 np5 Le => ?_⟩
    obtain ⟨dx5, hp5⟩ := id Le
    have n5 : p5 ≠ r := R15.ne np5
    -- parts
    have e3' : (m : Int) - (tb : Int) = ((m - tb : Nat) : Int) := by omega
    have e4' : (x : Int) - (ta : Int) = ((x - ta : Nat) : Int) := by omega
    refine ⟨_, rfl, _, rfl, _, _, rfl, rfl, _, _, rfl, congrArg V.int e3', len_y, by omega, by omega, _, rfl, _, rfl, _, _, rfl, rfl, _, _, rfl, congrArg V.int e4', len_x, by omega, by omega, _, rfl, _, _, rfl, rfl, len_y, by omega, by omega, _, rfl, _, _, rfl, rfl, len_x, by omega, by omega, (by show 4 ≤ sizeLine; decide), fun pp npp => ?_⟩
    rw [mul_x, mul_y, mul_x, mul_y]
    refine ⟨_, rfl, p5, dx5, _, rfl, same_new (Same.refl H16) npp _ _ hp5, p5, _, rfl, ⟨dx5, same_new (Same.refl H16) npp _ _ hp5⟩, ⟨_, rfl⟩, _, rfl, _, pp, [wS (List.replicate (m - tb) false), wS (List.replicate (x - ta) true), wS (List.replicate tb false), wS (List.replicate ta true)], rfl, rfl, .inl (SqL.of upd_same), ?_, ?_⟩
    · rw [List.map_cons, List.map_cons, List.map_cons, List.map_cons, wS_len, wS_len, wS_len, wS_len, List.length_replicate, List.length_replicate, List.length_replicate, List.length_replicate]
      have : ("" : Str).length = 0 := by decide +kernel
      rw [this]
      show (m - tb) + ((x - ta) + (tb + (ta + 0))) + 4 * 0 ≤ 16777216
      omega
    have jn := join0 [List.replicate (m - tb) false, List.replicate (x - ta) true, List.replicate tb false, List.replicate ta true]
    refine ⟨rfl, _, rfl, iteNS ?_ ?_⟩
    · refine congrArg V.str ?_
      refine Eq.trans ?_ jn.symm
      congr 1
      show tiledL x m ta tb = _
      simp [tiledL, rowsL]
    refine to_any (same_new (Same.refl H16) npp) (fun H17 s17 => ?_)
    have k5 : H17 p5 = some (.ins Z.C_Layout dx5 (lf (tiledL x m ta tb))) := s17 _ _ hp5
    -- size, across
    refine ⟨_, rfl, _, rfl, _, _, rfl, rfl, ta + tb, rfl, by omega, _, rfl, _, rfl, _, _, rfl, rfl, x - ta, congrArg (fun z => [V.int z]) e4', by omega, _, _, rfl, ?_⟩
    -- tile
    refine ⟨_, rfl, _, rfl, tb, rfl, by omega, _, _, rfl, rfl, cdivN (two_pos tb) (pw (by omega)), _, rfl, _, _, rfl, rfl, cmulN (a := cy / 2 ^ tb) (b := 2 ^ (x - ta)) (Nat.lt_of_le_of_lt (Nat.div_le_self _ _) wy) (pw (by omega)), _, rfl, _, rfl, ta, rfl, by omega, _, _, rfl, rfl, cdivN (two_pos ta) (pw (by omega)), _, _, rfl, rfl, ?_⟩
    -- line, spot
    refine ⟨_, rfl, .inl ⟨_, rfl, _, rfl, tb, rfl, by omega, _, _, rfl, rfl, (by have := two_pos tb; show ((2 ^ tb : Nat) : Int) ≠ 0; omega), _, rfl, .inl ⟨_, rfl, _, rfl, ta, rfl, by omega, _, _, rfl, rfl, (by have := two_pos ta; show ((2 ^ ta : Nat) : Int) ≠ 0; omega), _, _, rfl, ?_⟩⟩⟩
    have key := key_tiled (n := x) (m := m) (a := ta) (b := tb) (x := cx) (y := cy) (by omega) (by omega) hcx hcy
    have klt := keyL_lt (tiledL x m ta tb) cx cy
    have hnx : nx (tiledL x m ta tb) = x := nx_tiled (by omega)
    have hny : ny (tiledL x m ta tb) = m := ny_tiled (by omega)
    have hlen : (tiledL x m ta tb).length = x + m := by rw [← nxy, hnx, hny]
    have klt2 : keyL (tiledL x m ta tb) cx cy < 2 ^ 1000 := pwl klt (by omega)
    have tlt : cy / 2 ^ tb * 2 ^ (x - ta) + cx / 2 ^ ta < 2 ^ 1000 := by
      refine Nat.lt_of_le_of_lt ?_ klt2
      rw [key]
      exact Nat.le_trans (Nat.le_mul_of_pos_right _ (two_pos (ta + tb))) (Nat.le_add_right _ _)
    refine ⟨_, rfl, _, rfl, ta, rfl, by omega, _, _, rfl, rfl, ?_, _, rfl, _, _, rfl, rfl, ?_⟩
    · show CMulW (((cy : Nat) : Int).fmod ((2 ^ tb : Nat) : Int)) ((2 ^ ta : Nat) : Int)
      rw [modNat]
      exact cmulN (Nat.lt_of_le_of_lt (Nat.mod_le _ _) wy) (pw (by omega))
    have raw : ((((cy : Nat) : Int) / ((2 ^ tb : Nat) : Int)) * ((2 ^ (x - ta) : Nat) : Int) + ((cx : Nat) : Int) / ((2 ^ ta : Nat) : Int)) * ((2 ^ (ta + tb) : Nat) : Int) + ((((cy : Nat) : Int).fmod ((2 ^ tb : Nat) : Int)) * ((2 ^ ta : Nat) : Int) + ((cx : Nat) : Int).fmod ((2 ^ ta : Nat) : Int)) = ((keyL (tiledL x m ta tb) cx cy : Nat) : Int) := by
      rw [key, modNat, modNat]
      rfl
    refine ⟨_, rfl, p5, dx5, _, rfl, k5, rfl, _, rfl, _, rfl, (by show 2 ≤ sizeLine; decide), fun t5 nt5 => ?_⟩
    refine ⟨p5, t5, tiledL x m ta tb, cx, cy, rfl, ⟨dx5, same_new (Same.refl H17) nt5 _ _ k5⟩, gt, upd_same, by rw [hnx]; exact hcx, by rw [hny]; exact hcy, fun H18 e18 => ?_⟩
    have s1718 : Same H17 H18 := (same_new (Same.refl H17) nt5).trans e18
    refine ⟨_, rfl, _, rfl, _, _, rfl, rfl, cmulN tlt (pw (by omega)), _, rfl, _, _, rfl, rfl, rfl, _, rfl, iteNS (congrArg V.int raw.symm) ?_⟩
    refine ⟨_, rfl, p5, dx5, _, rfl, s1718 _ _ k5, rfl, _, rfl, _, rfl, _, _, rfl, rfl, cmulN tlt (pw (by omega)), _, rfl, _, _, rfl, rfl, p5, tiledL x m ta tb, keyL (tiledL x m ta tb) cx cy, congrArg (fun z => [V.ref p5, V.int z]) raw, ⟨dx5, s1718 _ _ k5⟩, gt, klt, fun t6 H19 e19 nt6 k6 => ?_⟩
    rw [xOf_key, yOf_key, hnx, hny, Nat.mod_eq_of_lt hcx, Nat.mod_eq_of_lt hcy] at k6
    have atoms : ∀ d ∈ [PyData.int (cx : Int), PyData.int (cy : Int)], Atm d := allc (atm_n wx) (all1 (atm_n wy))
    have shp : SeqAt.shaped (.tuple [PyData.int (cx : Int), PyData.int (cy : Int)]) = true := shaped_tup atoms
    refine ⟨_, rfl, _, rfl, (by show 2 ≤ sizeLine; decide), fun t7 nt7 => ?_⟩
    refine ⟨.tuple [PyData.int (cx : Int), PyData.int (cy : Int)], .tuple [PyData.int (cx : Int), PyData.int (cy : Int)], Dp.tup (SqT.of (same_new (Same.refl H19) nt7 _ _ k6)) (.cons (.int _) (.cons (.int _) .nil)), Dp.tup (SqT.of upd_same) (.cons (.int _) (.cons (.int _) .nil)), shp, shp, _, rfl, ?_⟩
    rw [eqv_same shp]
    refine iteF ?_
    -- tiled(x_bits, y_bits, 0, 0) == one
    refine to_any (same_new (s1718.trans e19) nt7) (fun Hz s17e => ?_)
    have s16e := s17.trans s17e
    have b8e : But r H8 Hz := b815.trans (Same.but (e16.trans s16e))
    refine ⟨_, rfl, _, rfl, x, m, 0, 0, rfl, hx, hm, h1, Nat.zero_le _, Nat.zero_le _, fun p8 H20 e20 np8 Lf => ?_⟩
    rw [tiled00] at Lf
    obtain ⟨dx8, hp8⟩ := id Lf
    have b820 : But r H8 H20 := b8e.trans (Same.but e20)
    have k1' := b820 _ _ n1 k1
    refine ⟨_, rfl, ⟨p8, p1, dx8, dx1, _, _, rfl, rfl, hp8, k1', ⟨rowsL x m, Lf, ⟨dx1, k1'⟩⟩⟩, fun H21 e21 => ⟨true, rfl, iteT ?_⟩⟩
    refine ⟨_, rfl, _, rfl, _, rfl, _, rfl, x, m, x, m, rfl, hx, hm, h1, Nat.le_refl _, Nat.le_refl _, fun p9 H22 e22 np9 Lg => ?_⟩
    rw [tilednm] at Lg
    obtain ⟨dx9, hp9⟩ := id Lg
    have b822 : But r H8 H22 := b820.trans (Same.but (Same.trans e21 e22))
    have k1'' := b822 _ _ n1 k1
    refine ⟨_, rfl, ⟨p9, p1, dx9, dx1, _, _, rfl, rfl, hp9, k1'', ⟨rowsL x m, Lg, ⟨dx1, k1''⟩⟩⟩, fun H23 e23 => ?_⟩
    refine q H23 (b08.trans (b822.trans (Same.but e23))) ?_
    exact (R15.same (e16.trans (s16e.trans (e20.trans (Same.trans e21 (e22.trans e23)))))).le (by omega)
def splaw_wound (K : PySem.W.Frag) (Z : Ads) : Sp := fun vs H Q _ => ∃ (a : Addr) (ns : List Int) (k : Nat), vs = [.ref a, .int k] ∧ SqL K H a (ns.map V.int) ∧ ns.length ≤ 63 ∧ k ≤ 100 ∧ ∀ r H', Same H H' → H r = none → Reel H' r 0 → Q (.ref r) H'
theorem oklaw_wound {Z : Ads} (T : Top K mg Z) : FnOk P w K mg base CX0 1 Z.f_law_wound Z.d_law_wound ["script", "k"] (splaw_wound K Z) := by
  refine T.F_law_wound.ok sclaw_wound (fun vs H Q E h => ?_) (fun cdv A outer s H vs Q E hr h => ?_)
  · obtain ⟨a, ns, k, rfl, hS, hl, hk, q⟩ := h
    rfl
  · obtain ⟨a, ns, k, rfl, hS, hl, hk, q⟩ := h
    refine ⟨_, (pss_cons (ps_set (i := 2) sclaw_wound.nd rfl (.inl rfl) pe_int)
      (pss_cons (ps_if (pt_cmpR op_lt (pv 1) (pe_callB call_len_seq (by rfl) T.z_len (by decide +kernel) (pa_cons (pv 0) pa_nil)) (nomark _))
        (pss_one (ps_set (i := 2) sclaw_wound.nd rfl (.inl rfl) (pe_ix ix_list (pv 0) (pv 1) (fun _ _ => rfl))))
        pss_nil)
      (pss_one (ps_ret (pe_lst (pa_cons (pe_callB (call_max2 (by rfl)) (by rfl) T.z_max (by decide +kernel) (pa_cons pe_int (pa_cons (pe_op op_sub (pv 2) (pe_op op_pow pe_int pe_int)) pa_nil))) (pa_cons (pe_op op_add (pe_op op_add (pe_op op_mul (pe_op op_modN (pe_callTy call_int1 (by rfl) T.z_int (by decide +kernel) (pa_cons (pv 2) pa_nil)) (pe_op op_add (pe_op op_pow pe_int pe_int) pe_int)) pe_int) (pe_op op_mul pe_int (pv 1))) pe_int) (pa_cons pe_int pa_nil)))))))), ?_⟩
    refine ⟨_, rfl, _, rfl, a, _, rfl, .inl hS, _, _, rfl, rfl, _, rfl, ?_⟩
    rw [List.length_map]
    have hm : (10 : Int) ^ (38 : Int).toNat + 133 = 100000000000000000000000000000000000133 := by decide +kernel
    have fm : ∀ c : Int, 0 ≤ c.fmod 100000000000000000000000000000000000133 ∧ c.fmod 100000000000000000000000000000000000133 < 100000000000000000000000000000000000133 := fun c => ⟨Int.fmod_nonneg_of_pos _ (by decide), Int.fmod_lt_of_pos _ (by decide)⟩
    refine ite2 (fun e => ?_) (fun _ => ?_)
    · have hk2 : k < ns.length := by
        have := of_decide_eq_true e
        omega
      refine ⟨_, rfl, _, rfl, a, _, (k : Int), .int ns[k], rfl, rfl, hS, atI_nat (j := k) (by rw [List.getElem?_map, List.getElem?_eq_getElem hk2]; rfl), ?_⟩
      refine ⟨_, rfl, _, _, rfl, rfl, ⟨by decide, by decide, by decide⟩, _, _, rfl, rfl, _, _, rfl, _, rfl, .inl ⟨_, rfl, _, _, rfl, rfl, ⟨by decide, by decide, by decide⟩, _, _, rfl, rfl, _, _, rfl, rfl, by show ((10 : Int) ^ (38 : Int).toNat + 133) ≠ 0; rw [hm]; decide, _, _, rfl, rfl, .inr ⟨by decide, by decide⟩, _, rfl, _, _, rfl, rfl, .inl ⟨by decide, by decide⟩, _, _, rfl, rfl, _, _, rfl, rfl, (by show 3 ≤ sizeLine; decide), fun r hr => ?_⟩⟩
      refine q r _ (same_new (Same.refl H) hr) hr ⟨_, _, _, upd_same, ?_, ?_, ?_, Int.le_refl 0, Int.le_refl 0⟩
      · split <;> omega
      · have := fm ns[k]
        show 0 ≤ Int.fmod ns[k] ((10 : Int) ^ (38 : Int).toNat + 133) * 67 + 141650939 * (k : Int) + 23
        rw [hm]
        omega
      · have := fm ns[k]
        show Int.fmod ns[k] ((10 : Int) ^ (38 : Int).toNat + 133) * 67 + 141650939 * (k : Int) + 23 < 2 ^ 200
        rw [hm]
        omega
    · refine ⟨_, rfl, _, _, rfl, rfl, ⟨by decide, by decide, by decide⟩, _, _, rfl, rfl, _, _, rfl, _, rfl, .inl ⟨_, rfl, _, _, rfl, rfl, ⟨by decide, by decide, by decide⟩, _, _, rfl, rfl, _, _, rfl, rfl, by show ((10 : Int) ^ (38 : Int).toNat + 133) ≠ 0; rw [hm]; decide, _, _, rfl, rfl, .inr ⟨by decide, by decide⟩, _, rfl, _, _, rfl, rfl, .inl ⟨by decide, by decide⟩, _, _, rfl, rfl, _, _, rfl, rfl, (by show 3 ≤ sizeLine; decide), fun r hr => ?_⟩⟩
      refine q r _ (same_new (Same.refl H) hr) hr ⟨_, _, _, upd_same, ?_, ?_, ?_, Int.le_refl 0, Int.le_refl 0⟩
      · split <;> omega
      · have := fm 0
        show 0 ≤ Int.fmod 0 ((10 : Int) ^ (38 : Int).toNat + 133) * 67 + 141650939 * (k : Int) + 23
        rw [hm]
        omega
      · have := fm 0
        show Int.fmod 0 ((10 : Int) ^ (38 : Int).toNat + 133) * 67 + 141650939 * (k : Int) + 23 < 2 ^ 200
        rw [hm]
        omega
def splaw (K : PySem.W.Frag) (Z : Ads) : Sp := fun vs H Q _ => ∃ (a : Addr) (ns : List Int), vs = [.ref a] ∧ SqL K H a (ns.map V.int) ∧ ns.length ≤ 63 ∧ ∀ H', Q (.bl true) H'
theorem oklaw {Z : Ads} (T : Top K mg Z) : FnG P w K mg base 7 Z.f_law Z.d_law ["script"] (splaw K Z) := by
  have G_Layout_word : FnOk P w K mg base CX0 1 Z.f_Layout_word Z.d_Layout_word ["self"] (spLayout_word K Z) := (okLayout_word T).mono (by decide)
  have G_law_right : FnG P w K mg base 6 Z.f_law_right Z.d_law_right ["reel", "most"] (splaw_right K Z) := (oklaw_right T).mono (by decide)
  have G_law_wound : FnOk P w K mg base CX0 6 Z.f_law_wound Z.d_law_wound ["script", "k"] (splaw_wound K Z) := (oklaw_wound T).mono (by decide)
  have G_columns : FnOk P w K mg base CX0 6 Z.f_columns Z.d_columns ["x_bits", "y_bits"] (spcolumns K Z) := (okcolumns T).mono (by decide)
  have G_laced : FnOk P w K mg base CX0 6 Z.f_laced Z.d_laced ["x_bits", "y_bits"] (splaced K Z) := (oklaced T).mono (by decide)
  have G_rows : FnOk P w K mg base CX0 6 Z.f_rows Z.d_rows ["x_bits", "y_bits"] (sprows K Z) := (okrows T).mono (by decide)
  have G_tiled : FnOk P w K mg base CX0 6 Z.f_tiled Z.d_tiled ["x_bits", "y_bits", "tile_x", "tile_y"] (sptiled K Z) := (oktiled T).mono (by decide)
  refine okG T.F_law sclaw (fun vs H Q E h => ?_) (fun cdv A outer s H vs Q E hgd hr h => ?_)
  · obtain ⟨a, ns, rfl, hS, hl, q⟩ := h
    rfl
  · obtain ⟨a, ns, rfl, hS, hl, q⟩ := h
    refine ⟨_, (pss_cons (ps_for PassesOwn.never rfl (pi_range1 (by rfl) T.z_range (pa_cons (pe_callB (call_max2 (by rfl)) (by rfl) T.z_max (by decide +kernel) (pa_cons pe_int (pa_cons (pe_callB (call_min2 (by rfl)) (by rfl) T.z_min (by decide +kernel) (pa_cons pe_int (pa_cons (pe_callB call_len_seq (by rfl) T.z_len (by decide +kernel) (pa_cons (pv 0) pa_nil)) pa_nil))) pa_nil))) pa_nil)) (pg_name (i := 1) sclaw.nd rfl (.inl rfl))
        (pss_cons (ps_set (i := 2) sclaw.nd rfl (.inl rfl) (pe_call G_law_wound (hr.mono (by decide)) (by rfl) T.m_law_wound T.F_law_wound.kp T.b_law_wound .nil pass0 (pa_cons (pv 0) (pa_cons (pv 1) pa_nil))))
      (pss_one (ps_for PassesOwn.never rfl (pi_list (pe_lst (pa_cons pe_int (pa_cons pe_int (pa_cons pe_int (pa_cons pe_int pa_nil)))))) (pg_name (i := 3) sclaw.nd rfl (.inl rfl))
        (pss_one (ps_if (pt_not (pt_val (pe_callG G_law_right hgd (hr.mono (by decide)) (by rfl) T.m_law_right T.F_law_right.kp T.b_law_right (pa_cons (pv 2) (pa_cons (pv 3) pa_nil)))))
        (pss_one (ps_ret pe_bl))
        pss_nil))))))
      (pss_cons (ps_set (i := 4) sclaw.nd rfl (.inl rfl) (pe_lst (pa_cons (pe_prop (pe_call G_rows (hr.mono (by decide)) (by rfl) T.m_rows T.F_rows.kp T.b_rows .nil pass0 (pa_cons pe_int (pa_cons pe_int pa_nil))) T.cl_Layout T.p_Layout_word G_Layout_word (hr.mono (by decide)) T.b_Layout_word .nil pass0 (by rfl)) (pa_cons (pe_prop (pe_call G_columns (hr.mono (by decide)) (by rfl) T.m_columns T.F_columns.kp T.b_columns .nil pass0 (pa_cons pe_int (pa_cons pe_int pa_nil))) T.cl_Layout T.p_Layout_word G_Layout_word (hr.mono (by decide)) T.b_Layout_word .nil pass0 (by rfl)) (pa_cons (pe_prop (pe_call G_laced (hr.mono (by decide)) (by rfl) T.m_laced T.F_laced.kp T.b_laced .nil pass0 (pa_cons pe_int (pa_cons pe_int pa_nil))) T.cl_Layout T.p_Layout_word G_Layout_word (hr.mono (by decide)) T.b_Layout_word .nil pass0 (by rfl)) (pa_cons (pe_prop (pe_call G_laced (hr.mono (by decide)) (by rfl) T.m_laced T.F_laced.kp T.b_laced .nil pass0 (pa_cons pe_int (pa_cons pe_int pa_nil))) T.cl_Layout T.p_Layout_word G_Layout_word (hr.mono (by decide)) T.b_Layout_word .nil pass0 (by rfl)) (pa_cons (pe_prop (pe_call G_tiled (hr.mono (by decide)) (by rfl) T.m_tiled T.F_tiled.kp T.b_tiled .nil pass0 (pa_cons pe_int (pa_cons pe_int (pa_cons pe_int (pa_cons pe_int pa_nil))))) T.cl_Layout T.p_Layout_word G_Layout_word (hr.mono (by decide)) T.b_Layout_word .nil pass0 (by rfl)) pa_nil)))))))
      (pss_one (ps_ret (pe_and (pe_cmpR (op_eqD (hu_of' hr)) (pv 4) (pe_lst (pa_cons pe_str (pa_cons pe_str (pa_cons pe_str (pa_cons pe_str (pa_cons pe_str pa_nil)))))) (nomark _)) (pe_one (pe_cmpR op_eq (pe_prop (pe_call G_laced (hr.mono (by decide)) (by rfl) T.m_laced T.F_laced.kp T.b_laced .nil pass0 (pa_cons pe_int (pa_cons pe_int pa_nil))) T.cl_Layout T.p_Layout_word G_Layout_word (hr.mono (by decide)) T.b_Layout_word .nil pass0 (by rfl)) pe_str (nomark _)))))))), ?_⟩
    obtain ⟨kk, hk1, hk6, ek⟩ := kk_of ns.length
    refine ⟨_, rfl, a, _, rfl, .inl hS, _, _, rfl, _, _, rfl, ?_⟩
    rw [List.length_map, ek]
    refine ⟨_, rfl, by omega, by omega, for_range (lo := 0) (n := kk) (fun i σ H' => Same H H' ∧ ∃ (y1 y2 y3 y4 : Option V), σ = [some (.ref a), y1, y2, y3, y4]) ⟨Same.refl H, none, none, none, none, rfl⟩ ?_ ?_⟩
    · rintro i σ H' hi ⟨sm, y1, y2, y3, y4, rfl⟩
      refine ⟨_, rfl, _, rfl, a, ns, i, congrArg (fun z => [V.ref a, V.int z]) (Int.zero_add _), Same.seq sm hS, hl, by omega, fun r H1 e1 nr R => ?_⟩
      refine ⟨(by show 4 ≤ sizeLine; decide), fun l nl => ?_⟩
      have sl : Same H' (upd H1 l (.lst [.int 1, .int 3, .int 10, .int 100])) := same_new e1 nl
      have hll : (upd H1 l (.lst [.int 1, .int 3, .int 10, .int 100])) l = some (.lst [.int 1, .int 3, .int 10, .int 100]) := upd_same
      have Rl : Reel (upd H1 l (.lst [.int 1, .int 3, .int 10, .int 100])) r 0 := R.same (same_new (Same.refl H1) nl)
      have lr : l ≠ r := R.ne nl
      generalize (upd H1 l (.lst [.int 1, .int 3, .int 10, .int 100])) = H2 at sl hll Rl ⊢
      refine ⟨l, rfl, ⟨_, SqL.of hll⟩, for_list (K := K) (a := l) (xs := [.int 1, .int 3, .int 10, .int 100]) (fun j σ H' => But r H2 H' ∧ Reel H' r (j * 100) ∧ ∃ z, σ = [some (.ref a), some (.int (0 + (i : Nat))), some (.ref r), z, y4]) ⟨But.refl, Rl, y3, rfl⟩ (fun j σ H' _ W => SqL.of (W.1 _ _ lr hll)) (fun j x σ H' hx W => ?_) (fun σ H' W => ?_)⟩
      · obtain ⟨bt, Rj, z, rfl⟩ := W
        obtain ⟨v, hv, rfl⟩ : ∃ v : Nat, v ≤ 100 ∧ x = .int v := by
          rcases j with _ | _ | _ | _ | j
          · exact ⟨1, by omega, (Option.some.inj hx).symm⟩
          · exact ⟨3, by omega, (Option.some.inj hx).symm⟩
          · exact ⟨10, by omega, (Option.some.inj hx).symm⟩
          · exact ⟨100, by omega, (Option.some.inj hx).symm⟩
          · exact absurd hx (by simp)
        have hj : j < 4 := (List.getElem?_eq_some_iff.mp hx).1
        refine ⟨_, rfl, _, rfl, r, j * 100, v, rfl, Rj, by omega, by omega, fun H3 b3 R3 => ⟨true, rfl, iteF ?_⟩⟩
        exact ⟨bt.trans b3, R3.le (by omega), _, rfl⟩
      · obtain ⟨bt, Rj, z, rfl⟩ := W
        exact ⟨Same.trans sm (but_same sl nr bt), _, _, _, _, rfl⟩
    rintro σ H' ⟨sm, y1, y2, y3, y4, rfl⟩
    refine ⟨2, 2, rfl, by omega, by omega, by omega, fun p1 H1 e1 np1 L1 => ?_⟩
    obtain ⟨dx1, h1⟩ := id L1
    refine ⟨p1, dx1, _, rfl, h1, p1, _, rfl, L1, ?_⟩
    refine ⟨1, 2, rfl, by omega, by omega, by omega, fun p2 H2 e2 np2 L2 => ?_⟩
    obtain ⟨dx2, h2⟩ := id L2
    refine ⟨p2, dx2, _, rfl, h2, p2, _, rfl, L2, ?_⟩
    refine ⟨2, 3, rfl, by omega, by omega, by omega, fun p3 H3 e3 np3 L3 => ?_⟩
    obtain ⟨dx3, h3⟩ := id L3
    refine ⟨p3, dx3, _, rfl, h3, p3, _, rfl, L3, ?_⟩
    refine ⟨3, 1, rfl, by omega, by omega, by omega, fun p4 H4 e4 np4 L4 => ?_⟩
    obtain ⟨dx4, h4⟩ := id L4
    refine ⟨p4, dx4, _, rfl, h4, p4, _, rfl, L4, ?_⟩
    refine ⟨3, 3, 1, 1, rfl, by omega, by omega, by omega, by omega, by omega, fun p5 H5 e5 np5 L5 => ?_⟩
    obtain ⟨dx5, h5⟩ := id L5
    refine ⟨p5, dx5, _, rfl, h5, p5, _, rfl, L5, ?_⟩
    
    have w1 : wS (rowsL 2 2) = ("yyxx" : Str) := by decide +kernel
    have w2 : wS (colsL 1 2) = ("xyy" : Str) := by decide +kernel
    have w3 : wS (lacedL 2 3) = ("yyxyx" : Str) := by decide +kernel
    have w4 : wS (lacedL 3 1) = ("xxyx" : Str) := by decide +kernel
    have w5 : wS (tiledL 3 3 1 1) = ("yyxxyx" : Str) := by decide +kernel
    have w6 : wS (lacedL 0 2) = ("yy" : Str) := by decide +kernel
    rw [w1, w2, w3, w4, w5]
    refine ⟨(by show 5 ≤ sizeLine; decide), fun tl ntl => ?_⟩
    have ktl : (upd H5 tl (.lst [.str ("yyxx" : Str), .str ("xyy" : Str), .str ("yyxyx" : Str), .str ("xxyx" : Str), .str ("yyxxyx" : Str)])) tl = some (.lst [.str ("yyxx" : Str), .str ("xyy" : Str), .str ("yyxyx" : Str), .str ("xxyx" : Str), .str ("yyxxyx" : Str)]) := upd_same
    refine ⟨_, rfl, (by show 5 ≤ sizeLine; decide), fun ul nul => ?_⟩
    have at5 : ∀ d ∈ [PyData.str ("yyxx" : Str), .str ("xyy" : Str), .str ("yyxyx" : Str), .str ("xxyx" : Str), .str ("yyxxyx" : Str)], Atm d := allc ⟨_, w1.symm, by decide⟩ (allc ⟨_, w2.symm, by decide⟩ (allc ⟨_, w3.symm, by decide⟩ (allc ⟨_, w4.symm, by decide⟩ (all1 ⟨_, w5.symm, by decide⟩))))
    have shp := shaped_list at5
    refine ⟨_, _, Dp.lst (SqL.of (same_new (Same.refl _) nul _ _ ktl)) (.cons (.str _) (.cons (.str _) (.cons (.str _) (.cons (.str _) (.cons (.str _) .nil))))), Dp.lst (SqL.of upd_same) (.cons (.str _) (.cons (.str _) (.cons (.str _) (.cons (.str _) (.cons (.str _) .nil))))), shp, shp, _, rfl, ?_⟩
    rw [eqv_same shp]
    refine iteT ?_
    refine ⟨0, 2, rfl, by omega, by omega, by omega, fun p6 H6 e6 np6 L6 => ?_⟩
    obtain ⟨dx6, h6⟩ := id L6
    refine ⟨p6, dx6, _, rfl, h6, p6, _, rfl, L6, rfl, ?_⟩
    rw [w6, decide_eq_true rfl]
    exact q _
end
theorem all_mk {l : PySem.W.OpenLaw} {w : World} {K : PySem.W.Frag} {h : Heap} {mg : Str → Option Value} {fa C_Layout f_Layout_word p_Layout_word f_LayoutU_eqU f_is_integer f_is_between f_check_key f_feet f_Layout_cell f_are_integers f_is_cell f_check_cell f_Layout_key f_law_power f_law_spin f_is_word f_LayoutU_initU f_check_bits f_columns f_laced f_rows_word f_rows f_tiled f_law_right f_law_wound f_law : Addr} (X : K.In h) (G : h.Ns mainGlobals mg) (hfa : mg "law" = some (.ref fa))
    {oc_Layout_word kV_Layout_word dc_Layout_word pm_Layout_word cd_Layout_word ct_Layout_word oc_LayoutU_eqU kV_LayoutU_eqU dc_LayoutU_eqU pm_LayoutU_eqU cd_LayoutU_eqU ct_LayoutU_eqU oc_is_integer kV_is_integer dc_is_integer pm_is_integer cd_is_integer ct_is_integer oc_is_between kV_is_between dc_is_between pm_is_between cd_is_between ct_is_between oc_check_key kV_check_key dc_check_key pm_check_key cd_check_key ct_check_key oc_feet kV_feet dc_feet pm_feet cd_feet ct_feet oc_Layout_cell kV_Layout_cell dc_Layout_cell pm_Layout_cell cd_Layout_cell ct_Layout_cell oc_are_integers kV_are_integers dc_are_integers pm_are_integers cd_are_integers ct_are_integers oc_is_cell kV_is_cell dc_is_cell pm_is_cell cd_is_cell ct_is_cell oc_check_cell kV_check_cell dc_check_cell pm_check_cell cd_check_cell ct_check_cell oc_Layout_key kV_Layout_key dc_Layout_key pm_Layout_key cd_Layout_key ct_Layout_key oc_law_power kV_law_power dc_law_power pm_law_power cd_law_power ct_law_power oc_law_spin kV_law_spin dc_law_spin pm_law_spin cd_law_spin ct_law_spin oc_is_word kV_is_word dc_is_word pm_is_word cd_is_word ct_is_word oc_LayoutU_initU kV_LayoutU_initU dc_LayoutU_initU pm_LayoutU_initU cd_LayoutU_initU ct_LayoutU_initU oc_check_bits kV_check_bits dc_check_bits pm_check_bits cd_check_bits ct_check_bits oc_columns kV_columns dc_columns pm_columns cd_columns ct_columns oc_laced kV_laced dc_laced pm_laced cd_laced ct_laced oc_rows_word kV_rows_word dc_rows_word pm_rows_word cd_rows_word ct_rows_word oc_rows kV_rows dc_rows pm_rows cd_rows ct_rows oc_tiled kV_tiled dc_tiled pm_tiled cd_tiled ct_tiled oc_law_right kV_law_right dc_law_right pm_law_right cd_law_right ct_law_right oc_law_wound kV_law_wound dc_law_wound pm_law_wound cd_law_wound ct_law_wound oc_law kV_law dc_law pm_law cd_law ct_law : Value} {od_Layout_word an_Layout_word od_LayoutU_eqU an_LayoutU_eqU od_is_integer an_is_integer od_is_between an_is_between od_check_key an_check_key od_feet an_feet od_Layout_cell an_Layout_cell od_are_integers an_are_integers od_is_cell an_is_cell od_check_cell an_check_cell od_Layout_key an_Layout_key od_law_power an_law_power od_law_spin an_law_spin od_is_word an_is_word od_LayoutU_initU an_LayoutU_initU od_check_bits an_check_bits od_columns an_columns od_laced an_laced od_rows_word an_rows_word od_rows an_rows od_tiled an_tiled od_law_right an_law_right od_law_wound an_law_wound od_law an_law : Option Addr} {sl_Layout_word sl_LayoutU_eqU sl_is_integer sl_is_between sl_check_key sl_feet sl_Layout_cell sl_are_integers sl_is_cell sl_check_cell sl_Layout_key sl_law_power sl_law_spin sl_is_word sl_LayoutU_initU sl_check_bits sl_columns sl_laced sl_rows_word sl_rows sl_tiled sl_law_right sl_law_wound sl_law : Array (Option Value)} {rs_Layout_word : List Value} {t_MOST_BITS : Tok}
    (a_Layout : PySem.W.nsIn K mainGlobals "Layout" = some (some (.ref C_Layout)))
    (a_Layout_word : PySem.W.findIn K (.ref C_Layout) "word" = some (some (.ref p_Layout_word)))
    (g_Layout_word : PySem.W.specialIn K (.ref p_Layout_word) "__get__" = some (some (.builtin "property.__get__")))
    (t_Layout_word : PySem.W.takesIn K (.ref p_Layout_word) = some true)
    (r_Layout_word : PySem.W.recIn K p_Layout_word "property" = some (.ref f_Layout_word :: rs_Layout_word))
    (l_Layout_word : K.lookup f_Layout_word = some ⟨oc_Layout_word, od_Layout_word, .func (PySem.W.fnOf "word" "Layout.word" (defArgs sLayout_word) (defBody sLayout_word) (defScope sLayout_word) .none kV_Layout_word dc_Layout_word pm_Layout_word an_Layout_word cd_Layout_word ct_Layout_word), sl_Layout_word⟩)
    (c_Layout_word : PySem.W.codeIn K cd_Layout_word "Layout.word" = true)
    (k_Layout_word : PySem.W.keepIn K (.ref f_Layout_word) = true)
    (a_LayoutU_eqU : PySem.W.findIn K (.ref C_Layout) "__eq__" = some (some (.ref f_LayoutU_eqU)))
    (i_LayoutU_eqU : PySem.W.isFn K (.ref f_LayoutU_eqU) = true)
    (l_LayoutU_eqU : K.lookup f_LayoutU_eqU = some ⟨oc_LayoutU_eqU, od_LayoutU_eqU, .func (PySem.W.fnOf "__eq__" "Layout.__eq__" (defArgs sLayoutU_eqU) (defBody sLayoutU_eqU) (defScope sLayoutU_eqU) .none kV_LayoutU_eqU dc_LayoutU_eqU pm_LayoutU_eqU an_LayoutU_eqU cd_LayoutU_eqU ct_LayoutU_eqU), sl_LayoutU_eqU⟩)
    (c_LayoutU_eqU : PySem.W.codeIn K cd_LayoutU_eqU "Layout.__eq__" = true)
    (k_LayoutU_eqU : PySem.W.keepIn K (.ref f_LayoutU_eqU) = true)
    (a_is_integer : PySem.W.nsIn K mainGlobals "is_integer" = some (some (.ref f_is_integer)))
    (l_is_integer : K.lookup f_is_integer = some ⟨oc_is_integer, od_is_integer, .func (PySem.W.fnOf "is_integer" "is_integer" (defArgs sis_integer) (defBody sis_integer) (defScope sis_integer) .none kV_is_integer dc_is_integer pm_is_integer an_is_integer cd_is_integer ct_is_integer), sl_is_integer⟩)
    (c_is_integer : PySem.W.codeIn K cd_is_integer "is_integer" = true)
    (k_is_integer : PySem.W.keepIn K (.ref f_is_integer) = true)
    (a_is_between : PySem.W.nsIn K mainGlobals "is_between" = some (some (.ref f_is_between)))
    (l_is_between : K.lookup f_is_between = some ⟨oc_is_between, od_is_between, .func (PySem.W.fnOf "is_between" "is_between" (defArgs sis_between) (defBody sis_between) (defScope sis_between) .none kV_is_between dc_is_between pm_is_between an_is_between cd_is_between ct_is_between), sl_is_between⟩)
    (c_is_between : PySem.W.codeIn K cd_is_between "is_between" = true)
    (k_is_between : PySem.W.keepIn K (.ref f_is_between) = true)
    (a_check_key : PySem.W.nsIn K mainGlobals "check_key" = some (some (.ref f_check_key)))
    (l_check_key : K.lookup f_check_key = some ⟨oc_check_key, od_check_key, .func (PySem.W.fnOf "check_key" "check_key" (defArgs scheck_key) (defBody scheck_key) (defScope scheck_key) .none kV_check_key dc_check_key pm_check_key an_check_key cd_check_key ct_check_key), sl_check_key⟩)
    (c_check_key : PySem.W.codeIn K cd_check_key "check_key" = true)
    (k_check_key : PySem.W.keepIn K (.ref f_check_key) = true)
    (a_feet : PySem.W.nsIn K mainGlobals "feet" = some (some (.ref f_feet)))
    (l_feet : K.lookup f_feet = some ⟨oc_feet, od_feet, .func (PySem.W.fnOf "feet" "feet" (defArgs sfeet) (defBody sfeet) (defScope sfeet) .none kV_feet dc_feet pm_feet an_feet cd_feet ct_feet), sl_feet⟩)
    (c_feet : PySem.W.codeIn K cd_feet "feet" = true)
    (k_feet : PySem.W.keepIn K (.ref f_feet) = true)
    (a_Layout_cell : PySem.W.findIn K (.ref C_Layout) "cell" = some (some (.ref f_Layout_cell)))
    (i_Layout_cell : PySem.W.isFn K (.ref f_Layout_cell) = true)
    (l_Layout_cell : K.lookup f_Layout_cell = some ⟨oc_Layout_cell, od_Layout_cell, .func (PySem.W.fnOf "cell" "Layout.cell" (defArgs sLayout_cell) (defBody sLayout_cell) (defScope sLayout_cell) .none kV_Layout_cell dc_Layout_cell pm_Layout_cell an_Layout_cell cd_Layout_cell ct_Layout_cell), sl_Layout_cell⟩)
    (c_Layout_cell : PySem.W.codeIn K cd_Layout_cell "Layout.cell" = true)
    (k_Layout_cell : PySem.W.keepIn K (.ref f_Layout_cell) = true)
    (a_are_integers : PySem.W.nsIn K mainGlobals "are_integers" = some (some (.ref f_are_integers)))
    (l_are_integers : K.lookup f_are_integers = some ⟨oc_are_integers, od_are_integers, .func (PySem.W.fnOf "are_integers" "are_integers" (defArgs sare_integers) (defBody sare_integers) (defScope sare_integers) .none kV_are_integers dc_are_integers pm_are_integers an_are_integers cd_are_integers ct_are_integers), sl_are_integers⟩)
    (c_are_integers : PySem.W.codeIn K cd_are_integers "are_integers" = true)
    (k_are_integers : PySem.W.keepIn K (.ref f_are_integers) = true)
    (a_is_cell : PySem.W.nsIn K mainGlobals "is_cell" = some (some (.ref f_is_cell)))
    (l_is_cell : K.lookup f_is_cell = some ⟨oc_is_cell, od_is_cell, .func (PySem.W.fnOf "is_cell" "is_cell" (defArgs sis_cell) (defBody sis_cell) (defScope sis_cell) .none kV_is_cell dc_is_cell pm_is_cell an_is_cell cd_is_cell ct_is_cell), sl_is_cell⟩)
    (c_is_cell : PySem.W.codeIn K cd_is_cell "is_cell" = true)
    (k_is_cell : PySem.W.keepIn K (.ref f_is_cell) = true)
    (a_check_cell : PySem.W.nsIn K mainGlobals "check_cell" = some (some (.ref f_check_cell)))
    (l_check_cell : K.lookup f_check_cell = some ⟨oc_check_cell, od_check_cell, .func (PySem.W.fnOf "check_cell" "check_cell" (defArgs scheck_cell) (defBody scheck_cell) (defScope scheck_cell) .none kV_check_cell dc_check_cell pm_check_cell an_check_cell cd_check_cell ct_check_cell), sl_check_cell⟩)
    (c_check_cell : PySem.W.codeIn K cd_check_cell "check_cell" = true)
    (k_check_cell : PySem.W.keepIn K (.ref f_check_cell) = true)
    (a_Layout_key : PySem.W.findIn K (.ref C_Layout) "key" = some (some (.ref f_Layout_key)))
    (i_Layout_key : PySem.W.isFn K (.ref f_Layout_key) = true)
    (l_Layout_key : K.lookup f_Layout_key = some ⟨oc_Layout_key, od_Layout_key, .func (PySem.W.fnOf "key" "Layout.key" (defArgs sLayout_key) (defBody sLayout_key) (defScope sLayout_key) .none kV_Layout_key dc_Layout_key pm_Layout_key an_Layout_key cd_Layout_key ct_Layout_key), sl_Layout_key⟩)
    (c_Layout_key : PySem.W.codeIn K cd_Layout_key "Layout.key" = true)
    (k_Layout_key : PySem.W.keepIn K (.ref f_Layout_key) = true)
    (a_law_power : PySem.W.nsIn K mainGlobals "_law_power" = some (some (.ref f_law_power)))
    (l_law_power : K.lookup f_law_power = some ⟨oc_law_power, od_law_power, .func (PySem.W.fnOf "_law_power" "_law_power" (defArgs slaw_power) (defBody slaw_power) (defScope slaw_power) .none kV_law_power dc_law_power pm_law_power an_law_power cd_law_power ct_law_power), sl_law_power⟩)
    (c_law_power : PySem.W.codeIn K cd_law_power "_law_power" = true)
    (k_law_power : PySem.W.keepIn K (.ref f_law_power) = true)
    (a_law_spin : PySem.W.nsIn K mainGlobals "_law_spin" = some (some (.ref f_law_spin)))
    (l_law_spin : K.lookup f_law_spin = some ⟨oc_law_spin, od_law_spin, .func (PySem.W.fnOf "_law_spin" "_law_spin" (defArgs slaw_spin) (defBody slaw_spin) (defScope slaw_spin) .none kV_law_spin dc_law_spin pm_law_spin an_law_spin cd_law_spin ct_law_spin), sl_law_spin⟩)
    (c_law_spin : PySem.W.codeIn K cd_law_spin "_law_spin" = true)
    (k_law_spin : PySem.W.keepIn K (.ref f_law_spin) = true)
    (a_is_word : PySem.W.nsIn K mainGlobals "is_word" = some (some (.ref f_is_word)))
    (l_is_word : K.lookup f_is_word = some ⟨oc_is_word, od_is_word, .func (PySem.W.fnOf "is_word" "is_word" (defArgs sis_word) (defBody sis_word) (defScope sis_word) .none kV_is_word dc_is_word pm_is_word an_is_word cd_is_word ct_is_word), sl_is_word⟩)
    (c_is_word : PySem.W.codeIn K cd_is_word "is_word" = true)
    (k_is_word : PySem.W.keepIn K (.ref f_is_word) = true)
    (a_LayoutU_initU : PySem.W.findIn K (.ref C_Layout) "__init__" = some (some (.ref f_LayoutU_initU)))
    (i_LayoutU_initU : PySem.W.isFn K (.ref f_LayoutU_initU) = true)
    (l_LayoutU_initU : K.lookup f_LayoutU_initU = some ⟨oc_LayoutU_initU, od_LayoutU_initU, .func (PySem.W.fnOf "__init__" "Layout.__init__" (defArgs sLayoutU_initU) (defBody sLayoutU_initU) (defScope sLayoutU_initU) .none kV_LayoutU_initU dc_LayoutU_initU pm_LayoutU_initU an_LayoutU_initU cd_LayoutU_initU ct_LayoutU_initU), sl_LayoutU_initU⟩)
    (c_LayoutU_initU : PySem.W.codeIn K cd_LayoutU_initU "Layout.__init__" = true)
    (k_LayoutU_initU : PySem.W.keepIn K (.ref f_LayoutU_initU) = true)
    (a_check_bits : PySem.W.nsIn K mainGlobals "check_bits" = some (some (.ref f_check_bits)))
    (l_check_bits : K.lookup f_check_bits = some ⟨oc_check_bits, od_check_bits, .func (PySem.W.fnOf "check_bits" "check_bits" (defArgs scheck_bits) (defBody scheck_bits) (defScope scheck_bits) .none kV_check_bits dc_check_bits pm_check_bits an_check_bits cd_check_bits ct_check_bits), sl_check_bits⟩)
    (c_check_bits : PySem.W.codeIn K cd_check_bits "check_bits" = true)
    (k_check_bits : PySem.W.keepIn K (.ref f_check_bits) = true)
    (a_columns : PySem.W.nsIn K mainGlobals "columns" = some (some (.ref f_columns)))
    (l_columns : K.lookup f_columns = some ⟨oc_columns, od_columns, .func (PySem.W.fnOf "columns" "columns" (defArgs scolumns) (defBody scolumns) (defScope scolumns) .none kV_columns dc_columns pm_columns an_columns cd_columns ct_columns), sl_columns⟩)
    (c_columns : PySem.W.codeIn K cd_columns "columns" = true)
    (k_columns : PySem.W.keepIn K (.ref f_columns) = true)
    (a_laced : PySem.W.nsIn K mainGlobals "laced" = some (some (.ref f_laced)))
    (l_laced : K.lookup f_laced = some ⟨oc_laced, od_laced, .func (PySem.W.fnOf "laced" "laced" (defArgs slaced) (defBody slaced) (defScope slaced) .none kV_laced dc_laced pm_laced an_laced cd_laced ct_laced), sl_laced⟩)
    (c_laced : PySem.W.codeIn K cd_laced "laced" = true)
    (k_laced : PySem.W.keepIn K (.ref f_laced) = true)
    (a_rows_word : PySem.W.nsIn K mainGlobals "_rows_word" = some (some (.ref f_rows_word)))
    (l_rows_word : K.lookup f_rows_word = some ⟨oc_rows_word, od_rows_word, .func (PySem.W.fnOf "_rows_word" "_rows_word" (defArgs srows_word) (defBody srows_word) (defScope srows_word) .none kV_rows_word dc_rows_word pm_rows_word an_rows_word cd_rows_word ct_rows_word), sl_rows_word⟩)
    (c_rows_word : PySem.W.codeIn K cd_rows_word "_rows_word" = true)
    (k_rows_word : PySem.W.keepIn K (.ref f_rows_word) = true)
    (a_rows : PySem.W.nsIn K mainGlobals "rows" = some (some (.ref f_rows)))
    (l_rows : K.lookup f_rows = some ⟨oc_rows, od_rows, .func (PySem.W.fnOf "rows" "rows" (defArgs srows) (defBody srows) (defScope srows) .none kV_rows dc_rows pm_rows an_rows cd_rows ct_rows), sl_rows⟩)
    (c_rows : PySem.W.codeIn K cd_rows "rows" = true)
    (k_rows : PySem.W.keepIn K (.ref f_rows) = true)
    (a_tiled : PySem.W.nsIn K mainGlobals "tiled" = some (some (.ref f_tiled)))
    (l_tiled : K.lookup f_tiled = some ⟨oc_tiled, od_tiled, .func (PySem.W.fnOf "tiled" "tiled" (defArgs stiled) (defBody stiled) (defScope stiled) .none kV_tiled dc_tiled pm_tiled an_tiled cd_tiled ct_tiled), sl_tiled⟩)
    (c_tiled : PySem.W.codeIn K cd_tiled "tiled" = true)
    (k_tiled : PySem.W.keepIn K (.ref f_tiled) = true)
    (a_law_right : PySem.W.nsIn K mainGlobals "_law_right" = some (some (.ref f_law_right)))
    (l_law_right : K.lookup f_law_right = some ⟨oc_law_right, od_law_right, .func (PySem.W.fnOf "_law_right" "_law_right" (defArgs slaw_right) (defBody slaw_right) (defScope slaw_right) .none kV_law_right dc_law_right pm_law_right an_law_right cd_law_right ct_law_right), sl_law_right⟩)
    (c_law_right : PySem.W.codeIn K cd_law_right "_law_right" = true)
    (k_law_right : PySem.W.keepIn K (.ref f_law_right) = true)
    (a_law_wound : PySem.W.nsIn K mainGlobals "_law_wound" = some (some (.ref f_law_wound)))
    (l_law_wound : K.lookup f_law_wound = some ⟨oc_law_wound, od_law_wound, .func (PySem.W.fnOf "_law_wound" "_law_wound" (defArgs slaw_wound) (defBody slaw_wound) (defScope slaw_wound) .none kV_law_wound dc_law_wound pm_law_wound an_law_wound cd_law_wound ct_law_wound), sl_law_wound⟩)
    (c_law_wound : PySem.W.codeIn K cd_law_wound "_law_wound" = true)
    (k_law_wound : PySem.W.keepIn K (.ref f_law_wound) = true)
    (a_law : PySem.W.nsIn K mainGlobals "law" = some (some (.ref f_law)))
    (l_law : K.lookup f_law = some ⟨oc_law, od_law, .func (PySem.W.fnOf "law" "law" (defArgs slaw) (defBody slaw) (defScope slaw) .none kV_law dc_law pm_law an_law cd_law ct_law), sl_law⟩)
    (c_law : PySem.W.codeIn K cd_law "law" = true)
    (k_law : PySem.W.keepIn K (.ref f_law) = true)
    (pg_Layout : PySem.W.plainGet K C_Layout Str.empty = true)
    (hd_Layout : PySem.W.hasDictIn K C_Layout = true)
    (po_Layout : PySem.W.plainOver K C_Layout = true)
    (sa_Layout : PySem.W.findIn K (.ref C_Layout) "__setattr__" = some (some (.builtin "object.__setattr__")))
    (mk_Layout : PySem.W.makesIn K C_Layout = true)
    (kc_Layout : PySem.W.keepIn K (.ref C_Layout) = true)
    (ia_Layout : PySem.W.findIn K (.ref C_Layout) "__class__" = some (some (.builtin "object.__class__")))
    (ib_Layout : PySem.W.specialIn K (.builtin "object.__class__") "__get__" = some (some (.builtin "getset_descriptor.__get__")))
    (ic_Layout : PySem.W.takesIn K (.builtin "object.__class__") = some true)
    (id_Layout : PySem.W.mroIn K C_Layout (.type "object") = some true)
    (no_Layout_word : PySem.W.findIn K (.ref C_Layout) "_word" = some none)
    (no_Layout_x_bits : PySem.W.findIn K (.ref C_Layout) "_x_bits" = some none)
    (no_Layout_y_bits : PySem.W.findIn K (.ref C_Layout) "_y_bits" = some none)
    (z_all : PySem.W.nsIn K mainGlobals "all" = some none)
    (z_bool : PySem.W.nsIn K mainGlobals "bool" = some none)
    (z_int : PySem.W.nsIn K mainGlobals "int" = some none)
    (z_isinstance : PySem.W.nsIn K mainGlobals "isinstance" = some none)
    (z_len : PySem.W.nsIn K mainGlobals "len" = some none)
    (z_max : PySem.W.nsIn K mainGlobals "max" = some none)
    (z_min : PySem.W.nsIn K mainGlobals "min" = some none)
    (z_range : PySem.W.nsIn K mainGlobals "range" = some none)
    (z_repr : PySem.W.nsIn K mainGlobals "repr" = some none)
    (z_str : PySem.W.nsIn K mainGlobals "str" = some none)
    (z_tuple : PySem.W.nsIn K mainGlobals "tuple" = some none)
    (v_MOST_BITS : PySem.W.nsIn K mainGlobals "MOST_BITS" = some (some (.int 100 t_MOST_BITS))) :
    ∃ (Z : Ads) (fd : FuncData), (∀ (s : Shared) (v : Value), BindsTo s fd ⟨[v], []⟩ [("script", v)]) ∧ ∀ base : Heap, K.In base → base.Ns mainGlobals mg → FnG l.prog w K mg base 7 fa fd ["script"] (splaw K Z) := by
  have e := hfa.symm.trans (PySem.W.mg_of X G a_law)
  cases e
  have F_Layout_word := fun_mk (st := sLayout_word) l_Layout_word c_Layout_word k_Layout_word
  have b_Layout_word := F_Layout_word.binds (ps := ["self"]) fun _ _ _ _ _ _ us hl => match us, hl with | [_], _ => rfl
  have F_LayoutU_eqU := fun_mk (st := sLayoutU_eqU) l_LayoutU_eqU c_LayoutU_eqU k_LayoutU_eqU
  have b_LayoutU_eqU := F_LayoutU_eqU.binds (ps := ["self", "other"]) fun _ _ _ _ _ _ us hl => match us, hl with | [_, _], _ => rfl
  have F_is_integer := fun_mk (st := sis_integer) l_is_integer c_is_integer k_is_integer
  have b_is_integer := F_is_integer.binds (ps := ["value"]) fun _ _ _ _ _ _ us hl => match us, hl with | [_], _ => rfl
  have F_is_between := fun_mk (st := sis_between) l_is_between c_is_between k_is_between
  have b_is_between := F_is_between.binds (ps := ["value", "low", "high"]) fun _ _ _ _ _ _ us hl => match us, hl with | [_, _, _], _ => rfl
  have F_check_key := fun_mk (st := scheck_key) l_check_key c_check_key k_check_key
  have b_check_key := F_check_key.binds (ps := ["key", "x_bits", "y_bits"]) fun _ _ _ _ _ _ us hl => match us, hl with | [_, _, _], _ => rfl
  have F_feet := fun_mk (st := sfeet) l_feet c_feet k_feet
  have b_feet := F_feet.binds (ps := ["word"]) fun _ _ _ _ _ _ us hl => match us, hl with | [_], _ => rfl
  have F_Layout_cell := fun_mk (st := sLayout_cell) l_Layout_cell c_Layout_cell k_Layout_cell
  have b_Layout_cell := F_Layout_cell.binds (ps := ["self", "key"]) fun _ _ _ _ _ _ us hl => match us, hl with | [_, _], _ => rfl
  have F_are_integers := fun_mk (st := sare_integers) l_are_integers c_are_integers k_are_integers
  have b_are_integers := F_are_integers.binds (ps := ["value", "many"]) fun _ _ _ _ _ _ us hl => match us, hl with | [_, _], _ => rfl
  have F_is_cell := fun_mk (st := sis_cell) l_is_cell c_is_cell k_is_cell
  have b_is_cell := F_is_cell.binds (ps := ["value", "x_bits", "y_bits"]) fun _ _ _ _ _ _ us hl => match us, hl with | [_, _, _], _ => rfl
  have F_check_cell := fun_mk (st := scheck_cell) l_check_cell c_check_cell k_check_cell
  have b_check_cell := F_check_cell.binds (ps := ["cell", "x_bits", "y_bits"]) fun _ _ _ _ _ _ us hl => match us, hl with | [_, _, _], _ => rfl
  have F_Layout_key := fun_mk (st := sLayout_key) l_Layout_key c_Layout_key k_Layout_key
  have b_Layout_key := F_Layout_key.binds (ps := ["self", "cell"]) fun _ _ _ _ _ _ us hl => match us, hl with | [_, _], _ => rfl
  have F_law_power := fun_mk (st := slaw_power) l_law_power c_law_power k_law_power
  have b_law_power := F_law_power.binds (ps := ["depth"]) fun _ _ _ _ _ _ us hl => match us, hl with | [_], _ => rfl
  have F_law_spin := fun_mk (st := slaw_spin) l_law_spin c_law_spin k_law_spin
  have b_law_spin := F_law_spin.binds (ps := ["reel", "many"]) fun _ _ _ _ _ _ us hl => match us, hl with | [_, _], _ => rfl
  have F_is_word := fun_mk (st := sis_word) l_is_word c_is_word k_is_word
  have b_is_word := F_is_word.binds (ps := ["value"]) fun _ _ _ _ _ _ us hl => match us, hl with | [_], _ => rfl
  have F_LayoutU_initU := fun_mk (st := sLayoutU_initU) l_LayoutU_initU c_LayoutU_initU k_LayoutU_initU
  have b_LayoutU_initU := F_LayoutU_initU.binds (ps := ["self", "word"]) fun _ _ _ _ _ _ us hl => match us, hl with | [_, _], _ => rfl
  have F_check_bits := fun_mk (st := scheck_bits) l_check_bits c_check_bits k_check_bits
  have b_check_bits := F_check_bits.binds (ps := ["x_bits", "y_bits"]) fun _ _ _ _ _ _ us hl => match us, hl with | [_, _], _ => rfl
  have F_columns := fun_mk (st := scolumns) l_columns c_columns k_columns
  have b_columns := F_columns.binds (ps := ["x_bits", "y_bits"]) fun _ _ _ _ _ _ us hl => match us, hl with | [_, _], _ => rfl
  have F_laced := fun_mk (st := slaced) l_laced c_laced k_laced
  have b_laced := F_laced.binds (ps := ["x_bits", "y_bits"]) fun _ _ _ _ _ _ us hl => match us, hl with | [_, _], _ => rfl
  have F_rows_word := fun_mk (st := srows_word) l_rows_word c_rows_word k_rows_word
  have b_rows_word := F_rows_word.binds (ps := ["x_bits", "y_bits"]) fun _ _ _ _ _ _ us hl => match us, hl with | [_, _], _ => rfl
  have F_rows := fun_mk (st := srows) l_rows c_rows k_rows
  have b_rows := F_rows.binds (ps := ["x_bits", "y_bits"]) fun _ _ _ _ _ _ us hl => match us, hl with | [_, _], _ => rfl
  have F_tiled := fun_mk (st := stiled) l_tiled c_tiled k_tiled
  have b_tiled := F_tiled.binds (ps := ["x_bits", "y_bits", "tile_x", "tile_y"]) fun _ _ _ _ _ _ us hl => match us, hl with | [_, _, _, _], _ => rfl
  have F_law_right := fun_mk (st := slaw_right) l_law_right c_law_right k_law_right
  have b_law_right := F_law_right.binds (ps := ["reel", "most"]) fun _ _ _ _ _ _ us hl => match us, hl with | [_, _], _ => rfl
  have F_law_wound := fun_mk (st := slaw_wound) l_law_wound c_law_wound k_law_wound
  have b_law_wound := F_law_wound.binds (ps := ["script", "k"]) fun _ _ _ _ _ _ us hl => match us, hl with | [_, _], _ => rfl
  have F_law := fun_mk (st := slaw) l_law c_law k_law
  have b_law := F_law.binds (ps := ["script"]) fun _ _ _ _ _ _ us hl => match us, hl with | [_], _ => rfl
  have T : Top K mg ⟨C_Layout, f_Layout_word, _, p_Layout_word, f_LayoutU_eqU, _, f_is_integer, _, f_is_between, _, f_check_key, _, f_feet, _, f_Layout_cell, _, f_are_integers, _, f_is_cell, _, f_check_cell, _, f_Layout_key, _, f_law_power, _, f_law_spin, _, f_is_word, _, f_LayoutU_initU, _, f_check_bits, _, f_columns, _, f_laced, _, f_rows_word, _, f_rows, _, f_tiled, _, f_law_right, _, f_law_wound, _, fa, _⟩ := ⟨F_Layout_word, b_Layout_word, ⟨a_Layout_word, g_Layout_word, t_Layout_word, ⟨_, r_Layout_word⟩⟩, F_LayoutU_eqU, b_LayoutU_eqU, ⟨a_LayoutU_eqU, i_LayoutU_eqU, k_LayoutU_eqU⟩, F_is_integer, b_is_integer, PySem.W.mg_of X G a_is_integer, F_is_between, b_is_between, PySem.W.mg_of X G a_is_between, F_check_key, b_check_key, PySem.W.mg_of X G a_check_key, F_feet, b_feet, PySem.W.mg_of X G a_feet, F_Layout_cell, b_Layout_cell, ⟨a_Layout_cell, i_Layout_cell, k_Layout_cell⟩, F_are_integers, b_are_integers, PySem.W.mg_of X G a_are_integers, F_is_cell, b_is_cell, PySem.W.mg_of X G a_is_cell, F_check_cell, b_check_cell, PySem.W.mg_of X G a_check_cell, F_Layout_key, b_Layout_key, ⟨a_Layout_key, i_Layout_key, k_Layout_key⟩, F_law_power, b_law_power, PySem.W.mg_of X G a_law_power, F_law_spin, b_law_spin, PySem.W.mg_of X G a_law_spin, F_is_word, b_is_word, PySem.W.mg_of X G a_is_word, F_LayoutU_initU, b_LayoutU_initU, ⟨mk_Layout, a_LayoutU_initU, i_LayoutU_initU, kc_Layout⟩, F_check_bits, b_check_bits, PySem.W.mg_of X G a_check_bits, F_columns, b_columns, PySem.W.mg_of X G a_columns, F_laced, b_laced, PySem.W.mg_of X G a_laced, F_rows_word, b_rows_word, PySem.W.mg_of X G a_rows_word, F_rows, b_rows, PySem.W.mg_of X G a_rows, F_tiled, b_tiled, PySem.W.mg_of X G a_tiled, F_law_right, b_law_right, PySem.W.mg_of X G a_law_right, F_law_wound, b_law_wound, PySem.W.mg_of X G a_law_wound, F_law, b_law, PySem.W.mg_of X G a_law, PySem.W.mg_of X G a_Layout, ⟨pg_Layout, hd_Layout, po_Layout, sa_Layout⟩, ⟨⟨pg_Layout, hd_Layout, po_Layout, sa_Layout⟩, ia_Layout, ib_Layout, ic_Layout, id_Layout, kitOne_self _ _⟩, no_Layout_word, no_Layout_x_bits, no_Layout_y_bits, PySem.W.mg_none_of X G z_all, PySem.W.mg_none_of X G z_bool, PySem.W.mg_none_of X G z_int, PySem.W.mg_none_of X G z_isinstance, PySem.W.mg_none_of X G z_len, PySem.W.mg_none_of X G z_max, PySem.W.mg_none_of X G z_min, PySem.W.mg_none_of X G z_range, PySem.W.mg_none_of X G z_repr, PySem.W.mg_none_of X G z_str, PySem.W.mg_none_of X G z_tuple, ⟨_, PySem.W.mg_of X G v_MOST_BITS⟩⟩
  exact ⟨_, PySem.W.fnOf "law" "law" (defArgs slaw) (defBody slaw) (defScope slaw) .none kV_law dc_law pm_law an_law cd_law ct_law, fun s v => .of_eq rfl, fun base _ _ => oklaw T⟩
theorem all_mk2 {l : PySem.W.OpenLaw} {w : World} {K : PySem.W.Frag} {mg : Str → Option Value} {fa : Addr} (h : ∃ (Z : Ads) (fd : FuncData), (∀ (s : Shared) (v : Value), BindsTo s fd ⟨[v], []⟩ [("script", v)]) ∧ ∀ base : Heap, K.In base → base.Ns mainGlobals mg → FnG l.prog w K mg base 7 fa fd ["script"] (splaw K Z)) :
    ∃ fd : FuncData, (∀ (s : Shared) (v : Value), BindsTo s fd ⟨[v], []⟩ [("script", v)]) ∧ ∀ base : Heap, K.In base → base.Ns mainGlobals mg → FnG l.prog w K mg base 7 fa fd ["script"] (splaw_any K) := by
  obtain ⟨Z, fd, h1, h2⟩ := h
  exact ⟨fd, h1, h2⟩
end Lk
open PySem PySem.W PyProof.Rows
set_option maxHeartbeats 0 in
theorem PySem.Challenge.cw_lacekeys_k02_made_layouts_holds : PySem.Challenge.rw_lacekeys_k02_made_layouts.Holds := by
  w_on; o_law; k_head; (case hw => w_witness2)
  k_fill
  refine Lk.walkG (l := PySem.Challenge.rw_lacekeys_k02_made_layouts) (n := 63) (k := 7) (x := "script") (sp := fun w => Lk.splaw_any _) rfl (by decide) rfl ⟨rfl, by decide, by decide⟩ (fun w h Y => PySem.W.kIn_of Y) ?F (fun _ _ a ns hl _ hS => ⟨a, ns, rfl, hS, hl, fun _ => rfl⟩)
  case F =>
    intro w mg fa h KX G hmg
    refine' Lk.all_mk2 (Lk.all_mk (l := PySem.Challenge.rw_lacekeys_k02_made_layouts) (w := w) KX G hmg ?a_Layout ?a_Layout_word ?g_Layout_word ?t_Layout_word ?r_Layout_word ?l_Layout_word ?c_Layout_word ?k_Layout_word ?a_LayoutU_eqU ?i_LayoutU_eqU ?l_LayoutU_eqU ?c_LayoutU_eqU ?k_LayoutU_eqU ?a_is_integer ?l_is_integer ?c_is_integer ?k_is_integer ?a_is_between ?l_is_between ?c_is_between ?k_is_between ?a_check_key ?l_check_key ?c_check_key ?k_check_key ?a_feet ?l_feet ?c_feet ?k_feet ?a_Layout_cell ?i_Layout_cell ?l_Layout_cell ?c_Layout_cell ?k_Layout_cell ?a_are_integers ?l_are_integers ?c_are_integers ?k_are_integers ?a_is_cell ?l_is_cell ?c_is_cell ?k_is_cell ?a_check_cell ?l_check_cell ?c_check_cell ?k_check_cell ?a_Layout_key ?i_Layout_key ?l_Layout_key ?c_Layout_key ?k_Layout_key ?a_law_power ?l_law_power ?c_law_power ?k_law_power ?a_law_spin ?l_law_spin ?c_law_spin ?k_law_spin ?a_is_word ?l_is_word ?c_is_word ?k_is_word ?a_LayoutU_initU ?i_LayoutU_initU ?l_LayoutU_initU ?c_LayoutU_initU ?k_LayoutU_initU ?a_check_bits ?l_check_bits ?c_check_bits ?k_check_bits ?a_columns ?l_columns ?c_columns ?k_columns ?a_laced ?l_laced ?c_laced ?k_laced ?a_rows_word ?l_rows_word ?c_rows_word ?k_rows_word ?a_rows ?l_rows ?c_rows ?k_rows ?a_tiled ?l_tiled ?c_tiled ?k_tiled ?a_law_right ?l_law_right ?c_law_right ?k_law_right ?a_law_wound ?l_law_wound ?c_law_wound ?k_law_wound ?a_law ?l_law ?c_law ?k_law ?pg_Layout ?hd_Layout ?po_Layout ?sa_Layout ?mk_Layout ?kc_Layout ?ia_Layout ?ib_Layout ?ic_Layout ?id_Layout ?no_Layout_word ?no_Layout_x_bits ?no_Layout_y_bits ?z_all ?z_bool ?z_int ?z_isinstance ?z_len ?z_max ?z_min ?z_range ?z_repr ?z_str ?z_tuple ?v_MOST_BITS)
    (case a_Layout => k_is)
    (case a_Layout_word => k_is)
    (case g_Layout_word => k_is)
    (case t_Layout_word => k_is)
    (case r_Layout_word => k_is)
    (case l_Layout_word => k_is)
    (case c_Layout_word => k_is)
    (case k_Layout_word => k_is)
    (case a_LayoutU_eqU => k_is)
    (case i_LayoutU_eqU => k_is)
    (case l_LayoutU_eqU => k_is)
    (case c_LayoutU_eqU => k_is)
    (case k_LayoutU_eqU => k_is)
    (case a_is_integer => k_is)
    (case l_is_integer => k_is)
    (case c_is_integer => k_is)
    (case k_is_integer => k_is)
    (case a_is_between => k_is)
    (case l_is_between => k_is)
    (case c_is_between => k_is)
    (case k_is_between => k_is)
    (case a_check_key => k_is)
    (case l_check_key => k_is)
    (case c_check_key => k_is)
    (case k_check_key => k_is)
    (case a_feet => k_is)
    (case l_feet => k_is)
    (case c_feet => k_is)
    (case k_feet => k_is)
    (case a_Layout_cell => k_is)
    (case i_Layout_cell => k_is)
    (case l_Layout_cell => k_is)
    (case c_Layout_cell => k_is)
    (case k_Layout_cell => k_is)
    (case a_are_integers => k_is)
    (case l_are_integers => k_is)
    (case c_are_integers => k_is)
    (case k_are_integers => k_is)
    (case a_is_cell => k_is)
    (case l_is_cell => k_is)
    (case c_is_cell => k_is)
    (case k_is_cell => k_is)
    (case a_check_cell => k_is)
    (case l_check_cell => k_is)
    (case c_check_cell => k_is)
    (case k_check_cell => k_is)
    (case a_Layout_key => k_is)
    (case i_Layout_key => k_is)
    (case l_Layout_key => k_is)
    (case c_Layout_key => k_is)
    (case k_Layout_key => k_is)
    (case a_law_power => k_is)
    (case l_law_power => k_is)
    (case c_law_power => k_is)
    (case k_law_power => k_is)
    (case a_law_spin => k_is)
    (case l_law_spin => k_is)
    (case c_law_spin => k_is)
    (case k_law_spin => k_is)
    (case a_is_word => k_is)
    (case l_is_word => k_is)
    (case c_is_word => k_is)
    (case k_is_word => k_is)
    (case a_LayoutU_initU => k_is)
    (case i_LayoutU_initU => k_is)
    (case l_LayoutU_initU => k_is)
    (case c_LayoutU_initU => k_is)
    (case k_LayoutU_initU => k_is)
    (case a_check_bits => k_is)
    (case l_check_bits => k_is)
    (case c_check_bits => k_is)
    (case k_check_bits => k_is)
    (case a_columns => k_is)
    (case l_columns => k_is)
    (case c_columns => k_is)
    (case k_columns => k_is)
    (case a_laced => k_is)
    (case l_laced => k_is)
    (case c_laced => k_is)
    (case k_laced => k_is)
    (case a_rows_word => k_is)
    (case l_rows_word => k_is)
    (case c_rows_word => k_is)
    (case k_rows_word => k_is)
    (case a_rows => k_is)
    (case l_rows => k_is)
    (case c_rows => k_is)
    (case k_rows => k_is)
    (case a_tiled => k_is)
    (case l_tiled => k_is)
    (case c_tiled => k_is)
    (case k_tiled => k_is)
    (case a_law_right => k_is)
    (case l_law_right => k_is)
    (case c_law_right => k_is)
    (case k_law_right => k_is)
    (case a_law_wound => k_is)
    (case l_law_wound => k_is)
    (case c_law_wound => k_is)
    (case k_law_wound => k_is)
    (case a_law => k_is)
    (case l_law => k_is)
    (case c_law => k_is)
    (case k_law => k_is)
    (case pg_Layout => k_is)
    (case hd_Layout => k_is)
    (case po_Layout => k_is)
    (case sa_Layout => k_is)
    (case mk_Layout => k_is)
    (case kc_Layout => k_is)
    (case ia_Layout => k_is)
    (case ib_Layout => k_is)
    (case ic_Layout => k_is)
    (case id_Layout => k_is)
    (case no_Layout_word => k_is)
    (case no_Layout_x_bits => k_is)
    (case no_Layout_y_bits => k_is)
    (case z_all => k_is)
    (case z_bool => k_is)
    (case z_int => k_is)
    (case z_isinstance => k_is)
    (case z_len => k_is)
    (case z_max => k_is)
    (case z_min => k_is)
    (case z_range => k_is)
    (case z_repr => k_is)
    (case z_str => k_is)
    (case z_tuple => k_is)
    (case v_MOST_BITS => k_is)

