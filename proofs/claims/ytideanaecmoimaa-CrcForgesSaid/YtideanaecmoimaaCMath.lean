/-
  The plain facts of layer 2: the register of a checksum on natural numbers. Nothing of the program. By the verifier.
-/
import Derived.Lib.Hide
set_option linter.unusedVariables false
namespace Go.Proofs.Ytideanaecmoimaa

theorem xor_mod2 (a b : Nat) : (a ^^^ b) % 2 = (a + b) % 2 := by
  have h : (a ^^^ b) % 2 ^ 1 = (a % 2 ^ 1) ^^^ (b % 2 ^ 1) := Nat.xor_mod_two_pow
  simp only [Nat.pow_one] at h
  rw [h]
  rcases Nat.mod_two_eq_zero_or_one a with ha | ha <;> rcases Nat.mod_two_eq_zero_or_one b with hb | hb <;> rw [ha, hb] <;> simp <;> omega

theorem xor_div2 (a b : Nat) : (a ^^^ b) / 2 = a / 2 ^^^ b / 2 := by
  have h : (a ^^^ b) >>> 1 = a >>> 1 ^^^ b >>> 1 := Nat.shiftRight_xor_distrib
  simpa [Nat.shiftRight_eq_div_pow] using h

theorem xor_mod_pow (a b n : Nat) : (a ^^^ b) % 2 ^ n = (a % 2 ^ n) ^^^ (b % 2 ^ n) := Nat.xor_mod_two_pow
theorem xor_div_pow (a b n : Nat) : (a ^^^ b) / 2 ^ n = (a / 2 ^ n) ^^^ (b / 2 ^ n) := by
  have h : (a ^^^ b) >>> n = a >>> n ^^^ b >>> n := Nat.shiftRight_xor_distrib
  simpa [Nat.shiftRight_eq_div_pow] using h

/-- A register shifted by one bit. -/
def st (n : Nat) : Nat := if n % 2 = 1 then n / 2 ^^^ 3988292384 else n / 2

theorem st_odd {n : Nat} (h : n % 2 = 1) : st n = n / 2 ^^^ 3988292384 := if_pos h
theorem st_even {n : Nat} (h : n % 2 = 0) : st n = n / 2 := if_neg (by omega)
theorem st_zero : st 0 = 0 := rfl

theorem xor_swap (a b c : Nat) : (a ^^^ c) ^^^ (b ^^^ c) = a ^^^ b := by
  rw [Nat.xor_comm b c, ← Nat.xor_assoc, Nat.xor_assoc a c c, Nat.xor_self, Nat.xor_zero]

theorem st_xor (a b : Nat) : st (a ^^^ b) = st a ^^^ st b := by
  have hm := xor_mod2 a b
  have hd := xor_div2 a b
  rcases Nat.mod_two_eq_zero_or_one a with ha | ha <;> rcases Nat.mod_two_eq_zero_or_one b with hb | hb
  · rw [st_even ha, st_even hb, st_even (by omega), hd]
  · rw [st_even ha, st_odd hb, st_odd (by omega), hd, Nat.xor_assoc]
  · rw [st_odd ha, st_even hb, st_odd (by omega), hd, Nat.xor_assoc, Nat.xor_assoc, Nat.xor_comm (b / 2)]
  · rw [st_odd ha, st_odd hb, st_even (by omega), hd, xor_swap]

theorem st_lt {n : Nat} (h : n < 4294967296) : st n < 4294967296 := by
  unfold st
  split
  · have : n / 2 ^^^ 3988292384 < 2 ^ 32 := Nat.xor_lt_two_pow (by omega) (by omega)
    omega
  · omega

theorem st_eq_zero {n : Nat} (h : n < 4294967296) (h0 : st n = 0) : n = 0 := by
  rcases Nat.mod_two_eq_zero_or_one n with hn | hn
  · rw [st_even hn] at h0; omega
  · rw [st_odd hn] at h0
    have h1 : n / 2 = 3988292384 := by
      have := congrArg (· ^^^ 3988292384) h0
      simpa [Nat.xor_assoc] using this
    omega

/-- A register shifted by k bits. -/
def stk : Nat → Nat → Nat
  | 0, n => n
  | k + 1, n => stk k (st n)

theorem stk_succ (k n : Nat) : stk (k + 1) n = st (stk k n) := by
  induction k generalizing n with
  | zero => rfl
  | succ k ih => show stk (k + 1) (st n) = st (stk k (st n)); exact ih _

theorem stk_add (j k n : Nat) : stk (j + k) n = stk j (stk k n) := by
  induction j generalizing n with
  | zero => rw [Nat.zero_add]; rfl
  | succ j ih => rw [show j + 1 + k = (j + k) + 1 by omega, stk_succ, ih, stk_succ]

theorem stk_xor (k a b : Nat) : stk k (a ^^^ b) = stk k a ^^^ stk k b := by
  induction k generalizing a b with
  | zero => rfl
  | succ k ih => show stk k (st (a ^^^ b)) = _; rw [st_xor, ih]; rfl

theorem stk_zero (k : Nat) : stk k 0 = 0 := by
  induction k with
  | zero => rfl
  | succ k ih => exact ih

theorem stk_lt (k : Nat) {n : Nat} (h : n < 4294967296) : stk k n < 4294967296 := by
  induction k generalizing n with
  | zero => exact h
  | succ k ih => exact ih (st_lt h)

theorem stk_eq_zero (k : Nat) {n : Nat} (h : n < 4294967296) (h0 : stk k n = 0) : n = 0 := by
  induction k generalizing n with
  | zero => exact h0
  | succ k ih => exact st_eq_zero h (ih (st_lt h) h0)

theorem xor_eq_zero {a b : Nat} (h : a ^^^ b = 0) : a = b := by
  have := congrArg (· ^^^ b) h
  simpa [Nat.xor_assoc] using this

theorem xor_lt32 {a b : Nat} (ha : a < 4294967296) (hb : b < 4294967296) : a ^^^ b < 4294967296 := by
  have : a ^^^ b < 2 ^ 32 := Nat.xor_lt_two_pow (by omega) (by omega)
  omega
theorem xor_lt8 {a b : Nat} (ha : a < 256) (hb : b < 256) : a ^^^ b < 256 := by
  have : a ^^^ b < 2 ^ 8 := Nat.xor_lt_two_pow (by omega) (by omega)
  omega

theorem stk_inj (k : Nat) {a b : Nat} (ha : a < 4294967296) (hb : b < 4294967296) (h : stk k a = stk k b) : a = b :=
  xor_eq_zero (stk_eq_zero k (xor_lt32 ha hb) (by rw [stk_xor, h, Nat.xor_self]))

theorem st_double (n : Nat) : st (2 * n) = n := by rw [st_even (by omega)]; omega
theorem stk_shl (k n : Nat) : stk k (2 ^ k * n) = n := by
  induction k generalizing n with
  | zero => simp [stk]
  | succ k ih => rw [stk_succ, show 2 ^ (k + 1) * n = 2 ^ k * (2 * n) by rw [Nat.pow_succ, Nat.mul_assoc], ih, st_double]

/-- An element of the table. -/
def E (i : Nat) : Nat := stk 8 i
theorem E_lt {i : Nat} (h : i < 256) : E i < 4294967296 := stk_lt 8 (by omega)

/-- Numbers whose bits lie apart. -/
theorem xor_apart (k q r : Nat) (h : r < 2 ^ k) : 2 ^ k * q ^^^ r = 2 ^ k * q + r := by
  have hp : 0 < 2 ^ k := Nat.two_pow_pos k
  have hd : (2 ^ k * q ^^^ r) / 2 ^ k = q := by
    rw [xor_div_pow, Nat.mul_div_cancel_left _ hp, Nat.div_eq_of_lt h, Nat.xor_zero]
  have hm : (2 ^ k * q ^^^ r) % 2 ^ k = r := by
    rw [xor_mod_pow, Nat.mul_mod_right, Nat.mod_eq_of_lt h, Nat.zero_xor]
  have := Nat.div_add_mod (2 ^ k * q ^^^ r) (2 ^ k)
  rw [hd, hm] at this
  exact this.symm

theorem or_apart (k q r : Nat) (h : r < 2 ^ k) : 2 ^ k * q ||| r = 2 ^ k * q + r := by
  have hp : 0 < 2 ^ k := Nat.two_pow_pos k
  have h1 : (2 ^ k * q ||| r) >>> k = (2 ^ k * q) >>> k ||| r >>> k := Nat.shiftRight_or_distrib
  simp only [Nat.shiftRight_eq_div_pow] at h1
  have hd : (2 ^ k * q ||| r) / 2 ^ k = q := by
    rw [h1, Nat.mul_div_cancel_left _ hp, Nat.div_eq_of_lt h, Nat.or_zero]
  have hm : (2 ^ k * q ||| r) % 2 ^ k = r := by
    rw [Nat.or_mod_two_pow, Nat.mul_mod_right, Nat.mod_eq_of_lt h, Nat.zero_or]
  have := Nat.div_add_mod (2 ^ k * q ||| r) (2 ^ k)
  rw [hd, hm] at this
  exact this.symm

theorem apart8 (q r : Nat) (h : r < 256) : 256 * q ^^^ r = 256 * q + r := xor_apart 8 q r h
theorem split8 (v : Nat) : 256 * (v / 256) ^^^ v % 256 = v := by
  rw [apart8 _ _ (by omega)]; omega

/-- A byte taken by the register. -/
def upd (v x : Nat) : Nat := stk 8 (v ^^^ x)

theorem upd_lt {v x : Nat} (hv : v < 4294967296) (hx : x < 256) : upd v x < 4294967296 := stk_lt 8 (xor_lt32 hv (by omega))

/-- The step by the table. -/
theorem upd_table (v x : Nat) : upd v x = v / 256 ^^^ E (v % 256 ^^^ x) := by
  unfold upd E
  have h : v ^^^ x = 256 * (v / 256) ^^^ (v % 256 ^^^ x) := by rw [← Nat.xor_assoc, split8]
  have e := stk_shl 8 (v / 256)
  rw [h, stk_xor]
  rw [show (256 : Nat) * (v / 256) = 2 ^ 8 * (v / 256) from rfl, e]

theorem upd_xor (a d x : Nat) : upd (a ^^^ d) x = upd a x ^^^ stk 8 d := by
  unfold upd
  rw [← stk_xor, Nat.xor_assoc, Nat.xor_comm d x, ← Nat.xor_assoc]

/-- Bytes taken by the register. -/
def fo (v : Nat) (l : List Nat) : Nat := l.foldl upd v

theorem fo_nil (v : Nat) : fo v [] = v := rfl
theorem fo_cons (v x : Nat) (l : List Nat) : fo v (x :: l) = fo (upd v x) l := rfl
theorem fo_append (v : Nat) (l m : List Nat) : fo v (l ++ m) = fo (fo v l) m := List.foldl_append
theorem fo_snoc (v : Nat) (l : List Nat) (k : Nat) (h : k < l.length) : fo v (l.take (k + 1)) = upd (fo v (l.take k)) (l.getD k 0) := by
  rw [List.take_succ_eq_append_getElem h, fo_append]
  simp [List.getD, h, fo]

/-- Bytes. -/
def Bs (l : List Nat) : Prop := ∀ x ∈ l, x < 256

theorem Bs.get {l : List Nat} (h : Bs l) (k : Nat) : l.getD k 0 < 256 := by
  by_cases hk : k < l.length
  · have : l.getD k 0 = l[k] := by simp [List.getD, hk]
    rw [this]; exact h _ (List.getElem_mem hk)
  · have : l.getD k 0 = 0 := by rw [List.getD, List.getElem?_eq_none (by omega)]; rfl
    omega
theorem Bs.append {l m : List Nat} (h : Bs l) (h' : Bs m) : Bs (l ++ m) := fun x hx => by
  rcases List.mem_append.1 hx with hx | hx
  · exact h x hx
  · exact h' x hx
theorem Bs.take {l : List Nat} (h : Bs l) (k : Nat) : Bs (l.take k) := fun x hx => h x (List.mem_of_mem_take hx)
theorem Bs.drop {l : List Nat} (h : Bs l) (k : Nat) : Bs (l.drop k) := fun x hx => h x (List.mem_of_mem_drop hx)

theorem fo_lt {v : Nat} (hv : v < 4294967296) : ∀ {l : List Nat}, Bs l → fo v l < 4294967296 := by
  intro l
  induction l generalizing v with
  | nil => exact fun _ => hv
  | cons x l ih => exact fun h => ih (upd_lt hv (h x (List.mem_cons_self ..))) (fun y hy => h y (List.mem_cons_of_mem _ hy))

theorem fo_xor (l : List Nat) (a d : Nat) : fo (a ^^^ d) l = fo a l ^^^ stk (8 * l.length) d := by
  induction l generalizing a d with
  | nil => rfl
  | cons x l ih =>
    rw [fo_cons, fo_cons, upd_xor, ih, List.length_cons, show 8 * (l.length + 1) = 8 * l.length + 8 by omega, stk_add]

/-- The checksum of bytes. -/
def crc (l : List Nat) : Nat := 4294967295 ^^^ fo 4294967295 l
theorem crc_lt {l : List Nat} (h : Bs l) : crc l < 4294967296 := xor_lt32 (by omega) (fo_lt (by omega) h)

theorem not_not (v : Nat) : 4294967295 ^^^ (4294967295 ^^^ v) = v := by rw [← Nat.xor_assoc, Nat.xor_self, Nat.zero_xor]

theorem crc_join (l m : List Nat) : crc (l ++ m) = stk (8 * m.length) (crc l) ^^^ crc m := by
  unfold crc
  rw [fo_append]
  have h : fo 4294967295 l = 4294967295 ^^^ (4294967295 ^^^ fo 4294967295 l) := (not_not _).symm
  rw [h, fo_xor, not_not, Nat.xor_comm (stk _ _), Nat.xor_assoc]

/-- The product of polynomials as the program reckons it: k bits of the first. -/
def pr : Nat → Nat → Nat → Nat
  | 0, _, _ => 0
  | k + 1, a, b => (if 2147483648 ≤ a then b else 0) ^^^ pr k (2 * a % 4294967296) (st b)

theorem pr_zero (k b : Nat) : pr k 0 b = 0 := by
  induction k generalizing b with
  | zero => rfl
  | succ k ih => show (if 2147483648 ≤ 0 then b else 0) ^^^ pr k (2 * 0 % 4294967296) (st b) = 0; rw [if_neg (by omega), show 2 * 0 % 4294967296 = 0 from rfl, ih]; rfl

theorem pr_st (k a b : Nat) : pr k a (st b) = st (pr k a b) := by
  induction k generalizing a b with
  | zero => show (0 : Nat) = st 0; rfl
  | succ k ih =>
    show (if 2147483648 ≤ a then st b else 0) ^^^ pr k _ (st (st b)) = st ((if 2147483648 ≤ a then b else 0) ^^^ pr k _ (st b))
    rw [ih, st_xor]
    split <;> rfl

theorem pr_stk (k a b m : Nat) : pr k a (stk m b) = stk m (pr k a b) := by
  induction m with
  | zero => rfl
  | succ m ih => rw [stk_succ, pr_st, ih, stk_succ]

theorem pr_lt (k : Nat) {a b : Nat} (hb : b < 4294967296) : pr k a b < 4294967296 := by
  induction k generalizing a b with
  | zero => show 0 < _; omega
  | succ k ih =>
    refine xor_lt32 ?_ (ih (st_lt hb))
    split <;> omega

theorem pr_one (k : Nat) (hk : k ≤ 31) (q : Nat) (hq : q < 2 ^ (k + 1)) : pr (k + 1) (q * 2 ^ (31 - k)) (2 ^ k) = q := by
  induction k generalizing q with
  | zero =>
    have : q = 0 ∨ q = 1 := by omega
    rcases this with rfl | rfl
    · simp [pr]
    · rfl
  | succ k ih =>
    have e : 2 ^ (31 - k) = 2 ^ (31 - (k + 1)) * 2 := by rw [← Nat.pow_succ]; congr 1; omega
    have e2 : 2 ^ (31 - (k + 1)) * 2 ^ (k + 1) = 2147483648 := by rw [← Nat.pow_add, show 31 - (k + 1) + (k + 1) = 31 by omega]
    have hs : st (2 ^ (k + 1)) = 2 ^ k := by rw [show (2 : Nat) ^ (k + 1) = 2 * 2 ^ k by rw [Nat.pow_succ]; omega, st_double]
    show (if 2147483648 ≤ q * 2 ^ (31 - (k + 1)) then 2 ^ (k + 1) else 0) ^^^ pr (k + 1) (2 * (q * 2 ^ (31 - (k + 1))) % 4294967296) (st (2 ^ (k + 1))) = q
    have hpos : 0 < 2 ^ (31 - (k + 1)) := Nat.two_pow_pos _
    have h2 : 2 * (q * 2 ^ (31 - (k + 1))) = q * 2 ^ (31 - k) := by rw [e]; generalize 2 ^ (31 - (k + 1)) = p; rw [← Nat.mul_assoc, Nat.mul_comm 2 q, Nat.mul_assoc, Nat.mul_comm 2 p]
    rw [hs, h2]
    by_cases hq2 : 2 ^ (k + 1) ≤ q
    · obtain ⟨r, rfl⟩ := Nat.exists_eq_add_of_le hq2
      have hr : r < 2 ^ (k + 1) := by rw [Nat.pow_succ 2 (k + 1)] at hq; omega
      rw [if_pos (by rw [Nat.mul_comm, ← e2]; exact Nat.mul_le_mul_left _ hq2)]
      have h3 : (2 ^ (k + 1) + r) * 2 ^ (31 - k) % 4294967296 = r * 2 ^ (31 - k) := by
        have : 2 ^ (k + 1) * 2 ^ (31 - k) = 4294967296 := by rw [← Nat.pow_add, show k + 1 + (31 - k) = 32 by omega]
        rw [Nat.add_mul, this, Nat.add_mod_left]
        refine Nat.mod_eq_of_lt ?_
        rw [← this]
        exact Nat.mul_lt_mul_of_pos_right hr (Nat.two_pow_pos _)
      rw [h3, ih (by omega) r hr]
      have := xor_apart (k + 1) 1 r hr
      rwa [Nat.mul_one] at this
    · have hr : q < 2 ^ (k + 1) := by omega
      have hlt : q * 2 ^ (31 - (k + 1)) < 2147483648 := by
        rw [← e2, Nat.mul_comm (2 ^ (31 - (k + 1)))]; exact Nat.mul_lt_mul_of_pos_right hr hpos
      rw [if_neg (by omega), Nat.zero_xor, ← h2, Nat.mod_eq_of_lt (by omega), h2, ih (by omega) q hr]

/-- The product of two polynomials. -/
def prod (a b : Nat) : Nat := pr 32 a b
theorem prod_one (a m : Nat) (h : a < 4294967296) : prod a (stk m 2147483648) = stk m a := by
  unfold prod
  rw [pr_stk]
  have := pr_one 31 (by omega) a (by omega)
  rw [Nat.sub_self, Nat.pow_zero, Nat.mul_one] at this
  rw [show (2147483648 : Nat) = 2 ^ 31 from rfl, this]

/-- The four bytes of a number, the least first. -/
def le (s : Nat) : List Nat := [s % 256, s / 256 % 256, s / 65536 % 256, s / 16777216 % 256]
theorem le_bs (s : Nat) : Bs (le s) := by
  intro x hx
  simp [le] at hx
  omega
theorem le_len (s : Nat) : (le s).length = 4 := rfl

theorem upd_step (k v y x : Nat) : upd (stk k (v ^^^ y)) x = stk (8 + k) (v ^^^ (y ^^^ 2 ^ k * x)) := by
  unfold upd
  rw [stk_add, ← Nat.xor_assoc v, stk_xor k (v ^^^ y), stk_shl]

theorem fo_four (v a b c d : Nat) (ha : a < 256) (hb : b < 256) (hc : c < 256) : fo v [a, b, c, d] = stk 32 (v ^^^ (a + 256 * b + 65536 * c + 16777216 * d)) := by
  show upd (upd (upd (upd v a) b) c) d = _
  have h0 : upd v a = stk 8 (v ^^^ a) := rfl
  rw [h0, upd_step, upd_step, upd_step]
  have h1 : a ^^^ 2 ^ 8 * b = a + 256 * b := by rw [Nat.xor_comm, xor_apart 8 b a (by omega)]; omega
  have h2 : (a + 256 * b) ^^^ 2 ^ (8 + 8) * c = a + 256 * b + 65536 * c := by rw [Nat.xor_comm, xor_apart 16 c _ (by omega)]; omega
  have h3 : (a + 256 * b + 65536 * c) ^^^ 2 ^ (8 + (8 + 8)) * d = a + 256 * b + 65536 * c + 16777216 * d := by rw [Nat.xor_comm, xor_apart 24 d _ (by omega)]; omega
  rw [h1, h2, h3]

theorem fo_le (v s : Nat) (h : s < 4294967296) : fo v (le s) = stk 32 (v ^^^ s) := by
  unfold le
  rw [fo_four _ _ _ _ _ (by omega) (by omega) (by omega)]
  congr 2
  omega

theorem le_inj {a b : Nat} (ha : a < 4294967296) (hb : b < 4294967296) (h : le a = le b) : a = b := by
  simp [le] at h
  omega

/-- Four bytes are the bytes of a number. -/
theorem le_of (l : List Nat) (h : Bs l) (h4 : l.length = 4) : ∃ s, s < 4294967296 ∧ l = le s := by
  match l, h4 with
  | [a, b, c, d], _ =>
    have ha := h a (by simp)
    have hb := h b (by simp)
    have hc := h c (by simp)
    have hd := h d (by simp)
    exact ⟨a + 256 * b + 65536 * c + 16777216 * d, by omega, by simp [le]; omega⟩

/-- The register behind sealed bytes. -/
def rest : Nat := stk 32 4294967295
theorem sealed_iff (l : List Nat) (s : Nat) (hl : Bs l) (hs : s < 4294967296) : fo 4294967295 (l ++ le s) = rest ↔ s = crc l := by
  rw [fo_append, fo_le _ _ hs]
  have hv := fo_lt (v := 4294967295) (by omega) hl
  unfold rest
  constructor
  · intro h
    have h1 := stk_inj 32 (xor_lt32 hv hs) (by omega) h
    unfold crc
    generalize fo 4294967295 l = f at *
    rw [← h1, Nat.xor_comm f s, Nat.xor_assoc, Nat.xor_self, Nat.xor_zero]
  · rintro rfl
    unfold crc
    rw [Nat.xor_comm 4294967295, ← Nat.xor_assoc, Nat.xor_self, Nat.zero_xor]

/-- A bit that is turned. -/
theorem fo_flip (l : List Nat) (v p : Nat) (hp : p < 8 * l.length) :
    fo v (l.set (p / 8) (l.getD (p / 8) 0 ^^^ 2 ^ (p % 8))) = fo v l ^^^ stk (8 * l.length - p) 1 := by
  induction l generalizing v p with
  | nil => simp at hp
  | cons x l ih =>
    rw [List.length_cons] at hp
    by_cases h : p < 8
    · rw [Nat.div_eq_of_lt h, Nat.mod_eq_of_lt h]
      show fo (upd v (x ^^^ 2 ^ p)) l = fo (upd v x) l ^^^ _
      have hu : upd v (x ^^^ 2 ^ p) = upd v x ^^^ stk (8 - p) 1 := by
        unfold upd
        rw [← Nat.xor_assoc, stk_xor]
        congr 1
        have := stk_shl p 1
        rw [Nat.mul_one] at this
        rw [show 8 = (8 - p) + p by omega, stk_add, this]
        congr 1
        omega
      rw [hu, fo_xor, ← stk_add, List.length_cons]
      congr 2
      omega
    · obtain ⟨q, rfl⟩ := Nat.exists_eq_add_of_le (Nat.le_of_not_lt h)
      rw [show (8 + q) / 8 = q / 8 + 1 by omega, show (8 + q) % 8 = q % 8 by omega, List.set_cons_succ, List.getD_cons_succ, fo_cons, fo_cons, ih _ q (by omega), List.length_cons]
      congr 2
      omega

theorem stk_bit (m k : Nat) (h : k ≤ m) : stk (m - k) 1 = stk m (2 ^ k) := by
  have := stk_shl k 1
  rw [Nat.mul_one] at this
  rw [show m = (m - k) + k by omega, stk_add, this, Nat.add_sub_cancel]

/-- The index of an element of the table by its highest byte. -/
def idx (h : Nat) : Nat := ((List.range 256).find? fun i => E i / 16777216 == h).getD 0

theorem idx_left : ∀ i, i < 256 → idx (E i / 16777216) = i := by decide +kernel
theorem idx_right : ∀ h, h < 256 → E (idx h) / 16777216 = h ∧ idx h < 256 := by decide +kernel
theorem crc_digits : crc [49, 50, 51, 52, 53, 54, 55, 56, 57] = 3421780262 := by decide +kernel

end Go.Proofs.Ytideanaecmoimaa
