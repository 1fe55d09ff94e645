/-
  The plain facts of layer 2: the register moved backward. By the verifier.
-/
import Derived.Test.YtideanaecmoimaaCMath
set_option linter.unusedVariables false
namespace Go.Proofs.Ytideanaecmoimaa

/-- The index whose element was combined. -/
def ix (r : Nat) : Nat := idx (r / 16777216)
/-- A byte given back by the register. -/
def un (r x : Nat) : Nat := 256 * (r ^^^ E (ix r)) + (ix r ^^^ x)

theorem ix_lt {r : Nat} (hr : r < 4294967296) : ix r < 256 := (idx_right _ (by omega)).2

theorem top_zero {r : Nat} (hr : r < 4294967296) : r ^^^ E (ix r) < 16777216 := by
  have h := (idx_right (r / 16777216) (by omega)).1
  have hd : (r ^^^ E (ix r)) / 2 ^ 24 = 0 := by
    rw [xor_div_pow]
    show r / 16777216 ^^^ E (idx (r / 16777216)) / 16777216 = 0
    rw [h, Nat.xor_self]
  have hl := xor_lt32 hr (E_lt (ix_lt hr))
  omega

theorem un_lt {r x : Nat} (hr : r < 4294967296) (hx : x < 256) : un r x < 4294967296 := by
  unfold un
  have := top_zero hr
  have := xor_lt8 (ix_lt hr) hx
  omega

theorem upd_un {r x : Nat} (hr : r < 4294967296) (hx : x < 256) : upd (un r x) x = r := by
  have ht := top_zero hr
  have hi := xor_lt8 (ix_lt hr) hx
  rw [upd_table]
  have h1 : un r x / 256 = r ^^^ E (ix r) := by unfold un; omega
  have h2 : un r x % 256 = ix r ^^^ x := by unfold un; omega
  rw [h1, h2, Nat.xor_assoc (ix r), Nat.xor_self, Nat.xor_zero, Nat.xor_assoc, Nat.xor_self, Nat.xor_zero]

theorem un_upd {v x : Nat} (hv : v < 4294967296) (hx : x < 256) : un (upd v x) x = v := by
  have h := upd_un (upd_lt hv hx) hx
  have hu := un_lt (upd_lt hv hx) hx
  have e : stk 8 (un (upd v x) x ^^^ x) = stk 8 (v ^^^ x) := h
  have e2 := stk_inj 8 (xor_lt32 hu (by omega)) (xor_lt32 hv (by omega)) e
  have := congrArg (· ^^^ x) e2
  simpa [Nat.xor_assoc] using this

/-- Bytes given back, from the last on. -/
def unf (v : Nat) (l : List Nat) : Nat := l.foldr (fun x r => un r x) v

theorem unf_lt {v : Nat} (hv : v < 4294967296) : ∀ {l : List Nat}, Bs l → unf v l < 4294967296 := by
  intro l
  induction l with
  | nil => exact fun _ => hv
  | cons x l ih => exact fun h => un_lt (ih fun y hy => h y (List.mem_cons_of_mem _ hy)) (h x (List.mem_cons_self ..))

theorem unf_step (v : Nat) (l : List Nat) (k : Nat) (h : k < l.length) : unf v (l.drop k) = un (unf v (l.drop (k + 1))) (l.getD k 0) := by
  have e : l.getD k 0 = l[k] := by simp [List.getD, h]
  rw [List.drop_eq_getElem_cons h, e]
  rfl

theorem fo_unf {v : Nat} (hv : v < 4294967296) : ∀ {l : List Nat}, Bs l → fo (unf v l) l = v := by
  intro l
  induction l with
  | nil => exact fun _ => rfl
  | cons x l ih =>
    intro h
    have hb : Bs l := fun y hy => h y (List.mem_cons_of_mem _ hy)
    show fo (upd (un (unf v l) x) x) l = v
    rw [upd_un (unf_lt hv hb) (h x (List.mem_cons_self ..)), ih hb]

theorem unf_fo {v : Nat} (hv : v < 4294967296) : ∀ {l : List Nat}, Bs l → unf (fo v l) l = v := by
  intro l
  induction l generalizing v with
  | nil => exact fun _ => rfl
  | cons x l ih =>
    intro h
    have hb : Bs l := fun y hy => h y (List.mem_cons_of_mem _ hy)
    show un (unf (fo (upd v x) l) l) x = v
    rw [ih (upd_lt hv (h x (List.mem_cons_self ..))) hb, un_upd hv (h x (List.mem_cons_self ..))]

/-- What Forge puts in the place of the four bytes between p and s. -/
def forged (p s : List Nat) (sum : Nat) : Nat := fo 4294967295 p ^^^ unf (unf (4294967295 ^^^ sum) s) [0, 0, 0, 0]

theorem zeros_bs : Bs [0, 0, 0, 0] := by
  intro x hx
  simp at hx
  omega

theorem forged_lt {p s : List Nat} {sum : Nat} (hp : Bs p) (hs : Bs s) (h : sum < 4294967296) : forged p s sum < 4294967296 :=
  xor_lt32 (fo_lt (by omega) hp) (unf_lt (unf_lt (xor_lt32 (by omega) h) hs) zeros_bs)

theorem fo_zeros (v : Nat) : fo v [0, 0, 0, 0] = stk 32 v := by
  have := fo_four v 0 0 0 0 (by omega) (by omega) (by omega)
  simpa using this

/-- The result has the checksum. -/
theorem forged_crc {p s : List Nat} {sum : Nat} (hp : Bs p) (hs : Bs s) (h : sum < 4294967296) : crc (p ++ (le (forged p s sum) ++ s)) = sum := by
  have hn : 4294967295 ^^^ sum < 4294967296 := xor_lt32 (by omega) h
  have hu := unf_lt hn hs
  unfold crc
  rw [fo_append, fo_append, fo_le _ _ (forged_lt hp hs h)]
  unfold forged
  rw [← Nat.xor_assoc, Nat.xor_self, Nat.zero_xor, ← fo_zeros, fo_unf hu zeros_bs, fo_unf hn hs, not_not]

/-- Bytes that have the checksum are what Forge makes of them. -/
theorem forged_once {p t s : List Nat} (hp : Bs p) (ht : Bs t) (h4 : t.length = 4) (hs : Bs s) : le (forged p s (crc (p ++ (t ++ s)))) = t := by
  obtain ⟨d, hd, rfl⟩ := le_of t ht h4
  congr 1
  unfold forged crc
  rw [not_not, fo_append, fo_append, fo_le _ _ hd]
  have hv := fo_lt (v := 4294967295) (by omega) hp
  have hx := xor_lt32 hv hd
  rw [unf_fo (stk_lt 32 hx) hs, ← fo_zeros, unf_fo hx zeros_bs, ← Nat.xor_assoc, Nat.xor_self, Nat.zero_xor]

end Go.Proofs.Ytideanaecmoimaa
