/-
  Layer 6 (lex): the program's Next. By the verifier.
-/
import Derived.Test.YtmgohahjocdeeaaDoorTTk2
set_option linter.unusedVariables false
namespace Go.Proofs.YtmgohahjocdeeaaDoor
open Go.RowKit

theorem Kp.set {W w : World} {B g : Nat} {K : List (Nat × Obj)} {cs : Array Value} {t : TypeId} (h : Kp W B ((g, .cells cs t (0, 0)) :: K) w) (hg : ∀ x ∈ K, x.1 ≠ g) (i : Nat) (v : Value) : Kp W B ((g, .cells (cs.setIfInBounds i v) t (0, 0)) :: K) (w.setCell ⟨g, i, none⟩ v) := by
  have hgr := h.rows _ (List.mem_cons_self ..)
  have hge := h.ge _ (List.mem_cons_self ..)
  refine ⟨fun x hx => ?_, fun x hx => ?_, fun x hx => ?_, h.sole.ownCell hge i v, by simpa using h.lt⟩
  · rcases List.mem_cons.1 hx with rfl | hx
    · exact heap_setCell_same _ _ _ _ _ _ hgr
    · rw [heap_setCell_other _ ⟨g, i, none⟩ x.1 _ (hg x hx)]
      exact h.rows x (List.mem_cons_of_mem _ hx)
  · rcases List.mem_cons.1 hx with rfl | hx
    · exact h.ne (g, .cells cs t (0, 0)) (List.mem_cons_self ..)
    · exact h.ne x (List.mem_cons_of_mem _ hx)
  · rcases List.mem_cons.1 hx with rfl | hx
    · exact hge
    · exact h.ge x (List.mem_cons_of_mem _ hx)

/-- Both results written, cell by cell. -/
theorem Kp.both {W w : World} {B g h : Nat} {t u : TypeId} {x0 x1 x2 x3 x4 y0 y1 y2 : Value} (hk : Kp W B [(g, .cells #[x0, x1, x2, x3, x4] t (0, 0)), (h, .cells #[y0, y1, y2] u (0, 0))] w) (hne : g ≠ h) (a b c d e p q r : Value) :
    Kp W B [(h, .cells #[p, q, r] u (0, 0)), (g, .cells #[a, b, c, d, e] t (0, 0))] ((((((((w.setCell ⟨g, 0, none⟩ a).setCell ⟨g, 1, none⟩ b).setCell ⟨g, 2, none⟩ c).setCell ⟨g, 3, none⟩ d).setCell ⟨g, 4, none⟩ e).setCell ⟨h, 0, none⟩ p).setCell ⟨h, 1, none⟩ q).setCell ⟨h, 2, none⟩ r) := by
  have h1 := (((((hk.set (by simp; omega) 0 a).set (by simp; omega) 1 b).set (by simp; omega) 2 c).set (by simp; omega) 3 d).set (by simp; omega) 4 e)
  have h2 := h1.sub (K' := [(h, .cells #[y0, y1, y2] u (0, 0)), (g, .cells #[a, b, c, d, e] t (0, 0))]) (by
    intro x hx
    simp only [List.mem_cons, List.not_mem_nil, or_false] at hx
    rcases hx with rfl | rfl
    · exact List.mem_cons_of_mem _ (List.mem_cons_self ..)
    · exact List.mem_cons_self ..)
  exact (((h2.set (by simp; omega) 0 p).set (by simp; omega) 1 q).set (by simp; omega) 2 r)

/-- What lex.Next answers. -/
def PnP (W : World) (l : List Nat) (q : Nat) (R : Rd) (e : Ending) (w' : World) : Prop :=
  (R.code = 0 → e = .returned (.tuple #[.agg (tokA ⟨R.kind, R.text, R.val, (placeV l q).1, (placeV l q).2⟩), .int .i64 ((q + R.len : Nat) : Int), .agg (faultA 0 0 0)])) ∧
  (R.code ≠ 0 → e = .returned (.tuple #[.agg zeroT, .int .i64 0, .agg (faultA R.code (placeV l q).1 (placeV l q).2)])) ∧ Below W.heap.size W w'

set_option maxHeartbeats 4000000 in
set_option maxRecDepth 20000 in
theorem pnext_ok (s : ByteArray) (l : List Nat) (hs : Str s l) (hm : l.length ≤ 2000000) (k : Nat) (hk : k ≤ l.length) (W : World) (hE : Env W) :
    Calls Tryd.prog 14 #[.string s, .int .i64 (k : Int), .int .i64 ((placeV l k).1 : Int), .int .i64 ((placeV l k).2 : Int)] W fun e w' => PnP W l (atV l k) (readL numV (l.drop (atV l k))) e w' := by
  have hsz : (s.size : Int) = (l.length : Int) := by have := hs.size; omega
  have c1 : ¬ (s.size : Int) < (k : Int) := by omega
  have hkx : Kp W (W.heap.size + 2) [(W.heap.size + 1, .cells zeroF 26), (W.heap.size, .cells zeroT 39)] (((W.alloc (.cells zeroT 39)).alloc (.cells zeroF 26)).alloc (.cells #[.int .i64 ((placeV l k).1 : Int), .int .i64 ((placeV l k).2 : Int), .string s, .int .i64 (k : Int)] 61)) := by
    have b1 : Below W.heap.size W (W.alloc (.cells zeroT 39)) := (Below.refl _ _).alloc (Nat.le_refl _) _
    have b2 := b1.alloc b1.size (.cells zeroF 26)
    have b3 := b2.alloc b2.size (.cells #[.int .i64 ((placeV l k).1 : Int), .int .i64 ((placeV l k).2 : Int), .string s, .int .i64 (k : Int)] 61)
    have r1 := rw_row W zeroT zeroF 39 26
    have r2 := rw_two W zeroT zeroF 39 26
    have st : Below ((W.alloc (.cells zeroT 39)).alloc (.cells zeroF 26)).heap.size ((W.alloc (.cells zeroT 39)).alloc (.cells zeroF 26)) (((W.alloc (.cells zeroT 39)).alloc (.cells zeroF 26)).alloc (.cells #[.int .i64 ((placeV l k).1 : Int), .int .i64 ((placeV l k).2 : Int), .string s, .int .i64 (k : Int)] 61)) := (Below.refl _ _).alloc (Nat.le_refl _) _
    refine ⟨fun x hx => ?_, fun x hx => ?_, fun x hx => ?_, Sole.of_below (N := 0) b3, by simp⟩
    · simp only [List.mem_cons, List.not_mem_nil, or_false] at hx
      rcases hx with rfl | rfl
      · rw [st.block _ (heap_lt r2)]; exact r2
      · rw [st.block _ (heap_lt r1)]; exact r1
    · simp only [List.mem_cons, List.not_mem_nil, or_false] at hx
      rcases hx with rfl | rfl
      · show W.heap.size + 1 ≠ W.heap.size + 2; omega
      · show W.heap.size ≠ W.heap.size + 2; omega
    · simp only [List.mem_cons, List.not_mem_nil, or_false] at hx
      rcases hx with rfl | rfl
      · show W.heap.size ≤ W.heap.size + 1; omega
      · exact Nat.le_refl _
  have hcx := new_cur ((W.alloc (.cells zeroT 39)).alloc (.cells zeroF 26)) s (placeV l k).1 (placeV l k).2 k
  have hsx : ((W.alloc (.cells zeroT 39)).alloc (.cells zeroF 26)).heap.size = W.heap.size + 2 := by simp
  rw [hsx] at hcx
  obtain ⟨X, hX⟩ : ∃ X, X = (((W.alloc (.cells zeroT 39)).alloc (.cells zeroF 26)).alloc (.cells #[.int .i64 ((placeV l k).1 : Int), .int .i64 ((placeV l k).2 : Int), .string s, .int .i64 (k : Int)] 61)) := ⟨_, rfl⟩
  rw [← hX] at hkx hcx
  obtain ⟨B, hB⟩ : ∃ B, B = W.heap.size + 1 + 1 := ⟨_, rfl⟩
  rw [show W.heap.size + 2 = B from hB.symm] at hkx hcx
  have hq := atV_le hk
  have hnx := next_ok s l hs hm k B hk X hcx ⟨W, hE, by omega, hkx.sole.below (N := W.heap.size) (by omega) (Nat.le_refl _)⟩
  generalize atV l k = q at *
  generalize readL numV (l.drop q) = R at *
  obtain ⟨rc, rk, rt, rv, rl⟩ := R
  obtain ⟨p, hp⟩ : ∃ p, p = placeV l q := ⟨_, rfl⟩
  unfold NxP at hnx
  unfold PnP
  rw [← hp] at hnx ⊢
  obtain ⟨pa, pb⟩ := p
  have HNX := Lib.hid hnx
  have HK := Lib.hid hkx
  have HX := Lib.hid (show (((W.alloc (.cells #[.int .i64 0, .string ⟨#[]⟩, .int .u64 0, .int .i64 0, .int .i64 0] 39)).alloc (.cells #[.int .i64 0, .int .i64 0, .int .i64 0] 26)).alloc (.cells #[.int .i64 ((placeV l k).1 : Int), .int .i64 ((placeV l k).2 : Int), .string s, .int .i64 (k : Int)] 61)) = X from hX.symm)
  have HBW := Lib.hid hB
  generalize placeV l k = p0 at *
  obtain ⟨p0a, p0b⟩ := p0
  clear hs hm hk hsz hE hkx hcx hsx hX hB hq hnx hp
  by_cases h0 : rc = 0
  · subst h0
    have HN0 := Lib.hid (HNX.out.mono fun e w' h => And.intro (h.1 rfl).1 (And.intro (h.1 rfl).2 h.2.2))
    clear HNX
    go_enter Tryd.func14, Tryd.ntmps14
    go_wp2_with fail
    rw [HX.out, ← HBW.out]
    refine HN0.out.mono ?_
    rintro e w3 ⟨rfl, hcu, hso⟩
    have hK3 := HK.out.turn hso
    have HK3 := Lib.hid hK3
    unfold tokA faultA
    obtain ⟨Y, hY⟩ : ∃ Y, Y = (w3.alloc (.cells #[.int .i64 (rk : Int), .string (strB rt), .int .u64 rv, .int .i64 (pa : Int), .int .i64 (pb : Int)] 39)).alloc (.cells #[.int .i64 0, .int .i64 0, .int .i64 0] 26) := ⟨_, rfl⟩
    have hs1 : (w3.alloc (.cells #[.int .i64 (rk : Int), .string (strB rt), .int .u64 rv, .int .i64 (pa : Int), .int .i64 (pb : Int)] 39)).heap.size = w3.heap.size + 1 := by simp
    have hky := (hK3.add (.cells #[.int .i64 (rk : Int), .string (strB rt), .int .u64 rv, .int .i64 (pa : Int), .int .i64 (pb : Int)] 39)).add (.cells #[.int .i64 0, .int .i64 0, .int .i64 0] 26)
    rw [hs1, ← hY] at hky
    have y0 : Y.cell? ⟨w3.heap.size, 0, none⟩ = some (.int .i64 (rk : Int)) := hky.cell (List.mem_cons_of_mem _ (List.mem_cons_self ..)) 0
    have y1 : Y.cell? ⟨w3.heap.size, 1, none⟩ = some (.string (strB rt)) := hky.cell (List.mem_cons_of_mem _ (List.mem_cons_self ..)) 1
    have y2 : Y.cell? ⟨w3.heap.size, 2, none⟩ = some (.int .u64 rv) := hky.cell (List.mem_cons_of_mem _ (List.mem_cons_self ..)) 2
    have y3 : Y.cell? ⟨w3.heap.size, 3, none⟩ = some (.int .i64 (pa : Int)) := hky.cell (List.mem_cons_of_mem _ (List.mem_cons_self ..)) 3
    have y4 : Y.cell? ⟨w3.heap.size, 4, none⟩ = some (.int .i64 (pb : Int)) := hky.cell (List.mem_cons_of_mem _ (List.mem_cons_self ..)) 4
    have hbd : Below w3.heap.size w3 Y := by
      have b1 : Below w3.heap.size w3 (w3.alloc (.cells #[.int .i64 (rk : Int), .string (strB rt), .int .u64 rv, .int .i64 (pa : Int), .int .i64 (pb : Int)] 39)) := (Below.refl _ _).alloc (Nat.le_refl _) _
      rw [hY]; exact b1.alloc b1.size _
    have hcy := hcu.below hbd
    have z3 : Y.cell? ⟨B, 3, none⟩ = some (.int .i64 ((q + rl : Nat) : Int)) := hcy.c3
    have hly := hcy.lt
    clear hbd hcy hcu
    have hkt := hky.sub (K' := [(W.heap.size, .cells zeroT 39), (W.heap.size + 1, .cells zeroF 26)]) (by simp)
    have g0 : Y.cell? ⟨W.heap.size, 0, none⟩ = some (.int .i64 0) := hkt.cell (List.mem_cons_self ..) 0
    have i0 : Y.frozen? ⟨W.heap.size, 0, none⟩ = false := hkt.free (List.mem_cons_self ..) 0
    have g1 : Y.cell? ⟨W.heap.size, 1, none⟩ = some (.string ⟨#[]⟩) := hkt.cell (List.mem_cons_self ..) 1
    have i1 : Y.frozen? ⟨W.heap.size, 1, none⟩ = false := hkt.free (List.mem_cons_self ..) 1
    have g2 : Y.cell? ⟨W.heap.size, 2, none⟩ = some (.int .u64 0) := hkt.cell (List.mem_cons_self ..) 2
    have i2 : Y.frozen? ⟨W.heap.size, 2, none⟩ = false := hkt.free (List.mem_cons_self ..) 2
    have g3 : Y.cell? ⟨W.heap.size, 3, none⟩ = some (.int .i64 0) := hkt.cell (List.mem_cons_self ..) 3
    have i3 : Y.frozen? ⟨W.heap.size, 3, none⟩ = false := hkt.free (List.mem_cons_self ..) 3
    have g4 : Y.cell? ⟨W.heap.size, 4, none⟩ = some (.int .i64 0) := hkt.cell (List.mem_cons_self ..) 4
    have i4 : Y.frozen? ⟨W.heap.size, 4, none⟩ = false := hkt.free (List.mem_cons_self ..) 4
    have k0 : Y.cell? ⟨W.heap.size + 1, 0, none⟩ = some (.int .i64 0) := hkt.cell (List.mem_cons_of_mem _ (List.mem_cons_self ..)) 0
    have j0 : Y.frozen? ⟨W.heap.size + 1, 0, none⟩ = false := hkt.free (List.mem_cons_of_mem _ (List.mem_cons_self ..)) 0
    have k1 : Y.cell? ⟨W.heap.size + 1, 1, none⟩ = some (.int .i64 0) := hkt.cell (List.mem_cons_of_mem _ (List.mem_cons_self ..)) 1
    have j1 : Y.frozen? ⟨W.heap.size + 1, 1, none⟩ = false := hkt.free (List.mem_cons_of_mem _ (List.mem_cons_self ..)) 1
    have k2 : Y.cell? ⟨W.heap.size + 1, 2, none⟩ = some (.int .i64 0) := hkt.cell (List.mem_cons_of_mem _ (List.mem_cons_self ..)) 2
    have j2 : Y.frozen? ⟨W.heap.size + 1, 2, none⟩ = false := hkt.free (List.mem_cons_of_mem _ (List.mem_cons_self ..)) 2
    have HY := Lib.hid hY.symm
    have HK4 := Lib.hid ((hkt.both (by omega) (.int .i64 (rk : Int)) (.string (strB rt)) (.int .u64 rv) (.int .i64 (pa : Int)) (.int .i64 (pb : Int)) (.int .i64 0) (.int .i64 0) (.int .i64 0)).more (Below.refl _ _).drew)
    clear hK3 hs1 hky hY hkt hso
    go_wp2_with fail
    rw [HY.out]
    have hn0 : ¬ B = W.heap.size := by have := HBW.out; omega
    have hn1 : ¬ B = W.heap.size + 1 := by have := HBW.out; omega
    have hn2 : ¬ W.heap.size = B := by have := HBW.out; omega
    have hn3 : ¬ W.heap.size + 1 = B := by have := HBW.out; omega
    obtain ⟨Z, hZ⟩ : ∃ Z, Z = ((((((((Y.setCell ⟨W.heap.size, 0, none⟩ (.int .i64 (rk : Int))).setCell ⟨W.heap.size, 1, none⟩ (.string (strB rt))).setCell ⟨W.heap.size, 2, none⟩ (.int .u64 rv)).setCell ⟨W.heap.size, 3, none⟩ (.int .i64 (pa : Int))).setCell ⟨W.heap.size, 4, none⟩ (.int .i64 (pb : Int))).setCell ⟨W.heap.size + 1, 0, none⟩ (.int .i64 0)).setCell ⟨W.heap.size + 1, 1, none⟩ (.int .i64 0)).setCell ⟨W.heap.size + 1, 2, none⟩ (.int .i64 0)).drew := ⟨_, rfl⟩
    rw [← hZ] at HK4
    have HZ := Lib.hid hZ.symm
    clear hZ
    go_region
    go_wp2_with fail
    rw [HZ.out]
    refine bodyPost_ret (v := .tuple #[.agg #[.int .i64 (rk : Int), .string (strB rt), .int .u64 rv, .int .i64 (pa : Int), .int .i64 (pb : Int)], .int .i64 ((q + rl : Nat) : Int), .agg #[.int .i64 0, .int .i64 0, .int .i64 0]]) ?_ rfl ⟨fun _ => rfl, fun h => absurd rfl h, HK4.out.sole.below (N := W.heap.size) (by have := HBW.out; omega) (Nat.le_refl _)⟩
    refine results_ctc rfl _ _ _ _ _ _ _ rfl rfl rfl ?_ ?_
    · exact resT _ _ (HK4.out.rows _ (List.mem_cons_of_mem _ (List.mem_cons_self ..))) rfl
    · exact resF _ _ (HK4.out.rows _ (List.mem_cons_self ..)) rfl
  · have HN1 := Lib.hid (HNX.out.mono fun e w' h => And.intro (h.2.1 h0) h.2.2)
    have e0 : ((rc : Int) != 0) = true := ne_bne h0 0 rfl
    have e1 : ((rc : Int) == 0) = false := ne_beq h0 0 rfl
    have H0 := Lib.hid h0
    clear HNX h0
    go_enter Tryd.func14, Tryd.ntmps14
    go_wp2_with fail
    rw [HX.out, ← HBW.out]
    refine HN1.out.mono ?_
    rintro e w3 ⟨rfl, hso⟩
    have hK3 := HK.out.turn hso
    have HK3 := Lib.hid hK3
    unfold zeroT faultA
    obtain ⟨Y, hY⟩ : ∃ Y, Y = (w3.alloc (.cells #[.int .i64 0, .string ⟨#[]⟩, .int .u64 0, .int .i64 0, .int .i64 0] 39)).alloc (.cells #[.int .i64 (rc : Int), .int .i64 (pa : Int), .int .i64 (pb : Int)] 26) := ⟨_, rfl⟩
    have hs1 : (w3.alloc (.cells #[.int .i64 0, .string ⟨#[]⟩, .int .u64 0, .int .i64 0, .int .i64 0] 39)).heap.size = w3.heap.size + 1 := by simp
    have hky := (hK3.add (.cells #[.int .i64 0, .string ⟨#[]⟩, .int .u64 0, .int .i64 0, .int .i64 0] 39)).add (.cells #[.int .i64 (rc : Int), .int .i64 (pa : Int), .int .i64 (pb : Int)] 26)
    rw [hs1, ← hY] at hky
    have y0 : Y.cell? ⟨w3.heap.size + 1, 0, none⟩ = some (.int .i64 (rc : Int)) := hky.cell (List.mem_cons_self ..) 0
    have y1 : Y.cell? ⟨w3.heap.size + 1, 1, none⟩ = some (.int .i64 (pa : Int)) := hky.cell (List.mem_cons_self ..) 1
    have y2 : Y.cell? ⟨w3.heap.size + 1, 2, none⟩ = some (.int .i64 (pb : Int)) := hky.cell (List.mem_cons_self ..) 2
    have hkt := hky.sub (K' := [(W.heap.size, .cells zeroT 39), (W.heap.size + 1, .cells zeroF 26)]) (by simp)
    have g0 : Y.cell? ⟨W.heap.size, 0, none⟩ = some (.int .i64 0) := hkt.cell (List.mem_cons_self ..) 0
    have i0 : Y.frozen? ⟨W.heap.size, 0, none⟩ = false := hkt.free (List.mem_cons_self ..) 0
    have g1 : Y.cell? ⟨W.heap.size, 1, none⟩ = some (.string ⟨#[]⟩) := hkt.cell (List.mem_cons_self ..) 1
    have i1 : Y.frozen? ⟨W.heap.size, 1, none⟩ = false := hkt.free (List.mem_cons_self ..) 1
    have g2 : Y.cell? ⟨W.heap.size, 2, none⟩ = some (.int .u64 0) := hkt.cell (List.mem_cons_self ..) 2
    have i2 : Y.frozen? ⟨W.heap.size, 2, none⟩ = false := hkt.free (List.mem_cons_self ..) 2
    have g3 : Y.cell? ⟨W.heap.size, 3, none⟩ = some (.int .i64 0) := hkt.cell (List.mem_cons_self ..) 3
    have i3 : Y.frozen? ⟨W.heap.size, 3, none⟩ = false := hkt.free (List.mem_cons_self ..) 3
    have g4 : Y.cell? ⟨W.heap.size, 4, none⟩ = some (.int .i64 0) := hkt.cell (List.mem_cons_self ..) 4
    have i4 : Y.frozen? ⟨W.heap.size, 4, none⟩ = false := hkt.free (List.mem_cons_self ..) 4
    have k0 : Y.cell? ⟨W.heap.size + 1, 0, none⟩ = some (.int .i64 0) := hkt.cell (List.mem_cons_of_mem _ (List.mem_cons_self ..)) 0
    have j0 : Y.frozen? ⟨W.heap.size + 1, 0, none⟩ = false := hkt.free (List.mem_cons_of_mem _ (List.mem_cons_self ..)) 0
    have k1 : Y.cell? ⟨W.heap.size + 1, 1, none⟩ = some (.int .i64 0) := hkt.cell (List.mem_cons_of_mem _ (List.mem_cons_self ..)) 1
    have j1 : Y.frozen? ⟨W.heap.size + 1, 1, none⟩ = false := hkt.free (List.mem_cons_of_mem _ (List.mem_cons_self ..)) 1
    have k2 : Y.cell? ⟨W.heap.size + 1, 2, none⟩ = some (.int .i64 0) := hkt.cell (List.mem_cons_of_mem _ (List.mem_cons_self ..)) 2
    have j2 : Y.frozen? ⟨W.heap.size + 1, 2, none⟩ = false := hkt.free (List.mem_cons_of_mem _ (List.mem_cons_self ..)) 2
    have HY := Lib.hid hY.symm
    have HK4 := Lib.hid ((hkt.both (by omega) (.int .i64 0) (.string ⟨#[]⟩) (.int .u64 0) (.int .i64 0) (.int .i64 0) (.int .i64 (rc : Int)) (.int .i64 (pa : Int)) (.int .i64 (pb : Int))).more (Below.refl _ _).drew)
    clear hK3 hs1 hky hY hkt hso
    go_wp2_with fail
    rw [HY.out]
    have hn0 : ¬ W.heap.size = w3.heap.size + 1 := by have := HK3.out.size (W.heap.size, _) (List.mem_cons_of_mem _ (List.mem_cons_self ..)); have h2 : W.heap.size < w3.heap.size := this; omega
    have hn1 : ¬ W.heap.size + 1 = w3.heap.size + 1 := by have := HK3.out.size (W.heap.size, _) (List.mem_cons_of_mem _ (List.mem_cons_self ..)); have h2 : W.heap.size < w3.heap.size := this; omega
    have hn2 : ¬ w3.heap.size + 1 = W.heap.size := fun e => hn0 e.symm
    have hn3 : ¬ w3.heap.size + 1 = W.heap.size + 1 := fun e => hn1 e.symm
    obtain ⟨Z, hZ⟩ : ∃ Z, Z = ((((((((Y.setCell ⟨W.heap.size, 0, none⟩ (.int .i64 0)).setCell ⟨W.heap.size, 1, none⟩ (.string ⟨#[]⟩)).setCell ⟨W.heap.size, 2, none⟩ (.int .u64 0)).setCell ⟨W.heap.size, 3, none⟩ (.int .i64 0)).setCell ⟨W.heap.size, 4, none⟩ (.int .i64 0)).setCell ⟨W.heap.size + 1, 0, none⟩ (.int .i64 (rc : Int))).setCell ⟨W.heap.size + 1, 1, none⟩ (.int .i64 (pa : Int))).setCell ⟨W.heap.size + 1, 2, none⟩ (.int .i64 (pb : Int))).drew := ⟨_, rfl⟩
    rw [← hZ] at HK4
    have HZ := Lib.hid hZ.symm
    clear hZ
    go_region
    go_wp2_with fail
    rw [HZ.out]
    refine bodyPost_ret (v := .tuple #[.agg #[.int .i64 0, .string ⟨#[]⟩, .int .u64 0, .int .i64 0, .int .i64 0], .int .i64 0, .agg #[.int .i64 (rc : Int), .int .i64 (pa : Int), .int .i64 (pb : Int)]]) ?_ rfl ⟨fun h => absurd h H0.out, fun _ => rfl, HK4.out.sole.below (N := W.heap.size) (by have := HBW.out; omega) (Nat.le_refl _)⟩
    refine results_ctc rfl _ _ _ _ _ _ _ rfl rfl rfl ?_ ?_
    · exact resT _ _ (HK4.out.rows _ (List.mem_cons_of_mem _ (List.mem_cons_self ..))) rfl
    · exact resF _ _ (HK4.out.rows _ (List.mem_cons_self ..)) rfl

end Go.Proofs.YtmgohahjocdeeaaDoor
