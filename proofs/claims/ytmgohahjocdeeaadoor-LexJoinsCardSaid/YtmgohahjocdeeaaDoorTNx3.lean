/-
  Layer 6 (lex): the cursor's next, walked. By the verifier.
-/
import Derived.Test.YtmgohahjocdeeaaDoorTNx2
set_option linter.unusedVariables false
namespace Go.Proofs.YtmgohahjocdeeaaDoor
open Go.RowKit

def zeroF : Array Value := #[.int .i64 0, .int .i64 0, .int .i64 0]
def zeroP : Array Value := #[.int .i64 0, .int .i64 0]

set_option maxHeartbeats 4000000 in
set_option maxRecDepth 20000 in
theorem next_ok (s : ByteArray) (l : List Nat) (hs : Str s l) (hm : l.length ≤ 2000000) (k B : Nat) (hk : k ≤ l.length) (W : World) (h : Cur W B (placeV l k) s k) (hE : EnvAt B W) :
    Calls Tryd.prog 21 #[.pointer (some ⟨B, 0, none⟩)] W fun e w' => NxP W B s l (atV l k) (readL numV (l.drop (atV l k))) e w' := by
  have hq := atV_le hk
  obtain ⟨q, hqe⟩ : ∃ q, q = atV l k := ⟨_, rfl⟩
  rw [← hqe] at hq ⊢
  obtain ⟨R, hR⟩ : ∃ R, R = readL numV (l.drop q) := ⟨_, rfl⟩
  rw [← hR]
  obtain ⟨F, hF⟩ : ∃ F, F = choF (l.drop q) := ⟨_, rfl⟩
  obtain ⟨W2, hW2⟩ : ∃ W2, W2 = (W.alloc (.cells zeroT 39)).alloc (.cells zeroF 26) := ⟨_, rfl⟩
  have hbox : (W.alloc (.cells #[.int .i64 0, .string ⟨#[]⟩, .int .u64 0, .int .i64 0, .int .i64 0] 39)).alloc (.cells #[.int .i64 0, .int .i64 0, .int .i64 0] 26) = W2 := hW2.symm
  have hs1 : (W.alloc (.cells zeroT 39)).heap.size = W.heap.size + 1 := by simp
  have hk0 : Kp W B [] W := ⟨fun x hx => by simp at hx, fun x hx => by simp at hx, fun x hx => by simp at hx, Sole.refl _ _, h.lt⟩
  have hk2 := (hk0.add (.cells zeroT 39)).add (.cells zeroF 26)
  rw [hs1, ← hW2] at hk2
  have hb2 : Below W.heap.size W W2 := by
    have hb1 : Below W.heap.size W (W.alloc (.cells zeroT 39)) := (Below.refl _ _).alloc (Nat.le_refl _) _
    rw [hW2]; exact hb1.alloc hb1.size _
  have hc2 := h.below hb2
  have HS : Hid (Calls Tryd.prog 41 #[.pointer (some ⟨B, 0, none⟩)] W2 fun e w' => e = .returned (.tuple #[]) ∧ MoveP W2 B (placeV l q) s q w') := Lib.hid (by rw [hqe]; exact pskip_ok s l hs hm k B hk W2 hc2)
  have HCH : Hid (∀ X, Cur X B (placeV l q) s q → Calls Tryd.prog 42 #[.pointer (some ⟨B, 0, none⟩)] X fun e w' => e = .returned (.func (.func F) #[.pointer (some ⟨B, 0, none⟩)] #[]) ∧ MoveP X B (placeV l q) s q w') :=
    Lib.hid fun X hX => by rw [hF]; exact choose_ok s l hs q B hq.2 X hX
  have HRD : Hid (∀ X, Cur X B (placeV l q) s q → EnvAt B X → Calls Tryd.prog F #[.pointer (some ⟨B, 0, none⟩)] X fun e w' => RdP X B s l q R e w') :=
    Lib.hid fun X hX hEX => by rw [hF, hR]; exact cho_read s l hs hm q B hq.2 X hX hEX
  have hen : ∀ args w, (callFunc F args).run Tryd.prog w = .ok (.enter F args) w := by rw [hF]; exact cho_enters _
  have HE : Hid (∀ X, Sole B W X → EnvAt B X) := Lib.hid fun X hX => hE.sole hX
  have HK2 := Lib.hid hk2
  have HC2 := Lib.hid hc2
  have HBL : Hid (B < W.heap.size) := Lib.hid h.lt
  generalize hpl : placeV l q = pl at *
  obtain ⟨pa, pb⟩ := pl
  have HPL := Lib.hid hpl
  obtain ⟨rc, rk, rt, rv, rl⟩ := R
  clear hW2 hs1 hk0 hk2 hb2 hc2 hs hm hk h hE hq hqe hR hF hpl
  go_enter Tryd.func21, Tryd.ntmps21
  go_wp2_with fail
  refine HS.out.mono ?_
  rintro e w3 ⟨rfl, hc3, hs3⟩
  have HK3 := Lib.hid (HK2.out.turn hs3)
  have HC3 := Lib.hid hc3
  have c0 : w3.cell? ⟨B, 0, none⟩ = some (.int .i64 (pa : Int)) := hc3.c0
  have c1 : w3.cell? ⟨B, 1, none⟩ = some (.int .i64 (pb : Int)) := hc3.c1
  have hb3 := hc3.lt
  clear hc3 hs3
  go_wp2_with (refine wpList_store_row rfl _ _ _ rfl w3.heap.size #[.int .i64 (pa : Int), .int .i64 (pb : Int)] rfl rfl _ _ (heap_alloc_new _ _) size2P rfl (pla_one _ _) ?_)
  obtain ⟨G, hG⟩ : ∃ G, G = w3.heap.size := ⟨_, rfl⟩
  obtain ⟨w4, hw4⟩ : ∃ w4, w4 = (w3.alloc (.cells #[.int .i64 0, .int .i64 0] 59)).setRow w3.heap.size #[.int .i64 (pa : Int), .int .i64 (pb : Int)] := ⟨_, rfl⟩
  rw [← hw4, ← hG]
  have hne3 : ∀ x ∈ [(W.heap.size + 1, Obj.cells zeroF 26), (W.heap.size, Obj.cells zeroT 39)], x.1 ≠ w3.heap.size := fun x hx => by have := HK3.out.size x hx; omega
  have HK4 : Hid (Kp W B [(G, .cells #[.int .i64 (pa : Int), .int .i64 (pb : Int)] 59), (W.heap.size + 1, .cells zeroF 26), (W.heap.size, .cells zeroT 39)] w4) := Lib.hid (by
    rw [hw4, hG]
    exact (HK3.out.add _).put hne3 _)
  have HC4 : Hid (Cur w4 B (pa, pb) s q) := Lib.hid (by
    rw [hw4]
    exact (HC3.out.below ((Below.refl _ _).alloc (Nat.le_refl _) _)).setRowOther (by omega) _)
  have HGW : Hid (W.heap.size + 1 < G) := Lib.hid (by rw [hG]; exact HK3.out.size _ (List.mem_cons_self ..))
  clear hw4 hG hne3 c0 c1 hb3
  refine (HCH.out w4 HC4.out).mono ?_
  rintro e w5 ⟨rfl, hc5, hs5⟩
  have HK5 := Lib.hid (HK4.out.turn hs5)
  have HC5 := Lib.hid hc5
  clear hc5 hs5
  go_wp2_with fail
  refine (HRD.out w5 HC5.out (HE.out w5 HK5.out.sole)).mono ?_
  rintro e w6 ⟨rfl, hc6, hs6⟩
  have HK6 := Lib.hid (HK5.out.turn hs6)
  have HC6 := Lib.hid hc6
  clear hc6 hs6
  have ht : tokA ⟨rk, rt, rv, 0, 0⟩ = #[.int .i64 (rk : Int), .string (strB rt), .int .u64 rv, .int .i64 0, .int .i64 0] := rfl
  rw [ht]
  clear ht
  generalize htv : strB rt = tv at *
  have HTV := Lib.hid htv
  clear htv
  obtain ⟨G6, hG6⟩ : ∃ G6, G6 = w6.heap.size := ⟨_, rfl⟩
  obtain ⟨w7, hw7⟩ : ∃ w7, w7 = w6.alloc (.cells #[.int .i64 (rk : Int), .string tv, .int .u64 rv, .int .i64 0, .int .i64 0] 39) := ⟨_, rfl⟩
  have HK7 : Hid (Kp W B [(G6, .cells #[.int .i64 (rk : Int), .string tv, .int .u64 rv, .int .i64 0, .int .i64 0] 39), (G, .cells #[.int .i64 (pa : Int), .int .i64 (pb : Int)] 59), (W.heap.size + 1, .cells zeroF 26), (W.heap.size, .cells zeroT 39)] w7) := Lib.hid (by
    rw [hw7, hG6]
    exact HK6.out.add _)
  have HC7 : Hid (rc = 0 → Cur w7 B (placeV l (q + rl)) s (q + rl)) := Lib.hid fun h0 => by
    rw [hw7]
    have hl6 := HK6.out.lt
    exact (HC6.out h0).below ((Below.refl _ _).alloc (Nat.le_refl _) _)
  have HG6 : Hid (G < G6) := Lib.hid (by rw [hG6]; exact HK6.out.size _ (List.mem_cons_self ..))
  have d0 : w7.cell? ⟨G, 0, none⟩ = some (.int .i64 (pa : Int)) := HK7.out.cell (List.mem_cons_of_mem _ (List.mem_cons_self ..)) 0
  have d1 : w7.cell? ⟨G, 1, none⟩ = some (.int .i64 (pb : Int)) := HK7.out.cell (List.mem_cons_of_mem _ (List.mem_cons_self ..)) 1
  by_cases h0 : rc = 0
  · subst h0
    have HX7 := Lib.hid hw7.symm
    have HSZ := Lib.hid hG6.symm
    clear hw7 hG6
    have d2 : w7.cell? ⟨G6, 3, none⟩ = some (.int .i64 0) := HK7.out.cell (List.mem_cons_self ..) 3
    have d3 : w7.cell? ⟨G6, 4, none⟩ = some (.int .i64 0) := HK7.out.cell (List.mem_cons_self ..) 4
    have f2 : w7.frozen? ⟨G6, 3, none⟩ = false := HK7.out.free (List.mem_cons_self ..) 3
    have f3 : w7.frozen? ⟨G6, 4, none⟩ = false := HK7.out.free (List.mem_cons_self ..) 4
    have hkd := (HK7.out.more (Below.refl _ _).drew)
    have HKT := Lib.hid (hkd.two (fun x hx => by
      have h1 := HG6.out
      have h2 := HGW.out
      simp only [List.mem_cons, List.not_mem_nil, or_false] at hx
      rcases hx with rfl | rfl | rfl
      · show G ≠ G6; omega
      · show W.heap.size + 1 ≠ G6; omega
      · show W.heap.size ≠ G6; omega) (.int .i64 (pa : Int)) (.int .i64 (pb : Int)))
    have hBne : B ≠ G6 := fun e => HK7.out.ne _ (List.mem_cons_self ..) e.symm
    have HC8 : Hid (Cur ((w7.drew.setCell ⟨G6, 3, none⟩ (.int .i64 (pa : Int))).setCell ⟨G6, 4, none⟩ (.int .i64 (pb : Int))) B (placeV l (q + rl)) s (q + rl)) := Lib.hid (Row.setOther (a := ⟨G6, 4, none⟩) (Row.setOther (a := ⟨G6, 3, none⟩) (show Cur w7.drew B (placeV l (q + rl)) s (q + rl) from HC7.out rfl) hBne (.int .i64 (pa : Int))) hBne (.int .i64 (pb : Int)))
    have hG6l : G6 < w7.heap.size := HK7.out.size _ (List.mem_cons_self ..)
    have hGl : G < w7.heap.size := Nat.lt_trans HG6.out hG6l
    clear hkd hBne
    go_wp2_with fail
    rw [HX7.out, HSZ.out]
    go_region
    change Exit.then _ _ _ _ ((w7.drew.setCell ⟨G6, 3, none⟩ (.int .i64 (pa : Int))).setCell ⟨G6, 4, none⟩ (.int .i64 (pb : Int)))
    obtain ⟨w8, hw8⟩ : ∃ w8, w8 = (w7.drew.setCell ⟨G6, 3, none⟩ (.int .i64 (pa : Int))).setCell ⟨G6, 4, none⟩ (.int .i64 (pb : Int)) := ⟨_, rfl⟩
    rw [← hw8] at HKT HC8 ⊢
    clear hw8
    have hk8 := HKT.out.1
    have HL8 : Hid (w8.heap[G6]? = some (.cells #[.int .i64 (rk : Int), .string tv, .int .u64 rv, .int .i64 (pa : Int), .int .i64 (pb : Int)] 39 (0, 0))) := Lib.hid (hk8.rows _ (List.mem_cons_self ..))
    have hk9 := hk8.sub (K' := [(W.heap.size, .cells zeroT 39), (W.heap.size + 1, .cells zeroF 26)]) (by simp)
    have HA8 : Hid (w8.heap[W.heap.size]? = some (.cells zeroT 39 (0, 0))) := Lib.hid (hk9.rows _ (List.mem_cons_self ..))
    have HC9 := Lib.hid (Row.setRowOther (g := W.heap.size) HC8.out (by have := HBL.out; omega) #[.int .i64 (rk : Int), .string tv, .int .u64 rv, .int .i64 (pa : Int), .int .i64 (pb : Int)])
    obtain ⟨w9, hw9⟩ : ∃ w9, w9 = w8.setRow W.heap.size #[.int .i64 (rk : Int), .string tv, .int .u64 rv, .int .i64 (pa : Int), .int .i64 (pb : Int)] := ⟨_, rfl⟩
    have hk10 := hk9.put (by simp) #[.int .i64 (rk : Int), .string tv, .int .u64 rv, .int .i64 (pa : Int), .int .i64 (pb : Int)]
    rw [← hw9] at hk10 HC9
    have HW9 : Hid (w8.setRow W.heap.size #[.int .i64 (rk : Int), .string tv, .int .u64 rv, .int .i64 (pa : Int), .int .i64 (pb : Int)] = w9) := Lib.hid hw9.symm
    have hk11 := hk10.sub (K' := [(W.heap.size + 1, .cells zeroF 26), (W.heap.size, .cells #[.int .i64 (rk : Int), .string tv, .int .u64 rv, .int .i64 (pa : Int), .int .i64 (pb : Int)] 39)]) (by simp)
    have HA9 : Hid (w9.heap[W.heap.size + 1]? = some (.cells zeroF 26 (0, 0))) := Lib.hid (hk11.rows _ (List.mem_cons_self ..))
    have HK12 := Lib.hid (hk11.put (by simp) zeroF)
    have HC12 := Lib.hid (Row.setRowOther (g := W.heap.size + 1) HC9.out (by have := HBL.out; omega) zeroF)
    clear hk8 hk9 hk10 hk11 hw9 HKT HC8 HC9
    go_wp2_with (first
      | (refine wpList_load_row rfl 39 _ rfl G6 rfl 39 #[.int .i64 (rk : Int), .string tv, .int .u64 rv, .int .i64 (pa : Int), .int .i64 (pb : Int)] (0, 0) _ HL8.out Tryd.underlying39 rfl size5T ?_)
      | (refine wpList_store_row rfl _ _ _ rfl W.heap.size #[.int .i64 (rk : Int), .string tv, .int .u64 rv, .int .i64 (pa : Int), .int .i64 (pb : Int)] rfl rfl _ _ HA8.out size5T rfl (tok_one _ _ _ _ _) ?_; rw [HW9.out])
      | (refine wpList_store_row rfl _ _ _ rfl (W.heap.size + 1) zeroF rfl rfl _ _ HA9.out size3F rfl (fau_one 0 0 0) ?_))
    refine bodyPost_ret (v := .tuple #[.agg #[.int .i64 (rk : Int), .string tv, .int .u64 rv, .int .i64 (pa : Int), .int .i64 (pb : Int)], .agg zeroF]) ?_ rfl ⟨fun _ => ⟨by rw [HPL.out, ← HTV.out]; rfl, HC12.out⟩, fun h => absurd rfl h, HK12.out.sole⟩
    refine results_cc rfl _ _ _ _ _ _ rfl rfl ?_ ?_
    · exact resT _ _ (HK12.out.rows _ (List.mem_cons_of_mem _ (List.mem_cons_self ..))) rfl
    · exact resF _ _ (HK12.out.rows _ (List.mem_cons_self ..)) rfl
  · have e1 : ((rc : Int) != 0) = true := ne_bne h0 0 rfl
    have e2 : ((rc : Int) == 0) = false := ne_beq h0 0 rfl
    have H0 := Lib.hid h0
    subst hw7
    subst hG6
    clear h0
    go_wp2_with (first
      | (go_at_call 23; refine (fault_ok (pa : Int) (pb : Int) (rc : Int) _).mono ?_; rintro e w8 ⟨rfl, hb8⟩; have HK8 := Lib.hid ((HK7.out.more hb8).sub (K' := [(W.heap.size, .cells zeroT 39), (W.heap.size + 1, .cells zeroF 26)]) (by simp)); have HK9 := Lib.hid ((HK8.out.put (by simp) zeroT).sub (K' := [(W.heap.size + 1, .cells zeroF 26), (W.heap.size, .cells zeroT 39)]) (by simp)); clear hb8)
      | (refine wpList_store_row rfl _ _ _ rfl W.heap.size zeroT rfl rfl _ _ (HK8.out.rows _ (List.mem_cons_self ..)) size5T rfl (tok_one 0 0 0 ⟨#[]⟩ 0) ?_)
      | (refine wpList_store_row rfl _ _ _ rfl (W.heap.size + 1) #[.int .i64 (rc : Int), .int .i64 (pa : Int), .int .i64 (pb : Int)] rfl rfl _ _ (HK9.out.rows _ (List.mem_cons_self ..)) size3F rfl (fau_one _ _ _) ?_))
    have HK10 := Lib.hid (HK9.out.put (by simp) #[.int .i64 (rc : Int), .int .i64 (pa : Int), .int .i64 (pb : Int)])
    refine bodyPost_ret (v := .tuple #[.agg zeroT, .agg #[.int .i64 (rc : Int), .int .i64 (pa : Int), .int .i64 (pb : Int)]]) ?_ rfl ⟨fun h => absurd h H0.out, fun _ => by rw [HPL.out]; rfl, HK10.out.sole⟩
    refine results_cc rfl _ _ _ _ _ _ rfl rfl ?_ ?_
    · exact resT _ _ (HK10.out.rows _ (List.mem_cons_of_mem _ (List.mem_cons_self ..))) rfl
    · exact resF _ _ (HK10.out.rows _ (List.mem_cons_self ..)) rfl

end Go.Proofs.YtmgohahjocdeeaaDoor
