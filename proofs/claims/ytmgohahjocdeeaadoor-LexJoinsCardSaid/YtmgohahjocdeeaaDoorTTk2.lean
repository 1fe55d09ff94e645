/-
  Layer 6 (lex): the program's Tokens. By the verifier.
-/
import Derived.Test.YtmgohahjocdeeaaDoorTTok
set_option linter.unusedVariables false
namespace Go.Proofs.YtmgohahjocdeeaaDoor
open Go.RowKit

/-- What Tokens answers. -/
def TkP (W : World) (r : List Tok × Option (Nat × Nat × Nat)) (e : Ending) (w' : World) : Prop :=
  Below W.heap.size W w' ∧
  (r.2 = none → ∃ A c, e = .returned (.tuple #[.slice A r.1.length c, .agg (faultA 0 0 0)]) ∧ OwnC w' W.heap.size 39 5 (.slice A r.1.length c) r.1.length (r.1.flatMap tokV)) ∧
  (∀ c a b, r.2 = some (c, a, b) → e = .returned (.tuple #[.slice none 0 0, .agg (faultA c a b)]))

/-- Within Tokens: the list, the cursor, the block of the fault. -/
structure TkS (W : World) (B : Nat) (s : ByteArray) (l : List Nat) (ts : List Tok) (v : Value) (k : Nat) (w : World) : Prop where
  own : OwnC w W.heap.size 39 5 v ts.length (ts.flatMap tokV)
  far : ∀ g, v.ownBlock = some g → B < g
  cur : Cur w B (placeV l k) s k
  kp : Kp W B [(W.heap.size, .cells zeroF 26)] w
  ge : W.heap.size < B
theorem turn_sole {B : Nat} {w w' : World} (h : Sole B w w') : Turn (fun k => k = B) w w' := ⟨h.os, h.tape, h.output, h.size, fun k hk hn => h.block k hk hn⟩
theorem TkS.below {W : World} {B : Nat} {s : ByteArray} {l : List Nat} {ts : List Tok} {v : Value} {k : Nat} {w : World} (h : TkS W B s l ts v k w) : Below W.heap.size W w := h.kp.sole.below (N := W.heap.size) (Nat.le_of_lt h.ge) (Nat.le_refl _)

theorem TkS.next {W : World} {B : Nat} {s : ByteArray} {l : List Nat} {ts : List Tok} {v : Value} {k k' : Nat} {w w1 : World} (h : TkS W B s l ts v k w) (hs : Sole B w w1) (hc : Cur w1 B (placeV l k') s k') : TkS W B s l ts v k' w1 :=
  ⟨h.own.turn (turn_sole hs) (fun g hg e => by have := h.far g hg; omega), h.far, hc, h.kp.turn hs, h.ge⟩
theorem TkS.more {W : World} {B : Nat} {s : ByteArray} {l : List Nat} {ts : List Tok} {v : Value} {k : Nat} {w w1 : World} (h : TkS W B s l ts v k w) (hb : Below w.heap.size w w1) : TkS W B s l ts v k w1 :=
  ⟨h.own.below hb, h.far, h.cur.below hb, h.kp.more hb, h.ge⟩
theorem TkS.push {W : World} {B : Nat} {s : ByteArray} {l : List Nat} {ts : List Tok} {v v1 : Value} {k : Nat} {w w4 : World} (h : TkS W B s l ts v k w) (t : Tok) (ho : OwnC w4 W.heap.size 39 5 v1 (ts.length + 1) (ts.flatMap tokV ++ tokV t)) (hg : w.grownBy w4 v.ownBlock) (hn : v1.ownBlock = v.ownBlock ∨ v1.ownBlock = some w.heap.size) : TkS W B s l (ts ++ [t]) v1 k w4 := by
  have ht := Turn.of_grown hg
  have hlt := h.kp.lt
  refine ⟨by rw [List.length_append, List.flatMap_append]; simpa using ho, fun g hgo => ?_, ht.row h.cur (fun e => by have := h.far B e; omega), ⟨fun x hx => ?_, h.kp.ne, h.kp.ge, ⟨?_, ?_, ?_, ?_, fun j hj hne => ?_⟩, Nat.lt_of_lt_of_le hlt ht.size⟩, h.ge⟩
  · rcases hn with hn | hn
    · exact h.far g (by rw [← hn]; exact hgo)
    · rw [hgo] at hn
      injection hn with hn
      omega
  · obtain rfl := List.mem_singleton.1 hx
    show w4.heap[W.heap.size]? = _
    rw [ht.block _ (by have := h.ge; omega) (fun e => by have := h.far _ e; have := h.ge; omega)]
    exact h.kp.rows _ (List.mem_cons_self ..)
  · exact ht.os.trans h.kp.sole.os
  · exact ht.tape.trans h.kp.sole.tape
  · exact ht.output.trans h.kp.sole.output
  · exact Nat.le_trans h.kp.sole.size ht.size
  · rw [ht.block j (Nat.lt_of_lt_of_le hj h.kp.sole.size) (fun e => by have := h.far _ e; have := h.ge; omega)]
    exact h.kp.sole.block j hj hne

theorem row_cells {w : World} {g : Nat} {cs : List Value} {t : TypeId} (h : w.heap[g]? = some (.cells cs.toArray t (0, 0))) : Cells w (some ⟨g, 0, none⟩) cs := fun i hi =>
  ⟨g, 0, rfl, heap_lt h, by rw [Nat.zero_add, cell_of_row _ _ i _ _ _ h]; simp [List.getD, hi]⟩

set_option maxHeartbeats 4000000 in
set_option maxRecDepth 20000 in
theorem ptokens_ok (s : ByteArray) (l : List Nat) (hs : Str s l) (hm : l.length ≤ 1048576) (hc : (tokensV numV l).1.length ≤ 100000) (W : World) (hE : Env W) :
    Calls Tryd.prog 10 #[.string s] W fun e w' => TkP W (tokensV numV l) e w' := by
  have hsz : (s.size : Int) = (l.length : Int) := by have := hs.size; omega
  have c1 : ¬ (1048576 : Int) < (s.size : Int) := by omega
  obtain ⟨W1, hW1⟩ : ∃ W1, W1 = W.alloc (.cells zeroF 26) := ⟨_, rfl⟩
  have hbox : W.alloc (.cells #[.int .i64 0, .int .i64 0, .int .i64 0] 26) = W1 := hW1.symm
  have hb1 : Below W.heap.size W W1 := by rw [hW1]; exact (Below.refl _ _).alloc (Nat.le_refl _) _
  have hr1 : W1.heap[W.heap.size]? = some (.cells zeroF 26 (0, 0)) := by rw [hW1]; exact heap_alloc_new W _
  have hz1 : W1.heap.size = W.heap.size + 1 := by rw [hW1]; simp
  have HF := Lib.hid (first_ok s W1)
  rw [hz1] at HF
  obtain ⟨B, hB⟩ : ∃ B, B = W.heap.size + 1 := ⟨_, rfl⟩
  rw [← hB] at HF
  have H1 : Hid (∀ w2, Cur w2 B (1, 1) s 0 → Below B W1 w2 → TkS W B s l [] (.slice none 0 0) 0 w2) := Lib.hid fun w2 h2 h3 =>
    ⟨OwnC.nil _ _ _ _, (fun g h => by cases h), h2, ⟨fun x hx => by
        obtain rfl := List.mem_singleton.1 hx
        show w2.heap[W.heap.size]? = _
        rw [h3.block _ (by omega)]; exact hr1, fun x hx => by
        obtain rfl := List.mem_singleton.1 hx
        show W.heap.size ≠ B; omega, fun x hx => by
        obtain rfl := List.mem_singleton.1 hx
        exact Nat.le_refl _, (Sole.of_below (B := B) (N := 0) hb1).trans (Sole.of_below (B := B) (N := 0) (h3.mono (by omega))), h2.lt⟩, by omega⟩
  have HNX : Hid (∀ ts v k w, k ≤ l.length → TkS W B s l ts v k w → Calls Tryd.prog 21 #[.pointer (some ⟨B, 0, none⟩)] w fun e w' => NxP w B s l (atV l k) (readL numV (l.drop (atV l k))) e w') :=
    Lib.hid fun ts v k w hk h => next_ok s l hs (by omega) k B hk w h.cur ⟨W, hE, Nat.le_of_lt h.ge, h.below⟩
  have HM := Lib.hid (And.intro hm hc)
  have HBW := Lib.hid hB
  clear hs hsz hm hc hE hW1 hb1 hr1 hz1 hB
  go_enter Tryd.func10, Tryd.ntmps10
  go_wp2_with fail
  refine HF.out.mono ?_
  rintro e w2 ⟨rfl, hcu, hbe⟩
  have HS2 := Lib.hid (H1.out w2 hcu hbe)
  clear hcu hbe
  go_wp2_with fail
  go_loopw [4] (fun lv wr => ∃ (k : Nat) (ts : List Tok) (A : Option Addr) (c f : Nat), lv = .slice A ts.length c ∧ k ≤ l.length ∧ l.length - k < f ∧ Hid (TkS W B s l ts (.slice A ts.length c) k wr ∧ tokensV numV l = (ts ++ (toks numV f (l.drop k) (placeV l k)).1, (toks numV f (l.drop k) (placeV l k)).2))) (fun _ wr => l.length + 1 - offOf wr B)
  case atStart => exact ⟨0, [], none, 0, l.length + 1, rfl, by omega, by omega, Lib.hid ⟨HS2.out, rfl⟩⟩
  case round =>
    obtain ⟨k, ts, A, c, f, rfl, hk, hf, hh⟩ := hrel
    have HN := Lib.hid (HNX.out ts _ k _ hk hh.out.1)
    obtain ⟨q, hq⟩ : ∃ q, q = atV l k := ⟨_, rfl⟩
    rw [← hq] at HN
    obtain ⟨R, hR⟩ : ∃ R, R = readL numV (l.drop q) := ⟨_, rfl⟩
    rw [← hR] at HN
    obtain ⟨p, hp⟩ : ∃ p, p = placeV l q := ⟨_, rfl⟩
    by_cases h0 : R.code = 0
    · have HN0 := Lib.hid (HN.out.mono fun e w' h => And.intro (h.1 h0).1 (And.intro (h.1 h0).2 h.2.2))
      rw [← hp] at HN0
      obtain ⟨pa, pb⟩ := p
      have hrl := read_len numV (l.drop q)
      rw [← hR, List.length_drop] at hrl
      have hqq := atV_le hk
      rw [← hq] at hqq
      obtain ⟨rc, rk, rt, rv, rl⟩ := R
      have h00 : rc = 0 := h0
      subst h00
      have HR := Lib.hid (And.intro hR (And.intro hq (And.intro hp (And.intro hrl hqq))))
      obtain ⟨t, ht⟩ : ∃ t : Tok, t = ⟨rk, rt, rv, pa, pb⟩ := ⟨_, rfl⟩
      have HT := Lib.hid ht
      have htv : tokV t = [.int .i64 (rk : Int), .string (strB rt), .int .u64 rv, .int .i64 (pa : Int), .int .i64 (pb : Int)] := by rw [ht]; rfl
      have hcnt : (ts ++ (toks numV f (l.drop k) (placeV l k)).1).length ≤ 100000 := by have := HM.out.2; rw [hh.out.2] at this; exact this
      rw [List.length_append] at hcnt
      have hts : ts.length ≤ 100000 := by omega
      clear hR hq hp h0 HN hrl hqq ht hcnt
      go_wp2_with fail
      refine HN0.out.mono ?_
      rintro e w1 ⟨rfl, hcu, hso⟩
      have hT1 := hh.out.1.next hso hcu
      have HT1 := Lib.hid hT1
      have HSO := Lib.hid hso.size
      have htk : tokA ⟨rk, rt, rv, pa, pb⟩ = #[.int .i64 (rk : Int), .string (strB rt), .int .u64 rv, .int .i64 (pa : Int), .int .i64 (pb : Int)] := rfl
      rw [htk]
      unfold faultA
      generalize strB rt = tv at *
      obtain ⟨X, hX⟩ : ∃ X, X = (w1.alloc (.cells #[.int .i64 (rk : Int), .string tv, .int .u64 rv, .int .i64 (pa : Int), .int .i64 (pb : Int)] 39)).alloc (.cells #[.int .i64 0, .int .i64 0, .int .i64 0] 26) := ⟨_, rfl⟩
      have hs1 : (w1.alloc (.cells #[.int .i64 (rk : Int), .string tv, .int .u64 rv, .int .i64 (pa : Int), .int .i64 (pb : Int)] 39)).heap.size = w1.heap.size + 1 := by simp
      have hkx := (hT1.kp.add (.cells #[.int .i64 (rk : Int), .string tv, .int .u64 rv, .int .i64 (pa : Int), .int .i64 (pb : Int)] 39)).add (.cells zeroF 26)
      have hX' : (w1.alloc (.cells #[.int .i64 (rk : Int), .string tv, .int .u64 rv, .int .i64 (pa : Int), .int .i64 (pb : Int)] 39)).alloc (.cells zeroF 26) = X := hX.symm
      rw [hs1, hX'] at hkx
      have hxs : X.heap.size = w1.heap.size + 2 := by rw [hX]; simp
      have hTX : TkS W B s l ts (.slice A ts.length c) (q + rl) X := hT1.more (by
        rw [hX]
        have hb1 : Below w1.heap.size w1 (w1.alloc (.cells #[.int .i64 (rk : Int), .string tv, .int .u64 rv, .int .i64 (pa : Int), .int .i64 (pb : Int)] 39)) := (Below.refl _ _).alloc (Nat.le_refl _) _
        exact hb1.alloc hb1.size _)
      obtain ⟨Y, hY⟩ : ∃ Y, Y = X.alloc (.cells #[.int .i64 (rk : Int), .string tv, .int .u64 rv, .int .i64 (pa : Int), .int .i64 (pb : Int)] 39) := ⟨_, rfl⟩
      have hTY : TkS W B s l ts (.slice A ts.length c) (q + rl) Y := hTX.more (by rw [hY]; exact (Below.refl _ _).alloc (Nat.le_refl _) _)
      have hyr : Y.heap[w1.heap.size + 2]? = some (.cells ([.int .i64 (rk : Int), .string tv, .int .u64 rv, .int .i64 (pa : Int), .int .i64 (pb : Int)] : List Value).toArray 39 (0, 0)) := by rw [hY, ← hxs]; exact heap_alloc_new X _
      have hy6 : Y.heap[w1.heap.size]? = some (.cells #[.int .i64 (rk : Int), .string tv, .int .u64 rv, .int .i64 (pa : Int), .int .i64 (pb : Int)] 39 (0, 0)) := by
        have h1 := hkx.rows (w1.heap.size, .cells #[.int .i64 (rk : Int), .string tv, .int .u64 rv, .int .i64 (pa : Int), .int .i64 (pb : Int)] 39) (by simp)
        rw [hY, ((Below.refl X.heap.size X).alloc (Nat.le_refl _) _).block _ (heap_lt h1)]
        exact h1
      have HTY := Lib.hid hTY
      have HYC := Lib.hid (row_cells hyr)
      have HYS : Hid (Y.heap.size = w1.heap.size + 3) := Lib.hid (by rw [hY]; simp; omega)
      have HX := Lib.hid hX.symm
      have HY := Lib.hid hY.symm
      have H6 : Hid (∀ v1 w4, OwnC w4 W.heap.size 39 5 v1 (ts.length + 1) (ts.flatMap tokV ++ [.int .i64 (rk : Int), .string tv, .int .u64 rv, .int .i64 (pa : Int), .int .i64 (pb : Int)]) → Y.grownBy w4 (Value.ownBlock (.slice A ts.length c)) → (v1.ownBlock = Value.ownBlock (.slice A ts.length c) ∨ v1.ownBlock = some Y.heap.size) →
          w4.cell? ⟨w1.heap.size, 0, none⟩ = some (.int .i64 (rk : Int)) ∧ TkS W B s l (ts ++ [t]) v1 (q + rl) w4) := Lib.hid fun v1 w4 ho hg hn => by
        refine ⟨?_, hTY.push t (by rw [htv]; exact ho) hg hn⟩
        rw [cell_of_row _ _ 0 _ _ _ (((Turn.of_grown hg).block _ (heap_lt hy6) (fun e => ?_)).trans hy6)]
        · rfl
        · have := (World.ownsRow.lt hh.out.1.own _ e).2
          have := HSO.out
          omega
      clear hT1 hso hcu hs1 hkx hX' hxs hTX hTY hyr hy6 hX hY htk htv
      by_cases hrk : rk = 0
      · have hrk' : ((rk : Int) == 0) = true := by rw [beq_iff_eq]; omega
        have HRES : Hid (tokensV numV l = (ts ++ [t], none)) := Lib.hid (by
          obtain ⟨hR, hq, hp, hrl, hqq⟩ := HR.out
          have hnil := hrl.2.2 hrk trivial
          rw [hnil] at hR
          have h := hh.out.2
          obtain ⟨f, rfl⟩ : ∃ f', f = f' + 1 := ⟨f - 1, by omega⟩
          rw [toks_end f (placeV l k) (s := skipL false (l.drop k)) (R := readL numV (l.drop q)) rfl (by rw [atV_drop, hq]) (by rw [hnil]; rfl) (by rw [hnil]; rfl), atV_place, ← hq, ← hp] at h
          rw [h, HT.out]
          injection hR with e1 e2 e3 e4 e5
          subst e2 e3 e4
          rfl)
        clear hrk
        go_wp2_with (first
          | (rw [HX.out, HY.out]; refine wpList_append_n elemTk rfl (.tmp 23) (.tmp 25) rfl W.heap.size (.slice A ts.length c) ts.length (ts.flatMap tokV) rfl HTY.out.own (some ⟨w1.heap.size + 2, 0, none⟩) 1 1 [.int .i64 (rk : Int), .string tv, .int .u64 rv, .int .i64 (pa : Int), .int .i64 (pb : Int)] rfl HYC.out rfl (by intro u hu; simp at hu; rcases hu with rfl | rfl | rfl | rfl | rfl <;> rfl) (by omega) (by omega) HTY.out.below.size ?_; intro v1 w4 ho hg hn; obtain ⟨y0, hT4⟩ := H6.out v1 w4 ho hg hn; have HT4 := Lib.hid hT4; obtain ⟨A1, c1', hv1, -, -, -, -, -⟩ := hT4.own.cells; subst hv1; clear ho hg hn hT4)
          | (refine wpList_store_row rfl _ _ _ rfl W.heap.size zeroF rfl rfl _ _ (HT4.out.kp.rows _ (List.mem_cons_self ..)) size3F rfl (fau_one 0 0 0) ?_))
        have HKZ := Lib.hid (HT4.out.kp.put (by simp) zeroF)
        have HOZ : Hid (OwnC (w4.setRow W.heap.size zeroF) W.heap.size 39 5 (.slice A1 (ts ++ [t]).length c1') (ts ++ [t]).length ((ts ++ [t]).flatMap tokV)) := Lib.hid (HT4.out.own.turn (show Turn (fun k => k = W.heap.size) w4 (w4.setRow W.heap.size zeroF) from ⟨rfl, rfl, rfl, by simp, fun k hk hn => setRow_other w4 W.heap.size k zeroF hn⟩) (fun g hg e => by have := HT4.out.far g hg; have := HT4.out.ge; omega))
        refine bodyPost_ret (v := .tuple #[.slice A1 (ts.length + 1) c1', .agg zeroF]) ?_ rfl ⟨HKZ.out.sole.below (N := W.heap.size) (Nat.le_of_lt hh.out.1.ge) (Nat.le_refl _), fun h => ?_, fun c a b h => ?_⟩
        · refine results_tc rfl _ _ _ _ _ rfl rfl ?_
          exact resF _ _ (HKZ.out.rows _ (List.mem_cons_self ..)) rfl
        · rw [HRES.out]
          exact ⟨A1, c1', by rw [List.length_append]; rfl, HOZ.out⟩
        · rw [HRES.out] at h; cases h
      · have hrk' : ((rk : Int) == 0) = false := ne_beq hrk 0 rfl
        have HRES : Hid (q + rl ≤ l.length ∧ k < q + rl ∧ tokensV numV l = ((ts ++ [t]) ++ (toks numV (f - 1) (l.drop (q + rl)) (placeV l (q + rl))).1, (toks numV (f - 1) (l.drop (q + rl)) (placeV l (q + rl))).2)) := Lib.hid (by
          obtain ⟨hR, hq, hp, hrl, hqq⟩ := HR.out
          have hlr : rl ≤ l.length - q := hrl.1
          have hrl1 : 1 ≤ rl := hrl.2.1 hrk
          have h := hh.out.2
          obtain ⟨f, rfl⟩ : ∃ f', f = f' + 1 := ⟨f - 1, by omega⟩
          have ha : atV l k = k + skipL false (l.drop k) := rfl
          rw [toks_more f (placeV l k) (s := skipL false (l.drop k)) (R := ⟨0, rk, rt, rv, rl⟩) rfl (by rw [hR, atV_drop, hq]) rfl hrk, atV_place, ← hq, ← hp, List.drop_drop, ← placeV_add, ← Nat.add_assoc, ← ha, ← hq] at h
          refine ⟨by omega, by omega, ?_⟩
          rw [h, HT.out, List.append_assoc]
          rfl)
        go_wp2_with (first
          | (rw [HX.out, HY.out]; refine wpList_append_n elemTk rfl (.tmp 23) (.tmp 25) rfl W.heap.size (.slice A ts.length c) ts.length (ts.flatMap tokV) rfl HTY.out.own (some ⟨w1.heap.size + 2, 0, none⟩) 1 1 [.int .i64 (rk : Int), .string tv, .int .u64 rv, .int .i64 (pa : Int), .int .i64 (pb : Int)] rfl HYC.out rfl (by intro u hu; simp at hu; rcases hu with rfl | rfl | rfl | rfl | rfl <;> rfl) (by omega) (by omega) HTY.out.below.size ?_; intro v1 w4 ho hg hn; obtain ⟨y0, hT4⟩ := H6.out v1 w4 ho hg hn; have HT4 := Lib.hid hT4; obtain ⟨A1, c1', hv1, -, -, -, -, -⟩ := hT4.own.cells; subst hv1; clear ho hg hn hT4))
        have hlq := HRES.out.1
        have hkq := HRES.out.2.1
        go_roundw
        case rel => exact ⟨q + rl, ts ++ [t], A1, c1', f - 1, by rw [List.length_append]; rfl, hlq, by omega, Lib.hid ⟨HT4.out, HRES.out.2.2⟩⟩
        case measure => rw [hh.out.1.cur.off, HT4.out.cur.off]; omega
    · have HN1 := Lib.hid (HN.out.mono fun e w' h => And.intro (h.2.1 h0) h.2.2)
      rw [← hp] at HN1
      obtain ⟨pa, pb⟩ := p
      have e0 : ((R.code : Int) != 0) = true := ne_bne h0 0 rfl
      have e1 : ((R.code : Int) == 0) = false := ne_beq h0 0 rfl
      have HR := Lib.hid (And.intro hR (And.intro hq (And.intro hp h0)))
      clear hR hq hp h0 HN
      go_wp2_with fail
      refine HN1.out.mono ?_
      rintro e w1 ⟨rfl, hso⟩
      have HK1 := Lib.hid (hh.out.1.kp.turn hso)
      clear hso
      have e2 : (R.code : Int) ≠ 0 := by have := HR.out.2.2.2; omega
      unfold zeroT faultA
      obtain ⟨X, hX⟩ : ∃ X, X = (w1.alloc (.cells #[.int .i64 0, .string ⟨#[]⟩, .int .u64 0, .int .i64 0, .int .i64 0] 39)).alloc (.cells #[.int .i64 (R.code : Int), .int .i64 (pa : Int), .int .i64 (pb : Int)] 26) := ⟨_, rfl⟩
      have hs1 : (w1.alloc (.cells #[.int .i64 0, .string ⟨#[]⟩, .int .u64 0, .int .i64 0, .int .i64 0] 39)).heap.size = w1.heap.size + 1 := by simp
      have hkx := ((HK1.out.add (.cells #[.int .i64 0, .string ⟨#[]⟩, .int .u64 0, .int .i64 0, .int .i64 0] 39)).add (.cells #[.int .i64 (R.code : Int), .int .i64 (pa : Int), .int .i64 (pb : Int)] 26))
      rw [hs1, ← hX] at hkx
      have x0 : X.cell? ⟨w1.heap.size + 1, 0, none⟩ = some (.int .i64 (R.code : Int)) := hkx.cell (List.mem_cons_self ..) 0
      have x1 : X.cell? ⟨w1.heap.size + 1, 1, none⟩ = some (.int .i64 (pa : Int)) := hkx.cell (List.mem_cons_self ..) 1
      have x2 : X.cell? ⟨w1.heap.size + 1, 2, none⟩ = some (.int .i64 (pb : Int)) := hkx.cell (List.mem_cons_self ..) 2
      have hky := hkx.sub (K' := [(W.heap.size, .cells zeroF 26)]) (by simp)
      have HZ : Hid (X.drew.heap[W.heap.size]? = some (.cells zeroF 26 (0, 0))) := Lib.hid (hky.rows _ (List.mem_cons_self ..))
      have HKZ := Lib.hid ((hky.more (Below.refl _ _).drew).put (by simp) #[.int .i64 (R.code : Int), .int .i64 (pa : Int), .int .i64 (pb : Int)])
      have HX := Lib.hid hX.symm
      have HRES : Hid (tokensV numV l = (ts ++ [], some (R.code, pa, pb))) := Lib.hid (by
        obtain ⟨hR, hq, hp, h0⟩ := HR.out
        have h := hh.out.2
        obtain ⟨f, rfl⟩ : ∃ f', f = f' + 1 := ⟨f - 1, by omega⟩
        rw [toks_fault f (placeV l k) (s := skipL false (l.drop k)) rfl (by rw [hR, atV_drop, hq]) h0] at h
        rw [h, atV_place, ← hq, ← hp])
      clear hs1 hkx hky hX
      go_wp2_with fail
      rw [HX.out]
      go_still_tail 2, (by kernel_rfl)
      change wpList _ _ _ _ _ X.drew
      go_wp2_with (refine wpList_store_row rfl _ _ _ rfl W.heap.size #[.int .i64 (R.code : Int), .int .i64 (pa : Int), .int .i64 (pb : Int)] rfl rfl _ _ HZ.out size3F rfl (fau_one _ _ _) ?_)
      refine bodyPost_ret (v := .tuple #[.slice none 0 0, .agg #[.int .i64 (R.code : Int), .int .i64 (pa : Int), .int .i64 (pb : Int)]]) ?_ rfl ⟨HKZ.out.sole.below (N := W.heap.size) (Nat.le_of_lt hh.out.1.ge) (Nat.le_refl _), fun h => ?_, fun c a b h => ?_⟩
      · refine results_tc rfl _ _ _ _ _ rfl rfl ?_
        exact resF _ _ (HKZ.out.rows _ (List.mem_cons_self ..)) rfl
      · rw [HRES.out] at h; cases h
      · rw [HRES.out] at h
        injection h with h
        injection h with h1 h2
        injection h2 with h2 h3
        subst h1 h2 h3
        rfl

end Go.Proofs.YtmgohahjocdeeaaDoor
