/-
  Layer 6 (lex): the reference's Tokens; the law's comparison of tokens. By the verifier.
-/
import Derived.Test.YtmgohahjocdeeaaDoorTRNx
import Derived.Test.YtmgohahjocdeeaaDoorTTk2
set_option linter.unusedVariables false
namespace Go.Proofs.YtmgohahjocdeeaaDoor
open Go.RowKit

theorem elemRk : ElemT 29 42 (.agg #[.int .i64 0, .string ⟨#[]⟩, .int .u64 0, .int .i64 0, .int .i64 0]) 5 48 := ⟨Tryd.underlying29, by kernel_rfl, rfl, by omega, by omega⟩

theorem results_tmp4 {fn : Func} {a b c d : Tmp} (h : fn.results = #[.tmp a, .tmp b, .tmp c, .tmp d]) (tmps : Array Value) (w : World) (x y z u : Value) (hx : tmps.getD a undef = x) (hy : tmps.getD b undef = y) (hz : tmps.getD c undef = z) (hu : tmps.getD d undef = u) :
    (results fn tmps).run Tryd.prog w = .ok (.tuple #[x, y, z, u]) w := by
  subst hx hy hz hu
  simp only [results, h]
  simp

/-- What the reference's Tokens answers. -/
def RtP (W : World) (r : List Tok × Option (Nat × Nat × Nat)) (e : Ending) (w' : World) : Prop :=
  Below W.heap.size W w' ∧
  (r.2 = none → ∃ A c, e = .returned (.tuple #[.slice A r.1.length c, .int .i64 0, .int .i64 0, .int .i64 0]) ∧ OwnC w' W.heap.size 42 5 (.slice A r.1.length c) r.1.length (r.1.flatMap tokV)) ∧
  (∀ c a b : Nat, r.2 = some (c, a, b) → e = .returned (.tuple #[.slice none 0 0, .int .i64 (c : Int), .int .i64 (a : Int), .int .i64 (b : Int)]))

set_option maxHeartbeats 4000000 in
set_option maxRecDepth 20000 in
theorem rtokens_ok (s : ByteArray) (l : List Nat) (hs : Str s l) (hm : l.length ≤ 1048576) (hc : (tokensV numV l).1.length ≤ 100000) (W : World) :
    Calls Tryd.prog 11 #[.string s] W fun e w' => RtP W (tokensV numV l) e w' := by
  have hsz : (s.size : Int) = (l.length : Int) := by have := hs.size; omega
  have c1 : ¬ (1048576 : Int) < (s.size : Int) := by omega
  have HNX : Hid (∀ k w, k ≤ l.length → Calls Tryd.prog 15 #[.string s, .int .i64 (k : Int)] w fun e w' => RnP w l (atV l k) (readL numV (l.drop (atV l k))) e w') :=
    Lib.hid fun k w hk => rnext_ok s l hs (by omega) k hk w
  have HM := Lib.hid (And.intro hm hc)
  clear hs hsz hm hc
  go_enter Tryd.func11, Tryd.ntmps11
  go_wp2_with fail
  go_loopw [6, 7] (fun lv i wr => ∃ (k : Nat) (ts : List Tok) (A : Option Addr) (c f : Nat), lv = .slice A ts.length c ∧ i = .int .i64 (k : Int) ∧ k ≤ l.length ∧ l.length - k < f ∧ Hid ((OwnC wr W.heap.size 42 5 (.slice A ts.length c) ts.length (ts.flatMap tokV) ∧ Below W.heap.size W wr) ∧ tokensV numV l = (ts ++ (toks numV f (l.drop k) (placeV l k)).1, (toks numV f (l.drop k) (placeV l k)).2))) (fun _ i _ => l.length + 1 - (intOf i).toNat)
  case atStart => exact ⟨0, [], none, 0, l.length + 1, rfl, rfl, by omega, by omega, Lib.hid ⟨⟨OwnC.nil _ _ _ _, Below.refl _ _⟩, rfl⟩⟩
  case round =>
    obtain ⟨k, ts, A, c, f, rfl, rfl, hk, hf, hh⟩ := hrel
    have HN := Lib.hid (HNX.out k wr hk)
    obtain ⟨q, hq⟩ : ∃ q, q = atV l k := ⟨_, rfl⟩
    rw [← hq] at HN
    obtain ⟨R, hR⟩ : ∃ R, R = readL numV (l.drop q) := ⟨_, rfl⟩
    rw [← hR] at HN
    obtain ⟨p, hp⟩ : ∃ p, p = placeV l q := ⟨_, rfl⟩
    unfold RnP at HN
    rw [← hp] at HN
    obtain ⟨pa, pb⟩ := p
    have hrl := read_len numV (l.drop q)
    rw [← hR, List.length_drop] at hrl
    have hqq := atV_le hk
    rw [← hq] at hqq
    obtain ⟨rc, rk, rt, rv, rl⟩ := R
    have htk : tokA ⟨rk, rt, rv, pa, pb⟩ = #[.int .i64 (rk : Int), .string (strB rt), .int .u64 rv, .int .i64 (pa : Int), .int .i64 (pb : Int)] := rfl
    by_cases h0 : rc = 0
    · subst h0
      have HN0 : Hid (Calls Tryd.prog 15 #[.string s, .int .i64 (k : Int)] wr fun e w' => e = .returned (.tuple #[.agg #[.int .i64 (rk : Int), .string (strB rt), .int .u64 rv, .int .i64 (pa : Int), .int .i64 (pb : Int)], .int .i64 ((q + rl : Nat) : Int), .int .i64 0]) ∧ Below wr.heap.size wr w') := Lib.hid (HN.out.mono fun e w' h => ⟨h.1, h.2⟩)
      have HR := Lib.hid (And.intro hR (And.intro hq (And.intro hp (And.intro hrl hqq))))
      obtain ⟨t, ht⟩ : ∃ t : Tok, t = ⟨rk, rt, rv, pa, pb⟩ := ⟨_, rfl⟩
      have HT := Lib.hid ht
      have htv : tokV t = [.int .i64 (rk : Int), .string (strB rt), .int .u64 rv, .int .i64 (pa : Int), .int .i64 (pb : Int)] := by rw [ht]; rfl
      have hcnt : (ts ++ (toks numV f (l.drop k) (placeV l k)).1).length ≤ 100000 := by have := HM.out.2; rw [hh.out.2] at this; exact this
      rw [List.length_append] at hcnt
      have hts : ts.length ≤ 100000 := by omega
      generalize strB rt = tv at *
      clear hR hq hp HN hrl hqq ht hcnt htk
      go_wp2_with fail
      refine HN0.out.mono ?_
      rintro e w1 ⟨rfl, hb1⟩
      have HO := Lib.hid (hh.out.1.1.below hb1)
      have HB := Lib.hid (hh.out.1.2.trans (hb1.mono hh.out.1.2.size))
      obtain ⟨X, hX⟩ : ∃ X, X = w1.alloc (.cells #[.int .i64 (rk : Int), .string tv, .int .u64 rv, .int .i64 (pa : Int), .int .i64 (pb : Int)] 42) := ⟨_, rfl⟩
      have hXb : Below w1.heap.size w1 X := by rw [hX]; exact (Below.refl _ _).alloc (Nat.le_refl _) _
      have hXr : X.heap[w1.heap.size]? = some (.cells #[.int .i64 (rk : Int), .string tv, .int .u64 rv, .int .i64 (pa : Int), .int .i64 (pb : Int)] 42 (0, 0)) := by rw [hX]; exact heap_alloc_new _ _
      have hXs : X.heap.size = w1.heap.size + 1 := by rw [hX]; simp
      obtain ⟨Y, hY⟩ : ∃ Y, Y = X.alloc (.cells #[.int .i64 (rk : Int), .string tv, .int .u64 rv, .int .i64 (pa : Int), .int .i64 (pb : Int)] 42) := ⟨_, rfl⟩
      have hYb : Below X.heap.size X Y := by rw [hY]; exact (Below.refl _ _).alloc (Nat.le_refl _) _
      have hYr : Y.heap[w1.heap.size + 1]? = some (.cells ([.int .i64 (rk : Int), .string tv, .int .u64 rv, .int .i64 (pa : Int), .int .i64 (pb : Int)] : List Value).toArray 42 (0, 0)) := by rw [hY, ← hXs]; exact heap_alloc_new X _
      have hY6 : Y.heap[w1.heap.size]? = some (.cells #[.int .i64 (rk : Int), .string tv, .int .u64 rv, .int .i64 (pa : Int), .int .i64 (pb : Int)] 42 (0, 0)) := by rw [hYb.block _ (heap_lt hXr)]; exact hXr
      have HYO := Lib.hid ((HO.out.below hXb).below hYb)
      have hYw : Below W.heap.size W Y := (HB.out.trans (hXb.mono HB.out.size)).trans (hYb.mono (HB.out.trans (hXb.mono HB.out.size)).size)
      have HYW := Lib.hid hYw
      have HYC := Lib.hid (row_cells hYr)
      have HX := Lib.hid hX.symm
      have HY := Lib.hid hY.symm
      have H6 : Hid (∀ v1 w4, OwnC w4 W.heap.size 42 5 v1 (ts.length + 1) (ts.flatMap tokV ++ [.int .i64 (rk : Int), .string tv, .int .u64 rv, .int .i64 (pa : Int), .int .i64 (pb : Int)]) → Y.grownBy w4 (Value.ownBlock (.slice A ts.length c)) →
          w4.cell? ⟨w1.heap.size, 0, none⟩ = some (.int .i64 (rk : Int)) ∧ OwnC w4 W.heap.size 42 5 v1 (ts ++ [t]).length ((ts ++ [t]).flatMap tokV) ∧ Below W.heap.size W w4) := Lib.hid fun v1 w4 ho hg => by
        refine ⟨?_, by rw [List.length_append, List.flatMap_append]; simpa [htv] using ho, grown_belowc HYW.out HYO.out hg HYW.out.size⟩
        rw [cell_of_row _ _ 0 _ _ _ (((Turn.of_grown hg).block _ (heap_lt hY6) (fun e => ?_)).trans hY6)]
        · rfl
        · have := (World.ownsRow.lt hh.out.1.1 _ e).2
          have := hb1.size
          omega
      clear hX hXb hXr hXs hY hYb hYr hY6 hYw htv hb1
      by_cases hrk : rk = 0
      · have hrk' : ((rk : Int) == 0) = true := by rw [beq_iff_eq]; omega
        have HRES : Hid (tokensV numV l = (ts ++ [t], none)) := Lib.hid (by
          obtain ⟨hR, hq, hp, hrl, hqq⟩ := HR.out
          have hnil := hrl.2.2 hrk trivial
          rw [hnil] at hR
          have h := hh.out.2
          obtain ⟨f, rfl⟩ : ∃ f', f = f' + 1 := ⟨f - 1, by omega⟩
          rw [toks_end f (placeV l k) (s := skipL false (l.drop k)) (R := readL numV (l.drop q)) rfl (by rw [atV_drop, hq]) (by rw [hnil]; rfl) (by rw [hnil]; rfl), atV_place, ← hq, ← hp] at h
          rw [h, HT.out]
          injection hR with e1 e2 e3 e4 e5
          subst e2 e3 e4
          rfl)
        clear hrk
        go_wp2_with ((rw [HX.out, HY.out]; refine wpList_append_g elemRk rfl (.tmp 28) (.tmp 30) rfl W.heap.size (.slice A ts.length c) ts.length (ts.flatMap tokV) rfl HYO.out (some ⟨w1.heap.size + 1, 0, none⟩) 1 1 [.int .i64 (rk : Int), .string tv, .int .u64 rv, .int .i64 (pa : Int), .int .i64 (pb : Int)] rfl HYC.out rfl (by intro u hu; simp at hu; rcases hu with rfl | rfl | rfl | rfl | rfl <;> rfl) (fun h => by cases h) (by omega) HYW.out.size ?_; intro v1 w4 ho hg; obtain ⟨y0, hT4⟩ := H6.out v1 w4 ho hg; have HT4 := Lib.hid hT4; obtain ⟨A1, c1', hv1, -, -, -, -, -⟩ := hT4.1.cells; subst hv1; clear ho hg hT4))
        refine bodyPost_ret (v := .tuple #[.slice A1 (ts.length + 1) c1', .int .i64 0, .int .i64 0, .int .i64 0]) (results_tmp4 rfl _ _ _ _ _ _ rfl rfl rfl rfl) rfl ⟨HT4.out.2, fun h => ?_, fun c a b h => ?_⟩
        · rw [HRES.out]
          exact ⟨A1, c1', by rw [List.length_append]; rfl, HT4.out.1⟩
        · rw [HRES.out] at h; cases h
      · have hrk' : ((rk : Int) == 0) = false := ne_beq hrk 0 rfl
        have HRES : Hid (q + rl ≤ l.length ∧ k < q + rl ∧ tokensV numV l = ((ts ++ [t]) ++ (toks numV (f - 1) (l.drop (q + rl)) (placeV l (q + rl))).1, (toks numV (f - 1) (l.drop (q + rl)) (placeV l (q + rl))).2)) := Lib.hid (by
          obtain ⟨hR, hq, hp, hrl, hqq⟩ := HR.out
          have hlr : rl ≤ l.length - q := hrl.1
          have hrl1 : 1 ≤ rl := hrl.2.1 hrk
          have h := hh.out.2
          obtain ⟨f, rfl⟩ : ∃ f', f = f' + 1 := ⟨f - 1, by omega⟩
          have ha : atV l k = k + skipL false (l.drop k) := rfl
          rw [toks_more f (placeV l k) (s := skipL false (l.drop k)) (R := ⟨0, rk, rt, rv, rl⟩) rfl (by rw [hR, atV_drop, hq]) rfl hrk, atV_place, ← hq, ← hp, List.drop_drop, ← placeV_add, ← Nat.add_assoc, ← ha, ← hq] at h
          refine ⟨by omega, by omega, ?_⟩
          rw [h, HT.out, List.append_assoc]
          rfl)
        go_wp2_with ((rw [HX.out, HY.out]; refine wpList_append_g elemRk rfl (.tmp 28) (.tmp 30) rfl W.heap.size (.slice A ts.length c) ts.length (ts.flatMap tokV) rfl HYO.out (some ⟨w1.heap.size + 1, 0, none⟩) 1 1 [.int .i64 (rk : Int), .string tv, .int .u64 rv, .int .i64 (pa : Int), .int .i64 (pb : Int)] rfl HYC.out rfl (by intro u hu; simp at hu; rcases hu with rfl | rfl | rfl | rfl | rfl <;> rfl) (fun h => by cases h) (by omega) HYW.out.size ?_; intro v1 w4 ho hg; obtain ⟨y0, hT4⟩ := H6.out v1 w4 ho hg; have HT4 := Lib.hid hT4; obtain ⟨A1, c1', hv1, -, -, -, -, -⟩ := hT4.1.cells; subst hv1; clear ho hg hT4))
        have hlq := HRES.out.1
        have hkq := HRES.out.2.1
        go_roundw
        case rel => exact ⟨q + rl, ts ++ [t], A1, c1', f - 1, by rw [List.length_append]; rfl, by go_num, hlq, by omega, Lib.hid ⟨HT4.out, HRES.out.2.2⟩⟩
        case measure => simp [intOf]; omega
    · have HN1 : Hid (Calls Tryd.prog 15 #[.string s, .int .i64 (k : Int)] wr fun e w' => e = .returned (.tuple #[.agg #[.int .i64 (rk : Int), .string (strB rt), .int .u64 rv, .int .i64 (pa : Int), .int .i64 (pb : Int)], .int .i64 0, .int .i64 (rc : Int)]) ∧ Below wr.heap.size wr w') := Lib.hid (HN.out.mono fun e w' h => ⟨by rw [h.1]; show Ending.returned (.tuple #[_, .int .i64 ((if rc = 0 then q + rl else 0 : Nat) : Int), _]) = _; rw [if_neg h0]; rfl, h.2⟩)
      have e0 : ((rc : Int) != 0) = true := ne_bne h0 0 rfl
      have e1 : ((rc : Int) == 0) = false := ne_beq h0 0 rfl
      have e2 : ¬ (rc : Int) = 0 := by omega
      have HRES : Hid (tokensV numV l = (ts ++ [], some (rc, pa, pb))) := Lib.hid (by
        have h := hh.out.2
        obtain ⟨f, rfl⟩ : ∃ f', f = f' + 1 := ⟨f - 1, by omega⟩
        rw [toks_fault f (placeV l k) (s := skipL false (l.drop k)) (R := ⟨rc, rk, rt, rv, rl⟩) rfl (by rw [hR, atV_drop, hq]) h0] at h
        rw [h, atV_place, ← hq, ← hp])
      generalize strB rt = tv at *
      clear hR hq hp h0 HN hrl hqq htk
      go_wp2_with fail
      refine HN1.out.mono ?_
      rintro e w1 ⟨rfl, hb1⟩
      have HB := Lib.hid (hh.out.1.2.trans (hb1.mono hh.out.1.2.size))
      clear hb1
      go_wp2_with fail
      go_quiet (fail)
      go_wp2_with fail
      refine bodyPost_ret (v := .tuple #[.slice none 0 0, .int .i64 (rc : Int), .int .i64 (pa : Int), .int .i64 (pb : Int)]) (results_tmp4 rfl _ _ _ _ _ _ rfl rfl rfl rfl) rfl ⟨below_drewN (HB.out.alloc HB.out.size _) _, fun h => ?_, fun c a b h => ?_⟩
      · rw [HRES.out] at h; cases h
      · rw [HRES.out] at h
        injection h with h
        injection h with h1 h2
        injection h2 with h2 h3
        subst h1 h2 h3
        rfl

end Go.Proofs.YtmgohahjocdeeaaDoor
