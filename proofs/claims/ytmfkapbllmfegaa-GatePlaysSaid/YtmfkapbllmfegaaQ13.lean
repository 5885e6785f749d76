/- Sorting messages: slices' symMerge, stable sort, and sortBy: contracts. -/
import Derived.Test.YtmfkapbllmfegaaQ12a
import Derived.Test.YtmfkapbllmfegaaQ12b
namespace Go.Proofs.Ytmfkapbllmfegaa.L10
open Go.RowKit Go.Proofs.Ytmfkapbllmfegaa.G Go.Sort
set_option maxRecDepth 100000
variable {w0 w W : World} {g n c q : Nat} {s : Nat → MV}

theorem symM_1 {α : Type} {lt : α → α → Bool} {f a m b : Nat} {s : Nat → α} (h : m = a + 1) : symM lt (f + 1) a m b s = sym1 lt a m b s := by rw [symM, if_pos h]
theorem symM_2 {α : Type} {lt : α → α → Bool} {f a m b : Nat} {s : Nat → α} (h : m ≠ a + 1) (h2 : b = m + 1) : symM lt (f + 1) a m b s = sym2 lt a m b s := by rw [symM, if_neg h, if_pos h2]
theorem symM_any (hq : Blk w0 q 108 FLane) (hg : q ≠ g) (hn : n ≤ 1000) : ∀ (f a m b : Nat) (s : Nat → MV) (w : World), a < m → m < b → b ≤ n → b - a ≤ f → Sv w0 g n c s w → Calls Try.prog 82 #[.slice (some ⟨g, 0, none⟩) n c, .int .i64 a, .int .i64 m, .int .i64 b, .func (.func 77) #[] #[.pointer (some ⟨q, 0, none⟩)]] w fun e w' => e = .returned (.tuple #[]) ∧ Sv w0 g n c (symM ltM f a m b s) w'
  | 0, a, m, b, s, w, h1, h2, _, h4, _ => absurd h4 (by omega)
  | f + 1, a, m, b, s, w, h1, h2, h3, h4, h => by
    by_cases e1 : m = a + 1
    · rw [symM_1 e1]; exact sym1_any h hq hg a m b e1 h2 h3 hn
    · by_cases e2 : b = m + 1
      · rw [symM_2 e1 e2]; exact sym2_any h hq hg a m b (by omega) e2 h3 hn
      · by_cases e3 : (a + b) / 2 < m
        · exact sym3a_any h hq hg a m b (by omega) (by omega) h3 hn (by omega) e3 (symM_any hq hg hn f)
        · exact sym3b_any h hq hg a m b (by omega) (by omega) h3 hn (by omega) e3 (symM_any hq hg hn f)
set_option maxHeartbeats 4000000 in
theorem stab_any (h : Sv w0 g n c s w) (hq : Blk w0 q 108 FLane) (hg : q ≠ g) (hn : n < 40) :
    Calls Try.prog 79 #[.slice (some ⟨g, 0, none⟩) n c, .int .i64 n, .func (.func 77) #[] #[.pointer (some ⟨q, 0, none⟩)]] w fun e w' => e = .returned (.tuple #[]) ∧ Sv w0 g n c (stab ltM n s) w' := by
  have HS := Lib.hid h
  have HQ := Lib.hid (And.intro hq hg)
  by_cases h20 : n < 20
  · have HN := Lib.hid h20
    have HC := Lib.hid (ins_any h hq hg 0 n (Nat.le_refl _) (by omega) (by omega))
    have n1 : ¬ (20 : Int) ≤ n := by omega
    have n2 : ¬ (20 : Int) < n := by omega
    clear h hq hg h20
    go_enter Try.func79, Try.ntmps79
    go_wp2_with fail
    go_loopw [7, 8] (fun a b V => a = .int .i64 0 ∧ b = .int .i64 20 ∧ V = w) (fun _ _ _ => 0)
    case atStart => exact ⟨rfl, rfl, rfl⟩
    case round =>
      obtain ⟨rfl, rfl, rfl⟩ := hrel
      go_wp2_with fail
      refine HC.out.mono ?_
      rintro e w1 ⟨rfl, h1⟩
      have H1 := Lib.hid h1
      clear h1 HC
      go_wp2_with fail
      go_loopw [6] (fun a V => a = .int .i64 20 ∧ V = w1) (fun _ _ => 0)
      case atStart => exact ⟨rfl, rfl⟩
      case round =>
        obtain ⟨rfl, rfl⟩ := hrel
        go_wp2_with fail
        go_end0
        exact ⟨rfl, by rw [stab_lt HN.out]; exact H1.out⟩
  · have HC1 := Lib.hid (ins_any h hq hg 0 20 (by omega) (by omega) (by omega))
    have HC2 := Lib.hid (fun W (hw : Sv w0 g n c (insS ltM 0 20 s) W) => ins_any hw hq hg 20 n (Nat.le_refl _) (by omega) (by omega))
    have n1 : (20 : Int) ≤ n := by omega
    have n3 : ¬ (40 : Int) ≤ n := by omega
    have HN : Hid (¬ n < 20) := h20
    clear h hq hg h20
    go_enter Try.func79, Try.ntmps79
    go_wp2_with fail
    go_loopw [7, 8] (fun a b V => (a = .int .i64 0 ∧ b = .int .i64 20 ∧ V = w) ∨ (a = .int .i64 20 ∧ b = .int .i64 40 ∧ Sv w0 g n c (insS ltM 0 20 s) V)) (fun _ b _ => 40 - (intOf b).toNat)
    case atStart => exact .inl ⟨rfl, rfl, rfl⟩
    case round =>
      rcases hrel with ⟨rfl, rfl, rfl⟩ | ⟨rfl, rfl, hs⟩
      · go_wp2_with fail
        refine HC1.out.mono ?_
        rintro e w1 ⟨rfl, h1⟩
        have H1 := Lib.hid h1
        clear h1 HC1
        go_wp2_with fail
        go_roundw
        case rel => exact .inr ⟨rfl, rfl, H1.out⟩
        case measure => simp [intOf]
      · have HC3 := Lib.hid (HC2.out _ hs)
        clear HC1 HC2 hs
        go_wp2_with fail
        refine HC3.out.mono ?_
        rintro e w1 ⟨rfl, h1⟩
        have H1 := Lib.hid h1
        clear h1 HC3
        go_wp2_with fail
        by_cases e20 : n = 20
        · have H1' : Hid (Sv w0 g n c (insS ltM 20 20 (insS ltM 0 20 s)) w1) := by
            have := H1.out
            rw [show insS ltM 20 n (insS ltM 0 20 s) = insS ltM 20 20 (insS ltM 0 20 s) by rw [e20]] at this
            exact this
          have n4 : ¬ (20 : Int) < n := by omega
          have H20 := Lib.hid e20
          clear e20
          go_loopw [6] (fun a V => a = .int .i64 20 ∧ V = w1) (fun _ _ => 0)
          case atStart => exact ⟨rfl, rfl⟩
          case round =>
            obtain ⟨rfl, rfl⟩ := hrel
            go_wp2_with fail
            go_end0
            exact ⟨rfl, by rw [stab_20 H20.out]; exact H1'.out⟩
        · have H20 := Lib.hid e20
          have HC4 := Lib.hid (symM_any (c := c) HQ.out.1 HQ.out.2 (show n ≤ 1000 by omega) n 0 20 n (insS ltM 20 n (insS ltM 0 20 s)) w1 (by omega) (by have := HN.out; omega) (Nat.le_refl _) (Nat.le_refl _) H1.out)
          have n4 : (20 : Int) < n := by have := HN.out; omega
          have n5 : ¬ (40 : Int) < n := by omega
          clear e20 H1
          go_loopw [6, 7, 8, 9] (fun a _ _ _ V => (a = .int .i64 20 ∧ V = w1) ∨ (a = .int .i64 40 ∧ Sv w0 g n c (symM ltM n 0 20 n (insS ltM 20 n (insS ltM 0 20 s))) V)) (fun a _ _ _ _ => 40 - (intOf a).toNat)
          case atStart => exact .inl ⟨rfl, rfl⟩
          case round =>
            rcases hrel with ⟨rfl, rfl⟩ | ⟨rfl, hs⟩
            · go_wp2_with fail
              go_loopw [7, 8] (fun a b V => a = .int .i64 0 ∧ b = .int .i64 40 ∧ V = wr) (fun _ _ _ => 0)
              case atStart => exact ⟨rfl, rfl, rfl⟩
              case round =>
                obtain ⟨rfl, rfl, rfl⟩ := hrel
                go_wp2_with fail
                refine HC4.out.mono ?_
                rintro e w2 ⟨rfl, h2⟩
                have H2 := Lib.hid h2
                clear h2 HC4
                go_wp2_with fail
                go_roundw
                case rel => exact .inr ⟨rfl, H2.out⟩
                case measure => simp [intOf]
            · have H2 := Lib.hid hs
              clear hs
              go_wp2_with fail
              go_end0
              exact ⟨rfl, by rw [stab_gt HN.out H20.out]; exact H2.out⟩
theorem ssf_any (h : Sv w0 g n c s w) (hq : Blk w0 q 108 FLane) (hg : q ≠ g) (hn : n < 40) :
    Calls Try.prog 76 #[.slice (some ⟨g, 0, none⟩) n c, .func (.func 77) #[] #[.pointer (some ⟨q, 0, none⟩)]] w fun e w' => e = .returned (.tuple #[]) ∧ Sv w0 g n c (stab ltM n s) w' := by
  have HC := Lib.hid (stab_any h hq hg hn)
  clear h hq hg
  go_enter Try.func76, Try.ntmps76
  go_wp2_with fail
  refine HC.out.mono ?_
  rintro e w1 ⟨rfl, h1⟩
  have H1 := Lib.hid h1
  clear h1 HC
  go_wp2_with fail
  go_end0
  exact ⟨rfl, H1.out⟩
/-- sortBy, by the lane. -/
theorem sortBy_any {l : List MV} (h : Own w 0 43 5 (.slice (some ⟨g, 0, none⟩) l.length c) l.length (mvs l)) (hl : l = ls l.length s) (hn : l.length < 40) :
    Calls Try.prog 72 #[.slice (some ⟨g, 0, none⟩) l.length c, .func (.func 73) #[] #[]] w fun e w' => e = .returned (.tuple #[]) ∧ Own w' 0 43 5 (.slice (some ⟨g, 0, none⟩) l.length c) l.length (mvs (ls l.length (stab ltM l.length s))) ∧ Only (fun k => k = g) w w' := by
  have hgl : g < w.heap.size := by
    obtain ⟨_, cur, hc⟩ := h.block_lt (g := g) (by simp [Value.ownBlock])
    exact hc.lt
  have h1 : Sv (w.alloc (.cells FLane 108)) g l.length c s (w.alloc (.cells FLane 108)) := ⟨by rw [← hl]; exact h.alloc _, Only.refl _ _⟩
  have HC := Lib.hid (ssf_any h1 (Blk.new w 108 FLane) (by omega) hn)
  unfold FLane at HC
  clear h hl h1
  generalize l.length = n at *
  go_enter Try.func72, Try.ntmps72
  go_wp2_with fail
  refine HC.out.mono ?_
  rintro e w1 ⟨rfl, h1⟩
  have H1 := Lib.hid h1
  clear h1 HC
  go_wp2_with fail
  go_end0
  exact ⟨rfl, H1.out.own, (Only.of (b01 w (.cells #[.func (.func 73) #[] #[]] 108))).trans (H1.out.on.mono fun k hk => .inl hk)⟩
end Go.Proofs.Ytmfkapbllmfegaa.L10
