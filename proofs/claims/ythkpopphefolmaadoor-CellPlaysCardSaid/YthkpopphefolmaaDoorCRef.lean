/- The document's own answers for package cell, each against the same plain functions as the program's calls: contracts. -/
import Derived.Test.YthkpopphefolmaaDoorCScript
namespace Go.Proofs.YthkpopphefolmaaDoor.Cell
open Go.RowKit Go.Proofs.YthkpopphefolmaaDoor.G

theorem rwhy_any {w : World} {A : Option Addr} {n ca : Nat} {l : List Int} (hn : n = l.length) (c i v : Int) :
    Calls Tryd.prog 70 #[.agg #[.slice A n ca, .int .i64 c], .int .i64 i, .int .i64 v] w fun e w' => e = .returned (.int .i64 (whyC l i v)) ∧ w' = w.alloc (.cells #[.slice A n ca, .int .i64 c] 28) := by
  have hcase : (i < 0 ∨ (0 ≤ i ∧ (n : Int) ≤ i)) ∨ ((0 ≤ i ∧ i < n ∧ v < 0) ∨ (0 ≤ i ∧ i < n ∧ 2147483647 < v)) ∨ (0 ≤ i ∧ i < n ∧ 0 ≤ v ∧ v ≤ 2147483647) := by omega
  have HN := Lib.hid hn; clear hn
  rcases hcase with (h1 | ⟨h1, h2⟩) | (⟨h1, h2, h3⟩ | ⟨h1, h2, h3⟩) | ⟨h1, h2, h3, h4⟩
  · have E : Hid (whyC l i v = 7) := by
      have hin : inR l i 1 = false := decide_eq_false (by have := HN.out; omega)
      show whyC l i v = 7; simp [whyC, hin]
    go_enter Tryd.func70, Tryd.ntmps70
    go_wp2
    go_ret
    exact ⟨by rw [E.out]; rfl, rfl⟩
  · have E : Hid (whyC l i v = 7) := by
      have hin : inR l i 1 = false := decide_eq_false (by have := HN.out; omega)
      show whyC l i v = 7; simp [whyC, hin]
    go_enter Tryd.func70, Tryd.ntmps70
    go_wp2
    go_ret
    exact ⟨by rw [E.out]; rfl, rfl⟩
  · have E : Hid (whyC l i v = 3) := by
      have hin : inR l i 1 = true := decide_eq_true (by have := HN.out; omega)
      have hok : okV v = false := decide_eq_false (by omega)
      show whyC l i v = 3; simp [whyC, hin, hok]
    go_enter Tryd.func70, Tryd.ntmps70
    go_wp2
    go_ret
    exact ⟨by rw [E.out]; rfl, rfl⟩
  · have E : Hid (whyC l i v = 3) := by
      have hin : inR l i 1 = true := decide_eq_true (by have := HN.out; omega)
      have hok : okV v = false := decide_eq_false (by omega)
      show whyC l i v = 3; simp [whyC, hin, hok]
    have h5 : 0 ≤ v := by omega
    go_enter Tryd.func70, Tryd.ntmps70
    go_wp2
    go_ret
    exact ⟨by rw [E.out]; rfl, rfl⟩
  · have E : Hid (whyC l i v = 0) := by
      have hin : inR l i 1 = true := decide_eq_true (by have := HN.out; omega)
      have hok : okV v = true := decide_eq_true (by omega)
      show whyC l i v = 0; simp [whyC, hin, hok]
    go_enter Tryd.func70, Tryd.ntmps70
    go_wp2
    go_ret
    exact ⟨by rw [E.out]; rfl, rfl⟩

/-- What the document's New answers: a list of zeros in new memory, and no access. -/
def NewPost (w : World) (l : List Int) (e : Ending) (w' : World) : Prop := ∃ v, e = .returned (.agg #[v, .int .i64 0]) ∧ Lst w' w.heap.size v l ∧ Below w.heap.size w w'
theorem lst_new (w : World) (B k : Nat) (hk : k ≤ 4096) (hB : B ≤ w.heap.size) : Lst (w.alloc (.cells (ints (zs k)) 3)) B (.slice (some ⟨w.heap.size, 0, none⟩) k k) (zs k) := by
  have h := World.ownsRow_lit (base := B) (e := 3) (size := 1) w (ints (zs k)) k hB (by unfold maxLen; omega) (by simp [ints, zs])
  unfold Lst
  rw [zs_length]
  simpa [ints] using h
theorem new_post (w : World) (k : Nat) (hk : k ≤ 4096) : NewPost w (zs k) (.returned (.agg #[.slice (some ⟨w.heap.size + 1, 0, none⟩) k k, .int .i64 0])) ((w.alloc (.cells #[.slice (some ⟨w.heap.size + 1, 0, none⟩) k k, .int .i64 0] 28)).alloc (.cells (ints (zs k)) 3)) := by
  have e : ∀ o : Obj, (w.alloc o).heap.size = w.heap.size + 1 := fun o => by simp
  have h := lst_new (w.alloc (.cells #[.slice (some ⟨w.heap.size + 1, 0, none⟩) k k, .int .i64 0] 28)) w.heap.size k hk (by rw [e]; omega)
  rw [e] at h
  exact ⟨_, rfl, h, ((Below.refl _ _).alloc (Nat.le_refl _) _).alloc (by rw [e]; omega) _⟩
theorem rnew_any (n : Int) (w : World) : Calls Tryd.prog 19 #[.int .i64 n] w (NewPost w (zs (clampN n))) := by
  by_cases h0 : n < 0
  · have hr := make_run 0 (by omega) 0 rfl
    have HC : Hid (clampN n = 0) := by show clampN n = 0; unfold clampN; omega
    go_enter Tryd.func19, Tryd.ntmps19
    go_wp2
    refine bodyPost_ret (v := .agg #[.slice (some ⟨w.heap.size + 1, 0, none⟩) 0 0, .int .i64 0]) (by simp [results, Tryd.results19, go_sem]) rfl ?_
    rw [HC.out]
    exact new_post w 0 (by omega)
  by_cases h1 : 4096 < n
  · have hr := make_run 4096 (by omega) 4096 rfl
    have HC : Hid (clampN n = 4096) := by show clampN n = 4096; unfold clampN; omega
    go_enter Tryd.func19, Tryd.ntmps19
    go_wp2
    refine bodyPost_ret (v := .agg #[.slice (some ⟨w.heap.size + 1, 0, none⟩) 4096 4096, .int .i64 0]) (by simp [results, Tryd.results19, go_sem]) rfl ?_
    rw [HC.out]
    exact new_post w 4096 (by omega)
  · obtain ⟨k, rfl⟩ := Int.eq_ofNat_of_zero_le (show 0 ≤ n by omega)
    have hr := make_run k (by omega) k rfl
    have HC : Hid (clampN (k : Int) = k) := by show clampN (k : Int) = k; unfold clampN; omega
    go_enter Tryd.func19, Tryd.ntmps19
    go_wp2
    refine bodyPost_ret (v := .agg #[.slice (some ⟨w.heap.size + 1, 0, none⟩) k k, .int .i64 0]) (by simp [results, Tryd.results19, go_sem]) rfl ?_
    rw [HC.out]
    exact new_post w k (by omega)

/-! ### Read -/
theorem rread_no {w : World} {A : Option Addr} {n ca : Nat} {l : List Int} (hn : n = l.length) (c i : Int) (h : inR l i 1 = false) :
    Calls Tryd.prog 22 #[.agg #[.slice A n ca, .int .i64 c], .int .i64 i] w fun e w' => e = .returned (.tuple #[.agg #[.slice A n ca, .int .i64 c], .int .i64 0, .int .i64 7]) ∧ Below w.heap.size w w' := by
  have HE : Hid (whyC l i 0 = 7) := by show whyC l i 0 = 7; simp [whyC, h]
  have HN := Lib.hid hn
  clear h hn
  go_enter Tryd.func22, Tryd.ntmps22
  go_wp2_with fail
  refine (rwhy_any HN.out c i 0).mono ?_
  rintro e w1 ⟨rfl, rfl⟩
  rw [HE.out]
  go_wp2
  refine bodyPost_ret (v := .tuple #[.agg #[.slice A n ca, .int .i64 c], .int .i64 0, .int .i64 7]) (by simp [results, Tryd.results22, go_sem]) rfl ⟨rfl, ?_⟩
  exact (((Below.refl _ _).alloc (Nat.le_refl _) _).alloc (by simp) _).alloc (by simp; omega) _
theorem rread_ok {w : World} {A : Option Addr} {n ca : Nat} {l : List Int} (hn : n = l.length) (hl : n ≤ 4096) (hA : RdA w A l) (c : Int) (c0 : 0 ≤ c) (c1 : c ≤ 1099511627776) (k : Nat) (hk : k < n) :
    Calls Tryd.prog 22 #[.agg #[.slice A n ca, .int .i64 c], .int .i64 k] w fun e w' => e = .returned (.tuple #[.agg #[.slice A n ca, .int .i64 (c + 1)], .int .i64 (nth l k), .int .i64 0]) ∧ Below w.heap.size w w' := by
  have HE : Hid (whyC l k 0 = 0) := by
    have h : inR l k 1 = true := decide_eq_true (by omega)
    show whyC l k 0 = 0; simp [whyC, h, show okV 0 = true from rfl]
  obtain ⟨ab, ao, rfl, hc⟩ := hA (by omega)
  have hc1 := hc k (by omega)
  have hlt : ab < w.heap.size := World.block_lt_of_cell? w _ hc1
  have HC := Lib.hid hc1
  have HN := Lib.hid hn
  clear hn hc hc1 hA
  go_enter Tryd.func22, Tryd.ntmps22
  go_wp2_with fail
  refine (rwhy_any HN.out c k 0).mono ?_
  rintro e w1 ⟨rfl, rfl⟩
  rw [HE.out]
  go_wp2
  have hx : ∀ o1 o2 o3 : Obj, (((w.alloc o1).alloc o2).alloc o3).cell? ⟨ab, ao + k, none⟩ = some (.int .i64 (nth l k)) := fun o1 o2 o3 => by
    rw [World.cell?_alloc_lt _ _ _ (by simp; omega), World.cell?_alloc_lt _ _ _ (by simp; omega), World.cell?_alloc_lt _ _ _ hlt]; exact HC.out
  go_region
  all_goals
    go_wp2
    refine bodyPost_ret (v := .tuple #[.agg #[.slice (some ⟨ab, ao, none⟩) n ca, .int .i64 (c + 1)], .int .i64 (nth l k), .int .i64 0]) (by simp [results, Tryd.results22, go_sem]) rfl ⟨rfl, ?_⟩
    exact ((((Below.refl _ _).alloc (Nat.le_refl _) _).alloc (by simp) _).alloc (by simp; omega) _).drew
end Go.Proofs.YthkpopphefolmaaDoor.Cell
