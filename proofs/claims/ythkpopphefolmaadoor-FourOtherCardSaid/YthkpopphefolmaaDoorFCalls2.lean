/- A register of four slots: Write, Read. -/
import Derived.Test.YthkpopphefolmaaDoorFCalls
namespace Go.Proofs.YthkpopphefolmaaDoor.F4
open Go.RowKit Go.Proofs.YthkpopphefolmaaDoor.G Go.Proofs.YthkpopphefolmaaDoor.Cell
attribute [local go_sem ↓] Go.wp_at_zero Go.wp_at_succ
set_option maxRecDepth 100000
variable {w w' : World} {br bm gm rb tb pb qb : Nat} {wa : WA} {ra : RA} {s : St} {c : Int} {F : Nat → Prop} {x : Wr} {y : Rr}

/-- A write's, or read's, blocks lie below the heap's end. -/
theorem Reg.trim_r (h : Reg w br bm gm wa ra s c F) : ∃ ra', Reg w br bm gm wa ra' s c F ∧ (s.rd ≠ none → ra'.hi ≤ w.heap.size) := by
  cases hy : s.rd with
  | none => exact ⟨ra, h, fun e => absurd rfl e⟩
  | some y =>
    have hr := h.rd y hy
    obtain ⟨o, o2, o3⟩ := h.ro (by rw [hy]; simp)
    refine ⟨{ ra with hi := min ra.hi w.heap.size }, ⟨h.head, h.mem, h.lt, h.own, h.wr, h.wo, fun z e => ?_, fun _ => ⟨?_, o2, fun b h1 h2 => o3 b h1 (by have : b < min ra.hi w.heap.size := h2; omega)⟩, fun e1 e2 => ?_⟩, fun _ => by show min ra.hi w.heap.size ≤ _; omega⟩
    · obtain ⟨a1, a2, a3, a4, a5, a6, a7, a8⟩ := h.rd z e
      exact ⟨a1, a2, a3, a4, a5, a6, a7, a8⟩
    · obtain ⟨cs, hrow, _⟩ := hr.row
      have u1 := hr.run.lt
      have u2 := hrow.lt
      have u3 := hr.rb.lt
      have u4 := hr.tb.lt
      have u5 := hr.t.lt
      have u6 := hr.pb.lt
      have u7 := hr.qb.lt
      obtain ⟨b1, b2, b3, b4, b5, b6, b7, b8, b9, b10, b11⟩ := o
      refine ⟨b1, b2, ⟨b3.1, ?_⟩, ⟨b4.1, ?_⟩, ⟨b5.1, ?_⟩, ⟨b6.1, ?_⟩, ⟨b7.1, ?_⟩, ⟨b8.1, ?_⟩, ⟨b9.1, ?_⟩, b10, fun j hj => ?_⟩
      · show ra.u < min ra.hi w.heap.size; omega
      · show ra.L < min ra.hi w.heap.size; omega
      · show ra.rb < min ra.hi w.heap.size; omega
      · show ra.tb < min ra.hi w.heap.size; omega
      · show ra.t < min ra.hi w.heap.size; omega
      · show ra.pb < min ra.hi w.heap.size; omega
      · show ra.qb < min ra.hi w.heap.size; omega
      · have h0 := b11 j hj
        have h9 := (hr.iv j hj).lt
        exact ⟨h0.1, by show ra.ib j < min ra.hi w.heap.size; omega, h0.2.2⟩
    · have := h.ap e1 e2
      rcases this with h1 | h1
      · exact .inl h1
      · exact .inr (by show min ra.hi w.heap.size ≤ _; omega)
theorem Reg.trim_w (h : Reg w br bm gm wa ra s c F) : ∃ wa', Reg w br bm gm wa' ra s c F ∧ (s.wr ≠ none → wa'.hi ≤ w.heap.size) := by
  cases hx : s.wr with
  | none => exact ⟨wa, h, fun e => absurd rfl e⟩
  | some x =>
    have hw := h.wr x hx
    obtain ⟨o, o2, o3⟩ := h.wo (by rw [hx]; simp)
    refine ⟨{ wa with hi := min wa.hi w.heap.size }, ⟨h.head, h.mem, h.lt, h.own, fun z e => ?_, fun _ => ⟨?_, o2, fun b h1 h2 => o3 b h1 (by have : b < min wa.hi w.heap.size := h2; omega)⟩, h.rd, h.ro, fun e1 e2 => ?_⟩, fun _ => by show min wa.hi w.heap.size ≤ _; omega⟩
    · obtain ⟨a1, a2, a3, a4, a5, a6⟩ := h.wr z e
      exact ⟨a1, a2, a3, a4, a5, a6⟩
    · obtain ⟨cs, hrow, _⟩ := hw.row
      have u1 := hw.run.lt
      have u2 := hrow.lt
      have u3 := hw.rb.lt
      have u6 := hw.pb.lt
      have u7 := hw.qb.lt
      obtain ⟨b1, b2, b3, b4, b5, b8, b9, b10, b11⟩ := o
      refine ⟨b1, b2, ⟨b3.1, ?_⟩, ⟨b4.1, ?_⟩, ⟨b5.1, ?_⟩, ⟨b8.1, ?_⟩, ⟨b9.1, ?_⟩, b10, fun j hj => ?_⟩
      · show wa.u < min wa.hi w.heap.size; omega
      · show wa.L < min wa.hi w.heap.size; omega
      · show wa.rb < min wa.hi w.heap.size; omega
      · show wa.pb < min wa.hi w.heap.size; omega
      · show wa.qb < min wa.hi w.heap.size; omega
      · have h0 := b11 j hj
        have h9 := (hw.iv j hj).1.lt
        have h8 := (hw.iv j hj).2.lt
        exact ⟨h0.1, by show wa.ib j < min wa.hi w.heap.size; omega, h0.2.2.1, by show wa.vb j < min wa.hi w.heap.size; omega, h0.2.2.2.2⟩
    · have := h.ap e1 e2
      rcases this with h1 | h1
      · exact .inl (by show min wa.hi w.heap.size ≤ _; omega)
      · exact .inr h1
theorem wcl_at {W L cap u lo hi : Nat} {ps : List (Nat × Nat)} (hlen : ps.length = W) {j : Nat} (hj : j < 4 + W) :
    (wcl rb pb qb ps ++ [wc4 rb pb qb, wc5 rb pb qb])[j]? = some (wclo ⟨lo, hi, u, L, cap, rb, pb, qb, fun j => (ps.getD j (0, 0)).1, fun j => (ps.getD j (0, 0)).2⟩ W j) := by
  unfold wclo
  rcases j with _ | _ | j
  · simp [wcl, wc1]
  · simp [wcl, wc2]
  · rw [if_neg (by omega), if_neg (by omega)]
    have hl : (wcl rb pb qb ps).length = W + 2 := by simp [wcl, hlen]
    by_cases h2 : j < W
    · rw [if_pos (by omega), List.getElem?_append_left (by omega)]
      simp [wcl, wc3, h2, hlen]
    · rw [if_neg (by omega), List.getElem?_append_right (by omega), hl]
      by_cases h3 : j = W
      · subst h3
        rw [if_pos (by omega), show j + 1 + 1 - (j + 2) = 0 by omega]; rfl
      · rw [if_neg (by omega), show j + 1 + 1 - (W + 2) = 1 by omega]; rfl
theorem rcl_at {W L cap u lo hi t : Nat} {ps : List Nat} (hlen : ps.length = W) {j : Nat} (hj : j < 3 + W) :
    (rcl rb pb qb tb ps)[j]? = some (rclo ⟨lo, hi, u, L, cap, rb, tb, t, pb, qb, fun j => ps.getD j 0⟩ j) := by
  unfold rclo
  rcases j with _ | _ | _ | j
  · simp [rcl, rc1]
  · simp [rcl, rc2]
  · simp [rcl, rc3]
  · rw [if_neg (by omega), if_neg (by omega), if_neg (by omega)]
    have h2 : j < W := by omega
    simp [rcl, rc4, h2, hlen]
/-- A new write's blocks. -/
theorem Reg.wnew {w1 w2 : World} {l : List Int} {L cn : Nat} {ps : List (Nat × Nat)} (h0 : Reg w1 br bm gm wa ra s c F) (hl : l.length = s.W) (hm : WMk w1 br l w2 rb pb qb L cn ps) :
    ∃ wa' ra', Reg ((w2.alloc (.cells #[.slice (some ⟨L, 0, none⟩) (4 + l.length) cn, .slice none 0 0] 159)).setCell ⟨br, 2, none⟩ (.pointer (some ⟨w2.heap.size, 0, none⟩))) br bm gm wa' ra' { s with wr := some ⟨0, l, 0, 0⟩ } c (Gr F w1.heap.size) ∧
      Only F w1 ((w2.alloc (.cells #[.slice (some ⟨L, 0, none⟩) (4 + l.length) cn, .slice none 0 0] 159)).setCell ⟨br, 2, none⟩ (.pointer (some ⟨w2.heap.size, 0, none⟩))) := by
  obtain ⟨ra', h, hrh⟩ := h0.trim_r
  have hbr := h.head.lt
  have hlt := h.lt
  obtain ⟨cs, hrow, hcs⟩ := hm.row
  have hwp := hm.wp
  have hlo := hwp.lo
  have hsz := hwp.bl.size
  have hLl := hm.hL
  have hLt := hrow.lt
  have hqt := hwp.qb.lt
  have hrun := Blk.new w2 159 #[.slice (some ⟨L, 0, none⟩) (4 + l.length) cn, .slice none 0 0]
  obtain ⟨Z, hZ⟩ : ∃ Z, (.cells #[.slice (some ⟨L, 0, none⟩) (4 + l.length) cn, .slice none 0 0] 159 : Obj) = Z := ⟨_, rfl⟩
  rw [hZ] at hrun ⊢
  have hbZ : Below w1.heap.size w1 (w2.alloc Z) := ba1 hwp.bl Z
  have far : ∀ {g : Nat} {t : TypeId} {cs : Array Value}, Blk w2 g t cs → g ≠ br → Blk ((w2.alloc Z).setCell ⟨br, 2, none⟩ (.pointer (some ⟨w2.heap.size, 0, none⟩))) g t cs := fun hb hn => (hb.alloc Z).far (p := ⟨br, 2, none⟩) hn _
  have hps : ∀ j, j < l.length → w1.heap.size ≤ (ps.getD j (0, 0)).1 ∧ w1.heap.size ≤ (ps.getD j (0, 0)).2 ∧ qb < (ps.getD j (0, 0)).1 ∧ qb < (ps.getD j (0, 0)).2 ∧ Blk w2 (ps.getD j (0, 0)).1 3 #[.int .i64 j] ∧ Blk w2 (ps.getD j (0, 0)).2 3 #[.int .i64 (nth l j)] := fun j hj => by
    have hj' : j < ps.length := by rw [hm.len]; exact hj
    obtain ⟨a, b, c1, c2⟩ := hm.ps j ps[j] (List.getElem?_eq_getElem hj')
    rw [show ps.getD j (0, 0) = ps[j] by simp [hj']]
    exact ⟨by omega, by omega, a, b, c1, c2⟩
  have hO : Only F w1 ((w2.alloc Z).setCell ⟨br, 2, none⟩ (.pointer (some ⟨w2.heap.size, 0, none⟩))) := (Only.of_below hbZ).set_ h.own.1 2 _
  refine ⟨⟨w1.heap.size, w2.heap.size + 1, w2.heap.size, L, cn, rb, pb, qb, fun j => (ps.getD j (0, 0)).1, fun j => (ps.getD j (0, 0)).2⟩, ra', ?_, hO⟩
  have h2 := h.below hbZ
  have hhead := h2.head.set_ 2 (.pointer (some ⟨w2.heap.size, 0, none⟩))
  have hord : WOrd ⟨w1.heap.size, w2.heap.size + 1, w2.heap.size, L, cn, rb, pb, qb, fun j => (ps.getD j (0, 0)).1, fun j => (ps.getD j (0, 0)).2⟩ s.W := by
    refine ⟨by rw [← hl]; exact hm.cap, hm.cap2, ⟨hsz, Nat.lt_succ_self _⟩, ⟨hLl, Nat.lt_succ_of_lt hLt⟩, ⟨hlo.1, ?_⟩, ⟨?_, ?_⟩, ⟨?_, Nat.lt_succ_of_lt hqt⟩, ?_, fun j hj => ?_⟩
    · show rb < w2.heap.size + 1; omega
    · show w1.heap.size ≤ pb; omega
    · show pb < w2.heap.size + 1; omega
    · show w1.heap.size ≤ qb; omega
    · show pb ≠ qb; omega
    · obtain ⟨a1, a2, a3, a4, a5, a6⟩ := hps j (by omega)
      have t5 := a5.lt
      have t6 := a6.lt
      refine ⟨a1, Nat.lt_succ_of_lt t5, a2, Nat.lt_succ_of_lt t6, ?_, ?_, ?_, ?_⟩
      · show (ps.getD j (0, 0)).1 ≠ pb; omega
      · show (ps.getD j (0, 0)).1 ≠ qb; omega
      · show (ps.getD j (0, 0)).2 ≠ pb; omega
      · show (ps.getD j (0, 0)).2 ≠ qb; omega
  have hra : ∀ y, s.rd = some y → RdAt ((w2.alloc Z).setCell ⟨br, 2, none⟩ (.pointer (some ⟨w2.heap.size, 0, none⟩))) br s.W ra' y := fun y e => by
    obtain ⟨o, o2, o3⟩ := h.ro (by rw [e]; simp)
    exact (h2.rd y e).keep o fun b h0 h1 h2' => Below.heap_setCell _ _ _ _ (by show b ≠ br; omega)
  refine ⟨hhead, ⟨h2.mem.head.far (p := ⟨br, 2, none⟩) (by show bm ≠ br; omega) _, h2.mem.words.far (p := ⟨br, 2, none⟩) (by show gm ≠ br; omega) _⟩, h.lt, ⟨.inl h.own.1, .inl h.own.2.1, .inl h.own.2.2⟩, fun z e => ?_, fun _ => ⟨hord, by show br < w1.heap.size; omega, fun b h1 _ => .inr h1⟩, hra, fun e => ⟨(h.ro e).1, (h.ro e).2.1, fun b h1 h2 => .inl ((h.ro e).2.2 b h1 h2)⟩, fun _ e2 => .inr (hrh e2)⟩
  obtain rfl := Option.some.inj e
  refine ⟨?_, ⟨cs, far hrow (show L ≠ br by omega), fun j hj => hcs j _ (wcl_at (hm.len.trans hl) hj)⟩, far hwp.rb (show rb ≠ br by omega), far hwp.pb (show pb ≠ br by omega), far hwp.qb (show qb ≠ br by omega), fun j hj => ?_⟩
  · have := hrun.far (p := ⟨br, 2, none⟩) (show w2.heap.size ≠ br by omega) (.pointer (some ⟨w2.heap.size, 0, none⟩))
    rw [hl] at this
    exact this
  · obtain ⟨a1, a2, a3, a4, a5, a6⟩ := hps j (by rw [hl]; exact hj)
    exact ⟨far a5 (by show (ps.getD j (0, 0)).1 ≠ br; omega), far a6 (by show (ps.getD j (0, 0)).2 ≠ br; omega)⟩
/-- A new read's blocks. -/
theorem Reg.rnew {w1 w2 : World} {tg L cn : Nat} {ps : List Nat} (h0 : Reg w1 br bm gm wa ra s c F) {B : Nat} (hB : B ≤ tg) (hbB : br < B) (hwB : s.wr ≠ none → wa.hi ≤ B) (htg : Blk w1 tg 3 (ints (List.replicate s.W 0))) (hm : RMk w1 br (.slice (some ⟨tg, 0, none⟩) s.W s.W) s.W w2 rb tb pb qb L cn ps) :
    ∃ ra', Reg ((w2.alloc (.cells #[.slice (some ⟨L, 0, none⟩) (3 + s.W) cn, .slice (some ⟨tg, 0, none⟩) s.W s.W] 159)).setCell ⟨br, 3, none⟩ (.pointer (some ⟨w2.heap.size, 0, none⟩))) br bm gm wa ra' { s with rd := some ⟨0, 0, 0, List.replicate s.W 0⟩ } c (Gr F B) ∧
      Only F w1 ((w2.alloc (.cells #[.slice (some ⟨L, 0, none⟩) (3 + s.W) cn, .slice (some ⟨tg, 0, none⟩) s.W s.W] 159)).setCell ⟨br, 3, none⟩ (.pointer (some ⟨w2.heap.size, 0, none⟩))) := by
  have h := h0
  have hbr := h.head.lt
  have hlt := h.lt
  obtain ⟨cs, hrow, hcs⟩ := hm.row
  have hwp := hm.rp
  have hlo := hwp.lo
  have hsz := hwp.bl.size
  have hLl := hm.hL
  have hLt := hrow.lt
  have hqt := hwp.qb.lt
  have htl := htg.lt
  have hrun := Blk.new w2 159 #[.slice (some ⟨L, 0, none⟩) (3 + s.W) cn, .slice (some ⟨tg, 0, none⟩) s.W s.W]
  obtain ⟨Z, hZ⟩ : ∃ Z, (.cells #[.slice (some ⟨L, 0, none⟩) (3 + s.W) cn, .slice (some ⟨tg, 0, none⟩) s.W s.W] 159 : Obj) = Z := ⟨_, rfl⟩
  rw [hZ] at hrun ⊢
  have hbZ : Below w1.heap.size w1 (w2.alloc Z) := ba1 hwp.bl Z
  have far : ∀ {g : Nat} {t : TypeId} {cs : Array Value}, Blk w2 g t cs → g ≠ br → Blk ((w2.alloc Z).setCell ⟨br, 3, none⟩ (.pointer (some ⟨w2.heap.size, 0, none⟩))) g t cs := fun hb hn => (hb.alloc Z).far (p := ⟨br, 3, none⟩) hn _
  have hps : ∀ j, j < s.W → w1.heap.size ≤ ps.getD j 0 ∧ qb < ps.getD j 0 ∧ Blk w2 (ps.getD j 0) 3 #[.int .i64 j] := fun j hj => by
    have hj' : j < ps.length := by rw [hm.len]; exact hj
    obtain ⟨a, c1⟩ := hm.ps j ps[j] (List.getElem?_eq_getElem hj')
    rw [show ps.getD j 0 = ps[j] by simp [hj']]
    exact ⟨by omega, a, c1⟩
  have hO : Only F w1 ((w2.alloc Z).setCell ⟨br, 3, none⟩ (.pointer (some ⟨w2.heap.size, 0, none⟩))) := (Only.of_below hbZ).set_ h.own.1 3 _
  refine ⟨⟨B, w2.heap.size + 1, w2.heap.size, L, cn, rb, tb, tg, pb, qb, fun j => ps.getD j 0⟩, ?_, hO⟩
  have h2 := h.below hbZ
  have hhead := h2.head.set_ 3 (.pointer (some ⟨w2.heap.size, 0, none⟩))
  have hord : ROrd ⟨B, w2.heap.size + 1, w2.heap.size, L, cn, rb, tb, tg, pb, qb, fun j => ps.getD j 0⟩ s.W := by
    refine ⟨hm.cap, hm.cap2, ⟨?_, Nat.lt_succ_self _⟩, ⟨?_, Nat.lt_succ_of_lt hLt⟩, ⟨?_, ?_⟩, ⟨?_, ?_⟩, ⟨hB, ?_⟩, ⟨?_, ?_⟩, ⟨?_, Nat.lt_succ_of_lt hqt⟩, ⟨?_, ?_, ?_⟩, fun j hj => ?_⟩
    · show B ≤ w2.heap.size; omega
    · show B ≤ L; omega
    · show B ≤ rb; omega
    · show rb < w2.heap.size + 1; omega
    · show B ≤ tb; omega
    · show tb < w2.heap.size + 1; omega
    · show tg < w2.heap.size + 1; omega
    · show B ≤ pb; omega
    · show pb < w2.heap.size + 1; omega
    · show B ≤ qb; omega
    · show pb ≠ qb; omega
    · show tg ≠ pb; omega
    · show tg ≠ qb; omega
    · obtain ⟨a1, a3, a5⟩ := hps j hj
      have t5 := a5.lt
      refine ⟨?_, Nat.lt_succ_of_lt t5, ?_, ?_, ?_⟩
      · show B ≤ ps.getD j 0; omega
      · show ps.getD j 0 ≠ pb; omega
      · show ps.getD j 0 ≠ qb; omega
      · show ps.getD j 0 ≠ tg; omega
  have hwr : ∀ x, s.wr = some x → WrAt ((w2.alloc Z).setCell ⟨br, 3, none⟩ (.pointer (some ⟨w2.heap.size, 0, none⟩))) br s.W wa x := fun x e => by
    obtain ⟨o, o2, o3⟩ := h.wo (by rw [e]; simp)
    exact (h2.wr x e).keep o fun b h0 h1 h2' => Below.heap_setCell _ _ _ _ (by show b ≠ br; omega)
  refine ⟨hhead, ⟨h2.mem.head.far (p := ⟨br, 3, none⟩) (by show bm ≠ br; omega) _, h2.mem.words.far (p := ⟨br, 3, none⟩) (by show gm ≠ br; omega) _⟩, h.lt, ⟨.inl h.own.1, .inl h.own.2.1, .inl h.own.2.2⟩, hwr, fun e => ⟨(h.wo e).1, (h.wo e).2.1, fun b h1 h2 => .inl ((h.wo e).2.2 b h1 h2)⟩, fun z e => ?_, fun _ => ⟨hord, hbB, fun b h1 _ => .inr h1⟩, fun e1 _ => .inl (hwB e1)⟩
  obtain rfl := Option.some.inj e
  refine ⟨?_, ⟨cs, far hrow (show L ≠ br by omega), fun j hj => hcs j _ (rcl_at hm.len hj)⟩, far hwp.rb (show rb ≠ br by omega), far hwp.tb (show tb ≠ br by omega), far (htg.bel hwp.bl) (show tg ≠ br by omega), far hwp.pb (show pb ≠ br by omega), far hwp.qb (show qb ≠ br by omega), fun j hj => ?_⟩
  · exact hrun.far (p := ⟨br, 3, none⟩) (show w2.heap.size ≠ br by omega) (.pointer (some ⟨w2.heap.size, 0, none⟩))
  · obtain ⟨a1, a3, a5⟩ := hps j hj
    exact far a5 (by show ps.getD j 0 ≠ br; omega)
end Go.Proofs.YthkpopphefolmaaDoor.F4
