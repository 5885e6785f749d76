/- Lanes: Clone, New: contracts. -/
import Derived.Test.YtmfkapbllmfegaaQ1
import Derived.OwnWalk
namespace Go.Proofs.Ytmfkapbllmfegaa.L10
open Go.RowKit Go.Proofs.Ytmfkapbllmfegaa.G
set_option maxRecDepth 100000
variable {w w' : World} {b L P : Nat} {r : Value} {d : List MV}

def iv (l : List Int) : List Value := l.map (Value.int .i64)
theorem iv_len (l : List Int) : (iv l).length = l.length := by simp [iv]
theorem iv_one (l : List Int) : ∀ u ∈ iv l, u.oneCell' = true := by
  intro u hu; obtain ⟨x, _, rfl⟩ := List.mem_map.1 hu; rfl
/-- A message's words can be read. -/
structure Wr (w : World) (m : MV) : Prop where
  row : Row w m.a (iv m.ws)
  le : m.ws.length ≤ m.c
  top : m.c ≤ 9223372036854775807
/-- They lie in memory of their own. -/
def Wo (w : World) (B : Nat) (m : MV) : Prop := Own w B 3 1 (.slice m.a m.ws.length m.c) m.ws.length (iv m.ws)
theorem Wr.below {m : MV} (h : Wr w m) (hb : Below w.heap.size w w') : Wr w' m := ⟨h.row.below hb, h.le, h.top⟩
theorem Wo.below {m : MV} {B : Nat} (h : Wo w B m) (hb : Below w.heap.size w w') : Wo w' B m := Own.below h hb
theorem Wo.less {m : MV} {B B' : Nat} (h : Wo w B m) (hB : B' ≤ B) : Wo w B' m := Own.less h hB
theorem Wo.wr {m : MV} {B : Nat} (h : Wo w B m) : Wr w m := by
  obtain ⟨A, c, e, hr, h1, h2, _⟩ := Own.row h
  injection e with e1 e2 e3
  subst e1 e3
  exact ⟨hr, by omega, by unfold maxLen at h2; omega⟩
theorem Wo.only {F : Nat → Prop} {m : MV} {B : Nat} (h : Wo w B m) (k : Only F w w') (hn : ∀ g cs, Blk w g 3 cs → ¬ F g) : Wo w' B m :=
  k.own h fun g hg => by obtain ⟨_, cur, hc⟩ := Own.block_lt h hg; exact hn g cur hc
theorem Wo.typ {m : MV} {B g : Nat} (h : Wo w B m) (hg : (Value.slice m.a m.ws.length m.c).ownBlock = some g) : ∃ cs, Blk w g 3 cs := (Own.block_lt h hg).2
theorem Ln.no_int (h : Ln w b L P r d) : ∀ g cs, Blk w g 3 cs → ¬ FL b r g := fun g cs hg => h.off hg (by decide) (by decide)
def ClPost (m : MV) (w : World) (e : Ending) (w' : World) : Prop := ∃ m', e = .returned m'.val ∧ m'.pl = m.pl ∧ Wo w' w.heap.size m' ∧ Below w.heap.size w w'
theorem blk_grown {g : Nat} {ty : TypeId} {cs : Array Value} {row : Option Nat} (h : Blk w g ty cs) (hb : w.grownBy w' row) (hg : some g ≠ row) : Blk w' g ty cs := (hb.block g h.lt hg).trans h
set_option maxHeartbeats 1000000 in
theorem clone_any {m : MV} (h : Wr w m) (hl : m.ws.length ≤ 1000) : Calls Try.prog 61 #[m.val] w (ClPost m w) := by
  obtain ⟨i0, hi, hz0, hz1, hz2⟩ := info_parts infoI
  obtain ⟨a, ws, c, ln, st, lt, sq⟩ := m
  obtain ⟨hrow, hle, htop⟩ := h
  have hrow' : Row w a (iv ws) := hrow
  have N0 := Blk.new w 43 #[.slice a ws.length c, .int .i64 ln, .int .i64 st, .int .i64 lt, .int .i64 sq]
  have N1 := N0.alloc (.cells #[.slice none 0 0, .int .i64 0, .int .i64 0, .int .i64 0, .int .i64 0] 43)
  have R1 := Blk.new (w.alloc (.cells #[.slice a ws.length c, .int .i64 ln, .int .i64 st, .int .i64 lt, .int .i64 sq] 43)) 43 #[.slice none 0 0, .int .i64 0, .int .i64 0, .int .i64 0, .int .i64 0]
  have HR := Lib.hid ((hrow'.alloc (.cells #[.slice a ws.length c, .int .i64 ln, .int .i64 st, .int .i64 lt, .int .i64 sq] 43)).alloc (.cells #[.slice none 0 0, .int .i64 0, .int .i64 0, .int .i64 0, .int .i64 0] 43))
  have HB := Lib.hid (ba1 (b01 w (.cells #[.slice a ws.length c, .int .i64 ln, .int .i64 st, .int .i64 lt, .int .i64 sq] 43)) (.cells #[.slice none 0 0, .int .i64 0, .int .i64 0, .int .i64 0, .int .i64 0] 43))
  have HN := Lib.hid (And.intro N1 R1)
  have HL : Hid (ws.length ≤ 1000) := hl
  clear hrow hrow' N0 N1 R1 hl
  unfold MV.val
  go_enter Try.func61, Try.ntmps61
  clear hle htop
  go_wp2_with (at_builtin; go_must (refine wpList_app Try.underlying38 hi hz0 hz1 hz2 rfl (by decide) rfl (.const (.slice none 0 0)) (.tmp 4) rfl (w.heap.size + 2) (.slice none 0 0) 0 [] rfl (Own.nil_ _ _ _ _) a ws.length c (iv ws) rfl HR.out (by rw [iv_len, Nat.mul_one]) (iv_one ws) (by have := HL.out; omega) (by decide) (by simp) ?_); intro v' w3 ho3 hb3 hg3 hob; clear hob; obtain ⟨A3, c3, rfl, hr3, hle3, hm3, hA3⟩ := Own.row ho3; have B0 := blk_grown HN.out.1 hg3 (by simp [Value.ownBlock]); have B1 := blk_grown HN.out.2 hg3 (by simp [Value.ownBlock]); simp only [World.size_alloc] at B1; have q0 := B0.cell 0; have q1 := B0.cell 1; have q2 := B0.cell 2; have q3 := B0.cell 3; have q4 := B0.cell 4; have p0 := B1.cell 0; have p1 := B1.cell 1; have p2 := B1.cell 2; have p3 := B1.cell 3; have p4 := B1.cell 4; have f0 := B0.frozen 0; have g0 := B1.frozen 0; have g1 := B1.frozen 1; have g2 := B1.frozen 2; have g3 := B1.frozen 3; have g4 := B1.frozen 4; simp only [List.getElem?_toArray, List.getElem?_cons_zero, List.getElem?_cons_succ] at q0 q1 q2 q3 q4 p0 p1 p2 p3 p4; have HO := Lib.hid ho3; have HB3 := Lib.hid hb3; have HBB := Lib.hid (And.intro B0 B1); clear ho3 hb3 hg3 hr3 hle3 hm3 hA3 B0 B1)
  refine bodyPost_ret (v := (MV.mk A3 ws c3 ln st lt sq).val) (by simp [results, Try.results61, go_sem, MV.val, p0, p1, p2, p3, p4]) rfl ?_
  have HO3 := (((((Only.refl (fun k => k = w.heap.size ∨ k = w.heap.size + 1) w3).set_ (.inl (.inl rfl)) 0 (Value.slice A3 ws.length c3)).set_ (.inl (.inr rfl)) 0 (Value.slice A3 ws.length c3)).set_ (.inl (.inr rfl)) 1 (.int .i64 ln)).set_ (.inl (.inr rfl)) 2 (.int .i64 st)).set_ (.inl (.inr rfl)) 3 (.int .i64 lt) |>.set_ (.inl (.inr rfl)) 4 (.int .i64 sq)
  have ho := HO.out
  simp only [Nat.zero_add, List.nil_append] at ho
  have hb3 : Below w.heap.size w w3 := HB.out.trans (HB3.out.mono (by omega))
  refine ⟨_, rfl, rfl, Own.less (HO3.own ho fun g hg hk => ?_) (by omega), HO3.to_below hb3 (fun k hk => by omega) hb3.size⟩
  have := (ho.block_lt hg).1
  omega
/-! ### New -/
def NewPost (w : World) (l p : Int) (e : Ending) (w' : World) : Prop := e = .returned (.pointer (some ⟨w.heap.size, 0, none⟩)) ∧ Ln w' w.heap.size (near l 3).toNat (near p 8).toNat (.slice none 0 0) [] ∧ Below w.heap.size w w'
theorem near_pos (n : Int) {m : Int} (hm : 1 < m) : ((near n m).toNat : Int) = near n m ∧ 1 ≤ near n m ∧ near n m ≤ m := by unfold near; omega
theorem new_any (l p : Int) (w : World) : Calls Try.prog 26 #[.int .i64 l, .int .i64 p] w (NewPost w l p) := by
  have h1 := near_pos l (m := 3) (by omega)
  have h2 := near_pos p (m := 8) (by omega)
  have H1 := Lib.hid h1.1
  have H2 := Lib.hid h2.1
  have C1 := Lib.hid (count_any l 3 (by omega))
  have C2 := Lib.hid (count_any p 8 (by omega))
  unfold NewPost
  generalize (near l 3).toNat = n1 at *
  generalize (near p 8).toNat = n2 at *
  rw [← H1.out] at C1
  rw [← H2.out] at C2
  clear h1 h2 H1 H2
  go_enter Try.func26, Try.ntmps26
  go_wp2_with fail
  refine (C1.out _).mono ?_
  rintro e w1 ⟨rfl, rfl⟩
  go_wp2_with fail
  refine (C2.out _).mono ?_
  rintro e w1 ⟨rfl, rfl⟩
  go_wp2_with fail
  go_ret
  exact ⟨rfl, ⟨Blk.new _ _ _, Own.nil_ _ _ _ _⟩, b01 _ _⟩
end Go.Proofs.Ytmfkapbllmfegaa.L10
