/- Clone: contracts; configs whose lists are memory of their own. -/
import Derived.Test.YtfbbgoahipejlabDoorLive
namespace Go.Proofs.YtfbbgoahipejlabDoor.C04
open Go.RowKit Go.Proofs.YtfbbgoahipejlabDoor.G

theorem own_off {w : World} {B : Nat} {t t' : TypeId} {m n : Nat} {v : Value} {xs : List Value} {cs : Array Value} (h : Own w B t m v n xs) {g : Nat} (hg : Blk w g t' cs) (hne : t ≠ t') : ∀ g', v.ownBlock = some g' → g' ≠ g := by
  intro g' hg'
  obtain ⟨_, cur, hb⟩ := h.block_lt hg'
  exact Blk.ne_ hb hg hne
theorem own_st {w : World} {B : Nat} {t : TypeId} {m n : Nat} {v : Value} {xs : List Value} (h : Own w B t m v n xs) {g : Nat} (hg : ∀ g', v.ownBlock = some g' → g' ≠ g) (i : Nat) (u : Value) : Own (w.setCell ⟨g, i, none⟩ u) B t m v n xs := by
  refine ⟨h.1, ?_⟩
  rcases h.2 with h0 | ⟨g', cap, cur, hv, hB, hh, r⟩
  · exact .inl h0
  · refine .inr ⟨g', cap, cur, hv, hB, ?_, r⟩
    rw [Below.heap_setCell w ⟨g, i, none⟩ u g' (hg g' (by rw [hv]; simp [Value.ownBlock]))]; exact hh
def zwin : Value := .agg #[.int .i64 0, .int .i64 0, .int .i64 0]
def zchn : Value := .agg #[.int .i64 0, .int .i64 0, .int .i64 0, .int .i64 0, .int .i64 0, .int .i64 0, .int .i64 0, .int .i64 0, .int .i64 0, .int .i64 0, .int .i64 0]
theorem infoW : (Tryd.prog.info? 89).map (fun i => (i.zero, i.size, i.bytes)) = some (some zwin, 3, 24) := by kernel_rfl
theorem infoC : (Tryd.prog.info? 118).map (fun i => (i.zero, i.size, i.bytes)) = some (some zchn, 11, 88) := by kernel_rfl
theorem infoI : (Tryd.prog.info? 3).map (fun i => (i.zero, i.size, i.bytes)) = some (some (.int .i64 0), 1, 8) := by kernel_rfl
def OwnPost (t : TypeId) (m n : Nat) (xs : List Value) (w : World) (e : Ending) (w' : World) : Prop := ∃ v, e = .returned v ∧ Own w' w.heap.size t m v n xs ∧ Below w.heap.size w w'
theorem clnw_any {w : World} {A : Option Addr} {c : Nat} {l : List Win} (hr : Row w A (wvs l)) (hl : l.length ≤ 4096) :
    Calls Tryd.prog 132 #[.slice A l.length c] w (OwnPost 89 3 l.length (wvs l) w) := by
  obtain ⟨i0, hi, hz0, hz1, hz2⟩ := info_parts infoW
  have q := fun (w : World) (a : Option Addr) (n c n' c' : Nat) => Lib.run_eql_slice_nil (P := Tryd.prog) w 26 89 a n c n' c' Tryd.underlying26
  cases A with
  | none =>
    have h0 := hr.nil_
    have hl0 : l = [] := by
      have := wvs_len l; rw [h0] at this; simp at this; exact List.eq_nil_of_length_eq_zero (by omega)
    subst hl0
    go_enter Tryd.func132, Tryd.ntmps132
    go_wp2
    go_ret
    exact ⟨_, rfl, Own.nil_ _ _ _ _, Below.refl _ _⟩
  | some a =>
    have HR := Lib.hid (hr.alloc (.cells #[] 89)); clear hr
    go_enter Tryd.func132, Tryd.ntmps132
    go_wp2_with (at_builtin; refine wpList_app Tryd.underlying26 hi hz0 hz1 hz2 rfl (by omega) rfl _ _ rfl w.heap.size _ 0 [] rfl (World.ownsRow_made w #[] 0 (Nat.le_refl _) (Nat.zero_le _) rfl) (some a) l.length c (wvs l) rfl HR.out (wvs_len l) (wvs_one l) (by omega) (by omega) (by simp) ?_)
    intro v' w1 hown hgrow hnil hb
    clear hnil
    go_wp2
    go_ret
    refine ⟨v', rfl, by simpa using hown, (b01 w _).trans hgrow⟩
theorem clnc_any {w : World} {A : Option Addr} {c : Nat} {l : List Chn} (hr : Row w A (cvs l)) (hl : l.length ≤ 4096) :
    Calls Tryd.prog 133 #[.slice A l.length c] w (OwnPost 118 11 l.length (cvs l) w) := by
  obtain ⟨i0, hi, hz0, hz1, hz2⟩ := info_parts infoC
  have q := fun (w : World) (a : Option Addr) (n c n' c' : Nat) => Lib.run_eql_slice_nil (P := Tryd.prog) w 27 118 a n c n' c' Tryd.underlying27
  cases A with
  | none =>
    have h0 := hr.nil_
    have hl0 : l = [] := by
      have := cvs_len l; rw [h0] at this; simp at this; exact List.eq_nil_of_length_eq_zero (by omega)
    subst hl0
    go_enter Tryd.func133, Tryd.ntmps133
    go_wp2
    go_ret
    exact ⟨_, rfl, Own.nil_ _ _ _ _, Below.refl _ _⟩
  | some a =>
    have HR := Lib.hid (hr.alloc (.cells #[] 118)); clear hr
    go_enter Tryd.func133, Tryd.ntmps133
    go_wp2_with (at_builtin; refine wpList_app Tryd.underlying27 hi hz0 hz1 hz2 rfl (by omega) rfl _ _ rfl w.heap.size _ 0 [] rfl (World.ownsRow_made w #[] 0 (Nat.le_refl _) (Nat.zero_le _) rfl) (some a) l.length c (cvs l) rfl HR.out (cvs_len l) (cvs_one l) (by omega) (by omega) (by simp) ?_)
    intro v' w1 hown hgrow hnil hb
    clear hnil
    go_wp2
    go_ret
    refine ⟨v', rfl, by simpa using hown, (b01 w _).trans hgrow⟩
theorem clni_any {w : World} {A : Option Addr} {c : Nat} {l : List Int} (hr : Row w A (ivs l)) (hl : l.length ≤ 4096) :
    Calls Tryd.prog 81 #[.slice A l.length c] w (OwnPost 3 1 l.length (ivs l) w) := by
  obtain ⟨i0, hi, hz0, hz1, hz2⟩ := info_parts infoI
  have q := fun (w : World) (a : Option Addr) (n c n' c' : Nat) => Lib.run_eql_slice_nil (P := Tryd.prog) w 28 3 a n c n' c' Tryd.underlying28
  cases A with
  | none =>
    have h0 := hr.nil_
    have hl0 : l = [] := by
      have := ivs_len l; rw [h0] at this; simp at this; exact List.eq_nil_of_length_eq_zero (by omega)
    subst hl0
    go_enter Tryd.func81, Tryd.ntmps81
    go_wp2
    go_ret
    exact ⟨_, rfl, Own.nil_ _ _ _ _, Below.refl _ _⟩
  | some a =>
    have HR := Lib.hid (hr.alloc (.cells #[] 3)); clear hr
    go_enter Tryd.func81, Tryd.ntmps81
    go_wp2_with (at_builtin; refine wpList_app Tryd.underlying28 hi hz0 hz1 hz2 rfl (by omega) rfl _ _ rfl w.heap.size _ 0 [] rfl (World.ownsRow_made w #[] 0 (Nat.le_refl _) (Nat.zero_le _) rfl) (some a) l.length c (ivs l) rfl HR.out (by rw [ivs_len, Nat.mul_one]) (ivs_one l) (by omega) (by omega) (by simp) ?_)
    intro v' w1 hown hgrow hnil hb
    clear hnil
    go_wp2
    go_ret
    refine ⟨v', rfl, by simpa using hown, (b01 w _).trans hgrow⟩

/-! ### Configs whose lists are memory of their own -/
def CfgOwn (w : World) (B : Nat) (v : Value) (c : Cfg) : Prop := ∃ v1 v2 v3, v = .agg #[.int .i64 c.P, .int .i64 c.F, v1, v2, v3] ∧ Own w B 89 3 v1 c.ws.length (wvs c.ws) ∧ Own w B 118 11 v2 c.cs.length (cvs c.cs) ∧ Own w B 3 1 v3 c.ac.length (ivs c.ac) ∧ WB c
theorem CfgOwn.at_ {w : World} {B : Nat} {v : Value} {c : Cfg} (h : CfgOwn w B v c) : CfgAt w v c := by
  obtain ⟨v1, v2, v3, rfl, h1, h2, h3, hw⟩ := h
  obtain ⟨A1, c1, rfl, r1, l1, m1, _⟩ := h1.row
  obtain ⟨A2, c2, rfl, r2, l2, m2, _⟩ := h2.row
  obtain ⟨A3, c3, rfl, r3, l3, m3, _⟩ := h3.row
  unfold maxLen at m1 m2 m3
  exact ⟨A1, A2, A3, c1, c2, c3, rfl, r1, r2, r3, l1, by omega, l2, by omega, l3, by omega, hw⟩
theorem CfgOwn.below {w w' : World} {B : Nat} {v : Value} {c : Cfg} (h : CfgOwn w B v c) (hb : Below w.heap.size w w') : CfgOwn w' B v c := by
  obtain ⟨v1, v2, v3, rfl, h1, h2, h3, hw⟩ := h
  exact ⟨v1, v2, v3, rfl, h1.below hb, h2.below hb, h3.below hb, hw⟩
theorem CfgOwn.less {w : World} {B B' : Nat} {v : Value} {c : Cfg} (h : CfgOwn w B v c) (hB : B' ≤ B) : CfgOwn w B' v c := by
  obtain ⟨v1, v2, v3, rfl, h1, h2, h3, hw⟩ := h
  exact ⟨v1, v2, v3, rfl, h1.less hB, h2.less hB, h3.less hB, hw⟩
def OwnCfgPost (c : Cfg) (w : World) (e : Ending) (w' : World) : Prop := ∃ v, e = .returned v ∧ CfgOwn w' w.heap.size v c ∧ Below w.heap.size w w'
theorem own_slice {w : World} {B : Nat} {t : TypeId} {m n : Nat} {v : Value} {xs : List Value} (h : Own w B t m v n xs) : ∃ A c, v = .slice A n c := by
  obtain ⟨A, c, e, _⟩ := h.row; exact ⟨A, c, e⟩
set_option maxHeartbeats 1000000 in
theorem clone_any {w : World} {v : Value} {c : Cfg} (h : CfgAt w v c) (n1 : c.ws.length ≤ 4096) (n2 : c.cs.length ≤ 4096) (n3 : c.ac.length ≤ 4096) : Calls Tryd.prog 89 #[v] w (OwnCfgPost c w) := by
  obtain ⟨A1, A2, A3, c1, c2, c3, rfl, h1, h2, h3, l1, m1, l2, m2, l3, m3, hwb⟩ := h
  have H1 := Lib.hid h1
  have H2 := Lib.hid h2
  have H3 := Lib.hid h3
  have HWB := Lib.hid hwb
  clear h1 h2 h3 hwb
  have B0 := (Blk.new w 30 #[.int .i64 c.P, .int .i64 c.F, .slice A1 c.ws.length c1, .slice A2 c.cs.length c2, .slice A3 c.ac.length c3]).alloc (.cells #[.int .i64 0, .int .i64 0, .slice none 0 0, .slice none 0 0, .slice none 0 0] 30)
  have B1 := Blk.new_at (w := w.alloc (.cells #[.int .i64 c.P, .int .i64 c.F, .slice A1 c.ws.length c1, .slice A2 c.cs.length c2, .slice A3 c.ac.length c3] 30)) (n := w.heap.size + 1) (by simp) 30 #[.int .i64 0, .int .i64 0, .slice none 0 0, .slice none 0 0, .slice none 0 0]
  have HB : Below w.heap.size w _ := ba1 (b01 w (.cells #[.int .i64 c.P, .int .i64 c.F, .slice A1 c.ws.length c1, .slice A2 c.cs.length c2, .slice A3 c.ac.length c3] 30)) (.cells #[.int .i64 0, .int .i64 0, .slice none 0 0, .slice none 0 0, .slice none 0 0] 30)
  go_enter Tryd.func89, Tryd.ntmps89
  go_wp2_with fail
  refine (clnw_any (H1.out.below HB) n1).mono ?_
  rintro e w1 ⟨v1, rfl, o1, hb1⟩
  have HB1 := bt HB hb1
  have X0 := B0.bel hb1
  have X1 := B1.bel hb1
  obtain ⟨P1, p1, hv1⟩ := own_slice o1
  subst hv1
  have q0 := X0.cell
  have f0 := X0.frozen
  have o1a := o1.far X0 (by decide) 2 (.slice P1 c.ws.length p1)
  have X0a : Blk (w1.setCell ⟨w.heap.size, 2, none⟩ (.slice P1 c.ws.length p1)) w.heap.size 30 #[.int .i64 c.P, .int .i64 c.F, .slice P1 c.ws.length p1, .slice A2 c.cs.length c2, .slice A3 c.ac.length c3] := by simpa using X0.set_ 2 (.slice P1 c.ws.length p1)
  have X1a := X1.far (p := ⟨w.heap.size, 2, none⟩) (by simp) (.slice P1 c.ws.length p1)
  have HB1a : Below w.heap.size w (w1.setCell ⟨w.heap.size, 2, none⟩ (.slice P1 c.ws.length p1)) := HB1.setCell (Nat.le_refl _) _
  clear B0 B1
  go_wp2_with fail
  clear q0 f0
  refine (clnc_any (H2.out.below HB1a) n2).mono ?_
  rintro e w2 ⟨v2, rfl, o2, hb2⟩
  have HB2 := bt HB1a hb2
  have o1b := o1a.below hb2
  have X0b := X0a.bel hb2
  have X1b := X1a.bel hb2
  obtain ⟨P2, p2, hv2⟩ := own_slice o2
  subst hv2
  have q0 := X0b.cell
  have f0 := X0b.frozen
  have o1c := o1b.far X0b (by decide) 3 (.slice P2 c.cs.length p2)
  have o2c := (o2.less HB1a.size).far X0b (by decide) 3 (.slice P2 c.cs.length p2)
  have X0c : Blk (w2.setCell ⟨w.heap.size, 3, none⟩ (.slice P2 c.cs.length p2)) w.heap.size 30 #[.int .i64 c.P, .int .i64 c.F, .slice P1 c.ws.length p1, .slice P2 c.cs.length p2, .slice A3 c.ac.length c3] := by simpa using X0b.set_ 3 (.slice P2 c.cs.length p2)
  have X1c := X1b.far (p := ⟨w.heap.size, 3, none⟩) (by simp) (.slice P2 c.cs.length p2)
  have HB2c : Below w.heap.size w (w2.setCell ⟨w.heap.size, 3, none⟩ (.slice P2 c.cs.length p2)) := HB2.setCell (Nat.le_refl _) _
  clear X0 X1 X0a X1a
  go_wp2_with fail
  clear q0 f0
  refine (clni_any (H3.out.below HB2c) n3).mono ?_
  rintro e w3 ⟨v3, rfl, o3, hb3⟩
  have HB3 := bt HB2c hb3
  have o1d := o1c.below hb3
  have o2d := o2c.below hb3
  have X0d := X0c.bel hb3
  have X1d := X1c.bel hb3
  obtain ⟨P3, p3, hv3⟩ := own_slice o3
  subst hv3
  have o3d := o3.less HB2c.size
  have q0 := X0d.cell
  have f0 := X0d.frozen
  have q1 := X1d.cell
  have f1 := X1d.frozen
  have hz1 := X1d.lt
  clear X0b X1b X0c X1c
  have a1 := own_off o1d X0d (by decide)
  have b1 := own_off o1d X1d (by decide)
  have a2 := own_off o2d X0d (by decide)
  have b2 := own_off o2d X1d (by decide)
  have a3 := own_off o3d X0d (by decide)
  have b3 := own_off o3d X1d (by decide)
  have K := Lib.hid (And.intro a1 (And.intro b1 (And.intro a2 (And.intro b2 (And.intro a3 b3)))))
  clear a1 b1 a2 b2 a3 b3
  go_wp2_with fail
  obtain ⟨a1, b1, a2, b2, a3, b3⟩ := K.out
  refine bodyPost_ret (v := .agg #[.int .i64 c.P, .int .i64 c.F, .slice P1 c.ws.length p1, .slice P2 c.cs.length p2, .slice P3 c.ac.length p3]) (by simp [results, Tryd.results89, go_sem, *]) rfl ⟨_, rfl, ⟨_, _, _, rfl, ?_, ?_, ?_, HWB.out⟩, ?_⟩
  · exact (own_st (own_st (own_st (own_st (own_st (own_st (o1d.less HB.size) a1 4 _) b1 0 _) b1 1 _) b1 2 _) b1 3 _) b1 4 _)
  · exact (own_st (own_st (own_st (own_st (own_st (own_st o2d a2 4 _) b2 0 _) b2 1 _) b2 2 _) b2 3 _) b2 4 _)
  · exact (own_st (own_st (own_st (own_st (own_st (own_st o3d a3 4 _) b3 0 _) b3 1 _) b3 2 _) b3 3 _) b3 4 _)
  · exact (((((HB3.setCell (Nat.le_refl _) _).setCell (Nat.le_succ _) _).setCell (Nat.le_succ _) _).setCell (Nat.le_succ _) _).setCell (Nat.le_succ _) _).setCell (Nat.le_succ _) _
end Go.Proofs.YtfbbgoahipejlabDoor.C04
