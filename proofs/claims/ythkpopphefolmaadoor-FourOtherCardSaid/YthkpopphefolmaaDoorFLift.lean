/- A register of four slots: each access, and what is left of the register. -/
import Derived.Test.YthkpopphefolmaaDoorFAcc
namespace Go.Proofs.YthkpopphefolmaaDoor.F4
open Go.RowKit Go.Proofs.YthkpopphefolmaaDoor.G Go.Proofs.YthkpopphefolmaaDoor.Cell
variable {w w' : World} {br bm gm : Nat} {wa : WA} {ra : RA} {s : St} {c : Int} {F : Nat → Prop} {x : Wr} {y : Rr}

theorem Reg.accw (h : Reg w br bm gm wa ra s c F) (hx : s.wr = some x) {o : Nat} (ho : wa.lo ≤ o ∧ o < wa.hi) (hO : Only (O3 bm gm o) w w') {m' : List Int} {x' : Wr} (hmem : MemAt w' bm gm m' (c + 1)) (hwr : WrAt w' br s.W wa x') :
    Reg w' br bm gm wa ra { s with m := m', wr := some x' } (c + 1) F ∧ Only F w w' := by
  obtain ⟨o1, o2, o3⟩ := h.wo (by rw [hx]; simp)
  have hlt := h.lt
  have hown := h.own
  refine ⟨h.w_ rfl rfl (fun _ => by rw [hx]; simp) ?_ hmem (fun z e => by obtain rfl := Option.some.inj e; exact hwr) (fun b h0 h1 h2 h3 h4 => hO.block b h0 ?_), hO.mono fun b hb => ?_⟩
  · have e1 : wpt { s with m := m', wr := some x' } wa = wpt s wa := by simp [wpt, hx]
    rw [e1]
    exact Only.blk h.head hO (by unfold O3; omega)
  · rintro (rfl | rfl | rfl)
    · exact h2 rfl
    · exact h3 rfl
    · exact h4 ⟨ho.1, ho.2, by rw [hx]; simp⟩
  · rcases hb with rfl | rfl | rfl
    · exact hown.2.1
    · exact hown.2.2
    · exact o3 _ ho.1 ho.2
theorem Reg.accr (h : Reg w br bm gm wa ra s c F) (hy : s.rd = some y) {o : Nat} (ho : ra.lo ≤ o ∧ o < ra.hi) (hO : Only (O3 bm gm o) w w') {m' : List Int} {y' : Rr} (hmem : MemAt w' bm gm m' (c + 1)) (hrd : RdAt w' br s.W ra y') :
    Reg w' br bm gm wa ra { s with m := m', rd := some y' } (c + 1) F ∧ Only F w w' := by
  obtain ⟨o1, o2, o3⟩ := h.ro (by rw [hy]; simp)
  have hlt := h.lt
  have hown := h.own
  refine ⟨h.r_ rfl rfl (fun _ => by rw [hy]; simp) ?_ hmem (fun z e => by obtain rfl := Option.some.inj e; exact hrd) (fun b h0 h1 h2 h3 h4 => hO.block b h0 ?_), hO.mono fun b hb => ?_⟩
  · have e1 : rpt { s with m := m', rd := some y' } ra = rpt s ra := by simp [rpt, hy]
    rw [e1]
    exact Only.blk h.head hO (by unfold O3; omega)
  · rintro (rfl | rfl | rfl)
    · exact h2 rfl
    · exact h3 rfl
    · exact h4 ⟨ho.1, ho.2, by rw [hy]; simp⟩
  · rcases hb with rfl | rfl | rfl
    · exact hown.2.1
    · exact hown.2.2
    · exact o3 _ ho.1 ho.2
/-- Behind an access. -/
def APost (br bm gm : Nat) (wa : WA) (ra : RA) (s : St) (c : Int) (F : Nat → Prop) (w : World) (e : Ending) (w' : World) : Prop := e = .returned (.tuple #[]) ∧ Reg w' br bm gm wa ra s c F ∧ Only F w w'
theorem wacc (h : Reg w br bm gm wa ra s c F) (ok : Ok s) (hx : s.wr = some x) (c0 : 0 ≤ c) (c1 : c ≤ 1099511627776) :
    ∃ K caps, wclo wa s.W x.k = .func (.func K) #[] caps ∧ (∀ V : World, (callFunc K caps).run Tryd.prog V = .ok (.enter K caps) V) ∧ Calls Tryd.prog K caps w (APost br bm gm wa ra (wDo s x) (c + 1) F w) := by
  have hw := h.wr x hx
  have okw := ok.wr x hx
  obtain ⟨o1, o2, o3⟩ := h.wo (by rw [hx]; simp)
  have hlt := h.lt
  have hW := ok.w6
  have hW1 := ok.w1
  have hlen := ok.len
  have hpn := h.ne_w hx o1.pb.1
  have hqn := h.ne_w hx o1.qb.1
  have hxx : ∀ m', ({ s with m := m', wr := some x } : St) = { s with m := m' } := fun m' => by rw [← hx]
  unfold wclo wDo
  by_cases k0 : x.k = 0
  · simp only [k0, if_true]
    have hb := ok.bits 1 (by omega)
    have hbn := bit_neg hb
    refine ⟨_, _, rfl, fun _ => by kernel_rfl, (w1_any hw.rb hw.pb hpn.2.2 h.head h.mem (by omega) (by omega) c0 c1 (by rcases hb with e | e <;> omega) (by rcases hb with e | e <;> omega)).mono ?_⟩
    rintro e w' ⟨rfl, hm', hp', hO⟩
    rw [← hbn.1] at hp'
    obtain ⟨r1, r2⟩ := h.accw hx o1.pb hO hm' (hw.setp o1 (fun b h0 h1 h2 h3 => hO.block b h0 fun hh => by
      have := h.ne_w hx h1
      rcases hh with e | e | e <;> omega) hp')
    refine ⟨rfl, ?_, r2⟩
    have : ({ s with m := s.m, wr := some { x with p := (1 - nth s.m 1).toNat } } : St) = { s with wr := some { x with p := (1 - nth s.m 1).toNat } } := rfl
    rw [k0] at *
    exact r1
  by_cases k1 : x.k = 1
  · simp only [k1, if_true, if_neg (show ¬ (1 : Nat) = 0 by omega)]
    have hpp := okw.p
    have hb := ok.bits (2 + x.p) (by omega)
    have hbn := bit_neg hb
    refine ⟨_, _, rfl, fun _ => by kernel_rfl, (w2_any hw.rb hw.pb hw.qb hqn.2.2 h.head h.mem (by omega) (by omega) c0 c1 hpp (by rcases hb with e | e <;> omega) (by rcases hb with e | e <;> omega)).mono ?_⟩
    rintro e w' ⟨rfl, hm', hq', hO⟩
    rw [← hbn.1] at hq'
    obtain ⟨r1, r2⟩ := h.accw hx o1.qb hO hm' (hw.setq o1 (fun b h0 h1 h2 h3 => hO.block b h0 fun hh => by
      have := h.ne_w hx h1
      rcases hh with e | e | e <;> omega) hq')
    rw [k1] at *
    exact ⟨rfl, r1, r2⟩
  have hkeep : ∀ {w' : World}, Keep bm gm w w' → WrAt w' br s.W wa x := fun hk => hw.keep o1 fun b h0 h1 h2 => hk.block b h0 (h.ne_w hx h1).2.1 (h.ne_w hx h1).2.2
  by_cases k2 : x.k < 2 + s.W
  · rw [if_neg k0, if_neg k1, if_pos k2, if_neg k0, if_neg k1, if_pos k2]
    obtain ⟨i1, i2⟩ := hw.iv (x.k - 2) (by omega)
    have oi := o1.iv (x.k - 2) (by omega)
    have hin := h.ne_w hx oi.1
    have hvn := h.ne_w hx oi.2.2.1
    refine ⟨_, _, rfl, fun _ => by kernel_rfl, (w3_any hw.rb hw.pb hw.qb i1 i2 hpn.2.2 hqn.2.2 hin.2.2 hvn.2.2 h.head h.mem hlen hW c0 c1 okw.p okw.q (by omega) (okw.ok _)).mono ?_⟩
    rintro e w' ⟨rfl, hm', hk⟩
    obtain ⟨r1, r2⟩ := h.accw hx o1.pb (keep3 hk) hm' (hkeep hk)
    rw [hxx] at r1
    exact ⟨rfl, r1, r2⟩
  by_cases k3 : x.k = 2 + s.W
  · rw [if_neg k0, if_neg k1, if_neg k2, if_pos k3, if_neg k0, if_neg k1, if_neg k2, if_pos k3]
    refine ⟨_, _, rfl, fun _ => by kernel_rfl, (w4_any hw.rb hw.pb hw.qb h.head h.mem (by omega) (by omega) c0 c1 okw.p okw.q).mono ?_⟩
    rintro e w' ⟨rfl, hm', hk⟩
    obtain ⟨r1, r2⟩ := h.accw hx o1.pb (keep3 hk) hm' (hkeep hk)
    rw [hxx] at r1
    exact ⟨rfl, r1, r2⟩
  · rw [if_neg k0, if_neg k1, if_neg k2, if_neg k3, if_neg k0, if_neg k1, if_neg k2, if_neg k3]
    refine ⟨_, _, rfl, fun _ => by kernel_rfl, (w5_any hw.rb hw.pb h.head h.mem (by omega) (by omega) c0 c1 okw.p).mono ?_⟩
    rintro e w' ⟨rfl, hm', hk⟩
    obtain ⟨r1, r2⟩ := h.accw hx o1.pb (keep3 hk) hm' (hkeep hk)
    rw [hxx] at r1
    exact ⟨rfl, r1, r2⟩
theorem racc (h : Reg w br bm gm wa ra s c F) (ok : Ok s) (hy : s.rd = some y) (c0 : 0 ≤ c) (c1 : c ≤ 1099511627776) :
    ∃ K caps, rclo ra y.k = .func (.func K) #[] caps ∧ (∀ V : World, (callFunc K caps).run Tryd.prog V = .ok (.enter K caps) V) ∧ Calls Tryd.prog K caps w (APost br bm gm wa ra (rDo s y) (c + 1) F w) := by
  have hr := h.rd y hy
  have okr := ok.rd y hy
  obtain ⟨o1, o2, o3⟩ := h.ro (by rw [hy]; simp)
  have hlt := h.lt
  have hW := ok.w6
  have hW1 := ok.w1
  have hlen := ok.len
  have hpn := h.ne_r hy o1.pb.1
  have hqn := h.ne_r hy o1.qb.1
  have htn := h.ne_r hy o1.t.1
  have hyy : ∀ m', ({ s with m := m', rd := some y } : St) = { s with m := m' } := fun m' => by rw [← hy]
  unfold rclo rDo
  by_cases k0 : y.k = 0
  · simp only [k0, if_true]
    have hbn := bit_nat (ok.bits 0 (by omega))
    refine ⟨_, _, rfl, fun _ => by kernel_rfl, (r1_any hr.rb hr.pb hpn.2.2 h.head h.mem (by omega) (by omega) c0 c1).mono ?_⟩
    rintro e w' ⟨rfl, hm', hp', hO⟩
    rw [← hbn.1] at hp'
    obtain ⟨r1, r2⟩ := h.accr hy o1.pb hO hm' (hr.setp o1 (fun b h0 h1 h2 h3 => hO.block b h0 fun hh => by
      have := h.ne_r hy h1
      rcases hh with e | e | e <;> omega) hp')
    rw [k0] at *
    exact ⟨rfl, r1, r2⟩
  by_cases k1 : y.k = 1
  · simp only [k1, if_true, if_neg (show ¬ (1 : Nat) = 0 by omega)]
    refine ⟨_, _, rfl, fun _ => by kernel_rfl, (r2_any hr.rb hr.pb h.head h.mem (by omega) (by omega) c0 c1 okr.p).mono ?_⟩
    rintro e w' ⟨rfl, hm', hk⟩
    obtain ⟨r1, r2⟩ := h.accr hy o1.pb (keep3 hk) hm' (hr.keep o1 fun b h0 h1 h2 => hk.block b h0 (h.ne_r hy h1).2.1 (h.ne_r hy h1).2.2)
    rw [hyy] at r1
    exact ⟨rfl, r1, r2⟩
  by_cases k2 : y.k = 2
  · simp only [k2, if_true, if_neg (show ¬ (2 : Nat) = 0 by omega), if_neg (show ¬ (2 : Nat) = 1 by omega)]
    have hpp := okr.p
    have hbn := bit_nat (ok.bits (2 + y.p) (by omega))
    refine ⟨_, _, rfl, fun _ => by kernel_rfl, (r3_any hr.rb hr.pb hr.qb hqn.2.2 h.head h.mem (by omega) (by omega) c0 c1 hpp).mono ?_⟩
    rintro e w' ⟨rfl, hm', hq', hO⟩
    rw [← hbn.1] at hq'
    obtain ⟨r1, r2⟩ := h.accr hy o1.qb hO hm' (hr.setq o1 (fun b h0 h1 h2 h3 => hO.block b h0 fun hh => by
      have := h.ne_r hy h1
      rcases hh with e | e | e <;> omega) hq')
    rw [k2] at *
    exact ⟨rfl, r1, r2⟩
  · rw [if_neg k0, if_neg k1, if_neg k2, if_neg k0, if_neg k1, if_neg k2]
    have hkk := okr.k
    have i1 := hr.iv (y.k - 3) (by omega)
    have oi := o1.iv (y.k - 3) (by omega)
    have hin := h.ne_r hy oi.1
    refine ⟨_, _, rfl, fun _ => by kernel_rfl, (r4_any hr.rb hr.pb hr.qb i1 hr.tb hr.t htn.2.2 hpn.2.2 hqn.2.2 hin.2.2 (Ne.symm o1.pq.2.1) (Ne.symm o1.pq.2.2) oi.2.2.2.2 h.head h.mem hlen okr.len hW c0 c1 okr.p okr.q (by omega)).mono ?_⟩
    rintro e w' ⟨rfl, hm', ht', hO⟩
    obtain ⟨r1, r2⟩ := h.accr hy o1.t hO hm' (hr.sett o1 (fun b h0 h1 h2 h3 => hO.block b h0 fun hh => by
      have := h.ne_r hy h1
      rcases hh with e | e | e <;> omega) ht')
    exact ⟨rfl, r1, r2⟩
/-- One access more is made. -/
theorem Reg.wadv (h : Reg w br bm gm wa ra s c F) (hx : s.wr = some x) (hu : Blk w' wa.u 159 #[.slice (some ⟨wa.L, x.k + 1, none⟩) (4 + s.W - (x.k + 1)) (wa.cap - (x.k + 1)), .slice none 0 0]) (hO : Only (fun b => b = wa.u) w w') : Reg w' br bm gm wa ra (wAdv s) c F := by
  obtain ⟨o1, o2, o3⟩ := h.wo (by rw [hx]; simp)
  have hlt := h.lt
  have hun := h.ne_w hx o1.u.1
  refine h.w_ rfl rfl (fun _ => by rw [hx]; simp) ?_ ⟨Only.blk h.mem.head hO (fun e => hun.2.1 e.symm), Only.blk h.mem.words hO (fun e => hun.2.2 e.symm)⟩ (fun z e => ?_) (fun b h0 h1 h2 h3 h4 => hO.block b h0 fun e => ?_)
  · have e1 : wpt (wAdv s) wa = wpt s wa := by simp [wpt, wAdv, hx]
    rw [e1]; exact Only.blk h.head hO (fun e => hun.1 e.symm)
  · have e' : some { x with k := x.k + 1 } = some z := by rw [← e]; simp [wAdv, hx]
    obtain rfl := Option.some.inj e'
    exact (h.wr x hx).adv o1 (fun b h0 h1 h2 h3 => hO.block b h0 h3) hu
  · subst e; exact h4 ⟨o1.u.1, o1.u.2, by rw [hx]; simp⟩
theorem Reg.radv (h : Reg w br bm gm wa ra s c F) (hy : s.rd = some y) (hu : Blk w' ra.u 159 #[.slice (some ⟨ra.L, y.k + 1, none⟩) (3 + s.W - (y.k + 1)) (ra.cap - (y.k + 1)), .slice (some ⟨ra.t, 0, none⟩) s.W s.W]) (hO : Only (fun b => b = ra.u) w w') : Reg w' br bm gm wa ra (rAdv s) c F := by
  obtain ⟨o1, o2, o3⟩ := h.ro (by rw [hy]; simp)
  have hlt := h.lt
  have hun := h.ne_r hy o1.u.1
  refine h.r_ rfl rfl (fun _ => by rw [hy]; simp) ?_ ⟨Only.blk h.mem.head hO (fun e => hun.2.1 e.symm), Only.blk h.mem.words hO (fun e => hun.2.2 e.symm)⟩ (fun z e => ?_) (fun b h0 h1 h2 h3 h4 => hO.block b h0 fun e => ?_)
  · have e1 : rpt (rAdv s) ra = rpt s ra := by simp [rpt, rAdv, hy]
    rw [e1]; exact Only.blk h.head hO (fun e => hun.1 e.symm)
  · have e' : some { y with k := y.k + 1 } = some z := by rw [← e]; simp [rAdv, hy]
    obtain rfl := Option.some.inj e'
    exact (h.rd y hy).adv o1 (fun b h0 h1 h2 h3 => hO.block b h0 h3) hu
  · subst e; exact h4 ⟨o1.u.1, o1.u.2, by rw [hy]; simp⟩
/-- What is under way is over. -/
theorem Reg.wnone (h : Reg w br bm gm wa ra s c F) : Reg (w.setCell ⟨br, 2, none⟩ (.pointer none)) br bm gm wa ra { s with wr := none } c F := by
  have hlt := h.lt
  refine h.w_ rfl rfl (fun e => absurd rfl e) ?_ ⟨h.mem.head.far (p := ⟨br, 2, none⟩) (by show bm ≠ br; omega) _, h.mem.words.far (p := ⟨br, 2, none⟩) (by show gm ≠ br; omega) _⟩ (fun z e => (by cases e)) (fun b h0 h1 h2 h3 h4 => Below.heap_setCell _ _ _ _ h1)
  exact h.head.set_ 2 (.pointer none)
theorem Reg.rnone (h : Reg w br bm gm wa ra s c F) : Reg (w.setCell ⟨br, 3, none⟩ (.pointer none)) br bm gm wa ra { s with rd := none } c F := by
  have hlt := h.lt
  refine h.r_ rfl rfl (fun e => absurd rfl e) ?_ ⟨h.mem.head.far (p := ⟨br, 3, none⟩) (by show bm ≠ br; omega) _, h.mem.words.far (p := ⟨br, 3, none⟩) (by show gm ≠ br; omega) _⟩ (fun z e => (by cases e)) (fun b h0 h1 h2 h3 h4 => Below.heap_setCell _ _ _ _ h1)
  exact h.head.set_ 3 (.pointer none)
end Go.Proofs.YthkpopphefolmaaDoor.F4
