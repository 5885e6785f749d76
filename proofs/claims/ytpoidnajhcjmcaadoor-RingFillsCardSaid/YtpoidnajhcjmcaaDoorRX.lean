/- A ring: all its calls, each against one plain function. -/
import Derived.Test.YtpoidnajhcjmcaaDoorRCalls2
import Derived.Test.YtpoidnajhcjmcaaDoorRAll2
namespace Go.Proofs.YtpoidnajhcjmcaaDoor.R8
open Go.RowKit Go.Proofs.YtpoidnajhcjmcaaDoor.G Go.Proofs.YtpoidnajhcjmcaaDoor.Cell Go.Proofs.YtpoidnajhcjmcaaDoor.Ob
set_option maxRecDepth 100000
variable {w w' : World} {br : Nat} {s : St} {c : Int} {F : Nat → Prop}

/-! ### Drop, Reset -/
theorem drop_u_reg {bm gm : Nat} {u o : Sv} (h : Reg w br bm gm u o s c F) : Calls Tryd.prog 63 #[P br, .bool true] w fun e w' => e = .returned (.bool s.pu.isSome) ∧ Reg w' br bm gm zS o (uDrop s) c F ∧ Only F w w' := by
  have hp := h.pu
  cases hx : s.pu with
  | none =>
    rw [hx] at hp
    have hp : u = zS := hp
    subst hp
    refine (drop_un h.head).mono ?_
    rintro e w' ⟨rfl, rfl⟩
    refine ⟨rfl, ?_, .refl _ _⟩
    have : uDrop s = s := by unfold uDrop; rw [← hx]
    rw [this]; exact h
  | some x =>
    rw [hx] at hp
    refine (drop_u h.head hp.1).mono ?_
    rintro e w' ⟨rfl, rfl⟩
    exact ⟨rfl, h.uend h.mem h.head (.refl _ _)⟩
theorem drop_o_reg {bm gm : Nat} {u o : Sv} (h : Reg w br bm gm u o s c F) : Calls Tryd.prog 63 #[P br, .bool false] w fun e w' => e = .returned (.bool s.po.isSome) ∧ Reg w' br bm gm u zS (oDrop s) c F ∧ Only F w w' := by
  have hp := h.po
  cases hx : s.po with
  | none =>
    rw [hx] at hp
    have hp : o = zS := hp
    subst hp
    refine (drop_on h.head).mono ?_
    rintro e w' ⟨rfl, rfl⟩
    refine ⟨rfl, ?_, .refl _ _⟩
    have : oDrop s = s := by unfold oDrop; rw [← hx]
    rw [this]; exact h
  | some y =>
    rw [hx] at hp
    refine (drop_o h.head hp.1).mono ?_
    rintro e w' ⟨rfl, rfl⟩
    refine ⟨rfl, ?_, (put5_only w br 8).mono fun b e => e ▸ h.own.1⟩
    have hO := put5_only w br 8
    exact ⟨put5_blk8 h.head, mem_only h.mem h.head hO, h.own, (h.pu.only hO (fun g hg e => hg.2.1 e)).mono (fun g _ hg => ⟨hg.1, hg.2.1, hg.2.2.1, hg.2.2.2.1, fun e => by simp [zS, Value.ownBlock] at e⟩), rfl⟩
theorem MemAt.unit {bm gm : Nat} {m' : List Int} {s : St} {c' : Int} (hm' : MemAt w' bm gm m' c') (hk : Keep bm gm w w') (h : Reg w br bm gm zS zS (oDrop (uDrop s)) c F) : Reg w' br bm gm zS zS ⟨s.D, s.W, m', none, none⟩ c' F ∧ Only F w w' :=
  ⟨⟨hd_keep h.head h.mem hk, hm', h.own, rfl, rfl⟩, .of_keep hk h.own.2.1 h.own.2.2⟩
theorem reset_reg {bm gm : Nat} {u o : Sv} (h : Reg w br bm gm u o s c F) (ok : Ok s) : Calls Tryd.prog 64 #[P br] w fun e w' => e = .returned (.tuple #[]) ∧ Reg w' br bm gm zS zS (s0 s.D s.W) c F ∧ Only F w w' := by
  have hDW := DW_bd ok
  have hlen := ok.len
  have HD1 := Lib.hid (drop_u_reg h)
  have HL : Hid (s.m.length = 2 + s.D * s.W) := hlen
  have hl1 : 0 < s.m.length := by omega
  have hl2 : s.m.length ≤ 4096 := by omega
  have hl3 : s.m.length ≤ 4096 := hl2
  clear h ok hlen hDW
  unfold P at HD1 ⊢
  go_enter Tryd.func64, Tryd.ntmps64
  go_wp2_with fail
  refine HD1.out.mono ?_
  rintro e w1 ⟨rfl, h1, hO1⟩
  have HD2 := Lib.hid (drop_o_reg h1)
  have HO1 := Lib.hid hO1
  clear h1 hO1
  unfold P at HD2
  go_wp2_with fail
  refine HD2.out.mono ?_
  rintro e w2 ⟨rfl, h2, hO2⟩
  have HR2 := Lib.hid h2
  have HO2 := Lib.hid hO2
  have k2 := h2.head.cell
  have HLn : Hid (∀ V, Below w2.heap.size w2 V → Calls Tryd.prog 95 #[.pointer (some ⟨bm, 0, none⟩)] V fun e w' => e = .returned (.int .i64 s.m.length) ∧ V = w') := fun V hV => len_any (h2.mem.below_ hV)
  have HRs : Hid (∀ V, Below w2.heap.size w2 V → Calls Tryd.prog 94 #[.pointer (some ⟨bm, 0, none⟩), .int .i64 0, .int .i64 s.m.length] V fun e w' => e = .returned (.int .i64 0) ∧ MemAt w' bm gm (zs s.m.length) c ∧ Keep bm gm V w') := fun V hV => by
    have := reset_ok (h2.mem.below_ hV) hl3 0 s.m.length (show 0 + s.m.length ≤ s.m.length by omega) hl1
    have e : zr (oDrop (uDrop s)).m 0 s.m.length = zs s.m.length := zr_all s.m
    rwa [e] at this
  clear h2 hO2 HD2 HD1
  unfold hd P at k2
  have HK : Hid (∀ V, Below w2.heap.size w2 V → ∀ i, V.cell? ⟨br, i, none⟩ = (#[.int .i64 (oDrop (uDrop s)).D, .int .i64 (oDrop (uDrop s)).W, .pointer (some ⟨bm, 0, none⟩), zS.n, zS.h, zS.t, zS.l, zS.o, zS.n, zS.h, zS.t, zS.l, zS.o] : Array Value)[i]?) := fun V hV i => by rw [hV.cell (p := ⟨br, i, none⟩) HR2.out.head.lt]; exact k2 i
  have HK2 : Hid (∀ V V', Below w2.heap.size w2 V → Keep bm gm V V' → ∀ i, V'.cell? ⟨br, i, none⟩ = (#[.int .i64 (oDrop (uDrop s)).D, .int .i64 (oDrop (uDrop s)).W, .pointer (some ⟨bm, 0, none⟩), zS.n, zS.h, zS.t, zS.l, zS.o, zS.n, zS.h, zS.t, zS.l, zS.o] : Array Value)[i]?) := fun V V' hV hk i => by
      rw [(hd_keep (HR2.out.below hV).head (HR2.out.below hV).mem hk).cell i, ← HR2.out.head.cell i]; exact k2 i
  have S0 : Below w2.heap.size w2 w2.drew := (Below.refl _ _).drew
  go_wp2_with fail
  go_region_held3 (fun V => ∀ i, V.cell? ⟨br, i, none⟩ = (#[.int .i64 (oDrop (uDrop s)).D, .int .i64 (oDrop (uDrop s)).W, .pointer (some ⟨bm, 0, none⟩), zS.n, zS.h, zS.t, zS.l, zS.o, zS.n, zS.h, zS.t, zS.l, zS.o] : Array Value)[i]?) (first | (with_reducible exact HK.out _ S0) | (with_reducible exact HK2.out _ _ S0 hk3) | fail)
    (first
      | (go_at_call 95; (with_reducible refine (HLn.out _ S0).mono ?_); rintro e w3 ⟨rfl, rfl⟩)
      | (go_at_call 94; (with_reducible refine (HRs.out _ S0).mono ?_); rintro e w3 ⟨rfl, hm3, hk3⟩)
      | fail)
  all_goals
    go_wp2_with fail
    refine bodyPost_end (v := .tuple #[]) (by simp [results, Tryd.results64, go_sem]) rfl ⟨rfl, ?_⟩
    obtain ⟨q1, q2⟩ := MemAt.unit hm3 hk3 (HR2.out.below S0)
    exact ⟨by have e : zs s.m.length = (s0 s.D s.W).m := by rw [HL.out]; rfl
              rw [e] at q1; exact q1, (HO1.out.trans_ HO2.out).trans_ ((Only.of_below S0).trans_ q2)⟩
end Go.Proofs.YtpoidnajhcjmcaaDoor.R8
