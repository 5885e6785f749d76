/- A ring: Drop, Busy, Step as far as they go whatever the access. -/
import Derived.Test.YtpoidnajhcjmcaaDoorRAcc2
import Derived.Laws.EntriesVeiled
namespace Go.Proofs.YtpoidnajhcjmcaaDoor.R8
open Go.RowKit Go.Proofs.YtpoidnajhcjmcaaDoor.G Go.Proofs.YtpoidnajhcjmcaaDoor.Cell Go.Proofs.YtpoidnajhcjmcaaDoor.Ob
set_option maxRecDepth 100000
variable {w w' : World} {br bm gm W D : Nat} {u o u' o' : Sv} {m : List Int} {c : Int} {F : Nat → Prop}

/-- A side's cells, all zero. -/
abbrev put5 (w : World) (b i : Nat) : World := ((((w.setCell ⟨b, i, none⟩ .nilFunc).setCell ⟨b, i + 1, none⟩ (.int .i64 0)).setCell ⟨b, i + 2, none⟩ (.int .i64 0)).setCell ⟨b, i + 3, none⟩ (.slice none 0 0)).setCell ⟨b, i + 4, none⟩ (.slice none 0 0)
theorem drop_u (hh : Blk w br 132 (hd D W bm u o)) {K : Nat} (hu : u.n = fnV K br) :
    Calls Tryd.prog 63 #[P br, .bool true] w fun e w' => e = .returned (.bool true) ∧ w' = put5 w br 3 := by
  have HU := Lib.hid (under_u hh hu)
  have k0 := hh.cell
  have f0 := hh.frozen
  have z0 := hh.lt
  clear hh
  unfold hd P at k0
  unfold P at HU ⊢
  go_enter Tryd.func63, Tryd.ntmps63
  go_wp2_with (go_at_call 93; refine HU.out.mono ?_; rintro e w1 ⟨rfl, rfl⟩)
  go_ret
  exact ⟨rfl, rfl⟩
theorem drop_un (hh : Blk w br 132 (hd D W bm zS o)) :
    Calls Tryd.prog 63 #[P br, .bool true] w fun e w' => e = .returned (.bool false) ∧ w = w' := by
  have HU := Lib.hid (under_un hh)
  clear hh
  unfold P at HU ⊢
  go_enter Tryd.func63, Tryd.ntmps63
  go_wp2_with (go_at_call 93; refine HU.out.mono ?_; rintro e w1 ⟨rfl, rfl⟩)
  go_ret
  exact ⟨rfl, rfl⟩
theorem drop_o (hh : Blk w br 132 (hd D W bm u o)) {K : Nat} (hu : o.n = fnV K br) :
    Calls Tryd.prog 63 #[P br, .bool false] w fun e w' => e = .returned (.bool true) ∧ w' = put5 w br 8 := by
  have HU := Lib.hid (under_o hh hu)
  have k0 := hh.cell
  have f0 := hh.frozen
  have z0 := hh.lt
  clear hh
  unfold hd P at k0
  unfold P at HU ⊢
  go_enter Tryd.func63, Tryd.ntmps63
  go_wp2_with (go_at_call 93; refine HU.out.mono ?_; rintro e w1 ⟨rfl, rfl⟩)
  go_ret
  exact ⟨rfl, rfl⟩
theorem drop_on (hh : Blk w br 132 (hd D W bm u zS)) :
    Calls Tryd.prog 63 #[P br, .bool false] w fun e w' => e = .returned (.bool false) ∧ w = w' := by
  have HU := Lib.hid (under_on hh)
  clear hh
  unfold P at HU ⊢
  go_enter Tryd.func63, Tryd.ntmps63
  go_wp2_with (go_at_call 93; refine HU.out.mono ?_; rintro e w1 ⟨rfl, rfl⟩)
  go_ret
  exact ⟨rfl, rfl⟩
theorem drop_nil (b : Bool) (w : World) : Calls Tryd.prog 63 #[.pointer none, .bool b] w fun e w' => e = .returned (.bool false) ∧ w = w' := by
  go_enter Tryd.func63, Tryd.ntmps63
  go_wp2_with (go_at_call 93; refine (under_nil b _).mono ?_; rintro e w1 ⟨rfl, rfl⟩)
  go_ret
  exact ⟨rfl, rfl⟩
theorem busy_u (hh : Blk w br 132 (hd D W bm u o)) {K : Nat} (hu : u.n = fnV K br) : Calls Tryd.prog 65 #[P br, .bool true] w (BoolPost true w) := by
  have HU := Lib.hid (under_u hh hu)
  clear hh
  unfold P at HU ⊢
  go_enter Tryd.func65, Tryd.ntmps65
  go_wp2_with (go_at_call 93; refine HU.out.mono ?_; rintro e w1 ⟨rfl, rfl⟩)
  go_ret
  exact ⟨rfl, rfl⟩
theorem busy_un (hh : Blk w br 132 (hd D W bm zS o)) : Calls Tryd.prog 65 #[P br, .bool true] w (BoolPost false w) := by
  have HU := Lib.hid (under_un hh)
  clear hh
  unfold P at HU ⊢
  go_enter Tryd.func65, Tryd.ntmps65
  go_wp2_with (go_at_call 93; refine HU.out.mono ?_; rintro e w1 ⟨rfl, rfl⟩)
  go_ret
  exact ⟨rfl, rfl⟩
theorem busy_o (hh : Blk w br 132 (hd D W bm u o)) {K : Nat} (hu : o.n = fnV K br) : Calls Tryd.prog 65 #[P br, .bool false] w (BoolPost true w) := by
  have HU := Lib.hid (under_o hh hu)
  clear hh
  unfold P at HU ⊢
  go_enter Tryd.func65, Tryd.ntmps65
  go_wp2_with (go_at_call 93; refine HU.out.mono ?_; rintro e w1 ⟨rfl, rfl⟩)
  go_ret
  exact ⟨rfl, rfl⟩
theorem busy_on (hh : Blk w br 132 (hd D W bm u zS)) : Calls Tryd.prog 65 #[P br, .bool false] w (BoolPost false w) := by
  have HU := Lib.hid (under_on hh)
  clear hh
  unfold P at HU ⊢
  go_enter Tryd.func65, Tryd.ntmps65
  go_wp2_with (go_at_call 93; refine HU.out.mono ?_; rintro e w1 ⟨rfl, rfl⟩)
  go_ret
  exact ⟨rfl, rfl⟩
theorem busy_nil (b : Bool) (w : World) : Calls Tryd.prog 65 #[.pointer none, .bool b] w (BoolPost false w) := by
  go_enter Tryd.func65, Tryd.ntmps65
  go_wp2_with (go_at_call 93; refine (under_nil b _).mono ?_; rintro e w1 ⟨rfl, rfl⟩)
  go_ret
  exact ⟨rfl, rfl⟩
/-! ### Step -/
def SGo (br i : Nat) (Q : World → Prop) (nv : Value) (e : Ending) (w' : World) : Prop := e = .returned (.tuple #[.slice none 0 0, .bool false, .int .i64 0]) ∧ ∃ w1, Q w1 ∧ w' = w1.setCell ⟨br, i, none⟩ nv
def SEnd (br i : Nat) (Q : World → Prop) (T : Value) (n : Int) (e : Ending) (w' : World) : Prop := e = .returned (.tuple #[T, .bool true, .int .i64 n]) ∧ ∃ w1, Q w1 ∧ w' = put5 w1 br i
theorem step_ugo (hh : Blk w br 132 (hd D W bm u o)) {K K' : Nat} (hu : u.n = fnV K br) (hCF : ∀ V : World, (callFunc K #[.pointer (some ⟨br, 0, none⟩)]).run Tryd.prog V = .ok (.enter K #[.pointer (some ⟨br, 0, none⟩)]) V) {n : Int} {Q : World → Prop}
    (HK : Calls Tryd.prog K #[P br] w fun e w' => e = .returned (.tuple #[fnV K' br, .int .i64 n]) ∧ Q w') (HQ : ∀ V, Q V → ∃ u' o', Blk V br 132 (hd D W bm u' o')) :
    Calls Tryd.prog 61 #[P br, .bool true] w (SGo br 3 Q (fnV K' br)) := by
  have HU := Lib.hid (under_u hh hu)
  have q := fun w => fn_neq w (.func K') #[.pointer (some ⟨br, 0, none⟩)] #[]
  have k0 := hh.cell
  have HKK := Lib.hid HK
  have HQQ := Lib.hid HQ
  clear hh HK HQ
  unfold hd P at k0
  rw [hu] at k0
  unfold fnV P at k0 HKK
  unfold SGo
  unfold fnV
  unfold P at HU ⊢
  go_enter Tryd.func61, Tryd.ntmps61
  go_wp2_with (go_at_call 93; refine HU.out.mono ?_; rintro e w1 ⟨rfl, rfl⟩)
  refine HKK.out.mono ?_
  rintro e w1 ⟨rfl, hq⟩
  obtain ⟨u', o', hb⟩ := HQQ.out _ hq
  have HQ1 := Lib.hid hq
  have k1 := hb.cell
  have f1 := hb.frozen
  have z1 := hb.lt
  unfold hd P at k1
  clear hq hb k0
  go_wp2_with fail
  refine bodyPost_ret (v := .tuple #[.slice none 0 0, .bool false, .int .i64 0]) (by simp [results, Tryd.results61, go_sem]) rfl ⟨rfl, _, HQ1.out, rfl⟩
theorem step_ogo (hh : Blk w br 132 (hd D W bm u o)) {K K' : Nat} (hu : o.n = fnV K br) (hCF : ∀ V : World, (callFunc K #[.pointer (some ⟨br, 0, none⟩)]).run Tryd.prog V = .ok (.enter K #[.pointer (some ⟨br, 0, none⟩)]) V) {n : Int} {Q : World → Prop}
    (HK : Calls Tryd.prog K #[P br] w fun e w' => e = .returned (.tuple #[fnV K' br, .int .i64 n]) ∧ Q w') (HQ : ∀ V, Q V → ∃ u' o', Blk V br 132 (hd D W bm u' o')) :
    Calls Tryd.prog 61 #[P br, .bool false] w (SGo br 8 Q (fnV K' br)) := by
  have HU := Lib.hid (under_o hh hu)
  have q := fun w => fn_neq w (.func K') #[.pointer (some ⟨br, 0, none⟩)] #[]
  have k0 := hh.cell
  have HKK := Lib.hid HK
  have HQQ := Lib.hid HQ
  clear hh HK HQ
  unfold hd P at k0
  rw [hu] at k0
  unfold fnV P at k0 HKK
  unfold SGo
  unfold fnV
  unfold P at HU ⊢
  go_enter Tryd.func61, Tryd.ntmps61
  go_wp2_with (go_at_call 93; refine HU.out.mono ?_; rintro e w1 ⟨rfl, rfl⟩)
  refine HKK.out.mono ?_
  rintro e w1 ⟨rfl, hq⟩
  obtain ⟨u', o', hb⟩ := HQQ.out _ hq
  have HQ1 := Lib.hid hq
  have k1 := hb.cell
  have f1 := hb.frozen
  have z1 := hb.lt
  unfold hd P at k1
  clear hq hb k0
  go_wp2_with fail
  refine bodyPost_ret (v := .tuple #[.slice none 0 0, .bool false, .int .i64 0]) (by simp [results, Tryd.results61, go_sem]) rfl ⟨rfl, _, HQ1.out, rfl⟩
theorem step_uend (hh : Blk w br 132 (hd D W bm u o)) {K : Nat} (hu : u.n = fnV K br) (hCF : ∀ V : World, (callFunc K #[.pointer (some ⟨br, 0, none⟩)]).run Tryd.prog V = .ok (.enter K #[.pointer (some ⟨br, 0, none⟩)]) V) {n : Int} {T : Value} {Q : World → Prop}
    (HK : Calls Tryd.prog K #[P br] w fun e w' => e = .returned (.tuple #[.nilFunc, .int .i64 n]) ∧ Q w') (HQ : ∀ V, Q V → ∃ u' o', Blk V br 132 (hd D W bm u' o') ∧ u'.n = fnV K br ∧ u'.o = T) :
    Calls Tryd.prog 61 #[P br, .bool true] w (SEnd br 3 Q T n) := by
  have HU := Lib.hid (under_u hh hu)
  have q := nil_neq
  have k0 := hh.cell
  have HKK := Lib.hid HK
  have HQQ := Lib.hid HQ
  clear hh HK HQ
  unfold hd P at k0
  rw [hu] at k0
  unfold fnV P at k0
  unfold P at HKK
  unfold SEnd
  unfold P at HU ⊢
  go_enter Tryd.func61, Tryd.ntmps61
  go_wp2_with (go_at_call 93; refine HU.out.mono ?_; rintro e w1 ⟨rfl, rfl⟩)
  refine HKK.out.mono ?_
  rintro e w1 ⟨rfl, hq⟩
  obtain ⟨u', o', hb, hn', hT⟩ := HQQ.out _ hq
  have HQ1 := Lib.hid hq
  have HD := Lib.hid (drop_u hb hn')
  have k1 := hb.cell
  unfold P at HD
  unfold hd P at k1
  rw [hT] at k1
  clear hq hb k0 hn' hT
  go_wp2_with (go_at_call 63; refine HD.out.mono ?_; rintro e w2 ⟨rfl, rfl⟩)
  refine bodyPost_ret (v := .tuple #[T, .bool true, .int .i64 n]) (by simp [results, Tryd.results61, go_sem]) rfl ⟨rfl, _, HQ1.out, rfl⟩
theorem step_oend (hh : Blk w br 132 (hd D W bm u o)) {K : Nat} (hu : o.n = fnV K br) (hCF : ∀ V : World, (callFunc K #[.pointer (some ⟨br, 0, none⟩)]).run Tryd.prog V = .ok (.enter K #[.pointer (some ⟨br, 0, none⟩)]) V) {n : Int} {T : Value} {Q : World → Prop}
    (HK : Calls Tryd.prog K #[P br] w fun e w' => e = .returned (.tuple #[.nilFunc, .int .i64 n]) ∧ Q w') (HQ : ∀ V, Q V → ∃ u' o', Blk V br 132 (hd D W bm u' o') ∧ o'.n = fnV K br ∧ o'.o = T) :
    Calls Tryd.prog 61 #[P br, .bool false] w (SEnd br 8 Q T n) := by
  have HU := Lib.hid (under_o hh hu)
  have q := nil_neq
  have k0 := hh.cell
  have HKK := Lib.hid HK
  have HQQ := Lib.hid HQ
  clear hh HK HQ
  unfold hd P at k0
  rw [hu] at k0
  unfold fnV P at k0
  unfold P at HKK
  unfold SEnd
  unfold P at HU ⊢
  go_enter Tryd.func61, Tryd.ntmps61
  go_wp2_with (go_at_call 93; refine HU.out.mono ?_; rintro e w1 ⟨rfl, rfl⟩)
  refine HKK.out.mono ?_
  rintro e w1 ⟨rfl, hq⟩
  obtain ⟨u', o', hb, hn', hT⟩ := HQQ.out _ hq
  have HQ1 := Lib.hid hq
  have HD := Lib.hid (drop_o hb hn')
  have k1 := hb.cell
  unfold P at HD
  unfold hd P at k1
  rw [hT] at k1
  clear hq hb k0 hn' hT
  go_wp2_with (go_at_call 63; refine HD.out.mono ?_; rintro e w2 ⟨rfl, rfl⟩)
  refine bodyPost_ret (v := .tuple #[T, .bool true, .int .i64 n]) (by simp [results, Tryd.results61, go_sem]) rfl ⟨rfl, _, HQ1.out, rfl⟩
theorem step_un (hh : Blk w br 132 (hd D W bm zS o)) : Calls Tryd.prog 61 #[P br, .bool true] w fun e w' => e = .returned (.tuple #[.slice none 0 0, .bool false, .int .i64 1]) ∧ w = w' := by
  have HU := Lib.hid (under_un hh)
  clear hh
  unfold P at HU ⊢
  go_enter Tryd.func61, Tryd.ntmps61
  go_wp2_with (go_at_call 93; refine HU.out.mono ?_; rintro e w1 ⟨rfl, rfl⟩)
  refine bodyPost_ret (v := .tuple #[.slice none 0 0, .bool false, .int .i64 1]) (by simp [results, Tryd.results61, go_sem]) rfl ⟨rfl, rfl⟩
theorem step_on (hh : Blk w br 132 (hd D W bm u zS)) : Calls Tryd.prog 61 #[P br, .bool false] w fun e w' => e = .returned (.tuple #[.slice none 0 0, .bool false, .int .i64 1]) ∧ w = w' := by
  have HU := Lib.hid (under_on hh)
  clear hh
  unfold P at HU ⊢
  go_enter Tryd.func61, Tryd.ntmps61
  go_wp2_with (go_at_call 93; refine HU.out.mono ?_; rintro e w1 ⟨rfl, rfl⟩)
  refine bodyPost_ret (v := .tuple #[.slice none 0 0, .bool false, .int .i64 1]) (by simp [results, Tryd.results61, go_sem]) rfl ⟨rfl, rfl⟩
theorem step_nil (b : Bool) (w : World) : Calls Tryd.prog 61 #[.pointer none, .bool b] w fun e w' => e = .returned (.tuple #[.slice none 0 0, .bool false, .int .i64 1]) ∧ w = w' := by
  go_enter Tryd.func61, Tryd.ntmps61
  go_wp2_with (go_at_call 93; refine (under_nil b _).mono ?_; rintro e w1 ⟨rfl, rfl⟩)
  refine bodyPost_ret (v := .tuple #[.slice none 0 0, .bool false, .int .i64 1]) (by simp [results, Tryd.results61, go_sem]) rfl ⟨rfl, rfl⟩
end Go.Proofs.YtpoidnajhcjmcaaDoor.R8
