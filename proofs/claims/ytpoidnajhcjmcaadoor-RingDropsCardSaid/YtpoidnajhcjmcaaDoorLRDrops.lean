/- The walk of RingDrops. -/
import Derived.Test.YtpoidnajhcjmcaaDoorRLive
import Derived.Test.YtpoidnajhcjmcaaDoorRArgs
import Derived.Deep.DeepCutAuto
import Derived.Deep.CutRange
import Derived.Deep.CutBlock
import Derived.Deep.DrawnRows
namespace Go.Proofs.YtpoidnajhcjmcaaDoor.ringDrops
open Go.RowKit Go.Proofs.YtpoidnajhcjmcaaDoor.G Go.Proofs.YtpoidnajhcjmcaaDoor.Cell Go.Proofs.YtpoidnajhcjmcaaDoor.R8 Go.Proofs.YtpoidnajhcjmcaaDoor.Ob
attribute [local go_sem ↓] Go.wp_at_zero Go.wp_at_succ
set_option maxRecDepth 100000
/-! ### The states -/
def ito : Nat → St → St
  | 0, s => s
  | n + 1, s => oStep (ito n s)
def nines (W : Nat) (v : Int) : List Int := List.replicate W v
def sA (W : Nat) : St := uBegin (s0 2 W) (nines W 0)
def sB (W : Nat) : St := uBegin (it (W + 3) (sA W)) (nines W 9)
def sC (W a : Nat) : St := oBegin (uDrop (it a (sB W)))
def sD (W a b : Nat) : St := oBegin (oDrop (ito b (sC W a)))
def chk (W a b : Nat) : Bool := (it a (sB W)).pu.isSome && (ito b (sC W a)).po.isSome && decide (cnt (oDrop (ito b (sC W a))) = 1) && decide (cnt (ito (W + 3) (sD W a b)) = 0) && decide (oTold (ito (W + 2) (sD W a b)) = nines W 0)
theorem chk_all : ((List.range 7).all fun W => W == 0 || (List.range (W + 3)).all fun a => (List.range (W + 3)).all fun b => chk W a b) = true := by kernel_rfl
theorem chk_at {W a b : Nat} (h1 : 1 ≤ W) (h6 : W ≤ 6) (ha : a < W + 3) (hb : b < W + 3) : (it a (sB W)).pu.isSome = true ∧ (ito b (sC W a)).po.isSome = true ∧ cnt (oDrop (ito b (sC W a))) = 1 ∧ cnt (ito (W + 3) (sD W a b)) = 0 ∧ oTold (ito (W + 2) (sD W a b)) = nines W 0 := by
  have h := chk_all
  rw [List.all_eq_true] at h
  have h := h W (List.mem_range.2 (by omega))
  have hW : (W == 0) = false := by rw [beq_eq_false_iff_ne]; omega
  rw [hW, Bool.false_or, List.all_eq_true] at h
  have h := h a (List.mem_range.2 ha)
  rw [List.all_eq_true] at h
  have h := h b (List.mem_range.2 hb)
  unfold chk at h
  simp only [Bool.and_eq_true, decide_eq_true_eq] at h
  obtain ⟨⟨⟨⟨a1, a2⟩, a3⟩, a4⟩, a5⟩ := h
  exact ⟨a1, a2, a3, a4, a5⟩
/-- The ring as it lies, apart from what lay before. -/
structure RH (w V : World) (br : Nat) (s : St) (c : Int) (F : Nat → Prop) : Prop where
  reg : RegX V br s c F
  low : ∀ q, F q → w.heap.size ≤ q
  tight : ∀ q, F q → q < V.heap.size
  bel : Below w.heap.size w V
theorem RH.call {w V V' : World} {br : Nat} {s s' : St} {c c' : Int} {F F' : Nat → Prop} (h : RH w V br s c F) (hr : RegX V' br s' c' F') (hm : More F F' V.heap.size) (hO : Only F V V') : ∃ F'', RH w V' br s' c' F'' ∧ More F F'' V.heap.size := by
  have hs := h.bel.size
  refine ⟨_, ⟨hr.tight, fun q hq => ?_, fun q hq => hq.2, Only.to_below h.bel hO h.low hs⟩, fun q hq => hm q hq.1⟩
  rcases hm q hq.1 with h1 | h1
  · exact h.low q h1
  · omega
theorem RH.below {w V V' : World} {br : Nat} {s : St} {c : Int} {F : Nat → Prop} (h : RH w V br s c F) (hb : Below V.heap.size V V') : RH w V' br s c F :=
  ⟨h.reg.below hb, h.low, fun q hq => Nat.lt_of_lt_of_le (h.tight q hq) hb.size, bt h.bel hb⟩
/-- .. and a list beside it. -/
structure RL (w V : World) (br gl : Nat) (l : List Int) (s : St) (c : Int) (F : Nat → Prop) : Prop where
  rh : RH w V br s c F
  blk : Blk V gl 3 (ints l)
  off : ¬ F gl
theorem RL.call {w V V' : World} {br gl : Nat} {l : List Int} {s s' : St} {c c' : Int} {F F' : Nat → Prop} (h : RL w V br gl l s c F) (hr : RegX V' br s' c' F') (hm : More F F' V.heap.size) (hO : Only F V V') : ∃ F'', RL w V' br gl l s' c' F'' := by
  obtain ⟨F'', h1, h2⟩ := h.rh.call hr hm hO
  refine ⟨F'', h1, Only.blk h.blk hO h.off, fun hf => ?_⟩
  rcases h2 gl hf with h3 | h3
  · exact h.off h3
  · have := h.blk.lt; omega
theorem RL.below {w V V' : World} {br gl : Nat} {l : List Int} {s : St} {c : Int} {F : Nat → Prop} (h : RL w V br gl l s c F) (hb : Below V.heap.size V V') : RL w V' br gl l s c F := ⟨h.rh.below hb, h.blk.bel hb, h.off⟩
def InvF (w : World) (br gl W : Nat) (i : Value) (V : World) : Prop := ∃ (k : Nat) (l : List Int) (F : Nat → Prop), i = .int .i64 k ∧ k ≤ W ∧ l.length = W ∧ (∀ j, j < k → nth l j = 9) ∧ RL w V br gl l (s0 2 W) 0 F ∧ w.heap.size ≤ gl
def InvU (w : World) (br gl W n : Nat) (s : St) (c0 : Int) (i : Value) (V : World) : Prop := ∃ (k : Nat) (F : Nat → Prop), i = .int .i64 k ∧ k ≤ n ∧ RL w V br gl (nines W 9) (it k s) (c0 + k) F
def InvO (w : World) (br n : Nat) (s : St) (c0 : Int) (i : Value) (V : World) : Prop := ∃ (k : Nat) (F : Nat → Prop), i = .int .i64 k ∧ k ≤ n ∧ RH w V br (ito k s) (c0 + k) F
def InvM (w : World) (br n : Nat) (s : St) (c0 : Int) (m i : Value) (V : World) : Prop := ∃ (k : Nat) (F G : Nat → Prop), i = .int .i64 k ∧ k ≤ n ∧ RH w V br (ito k s) (c0 + k) F ∧ (∀ j, k = j + 1 → Tld V G m (oTold (ito j s)))
theorem it_W (n : Nat) (s : St) : (it n s).W = s.W ∧ (it n s).D = s.D := by
  induction n with
  | zero => exact ⟨rfl, rfl⟩
  | succ n ih =>
    have : (uStep (it n s)).W = (it n s).W ∧ (uStep (it n s)).D = (it n s).D := by
      unfold uStep
      cases (it n s).pu with
      | none => exact ⟨rfl, rfl⟩
      | some x => simp only; unfold uNext; split <;> (try split) <;> (try split) <;> exact ⟨rfl, rfl⟩
    exact ⟨this.1.trans ih.1, this.2.trans ih.2⟩
set_option maxHeartbeats 8000000 in
theorem walk {w : World} {n a b : Int} (hn : n ≤ 9223372036854775807) :
    Calls Tryd.prog 8 #[.int .i64 n, .int .i64 a, .int .i64 b] w fun e w' => e = .returned (.bool true) ∧ Below w.heap.size w w' := by
  obtain ⟨W, hW⟩ : ∃ W, fW n = W := ⟨_, rfl⟩
  have hW1 : 1 ≤ W ∧ W ≤ 6 := by rw [← hW]; exact fW_bd n
  have HWW := Lib.hid hW
  obtain ⟨q, hq, hqb⟩ : ∃ q : Nat, (IntKind.u64.wrap a).tmod ((W : Int) + 3) = q ∧ q < W + 3 := by
    have h0 : 0 ≤ (IntKind.u64.wrap a).tmod ((W : Int) + 3) := Int.tmod_nonneg _ (by rw [IntKind.wrap_u64]; omega)
    have h1 : (IntKind.u64.wrap a).tmod ((W : Int) + 3) < (W : Int) + 3 := Int.tmod_lt_of_pos _ (by omega)
    exact ⟨_, (Int.toNat_of_nonneg h0).symm, by omega⟩
  obtain ⟨r, hr, hrb⟩ : ∃ r : Nat, (IntKind.u64.wrap b).tmod ((W : Int) + 3) = r ∧ r < W + 3 := by
    have h0 : 0 ≤ (IntKind.u64.wrap b).tmod ((W : Int) + 3) := Int.tmod_nonneg _ (by rw [IntKind.wrap_u64]; omega)
    have h1 : (IntKind.u64.wrap b).tmod ((W : Int) + 3) < (W : Int) + 3 := Int.tmod_lt_of_pos _ (by omega)
    exact ⟨_, (Int.toNat_of_nonneg h0).symm, by omega⟩
  have HC := Lib.hid (chk_at hW1.1 hW1.2 hqb hrb)
  have HQR := Lib.hid (And.intro hq hr)
  have W1 := hW1.1
  have W6 := hW1.2
  clear hW1 hW hq hr
  go_enter Tryd.func8, Tryd.ntmps8
  go_wp2_with fail
  refine (lives_any _).mono ?_
  rintro e w1 ⟨rfl, hb1⟩
  go_wp2_with fail
  refine (rnew_any 2 n (by omega) hn).mono ?_
  rintro e w2 ⟨br, rfl, hr2, hb2⟩
  rw [HWW.out, show fD 2 = 2 from rfl] at hr2
  have HR2 : Hid (RH w w2 br (s0 2 W) 0 (fun q => w1.heap.size ≤ q ∧ q < w2.heap.size)) := ⟨hr2.tight, fun q hq => Nat.le_trans hb1.size hq.1, fun q hq => hq.2, bt hb1 hb2⟩
  have HWo := Lib.hid (rwords_any hr2)
  rw [show (s0 2 W).W = W from rfl] at HWo
  unfold P at HWo ⊢
  clear hr2 hb2 hb1
  go_wp2_with fail
  refine HWo.out.mono ?_
  rintro e w' ⟨rfl, rfl⟩
  have hmk := make_run W (by omega) W rfl w2
  obtain ⟨gl, hgl⟩ : ∃ g, w2.heap.size = g := ⟨_, rfl⟩
  have HL2 : Hid (RL w (w2.alloc (.cells (ints (zs W)) 3)) br gl (zs W) (s0 2 W) 0 (fun q => w1.heap.size ≤ q ∧ q < w2.heap.size)) := ⟨HR2.out.below (b01 _ _), by rw [← hgl]; exact Blk.new w2 3 (ints (zs W)), fun h => by omega⟩
  have HGL : Hid (w.heap.size ≤ gl) := by rw [← hgl]; exact HR2.out.bel.size
  rw [hgl] at hmk
  go_upto_region 6 with fail
  generalize w2.alloc (.cells (ints (zs W)) 3) = V2 at *
  clear hmk hgl
  go_wp2_with fail
  go_loopw [10] (fun i V => InvF w br gl W i V) (fun i _ => W - (intOf i).toNat)
  case atStart => exact ⟨0, zs W, _, rfl, by omega, zs_length W, fun j hj => absurd hj (by omega), HL2.out, HGL.out⟩
  case round =>
    clear HL2
    obtain ⟨k, l, F, rfl, hk, hlen, hl, hL, hglw⟩ := hrel
    have HL := Lib.hid hL
    have HLn := Lib.hid hlen
    have HLv := Lib.hid hl
    clear hL hl
    by_cases hlt : k < W
    · have c1 := (HL.out.blk.cell k).trans (Cell.ints_at l k (by omega))
      have c2 := HL.out.blk.frozen k
      have hO : Only (fun b => b = gl) wr (wr.setCell ⟨gl, k, none⟩ (.int .i64 9)) := (Only.refl (fun b => b = gl) wr).set_ rfl k _
      have HX : Hid (RL w (wr.setCell ⟨gl, k, none⟩ (.int .i64 9)) br gl (l.set k 9) (s0 2 W) 0 F) := ⟨⟨HL.out.rh.reg.only hO (fun q hq e => HL.out.off (e ▸ hq)), HL.out.rh.low, fun q hq => by have := HL.out.rh.tight q hq; simpa [World.setCell] using this, HL.out.rh.bel.setCell (p := ⟨gl, k, none⟩) hglw _⟩, by rw [← ints_set]; exact HL.out.blk.set_ k _, HL.out.off⟩
      clear hO hlen
      go_wp2_with fail
      go_roundw
      case rel =>
        refine ⟨k + 1, l.set k 9, F, by go_num, by omega, by rw [List.length_set]; exact HLn.out, fun j hj => ?_, HX.out, hglw⟩
        by_cases hjk : j = k
        · subst hjk; exact nth_set_eq _ _ (by rw [HLn.out]; exact hlt)
        · rw [nth_set_ne _ _ (Ne.symm hjk)]; exact HLv.out j (by omega)
      case measure => simp [intOf]; omega
    · have hkW : k = W := by omega
      have hlr : l = nines W 9 := by
        apply List.ext_getElem
        · simp [hlen, nines]
        · intro j h1 h2
          have := HLv.out j (by omega)
          simp [nth, h1] at this
          simp [this, nines]
      clear hlen
      subst hlr
      clear HLn HLv hk hkW hglw
      have hmk := make_run W (by omega) W rfl wr
      have HL3 := Lib.hid (HL.out.below (b01 wr (.cells (ints (zs W)) 3)))
      have HRow : Hid (Row (wr.alloc (.cells (ints (zs W)) 3)) (some ⟨wr.heap.size, 0, none⟩) (iv' (nines W 0))) := Row.of_blk (Blk.new wr 3 (ints (zs W))) fun j u hj => by unfold ints; rw [List.getElem?_toArray]; exact hj
      have HPu := Lib.hid (push_any (cp := W) HL3.out.rh.reg HRow.out)
      rw [show (nines W 0).length = W from List.length_replicate, show uBegin (s0 2 W) (nines W 0) = sA W from rfl] at HPu
      unfold P at HPu
      go_wp2_with fail
      refine HPu.out.mono ?_
      rintro e w5 ⟨rfl, hr5, hO5⟩
      obtain ⟨F5, hL5⟩ := HL3.out.call hr5 (more_gr _ _) hO5
      have HL5 := Lib.hid hL5
      clear hr5 hO5 hL5 HPu HRow HL3 HL hmk hlt
      go_wp2_with fail
      go_loopw [11] (fun i V => InvU w br gl W (W + 3) (sA W) 0 i V) (fun i _ => W + 3 - (intOf i).toNat)
      case atStart => exact ⟨0, F5, rfl, by omega, HL5.out⟩
      case round =>
        clear HL5
        obtain ⟨k, F6, rfl, hk, hL⟩ := hrel
        have HL6 := Lib.hid hL
        clear hL
        by_cases hlt : k < W + 3
        · have t1 : decide ((k : Int) < (W : Int) + 3) = true := decide_eq_true (by omega)
          have HS := Lib.hid (ustep_any HL6.out.rh.reg (by omega))
          unfold P at HS
          go_wp2_with fail
          refine HS.out.mono ?_
          rintro e w6 ⟨rfl, hr6, hO6⟩
          obtain ⟨F7, hL7⟩ := HL6.out.call hr6 (More.refl _ _) hO6
          have HL7 := Lib.hid hL7
          clear hr6 hO6 hL7 HS t1
          go_wp2_with fail
          go_roundw
          case rel => exact ⟨k + 1, F7, by go_num, by omega, by have := HL7.out; rw [show (0 : Int) + k + 1 = 0 + ((k + 1 : Nat) : Int) by omega] at this; exact this⟩
          case measure => simp [intOf]; omega
        · have hkW : k = W + 3 := by omega
          have t1 : decide ((k : Int) < (W : Int) + 3) = false := decide_eq_false (by omega)
          have HRow : Hid (Row wr (some ⟨gl, 0, none⟩) (iv' (nines W 9))) := Row.of_blk HL6.out.blk fun j u hj => by unfold ints; rw [List.getElem?_toArray]; exact hj
          have HPu := Lib.hid (push_any (cp := W) HL6.out.rh.reg HRow.out)
          have eB : uBegin (it k (sA W)) (nines W 9) = sB W := by rw [hkW]; rfl
          rw [show (nines W 9).length = W from List.length_replicate, eB] at HPu
          unfold P at HPu
          clear eB
          go_wp2_with fail
          refine HPu.out.mono ?_
          rintro e w7 ⟨rfl, hr7, hO7⟩
          obtain ⟨F7, hL7⟩ := HL6.out.call hr7 (more_gr _ _) hO7
          have HL7 : Hid (RL w w7 br gl (nines W 9) (sB W) (W + 3) F7) := ⟨⟨hL7.rh.reg.mono (fun _ h => h) (by omega), hL7.rh.low, hL7.rh.tight, hL7.rh.bel⟩, hL7.blk, hL7.off⟩
          clear hr7 hO7 hL7 HPu HRow t1 hkW hk HL6
          have hq := HQR.out.1
          go_wp2_with fail
          go_loopw [12] (fun i V => InvU w br gl W q (sB W) (W + 3) i V) (fun i _ => q - (intOf i).toNat)
          case atStart => exact ⟨0, F7, rfl, by omega, HL7.out⟩
          case round =>
            clear HL7
            obtain ⟨k, F8, rfl, hk, hL⟩ := hrel
            have HL8 := Lib.hid hL
            clear hL
            by_cases hlt : k < q
            · have HS := Lib.hid (ustep_any HL8.out.rh.reg (by omega))
              unfold P at HS
              go_wp2_with fail
              refine HS.out.mono ?_
              rintro e w8 ⟨rfl, hr8, hO8⟩
              obtain ⟨F9, hL9⟩ := HL8.out.call hr8 (More.refl _ _) hO8
              have HL9 := Lib.hid hL9
              clear hr8 hO8 hL9 HS
              go_wp2_with fail
              go_roundw
              case rel => exact ⟨k + 1, F9, by go_num, by omega, by have := HL9.out; rw [show (W : Int) + 3 + k + 1 = W + 3 + ((k + 1 : Nat) : Int) by omega] at this; exact this⟩
              case measure => simp [intOf]; omega
            · have hkq : k = q := by omega
              have HD := Lib.hid (udrop_any HL8.out.rh.reg)
              rw [show (it k (sB W)).pu.isSome = true by rw [hkq]; exact HC.out.1] at HD
              unfold P at HD
              go_wp2_with fail
              refine HD.out.mono ?_
              rintro e w8 ⟨rfl, hr8, hO8⟩
              obtain ⟨F8', hL8, -⟩ := HL8.out.rh.call hr8 (More.refl _ _) hO8
              have HL8' := Lib.hid hL8
              have HPo := Lib.hid (pop_any hL8.reg)
              unfold P at HPo
              clear hr8 hO8 hL8 HD HL8
              go_wp2_with fail
              refine HPo.out.mono ?_
              rintro e w9 ⟨rfl, hr9, hO9⟩
              obtain ⟨F9, hL9, -⟩ := HL8'.out.call hr9 (more_gr _ _) hO9
              rw [show oBegin (uDrop (it k (sB W))) = sC W q by rw [hkq]; rfl] at hL9
              have HL9 : Hid (RH w w9 br (sC W q) 32 F9) := ⟨hL9.reg.mono (fun _ h => h) (by omega), hL9.low, hL9.tight, hL9.bel⟩
              have hr := HQR.out.2
              clear hr9 hO9 hL9 HPo HL8' hq hlt hk
              go_wp2_with fail
              go_loopw [14] (fun i V => InvO w br r (sC W q) 32 i V) (fun i _ => r - (intOf i).toNat)
              case atStart => exact ⟨0, F9, rfl, by omega, HL9.out⟩
              case round =>
                clear HL9
                obtain ⟨k2, Fa, rfl, hk2, hL⟩ := hrel
                have HLa := Lib.hid hL
                clear hL
                by_cases hlt : k2 < r
                · have HS := Lib.hid (ostep_any HLa.out.reg (by omega))
                  unfold P at HS
                  go_wp2_with fail
                  refine HS.out.mono ?_
                  rintro e wa ⟨v, rfl, -, hra, hOa⟩
                  obtain ⟨Fb, hLb, -⟩ := HLa.out.call hra (more_gr _ _) hOa
                  have HLb := Lib.hid hLb
                  clear hra hOa hLb HS
                  go_wp2_with fail
                  go_roundw
                  case rel => exact ⟨k2 + 1, Fb, by go_num, by omega, by have := HLb.out; rw [show (32 : Int) + k2 + 1 = 32 + ((k2 + 1 : Nat) : Int) by omega] at this; exact this⟩
                  case measure => simp [intOf]; omega
                · have hkr : k2 = r := by omega
                  have HD := Lib.hid (odrop_any HLa.out.reg)
                  rw [show (ito k2 (sC W q)).po.isSome = true by rw [hkr]; exact HC.out.2.1] at HD
                  unfold P at HD
                  go_wp2_with fail
                  refine HD.out.mono ?_
                  rintro e wa ⟨rfl, hra, hOa⟩
                  obtain ⟨Fb, hLb, -⟩ := HLa.out.call hra (More.refl _ _) hOa
                  have HLb := Lib.hid hLb
                  have HCn := Lib.hid (rcount_any hLb.reg)
                  rw [show cnt (oDrop (ito k2 (sC W q))) = 1 by rw [hkr]; exact HC.out.2.2.1] at HCn
                  unfold P at HCn
                  clear hra hOa hLb HD HLa hr hlt hk2
                  go_wp2_with fail
                  refine HCn.out.mono ?_
                  rintro e wb ⟨rfl, hbb⟩
                  have HLc := Lib.hid (HLb.out.below hbb)
                  have HPo := Lib.hid (pop_any HLc.out.reg)
                  unfold P at HPo
                  clear hbb HCn HLb
                  go_wp2_with fail
                  refine HPo.out.mono ?_
                  rintro e wc ⟨rfl, hrc, hOc⟩
                  obtain ⟨Fd, hLd, -⟩ := HLc.out.call hrc (more_gr _ _) hOc
                  rw [show oBegin (oDrop (ito k2 (sC W q))) = sD W q r by rw [hkr]; rfl] at hLd
                  have HLd : Hid (RH w wc br (sD W q r) 64 Fd) := ⟨hLd.reg.mono (fun _ h => h) (by omega), hLd.low, hLd.tight, hLd.bel⟩
                  clear hrc hOc hLd HPo HLc
                  go_wp2_with fail
                  go_loopw [16, 17] (fun m i V => InvM w br (W + 3) (sD W q r) 64 m i V) (fun _ i _ => W + 3 - (intOf i).toNat)
                  case atStart => exact ⟨0, Fd, Fd, rfl, by omega, HLd.out, fun j hj => absurd hj (by omega)⟩
                  case round =>
                    clear HLd
                    obtain ⟨k3, Fe, Ge, rfl, hk3, hL, hT⟩ := hrel
                    have HLe := Lib.hid hL
                    have HTe := Lib.hid hT
                    clear hL hT
                    by_cases hlt : k3 < W + 3
                    · have t1 : decide ((k3 : Int) < (W : Int) + 3) = true := decide_eq_true (by omega)
                      have HS := Lib.hid (ostep_any HLe.out.reg (by omega))
                      unfold P at HS
                      go_wp2_with fail
                      refine HS.out.mono ?_
                      rintro e wd ⟨v, rfl, hv, hrd, hOd⟩
                      obtain ⟨Ff, hLf, -⟩ := HLe.out.call hrd (more_gr _ _) hOd
                      have HLf := Lib.hid hLf
                      have HV := Lib.hid hv
                      clear hrd hOd hLf HS t1 hv
                      go_wp2_with fail
                      go_roundw
                      case rel =>
                        refine ⟨k3 + 1, Ff, Fe, by go_num, by omega, ?_, fun j hj => ?_⟩
                        · have := HLf.out
                          rw [show (64 : Int) + k3 + 1 = 64 + ((k3 + 1 : Nat) : Int) by omega] at this
                          exact this
                        · have hj' : k3 = j := by omega
                          rw [← hj']
                          exact HV.out
                      case measure => simp [intOf]; omega
                    · have hk3' : k3 = W + 3 := by omega
                      have t1 : decide ((k3 : Int) < (W : Int) + 3) = false := decide_eq_false (by omega)
                      have hT := HTe.out (W + 2) hk3'
                      rw [HC.out.2.2.2.2] at hT
                      obtain ⟨A, cp, rfl, hrow, hc1, hc2, -⟩ := Own.row hT.1
                      have HRow := Lib.hid hrow
                      have HCn := Lib.hid (rcount_any HLe.out.reg)
                      rw [show cnt (ito k3 (sD W q r)) = 0 by rw [hk3']; exact HC.out.2.2.2.1] at HCn
                      unfold P at HCn
                      rw [show (nines W 0).length = W from List.length_replicate]
                      clear hT hrow hc1 hc2 HTe
                      go_wp2_with fail
                      refine HCn.out.mono ?_
                      rintro e we ⟨rfl, hbe⟩
                      have HBe := Lib.hid (bt HLe.out.bel hbe)
                      have hmk := make_run W (by omega) W rfl we
                      have HRa : Hid (Row (we.alloc (.cells (ints (zs W)) 3)) A (C04.ivs (nines W 0))) := (HRow.out.below hbe).alloc _
                      have HRb : Hid (Row (we.alloc (.cells (ints (zs W)) 3)) (some ⟨we.heap.size, 0, none⟩) (C04.ivs (nines W 0))) := Row.of_blk (Blk.new we 3 (ints (zs W))) fun j u hj => by unfold ints; rw [List.getElem?_toArray]; exact hj
                      have HSm := Lib.hid (C04.rsame1_any (c := cp) (d := W) HRa.out HRb.out (by rw [show (nines W 0).length = W from List.length_replicate]; omega) (by rw [show (nines W 0).length = W from List.length_replicate]; omega))
                      rw [show (nines W 0).length = W from List.length_replicate, show C04.eqb (nines W 0) (nines W 0) = true by unfold C04.eqb; exact decide_eq_true rfl] at HSm
                      clear hbe HRa HRb HCn t1
                      go_wp2_with fail
                      refine HSm.out.mono ?_
                      rintro e wf ⟨rfl, m6, rfl⟩
                      go_wp2_with fail
                      go_ret
                      exact ⟨rfl, bn (ba1 HBe.out _) m6⟩
end Go.Proofs.YtpoidnajhcjmcaaDoor.ringDrops
