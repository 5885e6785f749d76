/- Texts laid together: BRef, BRef2. -/
import Derived.Test.YtfbbgoahipejlabDoorBTurn
/- The document's own Put, Sum, Seal, Open: contracts against the same plain functions as the program's calls. -/
namespace Go.Proofs.YtfbbgoahipejlabDoor.W
open Go.RowKit Go.Proofs.YtfbbgoahipejlabDoor.G

/-- A slice that reads as bytes, wherever it lies. -/
def Sl (w : World) (v : Value) (l : List UInt8) : Prop := ∃ A c, v = .slice A l.length c ∧ l.length ≤ c ∧ c ≤ 9223372036854775807 ∧ Rd w A l
theorem Lst.sl {w : World} {B : Nat} {v : Value} {l : List UInt8} (h : Lst w B v l) : Sl w v l := by
  obtain ⟨A, c, e, hr, hc, hm, _⟩ := h.rd
  exact ⟨A, c, e, hc, hm, hr⟩
theorem Sl.below {w w' : World} {v : Value} {l : List UInt8} (h : Sl w v l) (hb : Below w.heap.size w w') : Sl w' v l := by
  obtain ⟨A, c, e, h1, h2, hr⟩ := h
  exact ⟨A, c, e, h1, h2, hr.below hb⟩
theorem Sl.conv {w : World} {v : Value} {l : List UInt8} (h : Sl w v l) : (convert 22 9 v).run Tryd.prog w = .ok (str l) w := by
  obtain ⟨A, c, rfl, _, _, hr⟩ := h
  exact conv_any hr c
/-- Bytes and a code are answered, wherever the bytes lie; of what was there nothing has turned. -/
def RefPost (w : World) (l : List UInt8) (c : Int) (e : Ending) (w' : World) : Prop := ∃ x, e = .returned (.tuple #[x, .int .i64 c]) ∧ Sl w' x l ∧ Below w.heap.size w w'

theorem rput_form {w : World} {A : Option Addr} {c : Nat} {l : List UInt8} (hr : Rd w A l) (hc : l.length ≤ c) (hc1 : c ≤ 9223372036854775807) (n v : Int) (h : sz n = false) :
    Calls Tryd.prog 56 #[.slice A l.length c, .int .i64 n, .int .i64 v] w (RefPost w l 8) := by
  have HH := Lib.hid h; clear h
  go_enter Tryd.func56, Tryd.ntmps56
  go_wp2_with (first
    | (go_at_call 93; refine (most_no n HH.out _).mono ?_; rintro e w' ⟨rfl, rfl⟩))
  go_ret2
  exact ⟨_, rfl, ⟨A, c, rfl, hc, hc1, hr⟩, Below.refl _ _⟩
theorem most_mx (n : Int) (w : World) : Calls Tryd.prog 93 #[.int .i64 n] w fun e w' => e = .returned (.int .i64 (mx n)) ∧ w = w' := by
  by_cases h : sz n = true
  · rcases of_decide_eq_true h with rfl | rfl | rfl
    · exact most_1 w
    · exact most_2 w
    · exact most_4 w
  · have h' : sz n = false := by simpa using h
    obtain ⟨h1, h2, h4⟩ := sz_no h'
    have : mx n = 0 := by unfold mx; rw [if_neg h1, if_neg h2, if_neg h4]
    rw [this]; exact most_no n h' w
theorem mx_pos {n : Int} (h : sz n = true) : 0 < mx n ∧ mx n ≤ 4294967296 := by
  rcases of_decide_eq_true h with rfl | rfl | rfl <;> decide
theorem rput_range {w : World} {A : Option Addr} {c : Nat} {l : List UInt8} (hr : Rd w A l) (hc : l.length ≤ c) (hc1 : c ≤ 9223372036854775807) (n v : Int) (h : sz n = true) (hv : inN n v = false) :
    Calls Tryd.prog 56 #[.slice A l.length c, .int .i64 n, .int .i64 v] w (RefPost w l 7) := by
  have hm := mx_pos h
  have hv' := of_decide_eq_false hv
  have HM := Lib.hid (fun w => most_mx n w)
  clear h hv
  generalize mx n = M at *
  have t0 : (M == 0) = false := by rw [beq_eq_false_iff_ne]; omega
  by_cases h0 : v < 0
  · have t1 : decide (v < 0) = true := decide_eq_true h0
    clear hv' hm
    go_enter Tryd.func56, Tryd.ntmps56
    go_wp2_with (first | (go_at_call 93; refine (HM.out _).mono ?_; rintro e w' ⟨rfl, rfl⟩))
    go_ret2
    exact ⟨_, rfl, ⟨A, c, rfl, hc, hc1, hr⟩, Below.refl _ _⟩
  · have t1 : decide (v < 0) = false := decide_eq_false h0
    have t2 : decide (M ≤ v) = true := decide_eq_true (by omega)
    clear hv' hm
    go_enter Tryd.func56, Tryd.ntmps56
    go_wp2_with (first | (go_at_call 93; refine (HM.out _).mono ?_; rintro e w' ⟨rfl, rfl⟩))
    go_ret2
    exact ⟨_, rfl, ⟨A, c, rfl, hc, hc1, hr⟩, Below.refl _ _⟩
/-! ### The numbers' bytes, from the last to the first -/
def dig : Nat → Int → List UInt8
  | 0, _ => []
  | k + 1, v => dig k (v / 256) ++ [by_ (v % 256)]
theorem dig_length : ∀ (k : Nat) (v : Int), (dig k v).length = k
  | 0, _ => rfl
  | k + 1, v => by simp [dig, dig_length k]
def shr : Nat → Int → Int
  | 0, v => v
  | k + 1, v => shr k v / 256
theorem shr_bd : ∀ (k : Nat) (v : Int), 0 ≤ v → v < 4294967296 → 0 ≤ shr k v ∧ shr k v < 4294967296
  | 0, v, h0, h1 => ⟨h0, h1⟩
  | k + 1, v, h0, h1 => by have := shr_bd k v h0 h1; simp only [shr]; omega
theorem shr_in : ∀ (k : Nat) (v : Int), shr k (v / 256) = shr k v / 256
  | 0, _ => rfl
  | k + 1, v => by rw [shr, shr_in k v]; rfl
theorem dig_next : ∀ (k : Nat) (v : Int), dig (k + 1) v = by_ (shr k v % 256) :: dig k v
  | 0, _ => rfl
  | k + 1, v => by
    rw [dig, dig_next k (v / 256), shr_in]
    rfl
theorem dig_num (n : Int) (k : Nat) (hk : n = k) (h : sz n = true) (v : Int) (hv : inN n v = true) : dig k v = num n v := by
  obtain ⟨v0, v1⟩ := of_decide_eq_true hv
  rcases of_decide_eq_true h with rfl | rfl | rfl
  · obtain rfl : k = 1 := by omega
    have v1' : v < 256 := v1
    show [by_ (v % 256)] = [by_ v]
    rw [Int.emod_eq_of_lt v0 v1']
  · obtain rfl : k = 2 := by omega
    have v1' : v < 65536 := v1
    show [by_ (v / 256 % 256), by_ (v % 256)] = [by_ (v / 256), by_ (v % 256)]
    rw [Int.emod_eq_of_lt (a := v / 256) (by omega) (by omega)]
  · obtain rfl : k = 4 := by omega
    have v1' : v < 4294967296 := v1
    show [by_ (v / 256 / 256 / 256 % 256), by_ (v / 256 / 256 % 256), by_ (v / 256 % 256), by_ (v % 256)] = [by_ (v / 16777216), by_ (v / 65536 % 256), by_ (v / 256 % 256), by_ (v % 256)]
    rw [show v / 256 / 256 / 256 % 256 = v / 16777216 by omega, show v / 256 / 256 % 256 = v / 65536 % 256 by omega]

def PutInv (w : World) (l : List UInt8) (vo : Value) (v : Int) (n : Nat) (vv vw i : Value) (wr : World) : Prop := ∃ k : Nat, k ≤ n ∧ i = .int .i64 k ∧ vv = .int .i64 (shr k v) ∧ Lst wr w.heap.size vw (dig k v) ∧ Lst wr w.heap.size vo l ∧ (∀ b, vo.ownBlock = some b → vw.ownBlock ≠ some b) ∧ Below w.heap.size w wr
theorem Lst.below' {w w' : World} {B : Nat} {v : Value} {l : List UInt8} {row : Option Nat} (h : Lst w B v l) (hg : w.grownBy w' row) (hne : ∀ b, v.ownBlock = some b → row ≠ some b) : Lst w' B v l :=
  World.ownsRow.kept h hg (by
    rcases e : v.ownBlock with _ | k
    · exact .inl rfl
    · right; intro e'; exact hne k e e'.symm)
theorem lst_new1 (w : World) (B : Nat) (hB : B ≤ w.heap.size) (p : Int) (p0 : 0 ≤ p) (p1 : p < 256) : Lst (w.alloc (.cells #[.int .u8 p] 5)) B (.slice (some ⟨w.heap.size, 0, none⟩) 1 1) [by_ p] := by
  refine ⟨by simp [bvs], .inr ⟨w.heap.size, 1, #[.int .u8 p], rfl, hB, Blk.new w 5 _, Nat.le_refl _, by unfold maxLen; omega, rfl, ?_⟩⟩
  simp [bvs, bv, by_nat p p0 p1]
set_option maxHeartbeats 400000 in
theorem rput_ok {w : World} {A : Option Addr} {c : Nat} {l : List UInt8} (hr : Rd w A l) (hl : l.length ≤ 2048) (n : Nat) (v : Int) (h : sz n = true) (hv : inN n v = true) :
    Calls Tryd.prog 56 #[.slice A l.length c, .int .i64 n, .int .i64 v] w (RefPost w (l ++ num n v) 0) := by
  have hm := mx_pos h
  obtain ⟨v0, v1⟩ := of_decide_eq_true hv
  have HD := Lib.hid (dig_num n n rfl h v hv)
  have HM := Lib.hid (fun w => most_mx n w)
  have hn : 0 < n ∧ n ≤ 4 := by rcases of_decide_eq_true h with e | e | e <;> omega
  have HR := Lib.hid hr
  clear h hv hr
  generalize mx n = M at *
  have t0 : (M == 0) = false := by rw [beq_eq_false_iff_ne]; omega
  have t1 : decide (v < 0) = false := decide_eq_false (by omega)
  have t2 : decide (M ≤ v) = false := decide_eq_false (by omega)
  go_enter Tryd.func56, Tryd.ntmps56
  go_wp2_with (first
    | (go_at_call 93; refine (HM.out _).mono ?_; rintro e w' ⟨rfl, rfl⟩)
    | (at_builtin
       refine wpList_app rfl (.tmp 24) (.tmp 25) rfl w.heap.size (.slice none 0 0) [] rfl (Lst.nil_ _ _) A c l rfl HR.out (by simp; omega) (Nat.le_refl _) ?_
       intro vo w1 hx1 hb1 _ _
       have HX1 := Lib.hid (show Lst w1 w.heap.size vo l from hx1)
       clear hx1))
  go_loopw [2, 9, 10] (fun vv vw i wr => PutInv w l vo v n vv vw i wr) (fun _ _ i _ => n - (intOf i).toNat)
  case atStart => exact ⟨0, by omega, rfl, rfl, Lst.nil_ _ _, HX1.out, (fun b _ => by simp [Value.ownBlock]), hb1⟩
  case round =>
    obtain ⟨k, hk, rfl, rfl, hw, ho, hap, hS⟩ := hrel
    have hsb := shr_bd k v v0 (by omega)
    have hdl := dig_length k v
    have HO := Lib.hid ho
    have HAP := Lib.hid hap
    obtain ⟨A9, c9, rfl, hr9, hc9, hm9, hB9⟩ := hw.rd
    have HR9 := Lib.hid hr9
    have hdl' : (dig k v).length ≤ 4 := by omega
    have hs := hS.size
    clear ho hap hr9 hB9 hw
    by_cases hlt : k < n
    · have HDN := Lib.hid (dig_next k v)
      clear hdl
      go_wp2_with (first
        | (at_builtin
           refine wpList_app rfl (.tmp 35) (.tmp 36) rfl w.heap.size (.slice (some ⟨wr.heap.size, 0, none⟩) 1 1) [by_ (shr k v % 256)] rfl (lst_new1 wr w.heap.size hs _ (by omega) (by omega)) A9 c9 (dig k v) rfl (HR9.out.alloc _) (by simp; omega) (by simp; omega) ?_
           intro x2 w2 hx2 hb2 hg2 hw2
           have HX2 := Lib.hid hx2
           have HO2 := Lib.hid ((HO.out.alloc (.cells #[.int .u8 (shr k v % 256)] 5)).below' hg2 (fun b hb => by have := (World.ownsRow.lt HO.out b hb).2; intro e; simp [Value.ownBlock] at e; omega))
           have HAP2 : Hid (∀ b, vo.ownBlock = some b → x2.ownBlock ≠ some b) := fun b hb hb' => by
             have := (World.ownsRow.lt HO.out b hb).2
             rcases hw2 with e | e <;> (rw [e] at hb'; simp [Value.ownBlock] at hb'; omega)
           have hS2 : Below w.heap.size w w2 := (hS.alloc hs _).trans hb2
           clear hx2 hg2 hw2 hb2))
      go_roundw
      case rel => exact ⟨k + 1, by omega, by go_num, rfl, by rw [HDN.out]; exact HX2.out, HO2.out, HAP2.out, hS2⟩
      case measure => simp [intOf]; omega
    · obtain rfl : k = n := by omega
      clear hdl
      go_wp2_with (first
        | (at_builtin
           refine wpList_app rfl (.tmp 40) (.tmp 41) rfl w.heap.size vo l rfl HO.out A9 c9 (dig k v) rfl HR9.out (by omega) hs ?_
           intro x2 w2 hx2 hb2 hg2 hw2
           have HX2 := Lib.hid hx2
           clear hx2 hg2 hw2))
      go_ret2
      exact ⟨x2, rfl, by rw [← HD.out]; exact HX2.out.sl, hS.trans hb2⟩
theorem rput_any {w : World} {A : Option Addr} {c : Nat} {l : List UInt8} (hr : Rd w A l) (hl : l.length ≤ 2048) (hc : l.length ≤ c) (hc1 : c ≤ 9223372036854775807) (n v : Int) :
    Calls Tryd.prog 56 #[.slice A l.length c, .int .i64 n, .int .i64 v] w (RefPost w (putL l n v) (putE n v)) := by
  unfold putL putE
  by_cases h : sz n = true
  · simp only [h, if_true]
    by_cases hv : inN n v = true
    · simp only [hv, if_true]
      obtain ⟨k, rfl⟩ := Int.eq_ofNat_of_zero_le (show 0 ≤ n by rcases of_decide_eq_true h with rfl | rfl | rfl <;> omega)
      exact rput_ok hr hl k v h hv
    · simp only [hv, if_false, Bool.false_eq_true]
      exact rput_range hr hc hc1 n v h (by simpa using hv)
  · have h' : sz n = false := by simpa using h
    simp only [h', if_false, Bool.false_eq_true]
    exact rput_form hr hc hc1 n v h'
end Go.Proofs.YtfbbgoahipejlabDoor.W
/- The document's own Sum, Seal, Open: contracts against the same plain functions as the program's calls. -/
namespace Go.Proofs.YtfbbgoahipejlabDoor.W
open Go.RowKit Go.Proofs.YtfbbgoahipejlabDoor.G

theorem rsum_any {w : World} {A : Option Addr} {c : Nat} {l : List UInt8} (hr : Rd w A l) (hl : l.length ≤ 4096) :
    Calls Tryd.prog 57 #[.slice A l.length c] w fun e w' => e = .returned (.int .i64 (sum l)) ∧ w = w' := by
  have HR := Lib.hid hr; clear hr
  go_enter Tryd.func57, Tryd.ntmps57
  go_wp2
  go_loop [3, 4] (fun s i => ∃ k : Nat, k ≤ l.length ∧ i = .int .i64 k ∧ s = .int .i64 (su l k)) (fun _ i => l.length - (intOf i).toNat)
  case atStart => exact ⟨0, by omega, rfl, rfl⟩
  case round =>
    obtain ⟨k, hk, rfl, rfl⟩ := hrel
    have hb := su_bd l k
    by_cases hlt : k < l.length
    · obtain ⟨b, o, rfl, _, hc⟩ := HR.out.at_ hlt
      have hn := nth_bd l k
      have HS : Hid (su l (k + 1) = (su l k + nth l k) % 65536) := rfl
      go_wp2
      go_round
      case rel => exact ⟨k + 1, by omega, by go_num, by rw [HS.out]⟩
      case measure => simp [intOf]; omega
    · have HK : Hid (k = l.length) := by show k = l.length; omega
      go_wp2
      go_ret
      exact ⟨by unfold sum; rw [← HK.out]; rfl, rfl⟩
def RSealPost (w : World) (l : List UInt8) (e : Ending) (w' : World) : Prop := ∃ x, e = .returned x ∧ Sl w' x l ∧ Below w.heap.size w w'
theorem put_seal (l : List UInt8) : putL l 2 (sum l) = sealL l := by
  have h : inN 2 (sum l) = true := decide_eq_true (sum_bd l)
  unfold putL sealL
  rw [if_pos (show sz 2 = true from rfl), if_pos h]
theorem rseal_any {w : World} {A : Option Addr} {c : Nat} {l : List UInt8} (hr : Rd w A l) (hl : l.length ≤ 2048) (hc : l.length ≤ c) (hc1 : c ≤ 9223372036854775807) :
    Calls Tryd.prog 7 #[.slice A l.length c] w (RSealPost w (sealL l)) := by
  have HP := Lib.hid (put_seal l)
  go_enter Tryd.func7, Tryd.ntmps7
  go_wp2_with (first
    | (go_at_call 57; refine (rsum_any hr (by omega)).mono ?_; rintro e w' ⟨rfl, rfl⟩)
    | (go_at_call 56; refine (rput_any hr hl hc hc1 2 (sum l)).mono ?_; rintro e w1 ⟨x1, rfl, hx1, hb1⟩; have HX1 := Lib.hid hx1; clear hx1))
  go_ret
  exact ⟨x1, rfl, by rw [← HP.out]; exact HX1.out, hb1⟩
theorem ropen_short {w : World} {A : Option Addr} {n c : Nat} (hn : n < 2) :
    Calls Tryd.prog 64 #[.slice A n c] w fun e w' => e = .returned (.tuple #[.slice none 0 0, .int .i64 9]) ∧ w = w' := by
  go_enter Tryd.func64, Tryd.ntmps64
  go_wp2
  go_ret2
  exact ⟨rfl, rfl⟩
theorem Sl.nil_ (w : World) : Sl w (.slice none 0 0) [] := ⟨none, 0, rfl, by simp, by omega, Rd.none_⟩
set_option maxRecDepth 100000 in
theorem ropen_yes {w : World} {A : Option Addr} {c : Nat} {l p : List UInt8} (hr : Rd w A l) (hpl : l.length = p.length + 2) (hp : Rd w A p) (hl : p.length ≤ 2048) (hc : p.length + 2 ≤ c) (hc1 : c ≤ 9223372036854775807) (ht : (sealL p == l) = true) :
    Calls Tryd.prog 64 #[.slice A (p.length + 2) c] w (RefPost w p 0) := by
  have f1 : (0 : Int) ≤ p.length := by omega
  have f2 : (p.length : Int) ≤ p.length + 2 := by omega
  have f3 : (p.length : Int) + 2 ≤ c := by omega
  have f4 : (p.length : Int) ≤ c := by omega
  have cv : ∀ W : World, Below w.heap.size w W → (convert 22 9 (.slice A (p.length + 2) c)).run Tryd.prog W = .ok (.string ⟨l.toArray⟩) W := fun W h => by
    rw [← hpl]; exact conv_any (hr.below h) c
  have CV := Lib.hid cv
  have CS : Hid (∀ (W : World) (_ : Below w.heap.size w W), Calls Tryd.prog 7 #[.slice A p.length c] W (RSealPost W (sealL p))) := fun W h => rseal_any (hp.below h) hl (by omega) hc1
  have hS0 : Below w.heap.size w w := Below.refl _ _
  have hcv0 := cv _ hS0.drew
  have HP := Lib.hid hp
  clear cv hpl hr hp
  go_enter Tryd.func64, Tryd.ntmps64
  go_wp2_with fail
  go_region_with (first
     | (go_at_call 7; (with_reducible refine (CS.out _ hS0.drew).mono ?_); rintro e w1 ⟨x1, rfl, hx1, g1⟩; have hS1 := bt (w := w) hS0.drew g1; have hcv1 := CV.out _ hS1; have hcx : (convert 22 9 x1).run Tryd.prog w1 = .ok (.string ⟨(sealL p).toArray⟩) w1 := hx1.conv; clear hx1))
  all_goals
    go_wp2
    go_ret2
    exact ⟨_, rfl, ⟨A, c, rfl, by omega, hc1, HP.out.below hS1⟩, hS1⟩
set_option maxRecDepth 100000 in
theorem ropen_no {w : World} {A : Option Addr} {c : Nat} {l p : List UInt8} (hr : Rd w A l) (hpl : l.length = p.length + 2) (hp : Rd w A p) (hl : p.length ≤ 2048) (hc : p.length + 2 ≤ c) (hc1 : c ≤ 9223372036854775807) (ht : (sealL p == l) = false) :
    Calls Tryd.prog 64 #[.slice A (p.length + 2) c] w (RefPost w [] 8) := by
  have f1 : (0 : Int) ≤ p.length := by omega
  have f2 : (p.length : Int) ≤ p.length + 2 := by omega
  have f3 : (p.length : Int) + 2 ≤ c := by omega
  have f4 : (p.length : Int) ≤ c := by omega
  have cv : ∀ W : World, Below w.heap.size w W → (convert 22 9 (.slice A (p.length + 2) c)).run Tryd.prog W = .ok (.string ⟨l.toArray⟩) W := fun W h => by
    rw [← hpl]; exact conv_any (hr.below h) c
  have CV := Lib.hid cv
  have CS : Hid (∀ (W : World) (_ : Below w.heap.size w W), Calls Tryd.prog 7 #[.slice A p.length c] W (RSealPost W (sealL p))) := fun W h => rseal_any (hp.below h) hl (by omega) hc1
  have hS0 : Below w.heap.size w w := Below.refl _ _
  have hcv0 := cv _ hS0.drew
  clear cv hpl hr hp
  go_enter Tryd.func64, Tryd.ntmps64
  go_wp2_with fail
  go_region_with (first
     | (go_at_call 7; (with_reducible refine (CS.out _ hS0.drew).mono ?_); rintro e w1 ⟨x1, rfl, hx1, g1⟩; have hS1 := bt (w := w) hS0.drew g1; have hcv1 := CV.out _ hS1; have hcx : (convert 22 9 x1).run Tryd.prog w1 = .ok (.string ⟨(sealL p).toArray⟩) w1 := hx1.conv; clear hx1))
  all_goals
    go_wp2
    go_ret2
    exact ⟨_, rfl, Sl.nil_ _, hS1⟩
theorem seal_eq (p : List UInt8) (x y : UInt8) : (sealL p == p ++ [x, y]) = openB (p ++ [x, y]) := by
  obtain ⟨h, l, e, hs⟩ := seal_two p
  rw [openB_two, e, ← hs]
  have hx := x.toNat_lt
  have hy := y.toNat_lt
  have hh := h.toNat_lt
  have hl := l.toNat_lt
  rw [Bool.eq_iff_iff]
  simp only [beq_iff_eq, List.append_cancel_left_eq, List.cons.injEq, and_true, decide_eq_true_eq]
  constructor
  · rintro ⟨rfl, rfl⟩; rfl
  · intro he
    exact ⟨UInt8.toNat_inj.1 (by omega), UInt8.toNat_inj.1 (by omega)⟩
theorem ropen_any {w : World} {A : Option Addr} {c : Nat} {l : List UInt8} (hr : Rd w A l) (hl : l.length ≤ 2048) (hc : l.length ≤ c) (hc1 : c ≤ 9223372036854775807) :
    Calls Tryd.prog 64 #[.slice A l.length c] w (RefPost w (openL l) (openE l)) := by
  unfold openL openE
  by_cases h : l.length < 2
  · simp only [if_pos h]
    exact (ropen_short h).mono fun e w' ⟨he, hw⟩ => by
      subst hw; exact ⟨_, he, Sl.nil_ _, Below.refl _ _⟩
  · simp only [if_neg h]
    obtain ⟨x, y, e1, e2⟩ := two_back (l := l) (by omega)
    have hlen : l.length = (front l).length + 2 := by simp [front]; omega
    have hp : Rd w A (front l) := hr.take _
    have ht : (sealL (front l) == l) = openB l := by
      have := seal_eq (front l) x y
      rwa [← e1] at this
    by_cases ho : openB l = true
    · simp only [if_pos ho]
      rw [ho] at ht
      have := ropen_yes (c := c) hr hlen hp (by omega) (by omega) hc1 ht
      rwa [← hlen] at this
    · simp only [if_neg ho]
      rw [show openB l = false by simpa using ho] at ht
      have := ropen_no (c := c) hr hlen hp (by omega) (by omega) hc1 ht
      rwa [← hlen] at this
end Go.Proofs.YtfbbgoahipejlabDoor.W
