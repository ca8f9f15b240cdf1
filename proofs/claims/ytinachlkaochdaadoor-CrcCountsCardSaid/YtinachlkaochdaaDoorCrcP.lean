/- Layer 16: contracts of package crc. -/
import Derived.Test.YtinachlkaochdaaDoorCrcC
import Derived.Deep.DeepCutAuto
set_option linter.unusedVariables false
namespace Go.Proofs.YtinachlkaochdaaDoor
open Go.RowKit Go.Lib
namespace Cx
open Ww Cr Cd
/-- The table of the sums of half bytes, as its initialiser lays it. -/
def Tab (w : World) : Prop := ∀ i, i < 16 → w.cell? ⟨0, i, none⟩ = some (.int .u32 (steps 4 i : Nat))
section
variable {w w' : World}
theorem Tab.lt (h : Tab w) : 0 < w.heap.size := World.block_lt_of_cell? w _ (h 0 (by omega))
theorem Tab.below (h : Tab w) (d : Below w.heap.size w w') : Tab w' := fun i hi => (d.cell (p := ⟨0, i, none⟩) h.lt).trans (h i hi)
theorem Tab.fp {p : Nat} (h : Tab w) (d : Fp p w w') (hp : p ≠ 0) : Tab w' := fun i hi => (World.cell?_of_block (d.block _ h.lt (fun e => hp e.symm))).trans (h i hi)
end
set_option maxHeartbeats 1000000 in
set_option maxRecDepth 100000 in
theorem feed (A : Option Addr) (B c v0 : Nat) (bs : List UInt8) (w : World) (R : Bs w B A bs) (hT : Tab w) (hs : v0 < 4294967296) (hl : bs.length ≤ 9223372036854775807) :
    Calls Tryd.prog 23 #[.int .u32 (v0 : Nat), .slice A bs.length c] w fun e w' => e = .returned (.int .u32 (fold v0 bs : Nat)) ∧ w = w' := by
  go_enter Tryd.func23, Tryd.ntmps23
  go_wp2_with fail
  go_loop [0, 9] (fun v5 v12 => ∃ i v : Nat, v12 = .int .i64 (i : Int) ∧ i ≤ bs.length ∧ v5 = .int .u32 (v : Nat) ∧ v < 4294967296 ∧ fold v (bs.drop i) = fold v0 bs) (fun _ v12 => bs.length - (Lib.intOf v12).toNat)
  case atStart => exact ⟨0, v0, rfl, by omega, rfl, hs, rfl⟩
  case round =>
    obtain ⟨i, v, rfl, hi, rfl, hv, hf⟩ := hrel
    by_cases hlt : i < bs.length
    · have i1 : (i : Int) < bs.length := by omega
      rw [fold_drop _ i v hlt] at hf
      obtain ⟨b, o, rfl, hB, cc⟩ := R.at_ i hlt
      have hc : (bs.getD i 0).toNat < 256 := UInt8.toNat_lt _
      generalize (bs.getD i 0).toNat = x at *
      have hx := xor_u32 v x hv (by omega)
      have hyl : v ^^^ x < 4294967296 := Nat.xor_lt_two_pow (n := 32) (by omega) (by omega)
      have hby : byte v x = steps 4 (steps 4 (v ^^^ x)) := steps_add 4 4 _
      rw [hby] at hf
      generalize v ^^^ x = y at *
      have ez : y / 16 ^^^ steps 4 (y % 16) = steps 4 y := (steps_split 4 y).symm
      have eZ : steps 4 y / 16 ^^^ steps 4 (steps 4 y % 16) = steps 4 (steps 4 y) := (steps_split 4 _).symm
      have hz : steps 4 y < 4294967296 := steps_lt (by omega) 4
      have hZ : steps 4 (steps 4 y) < 4294967296 := steps_lt (by omega) 4
      have x1 := xor_u32 (steps 4 (y % 16)) (y / 16) (steps_lt (by omega) 4) (by omega)
      have x2 := xor_u32 (steps 4 (steps 4 y % 16)) (steps 4 y / 16) (steps_lt (by omega) 4) (by omega)
      rw [Nat.xor_comm, ez] at x1
      rw [Nat.xor_comm, eZ] at x2
      have t1 := hT (y % 16) (by omega)
      have t2 := hT (steps 4 y % 16) (by omega)
      replace hf := Lib.hid hf
      clear ez eZ hby
      generalize steps 4 (steps 4 y) = Z at *
      generalize steps 4 (steps 4 y % 16) = T2 at *
      generalize steps 4 y = z at *
      generalize steps 4 (y % 16) = T1 at *
      have q1 := shr4_u32 y
      have q5 : (y : Int) / 16 = ((y / 16 : Nat) : Int) := by omega
      have q2 : (y : Int) % 16 = ((y % 16 : Nat) : Int) := by omega
      have q3 := shr4_u32 z
      have q6 : (z : Int) / 16 = ((z / 16 : Nat) : Int) := by omega
      have q4 : (z : Int) % 16 = ((z % 16 : Nat) : Int) := by omega
      have b1 : ((y % 16 : Nat) : Int) < 16 := by omega
      have b2 : ((z % 16 : Nat) : Int) < 16 := by omega
      have m1 := and15 y hyl
      have m2 := and15 z hz
      generalize y / 16 = yh at *
      generalize y % 16 = yl at *
      generalize z / 16 = zh at *
      generalize z % 16 = zl at *
      go_wp2_with fail
      go_round
      case rel => exact ⟨i + 1, Z, rfl, by omega, rfl, hZ, hf.out⟩
      case measure => simp [Lib.intOf]; omega
    · have i1 : ¬ (i : Int) < bs.length := by omega
      have E := Lib.hid (show fold v0 bs = v from by rw [← hf, List.drop_eq_nil_of_le (by omega)]; rfl)
      clear hf
      go_wp2
      go_ret
      exact ⟨by rw [E.out]; rfl, rfl⟩
set_option maxHeartbeats 1000000 in
set_option maxRecDepth 100000 in
theorem more (A : Option Addr) (B c s : Nat) (bs : List UInt8) (w : World) (R : Bs w B A bs) (hT : Tab w) (hs : s < 4294967296) (hl : bs.length ≤ 9223372036854775807) :
    Calls Tryd.prog 13 #[.int .u32 (s : Nat), .slice A bs.length c] w fun e w' => e = .returned (.int .u32 (fold (s ^^^ all1) bs ^^^ all1 : Nat)) ∧ w = w' := by
  obtain ⟨s0, e0⟩ : ∃ s0, s0 = s ^^^ all1 := ⟨_, rfl⟩
  obtain ⟨f0, e1⟩ : ∃ f0, f0 = fold s0 bs := ⟨_, rfl⟩
  obtain ⟨f1, e2⟩ : ∃ f1, f1 = f0 ^^^ all1 := ⟨_, rfl⟩
  have ns := not_u32 s hs
  have s1 : s ^^^ all1 < 4294967296 := Nat.xor_lt_two_pow (n := 32) (by omega) (by decide)
  rw [← e0] at ns s1
  have F := Lib.hid (feed A B c s0 bs w R hT s1 hl)
  have l1 := fold_lt (v := s0) (by omega) bs
  rw [← e1] at F l1
  have nf := not_u32 f0 (by omega)
  rw [← e2] at nf
  rw [← e0, ← e1, ← e2]
  clear R hT hs s1 l1 e0 e1 e2 hl
  generalize bs.length = l at *
  go_enter Tryd.func13, Tryd.ntmps13
  go_wp2_with fail
  refine F.out.mono ?_
  rintro e w1 ⟨rfl, rfl⟩
  clear F
  go_wp2
  go_ret
  exact ⟨rfl, rfl⟩
theorem of (A : Option Addr) (B c : Nat) (bs : List UInt8) (w : World) (R : Bs w B A bs) (hT : Tab w) (hl : bs.length ≤ 9223372036854775807) :
    Calls Tryd.prog 8 #[.slice A bs.length c] w fun e w' => e = .returned (.int .u32 (sum bs : Nat)) ∧ w = w' := by
  have M := more A B c 0 bs w R hT (by omega) hl
  have e : fold (0 ^^^ all1) bs ^^^ all1 = sum bs := by rw [Nat.zero_xor]; rfl
  rw [e] at M
  replace M := Lib.hid M
  clear e R hT hl
  go_enter Tryd.func8, Tryd.ntmps8
  go_wp2_with (go_at_call 13; refine M.out.mono ?_; rintro e w1 ⟨rfl, rfl⟩)
  go_ret
  exact ⟨rfl, rfl⟩
/-- The parts, one behind the other. -/
def cat (bs : Nat → List UInt8) : Nat → List UInt8
  | 0 => []
  | n + 1 => cat bs n ++ bs n
set_option maxHeartbeats 1000000 in
set_option maxRecDepth 100000 in
theorem sums (A : Option Addr) (B c n : Nat) (bs : Nat → List UInt8) (w : World) (R : Rb w B A n bs) (hT : Tab w) (hn : n ≤ 9223372036854775807) (hl : ∀ i, i < n → (bs i).length ≤ 9223372036854775807) :
    Calls Tryd.prog 14 #[.slice A n c] w fun e w' => e = .returned (.int .u32 (sum (cat bs n) : Nat)) ∧ w = w' := by
  go_enter Tryd.func14, Tryd.ntmps14
  go_wp2_with fail
  go_loop [2, 7] (fun v3 v8 => ∃ i : Nat, v8 = .int .i64 (i : Int) ∧ i ≤ n ∧ v3 = .int .u32 (sum (cat bs i) : Nat)) (fun _ v8 => n - (Lib.intOf v8).toNat)
  case atStart => exact ⟨0, rfl, by omega, by rw [show cat bs 0 = [] from rfl, sum_nil]; rfl⟩
  case round =>
    obtain ⟨i, rfl, hi, rfl⟩ := hrel
    by_cases hlt : i < n
    · have i1 : (i : Int) < n := by omega
      obtain ⟨b, o, Ai, ci, rfl, hB, cc, RB⟩ := R i hlt
      have M := more Ai B ci (sum (cat bs i)) (bs i) w RB hT (sum_lt _) (hl i hlt)
      have e : fold (sum (cat bs i) ^^^ all1) (bs i) ^^^ all1 = sum (cat bs (i + 1)) := (sum_more _ _).symm
      rw [e] at M
      generalize sum (cat bs i) = s0 at *
      generalize hs1 : sum (cat bs (i + 1)) = s1 at *
      replace hs1 := Lib.hid hs1
      replace M := Lib.hid M
      clear RB e
      generalize (bs i).length = l at *
      go_wp2_with (go_at_call 13; refine M.out.mono ?_; rintro e w1 ⟨rfl, rfl⟩)
      go_round
      case rel => exact ⟨i + 1, rfl, by omega, by rw [hs1.out]⟩
      case measure => simp [Lib.intOf]; omega
    · have i1 : ¬ (i : Int) < n := by omega
      obtain rfl : i = n := by omega
      go_wp2
      go_ret
      exact ⟨rfl, rfl⟩
/-- A word's form, as Set puts it. -/
theorem form_one (f : Nat → Nat) (x : Nat) : ∀ i, i < 8 → Cc.pf f (8 * 0) x 8 i = ((form [x]).getD i 0).toNat := fun i hi => by
  rw [Cc.form_at [x] i (by simp; omega)]
  unfold Cc.pf
  rw [if_pos (by omega), show i / 8 = 0 by omega, show i % 8 = i by omega]
  rfl
theorem form_take (xs : List Nat) (i : Nat) (h : i < xs.length) : form (xs.take (i + 1)) = form (xs.take i) ++ form [xs.getD i 0] := by
  rw [List.take_succ_eq_append_getElem h, form_snoc]
  simp [form, List.getD, h]
/-- What a sum becomes by words more. -/
def mw (s : Nat) (xs : List Nat) : Nat := fold (s ^^^ all1) (form xs) ^^^ all1
theorem mw_lt (s : Nat) (xs : List Nat) (h : s < 4294967296) : mw s xs < 4294967296 := Nat.xor_lt_two_pow (n := 32) (fold_lt (Nat.xor_lt_two_pow (n := 32) (by omega) (by decide)) _) (by decide)
theorem mw_nil (s : Nat) : mw s [] = s := xor_back _ _
theorem mw_take (s : Nat) (xs : List Nat) (i : Nat) (h : i < xs.length) : fold (mw s (xs.take i) ^^^ all1) (form [xs.getD i 0]) ^^^ all1 = mw s (xs.take (i + 1)) := by
  unfold mw
  rw [xor_back, form_take xs i h, fold_append]
/-- An array of eight bytes, as it is made. -/
theorem bk8 (w : World) (e : TypeId) : Bk (w.alloc (.cells #[.int .u8 0, .int .u8 0, .int .u8 0, .int .u8 0, .int .u8 0, .int .u8 0, .int .u8 0, .int .u8 0] e)) w.heap.size 8 (fun _ => 0) := by
  refine ⟨fun i hi => ?_, fun i hi => ?_⟩
  · have : i = 0 ∨ i = 1 ∨ i = 2 ∨ i = 3 ∨ i = 4 ∨ i = 5 ∨ i = 6 ∨ i = 7 := by omega
    rcases this with rfl | rfl | rfl | rfl | rfl | rfl | rfl | rfl <;> simp [go_sem]
  · simp [go_sem]
set_option maxHeartbeats 1000000 in
set_option maxRecDepth 100000 in
theorem moreWords (A : Option Addr) (B c s : Nat) (xs : List Nat) (w : World) (hB : B ≤ w.heap.size) (R : Ws w B A xs) (hT : Tab w) (hs : s < 4294967296) (hn : xs.length ≤ 9223372036854775807) :
    Calls Tryd.prog 20 #[.int .u32 (s : Nat), .slice A xs.length c] w fun e w' => e = .returned (.int .u32 (mw s xs : Nat)) ∧ Below w.heap.size w w' := by
  go_enter Tryd.func20, Tryd.ntmps20
  go_wp2_with fail
  go_loopw [0, 10] (fun v0 v10 wr => ∃ i : Nat, v10 = .int .i64 (i : Int) ∧ i ≤ xs.length ∧ v0 = .int .u32 (mw s (xs.take i) : Nat) ∧ (∃ f, Bk wr w.heap.size 8 f) ∧ Below w.heap.size w wr) (fun _ v10 _ => xs.length - (Lib.intOf v10).toNat)
  case atStart => exact ⟨0, rfl, by omega, by rw [List.take_zero, mw_nil], ⟨fun _ => 0, bk8 w _⟩, (Below.refl _ _).alloc (Nat.le_refl _) _⟩
  case round =>
    obtain ⟨i, rfl, hi, rfl, ⟨f, K⟩, hb⟩ := hrel
    by_cases hlt : i < xs.length
    · have i1 : (i : Int) < xs.length := by omega
      obtain ⟨b, o, rfl, hB1, cc⟩ := (R.below (hb.mono hB)).at_ i hlt
      have S := Cc.set_yes w.heap.size 8 8 0 (xs.getD i 0) f (by omega) (by omega) (by omega) wr K
      have M := Lib.hid (fun w1 (K1 : Bk w1 w.heap.size 8 (Cc.pf f (8 * 0) (xs.getD i 0) 8)) (b1 : Below w.heap.size wr w1) => more (some ⟨w.heap.size, 0, none⟩) (w.heap.size + 1) 8 (mw s (xs.take i)) (form [xs.getD i 0]) w1 (K1.reads rfl (form_one f _) (by omega)) (hT.below (hb.trans b1)) (mw_lt _ _ hs) (by rw [form_len]; simp))
      rw [mw_take s xs i hlt] at M
      generalize xs.getD i 0 = x at *
      generalize mw s (xs.take i) = s0 at *
      replace hb := Lib.hid hb
      replace S := Lib.hid S
      clear K R hT hs
      go_wp2_with (first
        | (go_at_call 24; refine S.out.mono ?_; rintro e w1 ⟨rfl, K1, b1, s1⟩; have M1 := Lib.hid (M.out w1 K1 b1); replace b1 := Lib.hid b1; replace K1 := Lib.hid K1; clear s1)
        | (go_at_call 13; refine M1.out.mono ?_; rintro e w2 ⟨rfl, rfl⟩))
      go_roundw
      case rel => exact ⟨i + 1, rfl, by omega, rfl, ⟨_, K1.out⟩, hb.out.trans b1.out⟩
      case measure => simp [Lib.intOf]; omega
    · have i1 : ¬ (i : Int) < xs.length := by omega
      obtain rfl : i = xs.length := by omega
      go_wp2
      exact bodyPost_ret (v := .int .u32 (mw s xs : Nat)) (by simp [results, Tryd.results20, go_sem]) rfl ⟨rfl, hb⟩
theorem ofWords (A : Option Addr) (B c : Nat) (xs : List Nat) (w : World) (hB : B ≤ w.heap.size) (R : Ws w B A xs) (hT : Tab w) (hn : xs.length ≤ 9223372036854775807) :
    Calls Tryd.prog 10 #[.slice A xs.length c] w fun e w' => e = .returned (.int .u32 (sum (form xs) : Nat)) ∧ Below w.heap.size w w' := by
  have M := moreWords A B c 0 xs w hB R hT (by omega) hn
  have e : mw 0 xs = sum (form xs) := by unfold mw; rw [Nat.zero_xor]; rfl
  rw [e] at M
  replace M := Lib.hid M
  clear e R hT hn hB
  go_enter Tryd.func10, Tryd.ntmps10
  go_wp2_with (go_at_call 20; refine M.out.mono ?_; rintro e w1 ⟨rfl, b1⟩)
  exact bodyPost_ret (v := .int .u32 (sum (form xs) : Nat)) (by simp [results, Tryd.results10, go_sem]) rfl ⟨rfl, b1⟩
end Cx
end Go.Proofs.YtinachlkaochdaaDoor
