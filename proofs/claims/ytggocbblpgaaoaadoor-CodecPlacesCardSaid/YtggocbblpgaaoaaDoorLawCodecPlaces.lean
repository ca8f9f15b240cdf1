/- CodecPlaces: of every bytes, place and word the law of places answers true, and changes nothing, where the library's tables are as their initialisers lay them (the card ties them to the program's text). -/
import Derived.Test.YtggocbblpgaaoaaDoorFrame
import Derived.Test.YtggocbblpgaaoaaDoorCodP
import Derived.Test.YtggocbblpgaaoaaDoorTie
import Derived.Test.YtggocbblpgaaoaaDoorCards
import Derived.Deep.RegionHeld
import Derived.Deep.DeepCutAuto
import Derived.IntWalk
import Derived.Lib.LaidTab
import Derived.LaidMore
import Derived.Stop.Joined
import Derived.SevenTiedAt
set_option linter.unusedVariables false
namespace Go.Proofs.YtggocbblpgaaoaaDoor.codecPlaces
open Go.ChangeShapes Go.WideShapes Go.ChangeAt Go.RowKit
open Ww Cd Cc Cr Cw

set_option maxHeartbeats 400000 in
theorem walk_long (A : Option Addr) (n ca : Nat) (i : Int) (x : Nat) (h : 300 < n) (w : World) (T : Tab w) :
    Calls Tryd.prog 4 #[.slice A n ca, .int .i64 i, .int .u64 x] w fun e w' => e = .returned (.bool true) ∧ Below w.heap.size w w' := by
  have g1 : (300 : Int) < n := by omega
  clear h
  go_enter Tryd.func4, Tryd.ntmps4
  go_wp2_with fail
  refine (awake _ T).mono ?_
  rintro e w1 ⟨rfl, hb⟩
  go_wp2
  go_ret
  exact ⟨rfl, hb⟩
set_option maxHeartbeats 1000000 in
set_option maxRecDepth 100000 in
theorem walk_out (A : Option Addr) (ca : Nat) (bs : List UInt8) (i : Int) (x : Nat) (hs : bs.length ≤ 300) (hA : A = none → ca = 0) (hi : i < 0 ∨ (bs.length : Int) / 8 ≤ i) (w : World) (R : Bs w w.heap.size A bs) (T : Tab w) :
    Calls Tryd.prog 4 #[.slice A bs.length ca, .int .i64 i, .int .u64 x] w fun e w' => e = .returned (.bool true) ∧ Below w.heap.size w w' := by
  have g1 : decide ((300 : Int) < bs.length) = false := decide_eq_false (by omega)
  have HR := Lib.hid R
  have AW := Lib.hid (awake w T)
  have HI := Lib.hid hi
  have HA := Lib.hid hA
  have LT : (decide (i < 0) = true) ∨ (decide (i < 0) = false ∧ decide ((bs.length : Int) / 8 ≤ i) = true) := by
    rcases Int.lt_or_le i 0 with h | h
    · exact Or.inl (decide_eq_true h)
    · exact Or.inr ⟨decide_eq_false (by omega), decide_eq_true (by omega)⟩
  have HLT := Lib.hid LT
  clear R T hi hA LT
  go_enter Tryd.func4, Tryd.ntmps4
  go_wp2_with fail
  refine AW.out.mono ?_
  rintro e w1 ⟨rfl, b1⟩
  have R1 := (HR.out.below b1).alloc b1.size (.cells #[] 5)
  have O1 := Ob.fresh w1 w.heap.size b1.size
  have b2 := b1.alloc b1.size (.cells #[] 5)
  clear AW
  go_wp2_with (at_builtin; go_loud (refine append_all (w1.alloc (.cells #[] 5)) ?hgd (.tmp 18) (.tmp 19) ?ho w.heap.size (.slice (some ⟨w1.heap.size, 0, none⟩) 0 0) ?hs O1 w.heap.size A ca bs ?hx R1 HA.out (by omega) b2.size (fun v7 w2 O2 hg => ?_)); (case hgd => rfl); (case ho => rfl); (case hs => rfl); (case hx => rfl))
  have b3 := O1.grow b2 hg b2.size
  obtain ⟨Ac, cc, rfl, Rc, hc⟩ := O2.reads
  clear hg R1 O1 b2 b1 O2
  have C1 := Lib.hid (fun W => Cc.word_no Ac bs.length cc i (by omega) HI.out W)
  have C2 := Lib.hid (fun W => Cc.set_no Ac bs.length cc i x (by omega) HI.out W)
  have cv1 : (convert 23 9 (.slice Ac bs.length cc)).run Tryd.prog w2 = .ok (.string (sb bs)) w2 := conv_bytes Rc cc
  have cv2 : (convert 23 9 (.slice A bs.length ca)).run Tryd.prog w2 = .ok (.string (sb bs)) w2 := conv_bytes (HR.out.below b3) ca
  generalize sb bs = s at *
  go_wp2_with fail
  refine (C1.out _).mono ?_
  rintro e w3 ⟨rfl, rfl⟩
  go_wp2_with fail
  refine (C2.out _).mono ?_
  rintro e w3 ⟨rfl, rfl⟩
  rcases HLT.out with t1 | ⟨t1, t2⟩
  · go_wp2
    go_ret
    exact ⟨by simp [go_sem], b3⟩
  · go_wp2
    go_ret
    exact ⟨by simp [go_sem], b3⟩
theorem sfact (A : Option Addr) (g ca cc k n : Nat) (bs cs : List UInt8) (W : World) (B C : Nat) (hn : bs.length = n) (hl : cs.length = n) (hk : k ≤ n) (Qb : Bs W B A bs) (Qc : Bs W C (some ⟨g, 0, none⟩) cs) :
    (convert 23 9 (.slice A n ca)).run Tryd.prog W = .ok (.string (sb bs)) W ∧ (convert 23 9 (.slice (some ⟨g, 0, none⟩) n cc)).run Tryd.prog W = .ok (.string (sb cs)) W ∧ (convert 23 9 (.slice A k ca)).run Tryd.prog W = .ok (.string (sb (bs.take k))) W := by
  refine ⟨?_, ?_, ?_⟩
  · rw [← hn]; exact conv_bytes Qb ca
  · rw [← hl]; exact conv_bytes Qc cc
  · have := conv_bytes (Qb.take k) ca
    rw [List.length_take, Nat.min_eq_left (by omega)] at this
    exact this
set_option maxHeartbeats 4000000 in
set_option maxRecDepth 100000 in
theorem walk_in (bb off : Nat) (ca : Nat) (bs : List UInt8) (i x : Nat) (hs : bs.length ≤ 300) (hx : x < 18446744073709551616) (hca : bs.length ≤ ca) (hm : ca ≤ 9223372036854775807) (hi : i < bs.length / 8) (At : Addr) (hAt : (ca = 8 * i + 8 ∧ At = ⟨bb, off, none⟩) ∨ (¬ ca = 8 * i + 8 ∧ At = ⟨bb, off + (8 * i + 8), none⟩)) (w : World) (R : Bs w w.heap.size (some ⟨bb, off, none⟩) bs) (T : Tab w) :
    Calls Tryd.prog 4 #[.slice (some ⟨bb, off, none⟩) bs.length ca, .int .i64 (i : Int), .int .u64 x] w fun e w' => e = .returned (.bool true) ∧ Below w.heap.size w w' := by
  have g1 : decide ((300 : Int) < bs.length) = false := decide_eq_false (by omega)
  have g2 : decide ((i : Int) < 0) = false := decide_eq_false (by omega)
  have g3 : decide ((bs.length : Int) / 8 ≤ i) = false := decide_eq_false (by omega)
  have HR := Lib.hid R
  have AW := Lib.hid (awake w T)
  obtain ⟨k, hk⟩ : ∃ k, k = 8 * i := ⟨_, rfl⟩
  have HK := Lib.hid hk
  have hkn : k + 8 ≤ bs.length := by omega
  have LL := Lib.hid (lay_len bs k x hkn)
  have PL := Lib.hid (pf_lay bs k x hkn)
  have WL := Lib.hid (wordAt_lay bs k x hkn hx)
  have HAT := Lib.hid hAt
  clear R T hk hAt
  go_enter Tryd.func4, Tryd.ntmps4
  go_wp2_with fail
  refine AW.out.mono ?_
  rintro e w1 ⟨rfl, b1⟩
  have R1 := (HR.out.below b1).alloc b1.size (.cells #[] 5)
  have O1 := Ob.fresh w1 w.heap.size b1.size
  have b2 := b1.alloc b1.size (.cells #[] 5)
  clear AW
  go_wp2_with (at_builtin; go_loud (refine append_all (w1.alloc (.cells #[] 5)) ?hgd (.tmp 18) (.tmp 19) ?ho w.heap.size (.slice (some ⟨w1.heap.size, 0, none⟩) 0 0) ?hs O1 w.heap.size (some ⟨bb, off, none⟩) ca bs ?hx R1 (fun h => by cases h) (by omega) b2.size (fun v7 w2 O2 hg => ?_)); (case hgd => rfl); (case ho => rfl); (case hs => rfl); (case hx => rfl))
  have b3 := O1.grow b2 hg b2.size
  obtain ⟨g, cc, rfl, hg1, hg2, hc, K⟩ := O2.bk (by omega)
  clear hg R1 O1 b2 b1 O2
  have C1 := Lib.hid (Cc.word_yes (some ⟨g, 0, none⟩) w2.heap.size cc i bs (by omega) hc hi w2 (K.reads rfl (fun _ _ => rfl) hg2))
  have C2 := Lib.hid (Cc.set_yes g bs.length cc i x _ (by omega) hc hi w2 K)
  rw [← HK.out] at C1 C2
  go_wp2_with fail
  refine C1.out.mono ?_
  rintro e w3 ⟨rfl, rfl⟩
  go_wp2_with fail
  refine C2.out.mono ?_
  rintro e w3 ⟨rfl, K3, d3, z3⟩
  have b4 := b3.trans (d3.mono hg1)
  have Rc : Bs w3 w3.heap.size (some ⟨g, 0, none⟩) (lay bs k x) := K3.reads LL.out PL.out (by rw [z3]; exact hg2)
  have C3 := Lib.hid (Cc.word_yes (some ⟨g, 0, none⟩) w3.heap.size cc i (lay bs k x) (by rw [LL.out]; omega) (by rw [LL.out]; exact hc) (by rw [LL.out]; exact hi) w3 Rc)
  rw [← HK.out, WL.out, LL.out] at C3
  clear C1 C2 K K3 d3 z3 b3
  go_wp2_with fail
  refine C3.out.mono ?_
  rintro e w4 ⟨rfl, rfl⟩
  clear C3
  have bd := b4.drew
  have Rd : Bs w3.drew w3.drew.heap.size (some ⟨g, 0, none⟩) (lay bs k x) := ⟨Rc.at_⟩
  have ba := bd.alloc bd.size (.cells #[.int .u64 (x : Nat)] 35)
  have Ra : Bs (w3.drew.alloc (.cells #[.int .u64 (x : Nat)] 35)) (w3.drew.alloc (.cells #[.int .u64 (x : Nat)] 35)).heap.size (some ⟨g, 0, none⟩) (lay bs k x) := (Rd.alloc (Nat.le_refl _) _).more (by simp)
  obtain ⟨k8, hk8⟩ : ∃ k8, k8 = k + 8 := ⟨_, rfl⟩
  have HK8 := Lib.hid hk8
  have CT : ∀ W, Below w.heap.size w W → (convert 23 9 (.slice (some At) (bs.length - k8) (ca - k8))).run Tryd.prog W = .ok (.string (sb (bs.drop k8))) W := by
    intro W hW
    rcases HAT.out with ⟨h1, rfl⟩ | ⟨h1, rfl⟩
    · have hz : bs.length - k8 = 0 := by have := HK.out; omega
      have hd : bs.drop k8 = [] := List.drop_eq_nil_of_le (by omega)
      rw [hz, hd]
      exact conv_bytes (Bs.nil_ W 0 _) _
    · have := conv_bytes ((HR.out.below hW).drop k8) (ca - k8)
      rw [List.length_drop] at this
      rw [show off + (8 * i + 8) = off + k8 from by have := HK.out; omega]
      exact this
  have SF : ∀ W, Below w.heap.size w W → Bs W W.heap.size (some ⟨g, 0, none⟩) (lay bs k x) →
    (convert 23 9 (.slice (some ⟨bb, off, none⟩) bs.length ca)).run Tryd.prog W = .ok (.string (sb bs)) W ∧ (convert 23 9 (.slice (some ⟨g, 0, none⟩) bs.length cc)).run Tryd.prog W = .ok (.string (sb (lay bs k x))) W ∧ (convert 23 9 (.slice (some ⟨bb, off, none⟩) k ca)).run Tryd.prog W = .ok (.string (sb (bs.take k))) W ∧ (convert 23 9 (.slice (some At) (bs.length - k8) (ca - k8))).run Tryd.prog W = .ok (.string (sb (bs.drop k8))) W := fun W hW hC => by
      obtain ⟨a1, a2, a3⟩ := sfact (some ⟨bb, off, none⟩) g ca cc k bs.length bs (lay bs k x) W _ _ rfl LL.out (by omega) (HR.out.below hW) hC
      exact ⟨a1, a2, a3, CT W hW⟩
  have s0 := SF _ bd Rd
  have s1 := SF _ ba Ra
  have W1 := Lib.hid (Cr.word (sb bs) k (by rw [sb_size]; omega) (by rw [sb_size]; omega) w3.drew)
  rw [sb_list] at W1
  have P1 := Lib.hid (Cr.put _ 1 [x] (by simp) _ (ws_one w3.drew x 35 hx))
  have HSF := Lib.hid SF
  have hcat : sb (bs.take k) ++ sb (form [x]) ++ sb (bs.drop k8) = sb (lay bs k x) := by
    rw [sb_append, sb_append, form_one, hk8, List.append_assoc]
    rfl
  have z1 : (sb (bs.take k)).size ≤ 300 := by rw [sb_size, List.length_take]; omega
  have z2 : (sb (form [x])).size ≤ 300 := by rw [sb_size, form_one, le_len]; omega
  have z3 : (sb (bs.drop k8)).size ≤ 300 := by rw [sb_size, List.length_drop]; omega
  generalize wordAt bs k = p at *
  generalize sb (bs.take k) = st at *
  generalize sb (form [x]) = sf at *
  generalize sb (bs.drop k8) = sd at *
  generalize sb (lay bs k x) = sl at *
  generalize sb bs = sB at *
  have n1 : ¬ 9223372036854775807 < st.size + sf.size := by omega
  have n2 : st.size + sf.size ≤ 9223372036854775807 := by omega
  have n3 : ¬ 9223372036854775807 < st.size + sf.size + sd.size := by omega
  have n4 : st.size + sf.size + sd.size ≤ 9223372036854775807 := by omega
  have q1 : (8 : Int) * i = k := by have := HK.out; omega
  have q2 : (k : Int) + 8 = k8 := by omega
  have q3 : IntKind.i64.wrap (k : Int) = k := IntWalk.i64_in _ (by omega)
  have q4 : IntKind.i64.wrap (k8 : Int) = k8 := IntWalk.i64_in _ (by omega)
  have l1 : (k : Int) ≤ bs.length := by omega
  have l2 : (k8 : Int) ≤ bs.length := by omega
  have l3 : (k : Int) ≤ ca := by omega
  have l4 : k8 ≤ bs.length := by omega
  clear hk8 SF CT
  rcases HAT.out with ⟨h1, rfl⟩ | ⟨h1, rfl⟩
  · obtain rfl : ca = k8 := by have := HK.out; have := HK8.out; omega
    have hz : bs.length - ca = 0 := by omega
    rw [Nat.sub_self, hz] at s0 s1
    have SF2 := Lib.hid (fun W a b => by have h := HSF.out W a b; rw [Nat.sub_self, hz] at h; exact h)
    clear hz
    clear h1 HAT HSF
    go_upto_region 11 with fail
    go_region_held (fun W => (convert 23 9 (.slice (some ⟨bb, off, none⟩) bs.length ca)).run Tryd.prog W = .ok (.string sB) W ∧ (convert 23 9 (.slice (some ⟨g, 0, none⟩) bs.length cc)).run Tryd.prog W = .ok (.string sl) W ∧ (convert 23 9 (.slice (some ⟨bb, off, none⟩) k ca)).run Tryd.prog W = .ok (.string st) W ∧ (convert 23 9 (.slice (some ⟨bb, off, none⟩) 0 0)).run Tryd.prog W = .ok (.string sd) W)
      (first | with_reducible exact s0 | with_reducible exact s1 | exact s1 | with_reducible exact s2)
      (first
      | (go_at_call 15; refine W1.out.mono ?_; rintro e w5 ⟨rfl, rfl⟩)
      | (go_at_call 10; refine P1.out.mono ?_; rintro e w6 ⟨rfl, d6⟩; have b6 := ba.trans (d6.mono ba.size); have s2 := SF2.out _ b6 (Ra.step d6)))
    all_goals go_wp2
    all_goals go_ret
    all_goals exact ⟨by simp [go_sem], b6⟩
  · have h2 : ¬ ca = k8 := by have := HK.out; have := HK8.out; omega
    rw [show off + (8 * i + 8) = off + k8 from by have := HK.out; have := HK8.out; omega] at s0 s1 HSF
    clear h1 HAT
    go_upto_region 11 with fail
    go_region_held (fun W => (convert 23 9 (.slice (some ⟨bb, off, none⟩) bs.length ca)).run Tryd.prog W = .ok (.string sB) W ∧ (convert 23 9 (.slice (some ⟨g, 0, none⟩) bs.length cc)).run Tryd.prog W = .ok (.string sl) W ∧ (convert 23 9 (.slice (some ⟨bb, off, none⟩) k ca)).run Tryd.prog W = .ok (.string st) W ∧ (convert 23 9 (.slice (some ⟨bb, off + k8, none⟩) (bs.length - k8) (ca - k8))).run Tryd.prog W = .ok (.string sd) W)
      (first | with_reducible exact s0 | with_reducible exact s1 | exact s1 | with_reducible exact s2)
      (first
      | (go_at_call 15; refine W1.out.mono ?_; rintro e w5 ⟨rfl, rfl⟩)
      | (go_at_call 10; refine P1.out.mono ?_; rintro e w6 ⟨rfl, d6⟩; have b6 := ba.trans (d6.mono ba.size); have s2 := HSF.out _ b6 (Ra.step d6)))
    all_goals go_wp2
    all_goals go_ret
    all_goals exact ⟨by simp [go_sem], b6⟩
theorem walk (A : Option Addr) (ca : Nat) (bs : List UInt8) (i : Int) (x : Nat) (hca : bs.length ≤ ca) (hm : ca ≤ 9223372036854775807) (hA : A = none → ca = 0) (hx : x < 18446744073709551616) (w : World) (R : Bs w w.heap.size A bs) (T : Tab w) :
    Calls Tryd.prog 4 #[.slice A bs.length ca, .int .i64 i, .int .u64 x] w fun e w' => e = .returned (.bool true) ∧ Below w.heap.size w w' := by
  by_cases h : 300 < bs.length
  · exact walk_long A bs.length ca i x h w T
  by_cases hi : i < 0 ∨ (bs.length : Int) / 8 ≤ i
  · exact walk_out A ca bs i x (by omega) hA hi w R T
  · obtain ⟨n, rfl⟩ := Int.eq_ofNat_of_zero_le (show 0 ≤ i by omega)
    have hn : n < bs.length / 8 := by omega
    obtain ⟨bb, off, rfl, _, _⟩ := R.at_ 0 (by omega)
    by_cases hc : ca = 8 * n + 8
    · exact walk_in bb off ca bs n x (by omega) hx hca hm hn _ (Or.inl ⟨hc, rfl⟩) w R T
    · exact walk_in bb off ca bs n x (by omega) hx hca hm hn _ (Or.inr ⟨hc, rfl⟩) w R T
/-- A slice that is nil has no room. -/
theorem nil_cap {H : Type} {enc : TypeId × Value → H} {fuel : Nat} {A : Option Addr} {n cap : Nat} {y : DataW H × List MemPlace} {W : World} (hf : DataW.trod enc Tryd.prog W 0 (fun _ => true) true fuel 23 [.slice A n cap] = some y) : A = none → cap = 0 := by
  intro hA
  rcases Deep.open_slice1 Tryd.underlying23 cellsB hf with ⟨hcs, _⟩ | ⟨a, len, cap', m, k, V, D, Pl, hcs, _⟩
  · have : A = none ∧ n = 0 ∧ cap = 0 := by simpa using hcs
    exact this.2.2
  · have : A = some a ∧ n = len ∧ cap = cap' := by simpa using hcs
    rw [hA] at this
    cases this.1

theorem gp : Tryd.prog.globalNamed "internal/strconv.uint64pow10" = some 0 := by kernel_rfl
theorem tp : (Tryd.prog.globals[0]?).map (·.type) = some 68 := by kernel_rfl
/-- What the row's condition gives the walk: the table's cells. -/
theorem of_laid {W : World} (h : laidMetH Tryd.prog Rows.codecPlacesRow.laid W) : Tab W := by
  rw [MakeChecks.laidMetH_plain _ _ _ (by kernel_rfl)] at h
  obtain ⟨ps, ⟨g0, t0, cs0, f0, p0, q0, hg0, ht0, hv0, hd0, ⟨g1, t1, cs1, f1, p1, q1, hg1, ht1, hv1, hd1, ⟨g2, t2, cs2, f2, p2, q2, hg2, ht2, hv2, hd2, _, _⟩, _⟩, _⟩, _, _⟩ := h
  obtain rfl := Option.some.inj (gp.symm.trans hg2)
  obtain rfl := Option.some.inj (tp.symm.trans ht2)
  have hd3 : DataW.trod _ Tryd.prog W 0 _ false f2 68 cs2.toList = some (Lib.tabData .u64 Lib.pow10Tab, p2) := hd2
  have hc := Lib.cells_of_tab Tryd.underlying68 Tryd.underlying35 (by kernel_rfl) (by kernel_rfl) hd3
  show W.var? _ _ = _
  rw [hv2]
  congr 1
  apply Array.ext'
  rw [hc]

/-- The door's own heap meets the condition. -/
theorem door_met (os : Os) (args : Array Value) : laidMetH Tryd.prog Rows.codecPlacesRow.laid ((World.doorLaid Tryd.prog 400 os).forCall (fun _ _ => 0) ⟨#[], args, []⟩).memory :=
  laidMetH_of_parts3 (fuel := 8) (laidMet_of_run' 8 (by kernel_rfl) (by kernel_rfl)) (by kernel_rfl) (by kernel_rfl)
set_option maxRecDepth 100000 in
theorem lifted (os : Os) (started : os.Started) (H : Type) (enc : TypeId × Value → H) :
    ReturnsInHanded {} Tryd.checked os 4 .any (fun w args => (Rows.codecPlacesSpec.pre enc Tryd.prog Tryd.f4 [] false w args ∧ laidMetH Tryd.prog Rows.codecPlacesRow.laid w) ∧ sizedMet enc Tryd.prog Tryd.f4 (OpenSpec.ofChange Rows.codecPlacesSpec) false w args)
      (Rows.codecPlacesSpec.post enc Tryd.prog Tryd.f4 false true false false) := by
  refine returnsInHanded_of_change_and (C := Tryd.checked) (X := fun w _ => laidMetH Tryd.prog Rows.codecPlacesRow.laid w) (fun _ _ _ hh h => h.of_heap hh) Fr.own started (by kernel_rfl) Tryd.func4
    (ChangeSpec.witness_shaped (enc := enc) (C := Tryd.checked) (os := os) (X := fun w _ => laidMetH Tryd.prog Rows.codecPlacesRow.laid w) false (World.doorLaid Tryd.prog 400 os) #[.slice none 0 0, .int .i64 0, .int .u64 0] 8 rfl (World.shaped_of_RefB (by kernel_rfl) (by kernel_rfl)) (by kernel_rfl) (by kernel_rfl) (by kernel_rfl) (door_met os _)) ?_
  intro W base args ds gs before hval0 hW _ _ hL _
  have hval : ∀ (j : Nat) t v, Tryd.f4.params[j]? = some t → args[j]? = some v → Value.okWide Tryd.prog W .any base t v := hval0
  have hW' := hW
  obtain ⟨p, q, hA0, hV, rfl, hfz, hnd⟩ := hW
  have hA : DataW.TrodAll enc Tryd.prog W 0 (fun _ => true) true Tryd.f4.params.toList args.toList ds p := hA0
  obtain ⟨rfl, rfl⟩ := trodVars_none hV
  rw [Tryd.params4] at hA hval
  obtain ⟨v0, vs0, d0, ds0, p0, q0, hargs, rfl, rfl, h0, r0⟩ := trodAll_cons hA
  obtain ⟨v1, vs1, d1, ds1, p1, q1, rfl, rfl, rfl, h1, r1⟩ := trodAll_cons r0
  obtain ⟨v2, vs2, d2, ds2, p2, q2, rfl, rfl, rfl, h2, r2⟩ := trodAll_cons r1
  obtain ⟨rfl, rfl, rfl⟩ := trodAll_nil r2
  obtain rfl : args = #[v0, v1, v2] := by cases args; simp_all
  obtain ⟨A0, n0, c0, rfl⟩ := okWide_slice Tryd.underlying23 (hval 0 23 v0 rfl rfl)
  obtain ⟨fuel0, hf0⟩ := h0
  obtain ⟨xs0, rfl, lc0, lm0, R0⟩ := Ww.open_bytes hf0
  obtain ⟨x1, rfl, rfl, rfl, w1⟩ := open_int Tryd.underlying3 (hval 1 3 v1 rfl rfl) h1
  have b1 : -9223372036854775808 ≤ x1 ∧ x1 ≤ 9223372036854775807 := by simpa [Lit.wf, IntKind.min, IntKind.max, IntKind.signed, IntKind.bits] using w1
  obtain ⟨a2, rfl, rfl, rfl, w2⟩ := open_int Tryd.underlying35 (hval 2 35 v2 rfl rfl) h2
  have b2 : 0 ≤ a2 ∧ a2 ≤ 18446744073709551615 := by simpa [Lit.wf, IntKind.min, IntKind.max, IntKind.signed, IntKind.bits] using w2
  obtain ⟨x2, rfl⟩ := Int.eq_ofNat_of_zero_le b2.1
  simp only [List.append_nil] at hW' hA0
  refine (walk A0 c0 xs0 x1 x2 lc0 lm0 (nil_cap hf0) (by omega) W R0 (of_laid hL)).mono fun e W' ⟨he, hb⟩ => ?_
  subst he
  exact ⟨_, rfl, Fr.law_post (tb := 4) hW' hA0 rfl rfl rfl Tryd.underlying4 (by rw [Tryd.params4]; intro t ht; simp at ht; rcases ht with rfl | rfl | rfl; all_goals exact ⟨by kernel_rfl, of_decide_eq_true (by kernel_rfl)⟩) hb⟩

theorem row_holds : Rows.CodecPlacesSaid :=
  OpenClaim.holds_of_wide 4 Tryd.f4 rfl rfl rfl rfl rfl rfl rfl ⟨rfl, rfl, rfl, rfl, rfl⟩ rfl rfl rfl rfl rfl (by kernel_rfl) Tryd.func4 (by kernel_rfl)
    (of_decide_eq_true (by kernel_rfl)) (by unfold Func.isWrapper; first | (rw [if_pos (by decide +kernel)]; kernel_rfl) | (rw [if_neg (by decide +kernel)]; exact ⟨rfl, rfl⟩))
    (fun os started H enc _ => lifted os started H enc)

theorem proved : Rows.CodecPlacesCardSaid :=
  Claim7.holds_tied_plain_at .later [] [.data, .data, .data] true Rows.codecPlacesCard.stood.harness false
    row_holds (fun _ h => by cases h) (by kernel_rfl) (fun _ h => by cases h) codecPlaces_row_tie rfl ⟨rfl, rfl⟩ (by kernel_rfl) rfl
    (fun f fn hf hfn => by
      obtain rfl : f = 4 := Option.some.inj ((show Tryd.prog.funcNamed "abacist/abacistlaw04.CodecPlaces" = some 4 by kernel_rfl).symm.trans hf) |>.symm
      obtain rfl : fn = Tryd.f4 := (Option.some.inj (Tryd.func4.symm.trans hfn)).symm
      exact ⟨by kernel_rfl, fun j t ht => by
        rw [Tryd.params4] at ht
        have hm : t ∈ [23, 3, 35] := by simpa using Array.mem_of_getElem? ht
        have hall : ([23, 3, 35].all fun u => !Tryd.prog.wantsStandIn u) = true := by kernel_rfl
        exact (show Tryd.prog.wantsStandIn t = false by simpa using List.all_eq_true.1 hall t hm)⟩)
    (by kernel_rfl)
end Go.Proofs.YtggocbblpgaaoaaDoor.codecPlaces
