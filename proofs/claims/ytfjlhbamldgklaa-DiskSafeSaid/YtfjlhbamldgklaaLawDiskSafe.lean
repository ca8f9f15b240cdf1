/- DiskSafe: of every two lists of acts and every list of choices the law answers true, and changes nothing. -/
import Derived.Test.YtfjlhbamldgklaaFrame
import Derived.Test.YtfjlhbamldgklaaDiskW
import Derived.Deep.DeepCutAuto
import Derived.Deep.CutBlock
import Derived.BigQuiet
set_option linter.unusedVariables false
namespace Go.Proofs.Ytfjlhbamldgklaa.diskSafe
open Go.ChangeShapes Go.WideShapes Go.ChangeAt Go.RowKit
open Ww Dk Lib

theorem av_more {w : World} {B B' : Nat} {a : ActV} (h : Av w B a) (hB : B ≤ B') : Av w B' a := ⟨h.bs.more hB, kb_more h.ks hB, h.k, h.i, h.lK, h.lb⟩
theorem neq_str (t u : ByteArray) (W : World) : (binOp .neq 9 (.string t) (.string u)).run Try.prog W = .ok (.bool (!(t.toList == u.toList))) W := by simp [go_sem]
theorem nl_none {p : Nat → Bool} : ∀ n, (∀ i, i < n → p i = false) → (nl p n).length = 0
  | 0, _ => rfl
  | n + 1, h => by
    simp only [nl]
    rw [h n (by omega), List.length_append, nl_none n (fun i hi => h i (by omega))]
    rfl
theorem tx_new (w : World) : Tx (w.alloc (.cells #[.string ⟨#[]⟩, .string ⟨#[]⟩, .string ⟨#[]⟩, .string ⟨#[]⟩, .string ⟨#[]⟩, .string ⟨#[]⟩, .string ⟨#[]⟩, .string ⟨#[]⟩, .string ⟨#[]⟩, .string ⟨#[]⟩, .string ⟨#[]⟩, .string ⟨#[]⟩] 62)) w.heap.size (fun _ => ⟨#[]⟩) :=
  World.rowIs_alloc w _ _ _ (fun i hi => by
    have : i < 12 := hi
    match i, this with
    | 0, _ => rfl
    | 1, _ => rfl
    | 2, _ => rfl
    | 3, _ => rfl
    | 4, _ => rfl
    | 5, _ => rfl
    | 6, _ => rfl
    | 7, _ => rfl
    | 8, _ => rfl
    | 9, _ => rfl
    | 10, _ => rfl
    | 11, _ => rfl)
theorem start {w w4 : World} {L : Ly} {d : Dm} (D : Db w4 L 32 12 d 0) (B : Below w.heap.size w w4) (M : ∀ b, Mine L b → w.heap.size ≤ b) (hc : d.r ≤ 41 ∧ d.w ≤ 41 ∧ d.s ≤ 41) :
    Qs w L w4.heap.size (w4.heap.size + 1) ∧ Lp w ((w4.alloc (.cells #[.string ⟨#[]⟩, .string ⟨#[]⟩, .string ⟨#[]⟩, .string ⟨#[]⟩, .string ⟨#[]⟩, .string ⟨#[]⟩, .string ⟨#[]⟩, .string ⟨#[]⟩, .string ⟨#[]⟩, .string ⟨#[]⟩, .string ⟨#[]⟩, .string ⟨#[]⟩] 62)).alloc (.cells #[.string ⟨#[]⟩, .string ⟨#[]⟩, .string ⟨#[]⟩, .string ⟨#[]⟩, .string ⟨#[]⟩, .string ⟨#[]⟩, .string ⟨#[]⟩, .string ⟨#[]⟩, .string ⟨#[]⟩, .string ⟨#[]⟩, .string ⟨#[]⟩, .string ⟨#[]⟩] 62)) L w4.heap.size (w4.heap.size + 1) 0 41 (fun _ => ⟨#[]⟩) (fun _ => ⟨#[]⟩) d := by
  have e : (w4.alloc (.cells #[.string ⟨#[]⟩, .string ⟨#[]⟩, .string ⟨#[]⟩, .string ⟨#[]⟩, .string ⟨#[]⟩, .string ⟨#[]⟩, .string ⟨#[]⟩, .string ⟨#[]⟩, .string ⟨#[]⟩, .string ⟨#[]⟩, .string ⟨#[]⟩, .string ⟨#[]⟩] 62)).heap.size = w4.heap.size + 1 := by simp
  have b1 : Below w4.heap.size w4 (w4.alloc (.cells #[.string ⟨#[]⟩, .string ⟨#[]⟩, .string ⟨#[]⟩, .string ⟨#[]⟩, .string ⟨#[]⟩, .string ⟨#[]⟩, .string ⟨#[]⟩, .string ⟨#[]⟩, .string ⟨#[]⟩, .string ⟨#[]⟩, .string ⟨#[]⟩, .string ⟨#[]⟩] 62)) := (Below.refl _ _).alloc (Nat.le_refl _) _
  have b2 : Below (w4.alloc (.cells #[.string ⟨#[]⟩, .string ⟨#[]⟩, .string ⟨#[]⟩, .string ⟨#[]⟩, .string ⟨#[]⟩, .string ⟨#[]⟩, .string ⟨#[]⟩, .string ⟨#[]⟩, .string ⟨#[]⟩, .string ⟨#[]⟩, .string ⟨#[]⟩, .string ⟨#[]⟩] 62)).heap.size (w4.alloc (.cells #[.string ⟨#[]⟩, .string ⟨#[]⟩, .string ⟨#[]⟩, .string ⟨#[]⟩, .string ⟨#[]⟩, .string ⟨#[]⟩, .string ⟨#[]⟩, .string ⟨#[]⟩, .string ⟨#[]⟩, .string ⟨#[]⟩, .string ⟨#[]⟩, .string ⟨#[]⟩] 62)) ((w4.alloc (.cells #[.string ⟨#[]⟩, .string ⟨#[]⟩, .string ⟨#[]⟩, .string ⟨#[]⟩, .string ⟨#[]⟩, .string ⟨#[]⟩, .string ⟨#[]⟩, .string ⟨#[]⟩, .string ⟨#[]⟩, .string ⟨#[]⟩, .string ⟨#[]⟩, .string ⟨#[]⟩] 62)).alloc (.cells #[.string ⟨#[]⟩, .string ⟨#[]⟩, .string ⟨#[]⟩, .string ⟨#[]⟩, .string ⟨#[]⟩, .string ⟨#[]⟩, .string ⟨#[]⟩, .string ⟨#[]⟩, .string ⟨#[]⟩, .string ⟨#[]⟩, .string ⟨#[]⟩, .string ⟨#[]⟩] 62)) := (Below.refl _ _).alloc (Nat.le_refl _) _
  have b3 := b1.trans (b2.mono b1.size)
  have t2 := tx_new (w4.alloc (.cells #[.string ⟨#[]⟩, .string ⟨#[]⟩, .string ⟨#[]⟩, .string ⟨#[]⟩, .string ⟨#[]⟩, .string ⟨#[]⟩, .string ⟨#[]⟩, .string ⟨#[]⟩, .string ⟨#[]⟩, .string ⟨#[]⟩, .string ⟨#[]⟩, .string ⟨#[]⟩] 62))
  rw [e] at t2
  refine ⟨⟨M, fun h => ?_, fun h => ?_, B.size, Nat.le_succ_of_le B.size, by omega⟩, ⟨D.below b3, hc, B.trans (b3.mono B.size), (tx_new w4).below b2, t2⟩⟩
  · have := D.lt h; omega
  · have := D.lt h; omega
set_option maxHeartbeats 4000000 in
set_option maxRecDepth 100000 in
theorem walk (A1 : Option Addr) (c1 n1 : Nat) (fa1 : Nat → ActV) (A2 : Option Addr) (c2 n2 : Nat) (fa2 : Nat → ActV) (A3 : Option Addr) (c3 K : Nat) (ks : Nat → Bool) (w : World) (R1 : As w w.heap.size A1 n1 fa1) (R2 : As w w.heap.size A2 n2 fa2) (R3 : Kb w w.heap.size A3 K ks) :
    Calls Try.prog 5 #[.slice A1 n1 c1, .slice A2 n2 c2, .slice A3 K c3] w fun e w' => e = .returned (.bool true) ∧ Below w.heap.size w w' := by
  have AW := Lib.hid (awake w)
  by_cases hF1 : Few n1 fa1
  case neg =>
    have FW1 := Lib.hid (fun w1 (b1 : Below w.heap.size w w1) => few w.heap.size A1 c1 n1 fa1 false (by simp [hF1]) w1 (R1.below b1))
    clear hF1 R1 R2 R3
    go_enter Try.func5, Try.ntmps5
    go_upto_region 3 with (go_at_call 6; refine AW.out.mono ?_; rintro e w1 ⟨rfl, b1⟩)
    have E := Lib.hid b1
    have F1 := Lib.hid (FW1.out w1 b1)
    clear FW1
    clear AW b1
    go_wp2_with (go_at_call 7; (with_reducible refine F1.out.mono ?_); rintro e w2 ⟨rfl, rfl⟩)
    exact bodyPost_ret (v := .bool true) (by simp [results, Try.results5, go_sem]) rfl ⟨rfl, E.out⟩
  by_cases hF2 : Few n2 fa2
  case neg =>
    have FW1 := Lib.hid (fun w1 (b1 : Below w.heap.size w w1) => few w.heap.size A1 c1 n1 fa1 true (by simp [hF1]) w1 (R1.below b1))
    have FW2 := Lib.hid (fun w1 (b1 : Below w.heap.size w w1) => few w.heap.size A2 c2 n2 fa2 false (by simp [hF2]) w1 (R2.below b1))
    clear hF1 hF2 R1 R2 R3
    go_enter Try.func5, Try.ntmps5
    go_upto_region 3 with (go_at_call 6; refine AW.out.mono ?_; rintro e w1 ⟨rfl, b1⟩)
    have E := Lib.hid b1
    have F1 := Lib.hid (FW1.out w1 b1)
    have F2 := Lib.hid (FW2.out w1 b1)
    clear FW1 FW2
    clear AW b1
    go_wp2_with (first | (go_at_call 7; (with_reducible refine F1.out.mono ?_); rintro e w2 ⟨rfl, rfl⟩) | (go_at_call 7; (with_reducible refine F2.out.mono ?_); rintro e w2 ⟨rfl, rfl⟩))
    exact bodyPost_ret (v := .bool true) (by simp [results, Try.results5, go_sem]) rfl ⟨rfl, E.out⟩
  by_cases hK : K ≤ 40
  case neg =>
    have FW1 := Lib.hid (fun w1 (b1 : Below w.heap.size w w1) => few w.heap.size A1 c1 n1 fa1 true (by simp [hF1]) w1 (R1.below b1))
    have FW2 := Lib.hid (fun w1 (b1 : Below w.heap.size w w1) => few w.heap.size A2 c2 n2 fa2 true (by simp [hF2]) w1 (R2.below b1))
    clear hF1 hF2 R1 R2 R3
    have hK2 : 40 < (K : Int) := by omega
    go_enter Try.func5, Try.ntmps5
    go_upto_region 3 with (go_at_call 6; refine AW.out.mono ?_; rintro e w1 ⟨rfl, b1⟩)
    have E := Lib.hid b1
    have F1 := Lib.hid (FW1.out w1 b1)
    have F2 := Lib.hid (FW2.out w1 b1)
    clear FW1 FW2
    clear AW b1
    go_wp2_with (first | (go_at_call 7; (with_reducible refine F1.out.mono ?_); rintro e w2 ⟨rfl, rfl⟩) | (go_at_call 7; (with_reducible refine F2.out.mono ?_); rintro e w2 ⟨rfl, rfl⟩))
    exact bodyPost_ret (v := .bool true) (by simp [results, Try.results5, go_sem]) rfl ⟨rfl, E.out⟩
  have FW1 := Lib.hid (fun w1 (b1 : Below w.heap.size w w1) => few w.heap.size A1 c1 n1 fa1 true (by simp [hF1]) w1 (R1.below b1))
  have FW2 := Lib.hid (fun w1 (b1 : Below w.heap.size w w1) => few w.heap.size A2 c2 n2 fa2 true (by simp [hF2]) w1 (R2.below b1))
  have n40 : n1 ≤ 40 ∧ n2 ≤ 40 := ⟨hF1.1, hF2.1⟩
  have hK2 : ¬ (40 : Int) < (K : Int) := by omega
  have RA1 := Lib.hid R1
  have RA2 := Lib.hid R2
  have RK := Lib.hid R3
  clear hF1 hF2 R1 R2 R3
  go_enter Try.func5, Try.ntmps5
  go_upto_region 3 with (go_at_call 6; refine AW.out.mono ?_; rintro e w1 ⟨rfl, b1⟩)
  have F1 := Lib.hid (FW1.out w1 b1)
  have F2 := Lib.hid (FW2.out w1 b1)
  have B1 := Lib.hid b1
  have NW := Lib.hid (new_ok 12 32 (by omega) (by omega) rfl w1)
  have en := fun (a : Addr) (W : World) => (show (binOp .eql 25 (.pointer (some a)) (.pointer none)).run Try.prog W = .ok (.bool false) W from by kernel_rfl)
  clear AW b1 FW1 FW2
  go_upto_region 5 with (first | (go_at_call 7; (with_reducible refine F1.out.mono ?_); rintro e w2 ⟨rfl, rfl⟩) | (go_at_call 7; (with_reducible refine F2.out.mono ?_); rintro e w2 ⟨rfl, rfl⟩))
  clear F1 F2
  go_upto_region 6 with (go_at_call 8; refine NW.out.mono ?_; rintro e w2 ⟨L, rfl, D2, M2, b2⟩)
  have X0 := Lib.hid (show Db w2 L 32 12 (dm0 32) 0 ∧ Below w.heap.size w w2 from ⟨D2, B1.out.trans (b2.mono B1.out.size)⟩)
  have M := Lib.hid (show ∀ b, Mine L b → w.heap.size ≤ b from fun b hb => Nat.le_trans B1.out.size (M2 b hb))
  clear NW b2 D2 M2 B1
  go_upto_block 0 with fail
  go_cut [] (fun wx => ∃ (d : Dm) (k : Nat), Db wx L 32 12 d k ∧ k ≤ 40 ∧ (d.r ≤ 40 ∧ d.w ≤ 40 ∧ d.s ≤ 40) ∧ Below w.heap.size w wx)
  case first =>
    go_wp2_with fail
    go_loopw [8] (fun v8 wr => ∃ (j : Nat) (d : Dm), v8 = .int .i64 (j : Int) ∧ j ≤ n1 ∧ Db wr L 32 12 d j ∧ (d.r ≤ j ∧ d.w ≤ j ∧ d.s ≤ j) ∧ Below w.heap.size w wr) (fun v8 _ => n1 - (Lib.intOf v8).toNat)
    case atStart => exact ⟨0, _, rfl, Nat.zero_le _, X0.out.1, ⟨Nat.le_refl _, Nat.le_refl _, Nat.le_refl _⟩, X0.out.2⟩
    case round =>
      clear X0
      obtain ⟨j, d, rfl, hj, XD, XC, XB⟩ := hrel
      by_cases hlt : j < n1
      · have i1 : (j : Int) < n1 := by omega
        have RAr := RA1.out.below XB
        have hAv := RA1.out.av j hlt
        obtain ⟨ba, off, eA, hba, a0, a1, a2, a3⟩ := RAr.at_ j hlt
        generalize fa1 j = a at hAv a0 a1 a2 a3
        have RC := run_stp XD a (av_more (hAv.below XB) XB.size) (by omega) (by omega) (by omega) (by omega)
        have C1 := stp_counts 32 12 d a j XC
        obtain ⟨sp, hsp⟩ : ∃ sp, sp = stp 32 12 d a := ⟨_, rfl⟩
        rw [← hsp] at RC C1
        clear hsp
        obtain ⟨d1, e1, t1⟩ := sp
        subst eA
        have WB := Lib.hid (fun (u1 : World) (F : Fr (Mine L) wr u1) => XB.trans (F.below M.out XB.size))
        replace RC := Lib.hid RC
        replace C1 := Lib.hid C1
        clear XD XC XB RAr hAv hba
        obtain ⟨kd, ai, bs, K', ks', Aa, cA, A2', cK⟩ := a
        simp only [ActV.val] at RC a0 a1 a2 a3
        generalize bs.length = bl at *
        go_wp2_with (go_at_call 12; refine RC.out.mono ?_; rintro e u1 ⟨rfl, D1, F⟩)
        go_roundw
        case rel => exact ⟨j + 1, d1, rfl, by omega, D1, C1.out, WB.out u1 F⟩
        case measure => simp [Lib.intOf]; omega
      · have i1 : ¬ (j : Int) < n1 := by omega
        have E := Lib.hid (show ∃ (d : Dm) (k : Nat), Db wr L 32 12 d k ∧ k ≤ 40 ∧ (d.r ≤ 40 ∧ d.w ≤ 40 ∧ d.s ≤ 40) ∧ Below w.heap.size w wr from ⟨d, j, XD, by omega, ⟨by omega, by omega, by omega⟩, XB⟩)
        clear XD XC XB
        go_wp2
        go_meet
        exact E.out
  case rest =>
    obtain ⟨d, k, D, hk, hc, hb⟩ := hcut
    have FC := Lib.hid (fuse D 0 0 (by omega) rfl)
    replace hb := Lib.hid hb
    clear D X0 RA1
    go_upto_region 13 with (go_at_call 18; refine FC.out.mono ?_; rintro e w3 ⟨rfl, D3, F3⟩)
    have DC := Lib.hid (down D3)
    clear FC
    go_upto_if 58 with (go_at_call 15; refine DC.out.mono ?_; rintro e w4 ⟨rfl, rfl⟩)
    clear DC
    go_cut [] (fun wx => ∃ (d : Dm) (k : Nat), Db wx L 32 12 d k ∧ k ≤ 40 ∧ (d.r ≤ 40 ∧ d.w ≤ 40 ∧ d.s ≤ 40) ∧ d.down = false ∧ d.fuse = 0 ∧ Below w.heap.size w wx)
    case first =>
      have hW : Below w.heap.size w w3 := hb.out.trans (F3.below M.out hb.out.size)
      obtain ⟨f, dn, fu, r, ww, s⟩ := d
      cases dn with
      | true =>
        have BC := Lib.hid (boot_ok D3 rfl (by omega) none 0 0 (fun _ => false) (Kb.nil_ _ _ _ _) (by omega))
        clear D3
        go_wp2_with (go_at_call 19; refine BC.out.mono ?_; rintro e w5 ⟨rfl, D5, F5⟩)
        go_meet
        exact ⟨_, _, D5, by omega, hc, rfl, rfl, hW.trans (F5.below M.out hW.size)⟩
      | false =>
        go_wp2_with fail
        go_meet
        exact ⟨_, _, D3, hk, hc, rfl, rfl, hW⟩
    case rest =>
      clear D3 F3 hb hc hk
      clear d k
      obtain ⟨d, k, D, hk, hc, hd, hf, hW⟩ := hcut
      have SC := Lib.hid (sync_ok D (adm_ok hd (by omega)) (by omega))
      replace hW := Lib.hid hW
      replace M := Lib.hid M.out
      clear D
      go_upto_region 17 with (go_at_call 20; refine SC.out.mono ?_; rintro e w4 ⟨rfl, D4, F4⟩)
      have Y4 := Lib.hid (show Db w4 L 32 12 ⟨fun i => synced (d.f i), d.down, d.fuse - 1, d.r, d.w, d.s + 1⟩ 0 ∧ Below w.heap.size w w4 from ⟨D4, hW.out.trans (F4.below M.out hW.out.size)⟩)
      clear SC D4 F4 hW
      go_upto_block 2 with fail
      have Z := start Y4.out.1 Y4.out.2 M.out (show d.r ≤ 41 ∧ d.w ≤ 41 ∧ d.s + 1 ≤ 41 by omega)
      have hg : ∃ (d' : Dm), d'.down = false ∧ d'.fuse = 0 ∧ (∀ i, i < 12 → (d'.f i).safe = (d'.f i).now) ∧ d' = ⟨fun i => synced (d.f i), d.down, d.fuse - 1, d.r, d.w, d.s + 1⟩ := ⟨⟨fun i => synced (d.f i), d.down, d.fuse - 1, d.r, d.w, d.s + 1⟩, hd, by show d.fuse - 1 = 0; omega, fun i _ => rfl, rfl⟩
      obtain ⟨d', hd', hf', hs', e'⟩ := hg
      rw [← e'] at Z
      clear Y4 e' hd hf hc hk M
      clear d k
      generalize (w4.alloc (.cells #[.string ⟨#[]⟩, .string ⟨#[]⟩, .string ⟨#[]⟩, .string ⟨#[]⟩, .string ⟨#[]⟩, .string ⟨#[]⟩, .string ⟨#[]⟩, .string ⟨#[]⟩, .string ⟨#[]⟩, .string ⟨#[]⟩, .string ⟨#[]⟩, .string ⟨#[]⟩] 62)).alloc (.cells #[.string ⟨#[]⟩, .string ⟨#[]⟩, .string ⟨#[]⟩, .string ⟨#[]⟩, .string ⟨#[]⟩, .string ⟨#[]⟩, .string ⟨#[]⟩, .string ⟨#[]⟩, .string ⟨#[]⟩, .string ⟨#[]⟩, .string ⟨#[]⟩, .string ⟨#[]⟩] 62) = w5 at Z ⊢
      generalize w4.heap.size + 1 = q' at Z ⊢
      generalize w4.heap.size = q at Z ⊢
      obtain ⟨Q, X⟩ := Z
      replace Q := Lib.hid Q
      replace X := Lib.hid X
      obtain ⟨g, hg⟩ : ∃ g, g = d'.f := ⟨_, rfl⟩
      have Y := Lib.hid (And.intro hd' (And.intro hf' hs'))
      have hs0 := hs'
      rw [← hg] at hs0
      replace hs0 := Lib.hid hs0
      replace hg := Lib.hid hg.symm
      clear hd' hf' hs'
      go_cut [] (fun wx => ∃ (d : Dm) (S : Nat → ByteArray), Lp w wx L q q' 0 60 S S d ∧ d.down = false ∧ d.fuse = 0 ∧ ∀ i, i < 12 → (d.f i).safe = S i ∧ (d.f i).now = S i)
      case first =>
        go_wp2_with fail
        go_loopw [11] (fun v11 wr => ∃ (j : Nat) (d : Dm), v11 = .int .i64 (j : Int) ∧ j ≤ 12 ∧ Lp w wr L q q' 0 (41 + j) (arr g j) (arr g j) d ∧ d.f = g ∧ d.down = false ∧ d.fuse = 0) (fun v11 _ => 12 - (Lib.intOf v11).toNat)
        case atStart => exact ⟨0, d', rfl, Nat.zero_le _, X.out, hg.out, Y.out.1, Y.out.2.1⟩
        case round =>
          clear X Y hg
          obtain ⟨j, d, rfl, hj, X, hf, hd, hu⟩ := hrel
          by_cases hlt : j < 12
          · have i1 : (j : Int) < 12 := by omega
            have RC := read_ok X.db j hlt (adm_ok hd (by omega)) (by have := X.ct; omega)
            rw [hf] at RC
            have XG := Lib.hid (fun (w' : World) D F => X.go (w' := w') (d' := ⟨d.f, d.down, d.fuse - 1, d.r + 1, d.w, d.s⟩) (k' := 0) (b' := 41 + j + 1) Q.out D F (by have := X.ct; show d.r + 1 ≤ 41 + j + 1 ∧ d.w ≤ 41 + j + 1 ∧ d.s ≤ 41 + j + 1; omega))
            replace RC := Lib.hid RC
            have hE := Lib.hid (And.intro hf (And.intro hd hu))
            clear X hf hd hu
            go_upto_region 24 with (go_at_call 21; refine RC.out.mono ?_; rintro e w3 ⟨gb, bs, rfl, Rb, hl, ht, D3, F3⟩)
            have X3 := XG.out w3 (by rw [hE.out.1]; exact D3) F3
            have cv0 := conv_bytes Rb 32
            have cv1 := conv_bytes (bs_aside Rb X3.a j (.string (g j).now)) 32
            rw [hl, ← ht] at cv0 cv1
            have f0 := X3.a.frozen j
            have f1 := X3.b.frozen j
            have c0 := X3.a.cell hlt
            have c1 := X3.b.cell hlt
            have qne := Q.out.ne
            have X4 := Lib.hid ((X3.putA Q.out j (g j).now (S' := arr g (j + 1)) fun i _ => arr_step g j i).putB Q.out j (g j).now (T' := arr g (j + 1)) fun i _ => arr_step g j i)
            clear X3 XG RC D3 F3 Rb hl ht
            go_wp2_with fail
            go_roundw
            case rel => exact ⟨j + 1, _, rfl, by omega, X4.out, hE.out.1, hE.out.2.1, by have := hE.out.2.2; show d.fuse - 1 = 0; omega⟩
            case measure => simp [Lib.intOf]; omega
          · have i1 : ¬ (j : Int) < 12 := by omega
            obtain rfl : j = 12 := by omega
            have E := Lib.hid (show ∃ (d : Dm) (S : Nat → ByteArray), Lp w wr L q q' 0 60 S S d ∧ d.down = false ∧ d.fuse = 0 ∧ ∀ i, i < 12 → (d.f i).safe = S i ∧ (d.f i).now = S i from
              ⟨d, arr g 12, ⟨X.db, by have := X.ct; omega, X.bl, X.a, X.b⟩, hd, hu, fun i hi => by
                have e : arr g 12 i = (g i).now := if_pos hi
                rw [e, hf]
                exact ⟨hs0.out i hi, rfl⟩⟩)
            clear X hf hd hu
            go_wp2_with fail
            go_meet
            exact E.out
      case rest =>
        clear X Y hg hs0
        clear g d'
        obtain ⟨d0, S, X0, hd0, hf0, hs0⟩ := hcut
        have Y0 := Lib.hid (And.intro X0 (And.intro hd0 (And.intro hf0 hs0)))
        clear X0 hd0 hf0 hs0
        go_upto_block 4 with fail
        go_cut [] (fun wx => ∃ (d : Dm) (T : Nat → ByteArray) (k : Nat), Lp w wx L q q' k 100 S T d ∧ k ≤ 40 ∧ ∀ i, i < 12 → (d.f i).safe = S i ∧ (d.f i).now = T i)
        case first =>
          go_wp2_with fail
          go_loopw [14] (fun v14 wr => ∃ (j : Nat) (d : Dm) (T : Nat → ByteArray), v14 = .int .i64 (j : Int) ∧ j ≤ n2 ∧ Lp w wr L q q' j (60 + j) S T d ∧ d.down = false ∧ d.fuse = 0 ∧ ∀ i, i < 12 → (d.f i).safe = S i ∧ (d.f i).now = T i) (fun v14 _ => n2 - (Lib.intOf v14).toNat)
          case atStart => exact ⟨0, d0, S, rfl, Nat.zero_le _, Y0.out.1, Y0.out.2.1, Y0.out.2.2.1, Y0.out.2.2.2⟩
          case round =>
            clear Y0
            clear d0
            obtain ⟨j, d, T, rfl, hj, X, hd, hu, hs⟩ := hrel
            by_cases hlt : j < n2
            · have i1 : (j : Int) < n2 := by omega
              have RAr := RA2.out.below X.bl
              have hAv := RA2.out.av j hlt
              obtain ⟨ba, off, eA, hba, a0, a1, a2, a3⟩ := RAr.at_ j hlt
              have sq := X.bl.size
              have av0 := av_more (hAv.below X.bl) sq
              have hi64 := hAv.i
              generalize fa2 j = a at hAv a0 a1 a2 a3 av0 hi64
              subst eA
              obtain ⟨kd, ai, bs, K', ks', Aa, cA, A2', cK⟩ := a
              simp only at a0 a1 a2 a3 hi64
              replace av0 := Lib.hid av0
              replace X := Lib.hid X
              replace hs := Lib.hid (And.intro hd (And.intro hu hs))
              clear hAv RAr hd hu
              by_cases h2 : 2 < kd
              · clear av0
                go_wp2_with fail
                go_roundw
                case rel =>
                  have Xn := X.out.below ((Below.refl _ _).alloc (Nat.le_refl _) (.cells #[.int .i64 kd, .int .i64 ai, .slice Aa bs.length cA, .slice A2' K' cK] 49))
                  exact ⟨j + 1, d, T, rfl, by omega, ⟨Xn.db.mono (by omega), by have := Xn.ct; omega, Xn.bl, Xn.a, Xn.b⟩, hs.out⟩
                case measure => simp [Lib.intOf]; omega
              · go_upto_block 5 with fail
                go_cut [] (fun wx => ∃ (d' : Dm) (T' : Nat → ByteArray), Lp w wx L q q' (j + 1) (60 + (j + 1)) S T' d' ∧ d'.down = false ∧ d'.fuse = 0 ∧ ∀ i, i < 12 → (d'.f i).safe = S i ∧ (d'.f i).now = T' i)
                case first =>
                  go_upto_region 31 with fail
                  have HB : Below wr.heap.size wr (wr.alloc (.cells #[.int .i64 kd, .int .i64 ai, .slice Aa bs.length cA, .slice A2' K' cK] 49)) := (Below.refl _ _).alloc (Nat.le_refl _) _
                  have XW := X.out.below HB
                  have RC := run_stp XW.db ⟨kd, ai, bs, K', ks', Aa, cA, A2', cK⟩ (av_more (av0.out.below HB) HB.size) (by omega) (by have := XW.ct; omega) (by have := XW.ct; omega) (by have := XW.ct; omega)
                  have C1 := stp_counts 32 12 d ⟨kd, ai, bs, K', ks', Aa, cA, A2', cK⟩ (60 + j) XW.ct
                  have SM := stp_more d ⟨kd, ai, bs, K', ks', Aa, cA, A2', cK⟩ hs.out.1 hs.out.2.1 (show kd ≤ 2 by omega)
                  obtain ⟨sp, hsp⟩ : ∃ sp, sp = stp 32 12 d ⟨kd, ai, bs, K', ks', Aa, cA, A2', cK⟩ := ⟨_, rfl⟩
                  rw [← hsp] at RC C1 SM
                  clear hsp
                  obtain ⟨d1, e1, t1⟩ := sp
                  have SM1 : d1.down = false ∧ d1.fuse = 0 ∧ ((d1.f = d.f ∧ (e1 ≠ 0 ∨ e1 = 0 ∧ (kd = 2 ∨ kd < 0))) ∨ (e1 = 0 ∧ 0 ≤ kd ∧ kd ≤ 1 ∧ ∃ i : Nat, ai = (i : Int) ∧ i < 12 ∧ d1.f = put d.f i (wrote (d.f i) ⟨(lb bs 32).toArray⟩))) := SM
                  have hn : ¬ Mine L wr.heap.size := fun h => Nat.lt_irrefl _ (X.out.db.lt h)
                  have XG := Lib.hid (fun (u1 : World) (D1 : Db u1 L 32 12 d1 (j + 1)) (F : Fr (Mine L) (wr.alloc (.cells #[.int .i64 kd, .int .i64 ai, .slice Aa bs.length cA, .slice A2' K' cK] 49)) u1) => (show Lp w u1 L q q' (j + 1) (60 + (j + 1)) S T d1 ∧ u1.heap[wr.heap.size]? = some (.cells #[.int .i64 kd, .int .i64 ai, .slice Aa bs.length cA, .slice A2' K' cK] 49) ∧ Bs u1 u1.heap.size Aa bs from
                    ⟨XW.go Q.out D1 F C1, F.at_ (heap_alloc_new wr (.cells #[.int .i64 kd, .int .i64 ai, .slice Aa bs.length cA, .slice A2' K' cK] 49)) hn, bs_fr ((av_more (av0.out.below HB) HB.size).bs) F XW.db.nobytes⟩))
                  simp only [ActV.val] at RC
                  replace RC := Lib.hid RC
                  clear SM C1 XW HB hn av0
                  clear X
                  go_upto_region 32 with (go_at_call 12; refine RC.out.mono ?_; rintro e u1 ⟨rfl, D1, F⟩)
                  obtain ⟨X1, hp1, b1⟩ := XG.out u1 D1 F
                  clear XG RC D1 F
                  obtain ⟨hd1, hu1, SM1⟩ := SM1
                  have k0 : u1.cell? ⟨wr.heap.size, 0, none⟩ = some (.int .i64 kd) := blk_cell hp1 0
                  have k1 : u1.cell? ⟨wr.heap.size, 1, none⟩ = some (.int .i64 ai) := blk_cell hp1 1
                  have k2 : u1.cell? ⟨wr.heap.size, 2, none⟩ = some (.slice Aa bs.length cA) := blk_cell hp1 2
                  have k3 : u1.cell? ⟨wr.heap.size, 3, none⟩ = some (.slice A2' K' cK) := blk_cell hp1 3
                  rcases SM1 with ⟨hf1, he⟩ | ⟨he, kd0, kd1, i, hi, hi12, hf1⟩
                  · have E := Lib.hid (show ∃ (d' : Dm) (T' : Nat → ByteArray), Lp w u1 L q q' (j + 1) (60 + (j + 1)) S T' d' ∧ d'.down = false ∧ d'.fuse = 0 ∧ ∀ i, i < 12 → (d'.f i).safe = S i ∧ (d'.f i).now = T' i from ⟨d1, T, X1, hd1, hu1, by rw [hf1]; exact hs.out.2.2⟩)
                    clear X1 hd1 hu1 hf1 hs hp1 b1
                    rcases he with he | ⟨he, hk⟩
                    · have e0 : ¬ (e1 : Int) = 0 := by omega
                      clear he
                      go_wp2_with fail
                      go_meet
                      exact E.out
                    · subst he
                      rcases hk with hk | hk
                      · have g1 : ¬ kd ≤ 1 := by omega
                        clear hk
                        go_wp2_with fail
                        go_meet
                        exact E.out
                      · have g1 : kd ≤ 1 := by omega
                        have g2 : ¬ 0 ≤ kd := by omega
                        go_wp2_with fail
                        go_meet
                        exact E.out
                  · subst he hi
                    have i1 : (i : Int) < 12 := by omega
                    have i0 : (0 : Int) ≤ (i : Int) := by omega
                    have LA := Lib.hid (fun (W : World) (d : Below u1.heap.size u1 W) => (show Calls Try.prog 22 #[.slice Aa bs.length cA, .int .i64 32] W (fun e w' => ∃ g, e = .returned (.slice (some ⟨g, 0, none⟩) 32 32) ∧ Bs w' w'.heap.size (some ⟨g, 0, none⟩) (lb bs 32) ∧ Below W.heap.size W w') from laid_ Aa cA 32 bs W (b1.step d) (by omega)))
                    have CV := Lib.hid (fun (W : World) (A' : Option Addr) (L : Bs W W.heap.size A' (lb bs 32)) => show (convert 47 9 (.slice A' 32 32)).run Try.prog W = .ok (.string ⟨(lb bs 32).toArray⟩) W from by have := conv_bytes L 32; rw [lb_len] at this; exact this)
                    have CE := Lib.hid (fun (W : World) (d : Below u1.heap.size u1 W) => (show W.cell? ⟨wr.heap.size, 1, none⟩ = some (.int .i64 (i : Nat)) ∧ W.cell? ⟨q', i, none⟩ = some (.string (T i)) ∧ W.frozen? ⟨q', i, none⟩ = false from
                      ⟨blk_cell ((d.block _ (Array.getElem?_eq_some_iff.1 hp1).1).trans hp1) 1, (X1.b.below d).cell hi12, (X1.b.below d).frozen i⟩))
                    have E := Lib.hid (fun (W : World) (d : Below u1.heap.size u1 W) => (X1.below d).putB Q.out i ⟨(lb bs 32).toArray⟩ (T' := fun x => if x = i then ⟨(lb bs 32).toArray⟩ else T x) fun x _ => rfl)
                    have Z := Lib.hid (show d1.down = false ∧ d1.fuse = 0 ∧ ∀ x, x < 12 → (d1.f x).safe = S x ∧ (d1.f x).now = if x = i then ⟨(lb bs 32).toArray⟩ else T x from ⟨hd1, hu1, fun x hx => by
                      have hsx := hs.out.2.2 x hx
                      rw [hf1]
                      by_cases e : x = i
                      · subst e; rw [put_same, if_pos rfl]; exact ⟨hsx.1, rfl⟩
                      · rw [put_other _ _ _ e, if_neg e]; exact hsx⟩)
                    have n1 := X1.b.cell hi12
                    have n2_ := X1.b.frozen i
                    clear X1 hd1 hu1 hf1 hs hp1 b1 k3
                    generalize (lb bs 32).toArray = tx at *
                    go_upto_region 33 with fail
                    go_region_with (first
                      | (go_at_call 22; (with_reducible refine (LA.out _ (by first | exact Below.refl _ _ | exact (Below.refl _ _).drew)).mono ?_); rintro e w4 ⟨g4, rfl, L4, d4⟩; (replace d4 : Below u1.heap.size u1 w4 := ⟨d4.os, d4.tape, d4.output, d4.size, d4.block⟩); have cv : (convert 47 9 (.slice (some ⟨g4, 0, none⟩) 32 32)).run Try.prog w4 = .ok (.string ⟨tx⟩) w4 := CV.out _ _ L4; obtain ⟨m0, m1, m2⟩ := CE.out w4 d4))
                    all_goals (go_wp2_with fail; go_meet)
                    all_goals exact ⟨d1, _, E.out w4 d4, Z.out⟩
                case rest =>
                  clear X hs
                  obtain ⟨d', T', X', hd', hu', hs'⟩ := hcut
                  replace X' := Lib.hid X'
                  go_wp2_with fail
                  go_roundw
                  case rel => exact ⟨j + 1, d', T', rfl, by omega, X'.out, hd', hu', hs'⟩
                  case measure => simp [Lib.intOf]; omega
            · have i1 : ¬ (j : Int) < n2 := by omega
              have E := Lib.hid (show ∃ (d : Dm) (T : Nat → ByteArray) (k : Nat), Lp w wr L q q' k 100 S T d ∧ k ≤ 40 ∧ ∀ i, i < 12 → (d.f i).safe = S i ∧ (d.f i).now = T i from
                ⟨d, T, j, ⟨X.db, by have := X.ct; omega, X.bl, X.a, X.b⟩, by omega, hs⟩)
              clear X hs hd hu
              go_wp2_with fail
              go_meet
              exact E.out
        case rest =>
          clear Y0 RA2
          clear d0
          obtain ⟨d, T, k, X, hk, hs⟩ := hcut
          have CC := Lib.hid (crash X.db)
          go_upto_region 35 with (go_at_call 23; refine CC.out.mono ?_; rintro e w6 ⟨rfl, D6, F6⟩)
          have X6 := X.go (b' := 100) Q.out D6 F6 X.ct
          clear CC D6 F6
          have RK6 := RK.out.below X6.bl
          have BC := Lib.hid (boot_ok X6.db rfl (by omega) A3 K c3 ks (kb_more RK6 X6.bl.size) (by omega))
          go_upto_region 37 with (go_at_call 19; refine BC.out.mono ?_; rintro e w7 ⟨rfl, D7, F7⟩)
          have X7 := Lib.hid (X6.go (b' := 100) Q.out D7 F7 X.ct)
          clear BC D7 F7 RK6 X6
          have hs7 := Lib.hid (show ∀ i, i < 12 → ((booted (d.f i) (kept d.f K ks i)).now = S i ∨ (booted (d.f i) (kept d.f K ks i)).now = T i) ∧ (booted (d.f i) (kept d.f K ks i)).dirty = false from fun i hi => by
            have h := booted_now (d.f i) (kept d.f K ks i)
            rw [(hs i hi).1, (hs i hi).2] at h
            exact h)
          clear X hs hk RK
          obtain ⟨h, hh⟩ : ∃ h, h = fun i => booted (d.f i) (kept d.f K ks i) := ⟨_, rfl⟩
          have X8 := Lib.hid (show ∃ d8 : Dm, Lp w w7 L q q' 0 100 S T d8 ∧ d8.f = h ∧ d8.down = false ∧ d8.fuse = 0 from ⟨_, X7.out, hh.symm, rfl, rfl⟩)
          have hs8 := Lib.hid (show ∀ i, i < 12 → ((h i).now = S i ∨ (h i).now = T i) ∧ (h i).dirty = false from fun i hi => by rw [hh]; exact hs7.out i hi)
          clear X7 hs7 hh
          clear d k
          go_upto_block 6 with fail
          go_cut [] (fun wx => ∃ (d : Dm), Db wx L 32 12 d 0 ∧ d.f = h ∧ Below w.heap.size w wx)
          case first =>
            go_wp2_with fail
            go_loopw [18] (fun v18 wr => ∃ (j : Nat) (d : Dm), v18 = .int .i64 (j : Int) ∧ j ≤ 12 ∧ Lp w wr L q q' 0 (100 + j) S T d ∧ d.f = h ∧ d.down = false ∧ d.fuse = 0) (fun v18 _ => 12 - (Lib.intOf v18).toNat)
            case atStart =>
              obtain ⟨d8, X8, e8, n8, f8⟩ := X8.out
              exact ⟨0, d8, rfl, Nat.zero_le _, X8, e8, n8, f8⟩
            case round =>
              clear X8
              obtain ⟨j, d, rfl, hj, X, hf, hd, hu⟩ := hrel
              by_cases hlt : j < 12
              · have i1 : (j : Int) < 12 := by omega
                have RC := read_ok X.db j hlt (adm_ok hd (by omega)) (by have := X.ct; omega)
                rw [hf] at RC
                have XG := Lib.hid (fun (w' : World) D F => X.go (w' := w') (d' := ⟨d.f, d.down, d.fuse - 1, d.r + 1, d.w, d.s⟩) (k' := 0) (b' := 100 + j + 1) Q.out D F (by have := X.ct; show d.r + 1 ≤ 100 + j + 1 ∧ d.w ≤ 100 + j + 1 ∧ d.s ≤ 100 + j + 1; omega))
                replace RC := Lib.hid RC
                have hE := Lib.hid (And.intro hf (And.intro hd hu))
                have hst := (hs8.out j hlt).1
                clear X hf hd hu
                go_upto_region 41 with (go_at_call 21; refine RC.out.mono ?_; rintro e w3 ⟨gb, bs, rfl, Rb, hl, ht, D3, F3⟩)
                have X3 := XG.out w3 (by rw [hE.out.1]; exact D3) F3
                have cvn : ∀ n, (convert 47 9 (.slice (some ⟨gb, 0, none⟩) 32 32)).run Try.prog (w3.drewN n) = .ok (.string (h j).now) (w3.drewN n) := fun n => by
                  have := conv_bytes (Rb.drewN n) 32
                  rw [hl, ← ht] at this
                  exact this
                have c0 := X3.a.cell hlt
                have c1 := X3.b.cell hlt
                replace X3 := Lib.hid X3
                clear XG RC D3 F3 Rb hl ht
                generalize (h j).now = t at *
                go_cut [167] (fun v wx => v = .bool false ∧ Below w3.heap.size w3 wx)
                case first =>
                  cases hb : (t.toList == (S j).toList) with
                  | true =>
                    clear hst
                    go_quiet (fail)
                    go_wp2_with fail
                    go_meet
                    exact ⟨rfl, below_drewN (Below.refl _ _) nq⟩
                  | false =>
                    have ht : t = T j := by
                      rcases hst with e | e
                      · rw [e] at hb; simp at hb
                      · exact e
                    have hb2 : (t.toList == (T j).toList) = true := by rw [ht]; simp
                    clear hst ht
                    go_quiet (fail)
                    go_wp2_with fail
                    go_meet
                    exact ⟨rfl, below_drewN (Below.refl _ _) nq⟩
                case rest =>
                  obtain ⟨rfl, hcut⟩ := hcut
                  have X4 := Lib.hid (X3.out.below hcut)
                  go_wp2_with fail
                  go_roundw
                  case rel => exact ⟨j + 1, _, rfl, by omega, X4.out, hE.out.1, hE.out.2.1, by have := hE.out.2.2; show d.fuse - 1 = 0; omega⟩
                  case measure => simp [Lib.intOf]; omega
              · have i1 : ¬ (j : Int) < 12 := by omega
                have E := Lib.hid (show ∃ (d : Dm), Db wr L 32 12 d 0 ∧ d.f = h ∧ Below w.heap.size w wr from ⟨d, X.db, hf, X.bl⟩)
                clear X hf hd hu
                go_wp2_with fail
                go_meet
                exact E.out
          case rest =>
            clear X8
            obtain ⟨d, D, hf, hW⟩ := hcut
            have S4 := Lib.hid ((dirty D (by omega)).mono fun _ _ x => x.reads)
            have l0 := Lib.hid (nl_none (p := fun i => (d.f i).dirty) 12 fun i hi => by rw [hf]; exact (hs8.out i hi).2)
            obtain ⟨l, hl⟩ : ∃ l, l = nl (fun i => (d.f i).dirty) 12 := ⟨_, rfl⟩
            rw [← hl] at S4 l0
            replace hW := Lib.hid hW
            clear D hl hf hs8
            go_wp2_with (go_at_call 16; refine S4.out.mono ?_; rintro e w9 ⟨A, c, rfl, _, b9⟩; rw [l0.out])
            exact bodyPost_ret (v := .bool true) (by simp [results, Try.results5, go_sem]) rfl ⟨rfl, hW.out.trans (b9.mono hW.out.size)⟩

set_option maxRecDepth 100000 in
theorem lifted (os : Os) (started : os.Started) (H : Type) (enc : TypeId × Value → H) :
    ReturnsInHanded {} Try.checked os 5 .any (Rows.diskSafeSpec.pre6 enc Try.prog Try.f5 Rows.diskSafeRow.domain false) (Rows.diskSafeSpec.post enc Try.prog Try.f5 false true false false) := by
  refine returnsInHanded_of_change (C := Try.checked) Fr.own started (by kernel_rfl) Try.func5
    (ChangeSpec.witness6 (enc := enc) (C := Try.checked) false ⟨#[], #[.slice none 0 0, .slice none 0 0, .slice none 0 0], []⟩ 8 (by kernel_rfl) (by kernel_rfl) (by kernel_rfl) (by kernel_rfl)) ?_
  intro W base args ds gs before hval0 hW hcnd _
  have hval : ∀ (j : Nat) t v, Try.f5.params[j]? = some t → args[j]? = some v → Value.okWide Try.prog W .any base t v := hval0
  have hW' := hW
  obtain ⟨p, q, hA0, hV, rfl, hfz, hnd⟩ := hW
  have hA : DataW.TrodAll enc Try.prog W 0 (fun _ => true) true Try.f5.params.toList args.toList ds p := hA0
  obtain ⟨rfl, rfl⟩ := trodVars_none hV
  rw [Try.params5] at hA hval
  obtain ⟨v0, vs0, d0, ds0, p0, q0, hargs, rfl, rfl, h0, r0⟩ := trodAll_cons hA
  obtain ⟨v1, vs1, d1, ds1, p1, q1, rfl, rfl, rfl, h1, r1⟩ := trodAll_cons r0
  obtain ⟨v2, vs2, d2, ds2, p2, q2, rfl, rfl, rfl, h2, r2⟩ := trodAll_cons r1
  obtain ⟨rfl, rfl, rfl⟩ := trodAll_nil r2
  obtain rfl : args = #[v0, v1, v2] := by cases args; simp_all
  obtain ⟨A0, n0, c0, rfl⟩ := okWide_slice Try.underlying22 (hval 0 22 v0 rfl rfl)
  obtain ⟨fuel0, hf0⟩ := h0
  obtain ⟨fa0, lm0, R0⟩ := Dk.open_acts hf0
  obtain ⟨A1, n1, c1, rfl⟩ := okWide_slice Try.underlying22 (hval 1 22 v1 rfl rfl)
  obtain ⟨fuel1, hf1⟩ := h1
  obtain ⟨fa1, lm1, R1⟩ := Dk.open_acts hf1
  obtain ⟨A2, n2, c2, rfl⟩ := okWide_slice Try.underlying30 (hval 2 30 v2 rfl rfl)
  obtain ⟨fuel2, hf2⟩ := h2
  obtain ⟨ks2, lm2, R2⟩ := Dk.open_bools hf2
  simp only [List.append_nil] at hW' hA0
  refine (walk A0 c0 n0 fa0 A1 c1 n1 fa1 A2 c2 n2 ks2 W R0 R1 R2).mono fun e W' ⟨he, hb⟩ => ?_
  subst he
  exact ⟨_, rfl, Fr.law_post (tb := 4) hW' hA0 rfl rfl rfl Try.underlying4 (by rw [Try.params5]; intro t ht; simp at ht; rcases ht with rfl | rfl | rfl; all_goals exact ⟨by kernel_rfl, of_decide_eq_true (by kernel_rfl)⟩) hb⟩

theorem proved : Rows.DiskSafeSaid :=
  OpenClaim.holds_of_wide 5 Try.f5 rfl rfl rfl rfl rfl rfl rfl ⟨rfl, rfl, rfl, rfl, rfl⟩ rfl rfl rfl rfl rfl (by kernel_rfl) Try.func5 (by kernel_rfl)
    (of_decide_eq_true (by kernel_rfl)) (by unfold Func.isWrapper; first | (rw [if_pos (by decide +kernel)]; kernel_rfl) | (rw [if_neg (by decide +kernel)]; exact ⟨rfl, rfl⟩))
    (fun os started H enc _ => lifted os started H enc)
end Go.Proofs.Ytfjlhbamldgklaa.diskSafe
