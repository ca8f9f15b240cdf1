/- WideRows: of every row of wide numbers and every place the law of sums of rows answers true, and changes nothing. No condition. -/
import Derived.Test.YtopbhomodlpnmaaFrame
import Derived.Test.YtopbhomodlpnmaaAwake
import Derived.Test.YtopbhomodlpnmaaRowsA
import Derived.Deep.RegionHeld3
import Derived.Deep.DeepCutAuto
import Derived.Deep.LoopGhost
import Derived.Lib.QuietBelow
import Derived.Deep.SlicePairs
set_option linter.unusedVariables false
namespace Go.Proofs.Ytopbhomodlpnmaa.wideRows
open Go.ChangeShapes Go.WideShapes Go.ChangeAt Go.RowKit
open Nm Rf
open Go.Sort (grow)

theorem infoW : (Try.prog.info? 25).map (fun i => (i.zero, i.size, i.bytes)) = some (some (.agg #[.int .u64 0, .int .u64 0]), 2, 16) := by kernel_rfl

set_option maxHeartbeats 1000000 in
theorem walk_long (A : Option Addr) (n cap x : Nat) (hn : 20 < n) (w : World) :
    Calls Try.prog 8 #[.slice A n cap, .int .u8 x] w fun e w' => e = .returned (.bool true) ∧ Below w.heap.size w w' := by
  have n1 : (20 : Int) < n := by omega
  go_enter Try.func8, Try.ntmps8
  go_wp2_with fail
  refine (Wd.awake _).mono ?_
  rintro e w0 ⟨rfl, hb0⟩
  go_wp2
  go_ret
  exact ⟨rfl, hb0⟩

theorem nonil (g : Nat) : ∀ x, x ∈ ([] : List (Nat × Nat × Nat)) → x.1 ≠ g := fun x hx => (List.not_mem_nil hx).elim
theorem row_rest {w : World} {B b off : Nat} {xs : List Nat} (h : Wd.Row w B (some ⟨b, off, none⟩) xs) (m cap : Nat) (hc : xs.length ≤ cap) : Wd.Row w B (if cap = m then some ⟨b, off, none⟩ else some ⟨b, off + m * 2, none⟩) (xs.drop m) := by
  split
  · exact Wd.Row.none_ _ _ _ _ (List.drop_of_length_le (by omega))
  · exact h.drop m

set_option maxHeartbeats 1000000 in
set_option maxRecDepth 100000 in
theorem walk_some (b off cap x : Nat) (xs : List Nat) (hn : xs.length ≤ 20) (h0 : 0 < xs.length) (hx : x ≤ 255) (hcap : xs.length ≤ cap) (w : World) (hr : Wd.Row w w.heap.size (some ⟨b, off, none⟩) xs) :
    Calls Try.prog 8 #[.slice (some ⟨b, off, none⟩) xs.length cap, .int .u8 x] w fun e w' => e = .returned (.bool true) ∧ Below w.heap.size w w' := by
  obtain ⟨i0, hi0, hz0, hz1, hz2⟩ := info_parts infoW
  have n1 : ¬ (20 : Int) < xs.length := by omega
  have hx1 : (x : Int) ≤ 255 := by omega
  have HR := Lib.hid hr
  clear hr
  generalize hN : xs.length = n at *
  have HN := Lib.hid hN
  clear hN
  go_enter Try.func8, Try.ntmps8
  go_wp2_with fail
  refine (Wd.awake _).mono ?_
  rintro e w0 ⟨rfl, hb0⟩
  have R0 := HR.out.below hb0
  go_wp2_with fail
  rw [show (x : Int) % ((n : Int) + 1) = ((x % (n + 1) : Nat) : Int) from by simp]
  have hkn : x % (n + 1) ≤ n := by exact Nat.le_of_lt_succ (Nat.mod_lt x (Nat.succ_pos n))
  generalize x % (n + 1) = m at *
  go_loopg [6, 7] n (fun k v6 v7 wr => k ≤ n ∧ v7 = .int .i64 ((k : Int) - 1) ∧ wr.ownsRow w.heap.size 25 2 v6 (n - k) ((xs.drop k).reverse.flatMap Wd.cw) ∧ Below w.heap.size w wr)
  case atStart =>
    refine ⟨Nat.le_refl _, rfl, ?_, hb0⟩
    rw [Nat.sub_self, List.drop_of_length_le (by have := HN.out; omega)]
    exact World.ownsRow_nil _ _ _ _
  case round =>
    obtain ⟨hk, rfl, O, hbl⟩ := hrel
    have R := HR.out.below hbl
    by_cases hk0 : gk = 0
    · subst hk0
      rw [List.drop_zero, Nat.sub_zero] at O
      obtain ⟨A', cap', rfl, R2⟩ := Wd.row_of_own O (by rw [List.length_reverse]; exact HN.out)
      clear O R0 hb0
      have R1 := R.more hbl.size
      clear R HR
      have K0 : KP wr wr [] := ⟨fun x hx => (List.not_mem_nil hx).elim, Below.refl _ _⟩
      have SA := Lib.hid (fun W (K : KP wr W []) => Wd.sum_n (some ⟨b, off, none⟩) cap m (xs.take m) (by rw [List.length_take]; have := HN.out; omega) (by omega) W (((R1.below K.below).more K.below.size).take m))
      have SB := Lib.hid (fun W (K : KP wr W []) => Wd.sum_n (if cap = m then some ⟨b, off, none⟩ else some ⟨b, off + m * 2, none⟩) (cap - m) (n - m) (xs.drop m) (by rw [List.length_drop]; have := HN.out; omega) (by omega) W (row_rest ((R1.below K.below).more K.below.size) m cap (by have := HN.out; omega)))
      have AD := Lib.hid (fun W => Wd.add_nums (xs.take m).sum (xs.drop m).sum W)
      rw [← List.sum_append, List.take_append_drop] at AD
      generalize Nm.hi (xs.take m).sum = p1 at *
      generalize lo (xs.take m).sum = p2 at *
      generalize Nm.hi (xs.drop m).sum = q1 at *
      generalize lo (xs.drop m).sum = q2 at *
      generalize hs1 : Nm.hi xs.sum = s1 at *
      generalize hs2 : lo xs.sum = s2 at *
      have m1 : (m : Int) ≤ n := by omega
      have m2 : (m : Int) ≤ cap := by omega
      by_cases hcm : cap = m
      · obtain rfl : n = m := by omega
        obtain rfl := hcm.symm
        simp only [if_true, Nat.sub_self] at SB
        go_upto_region 11 with fail
        go_cut [8, 9] (fun v8 v9 wx => ∃ g : Nat, v8 = .pointer (some ⟨g, 0, none⟩) ∧ KP wr wx [(g, s1, s2)])
        case first =>
          go_region_held3 (fun w' => KP wr w' [])
            (repeat (first | with_reducible exact K0 | with_reducible refine KP.alloc ?_ _ | with_reducible refine KP.call ?_ hb7 | with_reducible refine KP.call ?_ hb6 | with_reducible refine KP.call ?_ hb5 | with_reducible refine KP.store ?_ (by omega) (nonil _) _ | with_reducible refine KP.drew ?_))
            (first
              | (go_at_call 26; with_reducible refine (SA.out _ ?k).mono ?_; (case k => (repeat (first | with_reducible exact K0 | with_reducible refine KP.alloc ?_ _ | with_reducible refine KP.call ?_ hb7 | with_reducible refine KP.call ?_ hb6 | with_reducible refine KP.call ?_ hb5 | with_reducible refine KP.store ?_ (by omega) (nonil _) _ | with_reducible refine KP.drew ?_))); rintro e w5 ⟨rfl, hb5⟩; have z5 := hb5.size; (try simp at z5); (try have u5 : wr.heap.size < w5.heap.size := (by omega)); (try (have Na : Two w5 wr.heap.size 0 0 := (by with_reducible exact Two.below (Two.drew (Two.zero wr _)) hb5); have na0 := Na.c0; have na1 := Na.c1; have na2 := Na.f0; have na3 := Na.f1)))
              | (go_at_call 26; with_reducible refine (SB.out _ ?k).mono ?_; (case k => (repeat (first | with_reducible exact K0 | with_reducible refine KP.alloc ?_ _ | with_reducible refine KP.call ?_ hb7 | with_reducible refine KP.call ?_ hb6 | with_reducible refine KP.call ?_ hb5 | with_reducible refine KP.store ?_ (by omega) (nonil _) _ | with_reducible refine KP.drew ?_))); rintro e w6 ⟨rfl, hb6⟩; have z6 := hb6.size; (try simp at z6); (try have u6 : w5.heap.size < w6.heap.size := (by omega)); (try (have Ma : Two w6 wr.heap.size 0 0 := (by with_reducible exact Two.below Na hb6); have ma0 := Ma.c0; have ma1 := Ma.c1; have ma2 := Ma.f0; have ma3 := Ma.f1)); (try (have Mb : Two w6 w5.heap.size 0 0 := (by with_reducible exact Two.below (Two.zero w5 _) hb6); have mb0 := Mb.c0; have mb1 := Mb.c1; have mb2 := Mb.f0; have mb3 := Mb.f1)))
              | (go_at_call 12; with_reducible refine (AD.out _).mono ?_; rintro e w7 ⟨cc, rfl, hb7⟩; have z7 := hb7.size; (try simp at z7); (try (have Pa : Two w7 wr.heap.size 0 0 := (by with_reducible exact Two.below Ma hb7); have pa0 := Pa.c0; have pa1 := Pa.c1; have pa2 := Pa.f0; have pa3 := Pa.f1)); (try (have Pb : Two w7 w5.heap.size 0 0 := (by with_reducible exact Two.below Mb hb7); have pb0 := Pb.c0; have pb1 := Pb.c1; have pb2 := Pb.f0; have pb3 := Pb.f1)); (try (have Pc : Two w7 w6.heap.size 0 0 := (by with_reducible exact Two.below (Two.zero w6 _) hb7); have pc0 := Pc.c0; have pc1 := Pc.c1; have pc2 := Pc.f0; have pc3 := Pc.f1))))
          all_goals (go_wp2_with fail; go_meet)
          all_goals
            have K7 : KP wr w7 [] := by (repeat (first | with_reducible exact K0 | with_reducible refine KP.alloc ?_ _ | with_reducible refine KP.call ?_ hb7 | with_reducible refine KP.call ?_ hb6 | with_reducible refine KP.call ?_ hb5 | with_reducible refine KP.store ?_ (by omega) (nonil _) _ | with_reducible refine KP.drew ?_))
            refine ⟨_, rfl, ?_⟩
            first | (with_reducible exact K7.fresh s1 s2 _) | (with_reducible exact K7.put (by omega) (nonil _) Pa s1 s2) | (with_reducible exact K7.put (by omega) (nonil _) Pb s1 s2) | (with_reducible exact K7.put (by omega) (nonil _) Pc s1 s2)
        case rest =>
          as_aux_lemma =>
          obtain ⟨g, rfl, K1⟩ := hcut
          clear SA SB AD K0
          have Rx := (R1.below K1.below).more K1.below.size
          have Ry := (R2.below K1.below).more K1.below.size
          have D1 := Lib.hid (fun d os => Calls.regrown_of (Wd.sum_n (some ⟨b, off, none⟩) n n xs HN.out (by omega) (grow (redrawn wc d) os) ((Rx.below (below_regrown wc d os)).more (below_regrown wc d os).size)))
          have D2 := Lib.hid (fun d os => Calls.regrown_of (Wd.sum_n A' cap' n xs.reverse (by rw [List.length_reverse]; exact HN.out) (by omega) (grow (redrawn wc d) os) ((Ry.below (below_regrown wc d os)).more (below_regrown wc d os).size)))
          rw [(List.reverse_perm xs).sum_nat] at D2
          rw [hs1, hs2] at D1 D2
          have ca0 := cell_regrown K1.head.c0
          have ca1 := cell_regrown K1.head.c1
          have hbx : Below w.heap.size w wc := hbl.trans (K1.below.mono hbl.size)
          clear K1 Rx Ry R1 R2 hbl
          go_wp2_with fail
          refine wp_region_quiet_below (by as_aux_lemma => kernel_rfl) (by as_aux_lemma => kernel_rfl) ?_
          repeat (go_big_quiet_step ((first
            | (go_at_call 26; with_reducible exact D1.out _ _)
            | (go_at_call 26; with_reducible exact D2.out _ _))))
          refine wpQuiet_nil ?_
          intro _ hw'
          obtain ⟨⟨dq, osq⟩, hw''⟩ := hw'
          subst hw''
          have hb := below_regrown wc dq osq
          go_wp2
          go_ret
          exact ⟨by simp [go_sem], hbx.trans (hb.mono hbx.size)⟩
      · simp only [hcm, if_false] at SB
        go_upto_region 11 with fail
        go_cut [8, 9] (fun v8 v9 wx => ∃ g : Nat, v8 = .pointer (some ⟨g, 0, none⟩) ∧ KP wr wx [(g, s1, s2)])
        case first =>
          go_region_held3 (fun w' => KP wr w' [])
            (repeat (first | with_reducible exact K0 | with_reducible refine KP.alloc ?_ _ | with_reducible refine KP.call ?_ hb7 | with_reducible refine KP.call ?_ hb6 | with_reducible refine KP.call ?_ hb5 | with_reducible refine KP.store ?_ (by omega) (nonil _) _ | with_reducible refine KP.drew ?_))
            (first
              | (go_at_call 26; with_reducible refine (SA.out _ ?k).mono ?_; (case k => (repeat (first | with_reducible exact K0 | with_reducible refine KP.alloc ?_ _ | with_reducible refine KP.call ?_ hb7 | with_reducible refine KP.call ?_ hb6 | with_reducible refine KP.call ?_ hb5 | with_reducible refine KP.store ?_ (by omega) (nonil _) _ | with_reducible refine KP.drew ?_))); rintro e w5 ⟨rfl, hb5⟩; have z5 := hb5.size; (try simp at z5); (try have u5 : wr.heap.size < w5.heap.size := (by omega)); (try (have Na : Two w5 wr.heap.size 0 0 := (by with_reducible exact Two.below (Two.drew (Two.zero wr _)) hb5); have na0 := Na.c0; have na1 := Na.c1; have na2 := Na.f0; have na3 := Na.f1)))
              | (go_at_call 26; with_reducible refine (SB.out _ ?k).mono ?_; (case k => (repeat (first | with_reducible exact K0 | with_reducible refine KP.alloc ?_ _ | with_reducible refine KP.call ?_ hb7 | with_reducible refine KP.call ?_ hb6 | with_reducible refine KP.call ?_ hb5 | with_reducible refine KP.store ?_ (by omega) (nonil _) _ | with_reducible refine KP.drew ?_))); rintro e w6 ⟨rfl, hb6⟩; have z6 := hb6.size; (try simp at z6); (try have u6 : w5.heap.size < w6.heap.size := (by omega)); (try (have Ma : Two w6 wr.heap.size 0 0 := (by with_reducible exact Two.below Na hb6); have ma0 := Ma.c0; have ma1 := Ma.c1; have ma2 := Ma.f0; have ma3 := Ma.f1)); (try (have Mb : Two w6 w5.heap.size 0 0 := (by with_reducible exact Two.below (Two.zero w5 _) hb6); have mb0 := Mb.c0; have mb1 := Mb.c1; have mb2 := Mb.f0; have mb3 := Mb.f1)))
              | (go_at_call 12; with_reducible refine (AD.out _).mono ?_; rintro e w7 ⟨cc, rfl, hb7⟩; have z7 := hb7.size; (try simp at z7); (try (have Pa : Two w7 wr.heap.size 0 0 := (by with_reducible exact Two.below Ma hb7); have pa0 := Pa.c0; have pa1 := Pa.c1; have pa2 := Pa.f0; have pa3 := Pa.f1)); (try (have Pb : Two w7 w5.heap.size 0 0 := (by with_reducible exact Two.below Mb hb7); have pb0 := Pb.c0; have pb1 := Pb.c1; have pb2 := Pb.f0; have pb3 := Pb.f1)); (try (have Pc : Two w7 w6.heap.size 0 0 := (by with_reducible exact Two.below (Two.zero w6 _) hb7); have pc0 := Pc.c0; have pc1 := Pc.c1; have pc2 := Pc.f0; have pc3 := Pc.f1))))
          all_goals (go_wp2_with fail; go_meet)
          all_goals
            have K7 : KP wr w7 [] := by (repeat (first | with_reducible exact K0 | with_reducible refine KP.alloc ?_ _ | with_reducible refine KP.call ?_ hb7 | with_reducible refine KP.call ?_ hb6 | with_reducible refine KP.call ?_ hb5 | with_reducible refine KP.store ?_ (by omega) (nonil _) _ | with_reducible refine KP.drew ?_))
            refine ⟨_, rfl, ?_⟩
            first | (with_reducible exact K7.fresh s1 s2 _) | (with_reducible exact K7.put (by omega) (nonil _) Pa s1 s2) | (with_reducible exact K7.put (by omega) (nonil _) Pb s1 s2) | (with_reducible exact K7.put (by omega) (nonil _) Pc s1 s2)
        case rest =>
          as_aux_lemma =>
          obtain ⟨g, rfl, K1⟩ := hcut
          clear SA SB AD K0
          have Rx := (R1.below K1.below).more K1.below.size
          have Ry := (R2.below K1.below).more K1.below.size
          have D1 := Lib.hid (fun d os => Calls.regrown_of (Wd.sum_n (some ⟨b, off, none⟩) cap n xs HN.out (by omega) (grow (redrawn wc d) os) ((Rx.below (below_regrown wc d os)).more (below_regrown wc d os).size)))
          have D2 := Lib.hid (fun d os => Calls.regrown_of (Wd.sum_n A' cap' n xs.reverse (by rw [List.length_reverse]; exact HN.out) (by omega) (grow (redrawn wc d) os) ((Ry.below (below_regrown wc d os)).more (below_regrown wc d os).size)))
          rw [(List.reverse_perm xs).sum_nat] at D2
          rw [hs1, hs2] at D1 D2
          have ca0 := cell_regrown K1.head.c0
          have ca1 := cell_regrown K1.head.c1
          have hbx : Below w.heap.size w wc := hbl.trans (K1.below.mono hbl.size)
          clear K1 Rx Ry R1 R2 hbl
          go_wp2_with fail
          refine wp_region_quiet_below (by as_aux_lemma => kernel_rfl) (by as_aux_lemma => kernel_rfl) ?_
          repeat (go_big_quiet_step ((first
            | (go_at_call 26; with_reducible exact D1.out _ _)
            | (go_at_call 26; with_reducible exact D2.out _ _))))
          refine wpQuiet_nil ?_
          intro _ hw'
          obtain ⟨⟨dq, osq⟩, hw''⟩ := hw'
          subst hw''
          have hb := below_regrown wc dq osq
          go_wp2
          go_ret
          exact ⟨by simp [go_sem], hbx.trans (hb.mono hbx.size)⟩
    · obtain ⟨i, rfl⟩ : ∃ i, gk = i + 1 := ⟨gk - 1, by omega⟩
      have e8 : ((i + 1 : Nat) : Int) - 1 = (i : Int) := by omega
      rw [e8]
      clear e8 hk0
      obtain ⟨b', off', e, hB, c0, c1⟩ := R.at_ i (by have := HN.out; omega)
      injection e with e
      injection e with e1 e2
      subst e1 e2
      have i1 : (i : Int) < n := by omega
      have st := Wd.rev_step xs i (by have := HN.out; omega)
      have HS := Lib.hid st
      clear st
      generalize hy1 : Nm.hi (xs.getD i 0) = y1 at *
      generalize hy2 : lo (xs.getD i 0) = y2 at *
      have HW : Hid (Wd.cw (xs.getD i 0) = [.int .u64 y1, .int .u64 y2]) := by unfold Wd.cw; rw [hy1, hy2]; exact rfl
      clear hy1 hy2
      have z1 : b < wr.heap.size := World.block_lt_of_cell? wr _ c0
      go_wp2_with (at_builtin; go_loud (refine wpList_append_own (wr.alloc (.cells #[.int .u64 y1, .int .u64 y2] 25)) ?hgd (.tmp 28) (.tmp 33) 43 ?ho w.heap.size 25 i0 (.agg #[.int .u64 0, .int .u64 0]) 2 16 Try.underlying43 hi0 hz0 hz1 hz2 rfl (by decide) u6 (n - (i + 1)) ((xs.drop (i + 1)).reverse.flatMap Wd.cw) ?hs (O.alloc _) ⟨wr.heap.size, 0, none⟩ 1 1 [.int .u64 y1, .int .u64 y2] ?hx rfl ?c1 ?c2 ?c3 ?c4 ?c5 (fun v6 w1 O1 hg hv => ?_)); (case hgd => rfl); (case ho => rfl); (case hs => rfl); (case hx => rfl))
      case c2 => exact ⟨rfl, rfl⟩
      case c3 => simp only [maxLen]; omega
      case c4 => omega
      case c5 => have := hbl.size; omega
      go_roundg i
      case measure => omega
      case rel =>
        rw [← HW.out, HS.out, show n - (i + 1) + 1 = n - i from by omega] at O1
        exact ⟨by omega, rfl, O1, (hbl.alloc hbl.size _).grown hg (by have := hbl.size; simp; omega) (fun k hk => (Wd.own_block O k hk).1)⟩

set_option maxHeartbeats 1000000 in
set_option maxRecDepth 100000 in
theorem walk_nil  (x : Nat) (hx : x ≤ 255) (w : World) :
    Calls Try.prog 8 #[.slice none 0 0, .int .u8 x] w fun e w' => e = .returned (.bool true) ∧ Below w.heap.size w w' := by
  have hx1 : (x : Int) ≤ 255 := by omega
  have S0 := Lib.hid (fun W A c => Wd.sum_n A c 0 [] rfl (by omega) W (Wd.Row.none_ W W.heap.size A [] rfl))
  have AD := Lib.hid (fun W => Wd.add_nums ([] : List Nat).sum ([] : List Nat).sum W)
  rw [show ([] : List Nat).sum + ([] : List Nat).sum = ([] : List Nat).sum from rfl] at AD
  generalize Nm.hi ([] : List Nat).sum = s1 at *
  generalize lo ([] : List Nat).sum = s2 at *
  go_enter Try.func8, Try.ntmps8
  go_wp2_with fail
  refine (Wd.awake _).mono ?_
  rintro e w0 ⟨rfl, hb0⟩
  go_wp2_with fail
  go_loopg [6, 7] 0 (fun k v6 v7 wr => v6 = .slice none 0 0 ∧ v7 = .int .i64 (-1) ∧ Below w.heap.size w wr)
  case atStart => exact ⟨rfl, rfl, hb0⟩
  case round =>
    obtain ⟨rfl, rfl, hbl⟩ := hrel
    clear hb0
    have K0 : KP wr wr [] := ⟨fun x hx => (List.not_mem_nil hx).elim, Below.refl _ _⟩
    go_upto_region 11 with fail
    go_cut [8, 9] (fun v8 v9 wx => ∃ g : Nat, v8 = .pointer (some ⟨g, 0, none⟩) ∧ KP wr wx [(g, s1, s2)])
    case first =>
      go_region_held3 (fun w' => KP wr w' [])
        (repeat (first | with_reducible exact K0 | with_reducible refine KP.alloc ?_ _ | with_reducible refine KP.call ?_ hb7 | with_reducible refine KP.call ?_ hb6 | with_reducible refine KP.call ?_ hb5 | with_reducible refine KP.store ?_ (by omega) (nonil _) _ | with_reducible refine KP.drew ?_))
        (first
          | (go_at_call 26; have z5' := hb5.size; with_reducible refine (S0.out _ _ _).mono ?_; rintro e w6 ⟨rfl, hb6⟩; have z6 := hb6.size; (try simp at z6); (try have u6 : w5.heap.size < w6.heap.size := (by omega)); (try (have Ma : Two w6 wr.heap.size 0 0 := (by with_reducible exact Two.below Na hb6); have ma0 := Ma.c0; have ma1 := Ma.c1; have ma2 := Ma.f0; have ma3 := Ma.f1)); (try (have Mb : Two w6 w5.heap.size 0 0 := (by with_reducible exact Two.below (Two.zero w5 _) hb6); have mb0 := Mb.c0; have mb1 := Mb.c1; have mb2 := Mb.f0; have mb3 := Mb.f1)))
          | (go_at_call 26; with_reducible refine (S0.out _ _ _).mono ?_; rintro e w5 ⟨rfl, hb5⟩; have z5 := hb5.size; (try simp at z5); (try have u5 : wr.heap.size < w5.heap.size := (by omega)); (try (have Na : Two w5 wr.heap.size 0 0 := (by with_reducible exact Two.below (Two.drew (Two.zero wr _)) hb5); have na0 := Na.c0; have na1 := Na.c1; have na2 := Na.f0; have na3 := Na.f1)))
          | (go_at_call 12; with_reducible refine (AD.out _).mono ?_; rintro e w7 ⟨cc, rfl, hb7⟩; have z7 := hb7.size; (try simp at z7); (try (have Pa : Two w7 wr.heap.size 0 0 := (by with_reducible exact Two.below Ma hb7); have pa0 := Pa.c0; have pa1 := Pa.c1; have pa2 := Pa.f0; have pa3 := Pa.f1)); (try (have Pb : Two w7 w5.heap.size 0 0 := (by with_reducible exact Two.below Mb hb7); have pb0 := Pb.c0; have pb1 := Pb.c1; have pb2 := Pb.f0; have pb3 := Pb.f1)); (try (have Pc : Two w7 w6.heap.size 0 0 := (by with_reducible exact Two.below (Two.zero w6 _) hb7); have pc0 := Pc.c0; have pc1 := Pc.c1; have pc2 := Pc.f0; have pc3 := Pc.f1))))
      all_goals (go_wp2_with fail; go_meet)
      all_goals
        have K7 : KP wr w7 [] := by (repeat (first | with_reducible exact K0 | with_reducible refine KP.alloc ?_ _ | with_reducible refine KP.call ?_ hb7 | with_reducible refine KP.call ?_ hb6 | with_reducible refine KP.call ?_ hb5 | with_reducible refine KP.store ?_ (by omega) (nonil _) _ | with_reducible refine KP.drew ?_))
        refine ⟨_, rfl, ?_⟩
        first | (with_reducible exact K7.fresh s1 s2 _) | (with_reducible exact K7.put (by omega) (nonil _) Pa s1 s2) | (with_reducible exact K7.put (by omega) (nonil _) Pb s1 s2) | (with_reducible exact K7.put (by omega) (nonil _) Pc s1 s2)
    case rest =>
      as_aux_lemma =>
      obtain ⟨g, rfl, K1⟩ := hcut
      have D1 := Lib.hid (fun d os A c => Calls.regrown_of (S0.out (grow (redrawn wc d) os) A c))
      clear AD K0 S0
      have ca0 := cell_regrown K1.head.c0
      have ca1 := cell_regrown K1.head.c1
      have hbx : Below w.heap.size w wc := hbl.trans (K1.below.mono hbl.size)
      clear K1 hbl
      go_wp2_with fail
      refine wp_region_quiet_below (by as_aux_lemma => kernel_rfl) (by as_aux_lemma => kernel_rfl) ?_
      repeat (go_big_quiet_step ((go_at_call 26; with_reducible exact D1.out _ _ _ _)))
      refine wpQuiet_nil ?_
      intro _ hw'
      obtain ⟨⟨dq, osq⟩, hw''⟩ := hw'
      subst hw''
      have hb := below_regrown wc dq osq
      go_wp2
      go_ret
      exact ⟨by simp [go_sem], hbx.trans (hb.mono hbx.size)⟩

set_option maxHeartbeats 1000000 in
set_option maxRecDepth 100000 in
theorem walk_empty0 (a : Addr) (x : Nat) (hx : x ≤ 255) (w : World) :
    Calls Try.prog 8 #[.slice (some a) 0 0, .int .u8 x] w fun e w' => e = .returned (.bool true) ∧ Below w.heap.size w w' := by
  have hx1 : (x : Int) ≤ 255 := by omega
  have S0 := Lib.hid (fun W A c => Wd.sum_n A c 0 [] rfl (by omega) W (Wd.Row.none_ W W.heap.size A [] rfl))
  have AD := Lib.hid (fun W => Wd.add_nums ([] : List Nat).sum ([] : List Nat).sum W)
  rw [show ([] : List Nat).sum + ([] : List Nat).sum = ([] : List Nat).sum from rfl] at AD
  generalize Nm.hi ([] : List Nat).sum = s1 at *
  generalize lo ([] : List Nat).sum = s2 at *
  go_enter Try.func8, Try.ntmps8
  go_wp2_with fail
  refine (Wd.awake _).mono ?_
  rintro e w0 ⟨rfl, hb0⟩
  go_wp2_with fail
  go_loopg [6, 7] 0 (fun k v6 v7 wr => v6 = .slice none 0 0 ∧ v7 = .int .i64 (-1) ∧ Below w.heap.size w wr)
  case atStart => exact ⟨rfl, rfl, hb0⟩
  case round =>
    obtain ⟨rfl, rfl, hbl⟩ := hrel
    clear hb0
    have K0 : KP wr wr [] := ⟨fun x hx => (List.not_mem_nil hx).elim, Below.refl _ _⟩
    go_upto_region 11 with fail
    go_cut [8, 9] (fun v8 v9 wx => ∃ g : Nat, v8 = .pointer (some ⟨g, 0, none⟩) ∧ KP wr wx [(g, s1, s2)])
    case first =>
      go_region_held3 (fun w' => KP wr w' [])
        (repeat (first | with_reducible exact K0 | with_reducible refine KP.alloc ?_ _ | with_reducible refine KP.call ?_ hb7 | with_reducible refine KP.call ?_ hb6 | with_reducible refine KP.call ?_ hb5 | with_reducible refine KP.store ?_ (by omega) (nonil _) _ | with_reducible refine KP.drew ?_))
        (first
          | (go_at_call 26; have z5' := hb5.size; with_reducible refine (S0.out _ _ _).mono ?_; rintro e w6 ⟨rfl, hb6⟩; have z6 := hb6.size; (try simp at z6); (try have u6 : w5.heap.size < w6.heap.size := (by omega)); (try (have Ma : Two w6 wr.heap.size 0 0 := (by with_reducible exact Two.below Na hb6); have ma0 := Ma.c0; have ma1 := Ma.c1; have ma2 := Ma.f0; have ma3 := Ma.f1)); (try (have Mb : Two w6 w5.heap.size 0 0 := (by with_reducible exact Two.below (Two.zero w5 _) hb6); have mb0 := Mb.c0; have mb1 := Mb.c1; have mb2 := Mb.f0; have mb3 := Mb.f1)))
          | (go_at_call 26; with_reducible refine (S0.out _ _ _).mono ?_; rintro e w5 ⟨rfl, hb5⟩; have z5 := hb5.size; (try simp at z5); (try have u5 : wr.heap.size < w5.heap.size := (by omega)); (try (have Na : Two w5 wr.heap.size 0 0 := (by with_reducible exact Two.below (Two.drew (Two.zero wr _)) hb5); have na0 := Na.c0; have na1 := Na.c1; have na2 := Na.f0; have na3 := Na.f1)))
          | (go_at_call 12; with_reducible refine (AD.out _).mono ?_; rintro e w7 ⟨cc, rfl, hb7⟩; have z7 := hb7.size; (try simp at z7); (try (have Pa : Two w7 wr.heap.size 0 0 := (by with_reducible exact Two.below Ma hb7); have pa0 := Pa.c0; have pa1 := Pa.c1; have pa2 := Pa.f0; have pa3 := Pa.f1)); (try (have Pb : Two w7 w5.heap.size 0 0 := (by with_reducible exact Two.below Mb hb7); have pb0 := Pb.c0; have pb1 := Pb.c1; have pb2 := Pb.f0; have pb3 := Pb.f1)); (try (have Pc : Two w7 w6.heap.size 0 0 := (by with_reducible exact Two.below (Two.zero w6 _) hb7); have pc0 := Pc.c0; have pc1 := Pc.c1; have pc2 := Pc.f0; have pc3 := Pc.f1))))
      all_goals (go_wp2_with fail; go_meet)
      all_goals
        have K7 : KP wr w7 [] := by (repeat (first | with_reducible exact K0 | with_reducible refine KP.alloc ?_ _ | with_reducible refine KP.call ?_ hb7 | with_reducible refine KP.call ?_ hb6 | with_reducible refine KP.call ?_ hb5 | with_reducible refine KP.store ?_ (by omega) (nonil _) _ | with_reducible refine KP.drew ?_))
        refine ⟨_, rfl, ?_⟩
        first | (with_reducible exact K7.fresh s1 s2 _) | (with_reducible exact K7.put (by omega) (nonil _) Pa s1 s2) | (with_reducible exact K7.put (by omega) (nonil _) Pb s1 s2) | (with_reducible exact K7.put (by omega) (nonil _) Pc s1 s2)
    case rest =>
      as_aux_lemma =>
      obtain ⟨g, rfl, K1⟩ := hcut
      have D1 := Lib.hid (fun d os A c => Calls.regrown_of (S0.out (grow (redrawn wc d) os) A c))
      clear AD K0 S0
      have ca0 := cell_regrown K1.head.c0
      have ca1 := cell_regrown K1.head.c1
      have hbx : Below w.heap.size w wc := hbl.trans (K1.below.mono hbl.size)
      clear K1 hbl
      go_wp2_with fail
      refine wp_region_quiet_below (by as_aux_lemma => kernel_rfl) (by as_aux_lemma => kernel_rfl) ?_
      repeat (go_big_quiet_step ((go_at_call 26; with_reducible exact D1.out _ _ _ _)))
      refine wpQuiet_nil ?_
      intro _ hw'
      obtain ⟨⟨dq, osq⟩, hw''⟩ := hw'
      subst hw''
      have hb := below_regrown wc dq osq
      go_wp2
      go_ret
      exact ⟨by simp [go_sem], hbx.trans (hb.mono hbx.size)⟩

set_option maxHeartbeats 1000000 in
set_option maxRecDepth 100000 in
theorem walk_empty (a : Addr) (cap : Nat) (hcap : ¬ cap = 0) (x : Nat) (hx : x ≤ 255) (w : World) :
    Calls Try.prog 8 #[.slice (some a) 0 cap, .int .u8 x] w fun e w' => e = .returned (.bool true) ∧ Below w.heap.size w w' := by
  have hx1 : (x : Int) ≤ 255 := by omega
  have S0 := Lib.hid (fun W A c => Wd.sum_n A c 0 [] rfl (by omega) W (Wd.Row.none_ W W.heap.size A [] rfl))
  have AD := Lib.hid (fun W => Wd.add_nums ([] : List Nat).sum ([] : List Nat).sum W)
  rw [show ([] : List Nat).sum + ([] : List Nat).sum = ([] : List Nat).sum from rfl] at AD
  generalize Nm.hi ([] : List Nat).sum = s1 at *
  generalize lo ([] : List Nat).sum = s2 at *
  go_enter Try.func8, Try.ntmps8
  go_wp2_with fail
  refine (Wd.awake _).mono ?_
  rintro e w0 ⟨rfl, hb0⟩
  go_wp2_with fail
  go_loopg [6, 7] 0 (fun k v6 v7 wr => v6 = .slice none 0 0 ∧ v7 = .int .i64 (-1) ∧ Below w.heap.size w wr)
  case atStart => exact ⟨rfl, rfl, hb0⟩
  case round =>
    obtain ⟨rfl, rfl, hbl⟩ := hrel
    clear hb0
    have K0 : KP wr wr [] := ⟨fun x hx => (List.not_mem_nil hx).elim, Below.refl _ _⟩
    go_upto_region 11 with fail
    go_cut [8, 9] (fun v8 v9 wx => ∃ g : Nat, v8 = .pointer (some ⟨g, 0, none⟩) ∧ KP wr wx [(g, s1, s2)])
    case first =>
      go_region_held3 (fun w' => KP wr w' [])
        (repeat (first | with_reducible exact K0 | with_reducible refine KP.alloc ?_ _ | with_reducible refine KP.call ?_ hb7 | with_reducible refine KP.call ?_ hb6 | with_reducible refine KP.call ?_ hb5 | with_reducible refine KP.store ?_ (by omega) (nonil _) _ | with_reducible refine KP.drew ?_))
        (first
          | (go_at_call 26; have z5' := hb5.size; with_reducible refine (S0.out _ _ _).mono ?_; rintro e w6 ⟨rfl, hb6⟩; have z6 := hb6.size; (try simp at z6); (try have u6 : w5.heap.size < w6.heap.size := (by omega)); (try (have Ma : Two w6 wr.heap.size 0 0 := (by with_reducible exact Two.below Na hb6); have ma0 := Ma.c0; have ma1 := Ma.c1; have ma2 := Ma.f0; have ma3 := Ma.f1)); (try (have Mb : Two w6 w5.heap.size 0 0 := (by with_reducible exact Two.below (Two.zero w5 _) hb6); have mb0 := Mb.c0; have mb1 := Mb.c1; have mb2 := Mb.f0; have mb3 := Mb.f1)))
          | (go_at_call 26; with_reducible refine (S0.out _ _ _).mono ?_; rintro e w5 ⟨rfl, hb5⟩; have z5 := hb5.size; (try simp at z5); (try have u5 : wr.heap.size < w5.heap.size := (by omega)); (try (have Na : Two w5 wr.heap.size 0 0 := (by with_reducible exact Two.below (Two.drew (Two.zero wr _)) hb5); have na0 := Na.c0; have na1 := Na.c1; have na2 := Na.f0; have na3 := Na.f1)))
          | (go_at_call 12; with_reducible refine (AD.out _).mono ?_; rintro e w7 ⟨cc, rfl, hb7⟩; have z7 := hb7.size; (try simp at z7); (try (have Pa : Two w7 wr.heap.size 0 0 := (by with_reducible exact Two.below Ma hb7); have pa0 := Pa.c0; have pa1 := Pa.c1; have pa2 := Pa.f0; have pa3 := Pa.f1)); (try (have Pb : Two w7 w5.heap.size 0 0 := (by with_reducible exact Two.below Mb hb7); have pb0 := Pb.c0; have pb1 := Pb.c1; have pb2 := Pb.f0; have pb3 := Pb.f1)); (try (have Pc : Two w7 w6.heap.size 0 0 := (by with_reducible exact Two.below (Two.zero w6 _) hb7); have pc0 := Pc.c0; have pc1 := Pc.c1; have pc2 := Pc.f0; have pc3 := Pc.f1))))
      all_goals (go_wp2_with fail; go_meet)
      all_goals
        have K7 : KP wr w7 [] := by (repeat (first | with_reducible exact K0 | with_reducible refine KP.alloc ?_ _ | with_reducible refine KP.call ?_ hb7 | with_reducible refine KP.call ?_ hb6 | with_reducible refine KP.call ?_ hb5 | with_reducible refine KP.store ?_ (by omega) (nonil _) _ | with_reducible refine KP.drew ?_))
        refine ⟨_, rfl, ?_⟩
        first | (with_reducible exact K7.fresh s1 s2 _) | (with_reducible exact K7.put (by omega) (nonil _) Pa s1 s2) | (with_reducible exact K7.put (by omega) (nonil _) Pb s1 s2) | (with_reducible exact K7.put (by omega) (nonil _) Pc s1 s2)
    case rest =>
      as_aux_lemma =>
      obtain ⟨g, rfl, K1⟩ := hcut
      have D1 := Lib.hid (fun d os A c => Calls.regrown_of (S0.out (grow (redrawn wc d) os) A c))
      clear AD K0 S0
      have ca0 := cell_regrown K1.head.c0
      have ca1 := cell_regrown K1.head.c1
      have hbx : Below w.heap.size w wc := hbl.trans (K1.below.mono hbl.size)
      clear K1 hbl
      go_wp2_with fail
      refine wp_region_quiet_below (by as_aux_lemma => kernel_rfl) (by as_aux_lemma => kernel_rfl) ?_
      repeat (go_big_quiet_step ((go_at_call 26; with_reducible exact D1.out _ _ _ _)))
      refine wpQuiet_nil ?_
      intro _ hw'
      obtain ⟨⟨dq, osq⟩, hw''⟩ := hw'
      subst hw''
      have hb := below_regrown wc dq osq
      go_wp2
      go_ret
      exact ⟨by simp [go_sem], hbx.trans (hb.mono hbx.size)⟩

theorem cellsW : Try.prog.cellsOf 25 = 2 := by kernel_rfl
theorem cellsU : Try.prog.cellsOf 22 = 1 := by kernel_rfl
theorem add_none (b off k : Nat) : (⟨b, off, none⟩ : Addr).add k = ⟨b, off + k, none⟩ := by unfold Addr.add; split <;> simp_all

theorem row_of_cells {w : World} {B b off : Nat} (hB : b < B) : ∀ n : Nat, (∀ i, i < n → ∃ p q : Nat, p < 18446744073709551616 ∧ q < 18446744073709551616 ∧ w.cell? ⟨b, off + i * 2, none⟩ = some (.int .u64 p) ∧ w.cell? ⟨b, off + i * 2 + 1, none⟩ = some (.int .u64 q)) →
    ∃ xs : List Nat, xs.length = n ∧ Wd.Row w B (some ⟨b, off, none⟩) xs
  | 0, _ => ⟨[], rfl, Wd.Row.none_ _ _ _ _ rfl⟩
  | n + 1, h => by
    obtain ⟨xs, hl, R⟩ := row_of_cells hB n (fun i hi => h i (by omega))
    obtain ⟨p, q, hp, hq, c0, c1⟩ := h n (by omega)
    have hlast : (xs ++ [vl p q]).getD n 0 = vl p q := by simp [List.getD, ← hl]
    refine ⟨xs ++ [vl p q], by simp [hl], ⟨fun i hi => ⟨b, off, rfl, hB, ?_, ?_⟩⟩⟩
    · by_cases hin : i < n
      · obtain ⟨b', off', e, _, d0, d1⟩ := R.at_ i (by omega)
        injection e with e
        injection e with e1 e2
        subst e1 e2
        rw [d0]
        simp [List.getD, List.getElem?_append, hl, hin]
      · obtain rfl : i = n := by simp [hl] at hi; omega
        rw [hlast, c0, hi_vl p q hp hq]
    · by_cases hin : i < n
      · obtain ⟨b', off', e, _, d0, d1⟩ := R.at_ i (by omega)
        injection e with e
        injection e with e1 e2
        subst e1 e2
        rw [d1]
        simp [List.getD, List.getElem?_append, hl, hin]
      · obtain rfl : i = n := by simp [hl] at hi; omega
        rw [hlast, c1, lo_vl p q hq]

theorem walk {H : Type} {enc : TypeId × Value → H} {fuel : Nat} {v : Value} {y : DataW H × List MemPlace} (x : Nat) (hx : x ≤ 255) (W : World) (hf : DataW.trod enc Try.prog W 0 (fun _ => true) true fuel 43 [v] = some y) :
    Calls Try.prog 8 #[v, .int .u8 x] W fun e W' => e = .returned (.bool true) ∧ Below W.heap.size W W' := by
  rcases Deep.open_slice_pairs Try.underlying43 Try.underlying25 cellsW rfl rfl cellsU cellsU hf with ⟨hcs, _⟩ | ⟨a, len, cap, m, k, V0, V1, D0, D1, P0, P1, hcs, _, hl, hm, hmm, _, hall⟩
  · obtain rfl : v = .slice none 0 0 := by simpa using hcs
    exact walk_nil x hx W
  · obtain rfl : v = .slice (some a) len cap := by simpa using hcs
    by_cases h20 : 20 < len
    · exact walk_long (some a) len cap x h20 W
    by_cases hl0 : len = 0
    · subst hl0
      by_cases hc0 : cap = 0
      · subst hc0
        exact walk_empty0 a x hx W
      · exact walk_empty a cap hc0 x hx W
    have hlm : len ≤ m := by rw [hmm]; split <;> omega
    have c := (hall 0 (by omega)).1
    obtain ⟨b, off, spot⟩ := a
    have hsp : spot = none := by
      cases spot with
      | none => rfl
      | some s => exfalso; simp [World.cell?, Addr.add] at c; split at c <;> simp at c
    subst hsp
    have hB : b < W.heap.size := by rw [add_none] at c; exact World.block_lt_of_cell? W _ c
    obtain ⟨xs, hxl, R⟩ := row_of_cells (w := W) (B := W.heap.size) (b := b) (off := off) hB len (fun i hi => by
      obtain ⟨c0, c1, t0, t1⟩ := hall i (by omega)
      obtain ⟨p, e0, _, wp⟩ := DataW.trod_int Try.underlying22 t0
      obtain ⟨q, e1, _, wq⟩ := DataW.trod_int Try.underlying22 t1
      simp at e0 e1
      rw [add_none, e0] at c0
      rw [add_none, e1] at c1
      have bp : 0 ≤ p ∧ p ≤ 18446744073709551615 := by simpa [Lit.wf, IntKind.min, IntKind.max, IntKind.signed, IntKind.bits] using wp
      have bq : 0 ≤ q ∧ q ≤ 18446744073709551615 := by simpa [Lit.wf, IntKind.min, IntKind.max, IntKind.signed, IntKind.bits] using wq
      obtain ⟨p', rfl⟩ := Int.eq_ofNat_of_zero_le bp.1
      obtain ⟨q', rfl⟩ := Int.eq_ofNat_of_zero_le bq.1
      exact ⟨p', q', by omega, by omega, c0, by rw [← Nat.add_assoc] at c1; exact c1⟩)
    subst hxl
    exact walk_some b off cap x xs (by omega) (by omega) hx hl W R

set_option maxRecDepth 100000 in
theorem lifted (os : Os) (started : os.Started) (H : Type) (enc : TypeId × Value → H) :
    ReturnsInHanded {} Try.checked os 8 .any (Rows.wideRowsSpec.pre6 enc Try.prog Try.f8 Rows.wideRowsRow.domain false) (Rows.wideRowsSpec.post enc Try.prog Try.f8 false true false false) := by
  refine returnsInHanded_of_change (C := Try.checked) Fr.own started (by kernel_rfl) Try.func8
    (ChangeSpec.witness6 (enc := enc) (C := Try.checked) false ⟨#[], #[.slice none 0 0, .int .u8 0], []⟩ 8 (by kernel_rfl) (by kernel_rfl) (by kernel_rfl) (by kernel_rfl)) ?_
  intro W base args ds gs before hval0 hW hcnd _
  have hval : ∀ (j : Nat) t v, Try.f8.params[j]? = some t → args[j]? = some v → Value.okWide Try.prog W .any base t v := hval0
  have hW' := hW
  obtain ⟨p, q, hA0, hV, rfl, hfz, hnd⟩ := hW
  have hA : DataW.TrodAll enc Try.prog W 0 (fun _ => true) true Try.f8.params.toList args.toList ds p := hA0
  obtain ⟨rfl, rfl⟩ := trodVars_none hV
  rw [Try.params8] at hA hval
  obtain ⟨v0, vs0, d0, ds0, p0, q0, hargs, rfl, rfl, h0, r0⟩ := trodAll_cons hA
  obtain ⟨v1, vs1, d1, ds1, p1, q1, rfl, rfl, rfl, h1, r1⟩ := trodAll_cons r0
  obtain ⟨rfl, rfl, rfl⟩ := trodAll_nil r1
  obtain rfl : args = #[v0, v1] := by cases args; simp_all
  obtain ⟨a1, rfl, rfl, rfl, w1⟩ := open_int Try.underlying5 (hval 1 5 v1 rfl rfl) h1
  have b1 : 0 ≤ a1 ∧ a1 ≤ 255 := by simpa [Lit.wf, IntKind.min, IntKind.max, IntKind.signed, IntKind.bits] using w1
  obtain ⟨x1, rfl⟩ := Int.eq_ofNat_of_zero_le b1.1
  simp only [List.append_nil] at hW' hA0
  obtain ⟨sl, len, cap, rfl⟩ := okWide_slice Try.underlying43 (hval 0 43 v0 rfl rfl)
  obtain ⟨fuel, hf⟩ := h0
  refine (walk x1 (by omega) W hf).mono fun e W' ⟨he, hb⟩ => ?_
  subst he
  exact ⟨_, rfl, Fr.law_post (tb := 4) hW' hA0 rfl rfl rfl Try.underlying4 (by rw [Try.params8]; intro t ht; simp at ht; rcases ht with rfl | rfl; all_goals exact ⟨by kernel_rfl, of_decide_eq_true (by kernel_rfl)⟩) hb⟩

theorem proved : Rows.WideRowsSaid :=
  OpenClaim.holds_of_wide 8 Try.f8 rfl rfl rfl rfl rfl rfl rfl ⟨rfl, rfl, rfl, rfl, rfl⟩ rfl rfl rfl rfl rfl (by kernel_rfl) Try.func8 (by kernel_rfl)
    (of_decide_eq_true (by kernel_rfl)) (by unfold Func.isWrapper; first | (rw [if_pos (by decide +kernel)]; kernel_rfl) | (rw [if_neg (by decide +kernel)]; exact ⟨rfl, rfl⟩))
    (fun os started H enc _ => lifted os started H enc)
end Go.Proofs.Ytopbhomodlpnmaa.wideRows
