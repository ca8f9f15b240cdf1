/- Contracts of package kern4: Plain and Run, as the document says them. -/
import Derived.Test.YtfkhnfaammfbeaaDoorQuartD
set_option linter.unusedVariables false
namespace Go.Proofs.YtfkhnfaammfbeaaDoor
open Go.RowKit Go.Lib Go.Sort
namespace Kq
open Nm Ww Tn Pl Kn Td

theorem plain_len {w : World} {B p p2 bf bi bp : Nat} (k : Nat) (hk : k ≤ 20) (Z : Kf w B k p p2 bf bi bp) (A : Option Addr) (n ca : Nat) (d : Int) (hn : n ≠ 2 ^ k) :
    Calls Tryd.prog 9 #[.pointer (some ⟨p, 0, none⟩), .slice A n ca, .int .i64 d] w fun e w' => e = .returned (.int .i64 4) ∧ w = w' := by
  by_cases h : k < 2
  · exact plain_small k h Z.c Z.z.c A n ca d 4 (fun w' => w = w') (Kn.plain_len k hk Z.z.c A n ca d hn)
  · exact plain_len2 k hk (by omega) Z.c Z.z.c A n ca d hn
theorem plain_kind {w : World} {B p p2 bf bi bp : Nat} (k : Nat) (hk : k ≤ 20) (Z : Kf w B k p p2 bf bi bp) (A : Option Addr) (n ca : Nat) (d : Int) (hn : n = 2 ^ k) (h0 : d ≠ 0) (h1 : d ≠ 1) :
    Calls Tryd.prog 9 #[.pointer (some ⟨p, 0, none⟩), .slice A n ca, .int .i64 d] w fun e w' => e = .returned (.int .i64 18) ∧ w = w' := by
  by_cases h : k < 2
  · exact plain_small k h Z.c Z.z.c A n ca d 18 (fun w' => w = w') (Kn.plain_kind k hk Z.z.c A n ca d hn h0 h1)
  · exact plain_kind2 k hk (by omega) Z.c Z.z.c A n ca d hn h0 h1

/-- A round of quarters, of either direction. -/
theorem joinQuarters (x : Nat → Nat) (hx : ∀ j, x j < 18446744073709551616) (k d s h b n ca p p2 bf bi bp : Nat) (hk : k ≤ 20) (hd : d ≤ 1) (hs : s + 2 ≤ k) (hh : h = 2 ^ s) (hn : n = 2 ^ k) (hca : n ≤ ca) (w : World) (Z : Kg w b k p p2 bf bi bp) (J : JR b n (hq x k d s) w w) :
    Calls Tryd.prog 26 #[.pointer (some ⟨p, 0, none⟩), .slice (some ⟨b, 0, none⟩) n ca, .int .i64 (h : Int), .int .u64 (rd 2 d : Nat), .int .i64 (d : Int)] w fun e w' => e = .returned (.tuple #[]) ∧ JR b n (hq x k d (s + 2)) w w' := by
  have hl : 2 ^ k ≤ 1048576 := Nat.le_trans (Nat.pow_le_pow_right (by decide) hk) (show 2 ^ 20 ≤ 1048576 by decide)
  have h0 : 0 < h := by rw [hh]; exact Nat.two_pow_pos s
  have hp := Nat.two_pow_pos k
  have e1 : n = 2 ^ (k - s - 2) * (4 * h) := by rw [hn, hh, show 4 = 2 ^ 2 from rfl, ← Nat.pow_add, ← Nat.pow_add, show k - s - 2 + (2 + s) = k by omega]
  have hla : 2 ^ k - 1 + 1 = 2 ^ k := by omega
  have hd2 : d = 0 ∨ d = 1 := by omega
  have M := fun c fr hfr i hi => mk_of x k d s h (2 ^ (k - s - 2)) (2 ^ k) (2 ^ k - 1) c fr i hk hd hs hh rfl rfl hla hi hfr
  have hu : rd 2 d < 18446744073709551616 := Nat.lt_trans (rd_lt 2 d) (by decide)
  rcases hd2 with rfl | rfl
  · rw [sgn_zero] at M
    exact joinQuarters_fwd b n ca h (4 * h) (2 ^ (k - s - 2)) (2 ^ (k - s - 2)) (2 ^ k) (2 ^ k - 1) (rd 2 0) bp 0 p _ (hq x k 0 s) (hq x k 0 (s + 2)) _ _ rfl h0 (by omega) e1 e1 (by omega) hca hla hl (rg_len _ _) (hq_lt x k 0 s hx) (hq_lt x k 0 (s + 2) hx) hu M w Z.c Z.p J Z.r
  · exact joinQuarters_inv b n ca h (4 * h) (2 ^ (k - s - 2)) (2 ^ (k - s - 2)) (2 ^ k) (2 ^ k - 1) (rd 2 1) bp 0 p _ (sgn 1 (2 ^ (k - s - 2))) (hq x k 1 s) (hq x k 1 (s + 2)) _ _ (sgn_one _) rfl h0 (by omega) e1 e1 (by omega) hca hla hl (rg_len _ _) (hq_lt x k 1 s hx) (hq_lt x k 1 (s + 2) hx) hu M w Z.c Z.p J Z.r

/-- The row's plain transform, in its place. -/
theorem plain_kg {w : World} {p p2 bf bi bp : Nat} (k d : Nat) (hk : k ≤ 20) (hd : d ≤ 1) (b n ca : Nat) (hn : n = 2 ^ k) (hca : n ≤ ca) (f : Nat → Nat) (hf : ∀ i, i < n → f i < 18446744073709551616) (hT : Ft.Tab w) (Z : Kg w b k p p2 bf bi bp) (J : JR b n f w w) :
    Calls Tryd.prog 9 #[.pointer (some ⟨p, 0, none⟩), .slice (some ⟨b, 0, none⟩) n ca, .int .i64 (d : Int)] w fun e w' => e = .returned (.int .i64 0) ∧ JR b n (tf f n (rd k d)) w w' := by
  by_cases h : k < 2
  · exact plain_small k h Z.c Z.z.c _ n ca d 0 (fun w' => JR b n (tf f n (rd k d)) w w') (Kn.plain_ka k d hk hd b n ca hn hca f hf hT Z.z J)
  have hl : n ≤ 1048576 := by rw [hn]; exact Nat.le_trans (Nat.pow_le_pow_right (by decide) hk) (show 2 ^ 20 ≤ 1048576 by decide)
  obtain ⟨x, hx⟩ : ∃ x : Nat → Nat, x = fun i => if i < n then f i else 0 := ⟨_, rfl⟩
  have xf : ∀ i, i < n → f i = x i := fun i hi => by rw [hx]; exact (if_pos hi).symm
  have xl : ∀ j, x j < 18446744073709551616 := fun j => by
    rw [hx]
    show (if j < n then f j else 0) < _
    split
    · exact hf j (by assumption)
    · decide
  have Jx : JR b n x w w := J.congr xf
  have R : Ws w w.heap.size (some ⟨b, 0, none⟩) (rg x n) := Jx.k.ws (fun i _ => xl i) Jx.s
  have U := unit_in d hd w
  have TU := fun W (hW : Below w.heap.size w W) => turn_rg (some ⟨b, 0, none⟩) ca n k x hn (by omega) W (hT.below hW) (R.step hW)
  have e2 : n = 2 ^ (k - 1) * (2 * 1) := by rw [hn, show 2 * 1 = 2 ^ 1 from rfl, ← Nat.pow_add, show k - 1 + 1 = k by omega]
  have JH := fun W (K : JR b n (hq x k d 0) W W) => joinHalves b n ca (2 ^ (k - 1)) e2 hl (hq x k d 0) (fun _ => 1) rfl (hq_lt x k d 0 xl) W K
  rw [hq_first x k d (by omega) (by omega)] at JH
  refine (plain_core k (k / 2) (k % 2) (rd 2 d) hk (by omega) (by omega) (by omega) Z.c Z.z.c b n ca d hn hl x _ (hq x k d) U TU (hq_zero x k d) (fun _ W K => JH W K)
    (fun s h hh hs W hW K => joinQuarters x xl k d s h b n ca p p2 bf bi bp hk hd hs hh hn hca W (Z.but hW) K) Jx).mono fun e w' ⟨h1, h2⟩ => ⟨h1, h2.congr fun j hj => ?_⟩
  rw [hq_pos x k d k (by omega), hv_all x k d j (by omega), ← hn]
  exact (tf_congr xf _ _).symm
theorem plain {w : World} {p p2 bf bi bp : Nat} (k d : Nat) (hk : k ≤ 20) (hd : d ≤ 1) (b n ca : Nat) (hn : n = 2 ^ k) (hca : n ≤ ca) (f : Nat → Nat) (hf : ∀ i, i < n → f i < 18446744073709551616) (hT : Ft.Tab w) (Z : Kf w b k p p2 bf bi bp) (J : JR b n f w w) :
    Calls Tryd.prog 9 #[.pointer (some ⟨p, 0, none⟩), .slice (some ⟨b, 0, none⟩) n ca, .int .i64 (d : Int)] w fun e w' => e = .returned (.int .i64 0) ∧ JR b n (tf f n (rd k d)) w w' :=
  plain_kg k d hk hd b n ca hn hca f hf hT (Z.aside (Nat.le_of_lt J.s)) J

set_option maxHeartbeats 400000 in
theorem run_bad (p A : Option Addr) (n ca : Nat) (d e : Int) (he : e ≠ 0) (w : World)
    (hP : Calls Tryd.prog 9 #[.pointer p, .slice A n ca, .int .i64 d] w fun e1 w' => e1 = .returned (.int .i64 e) ∧ w = w') :
    Calls Tryd.prog 8 #[.pointer p, .slice A n ca, .int .i64 d] w fun e1 w' => e1 = .returned (.int .i64 e) ∧ w = w' := by
  have C := Lib.hid hP
  have e1 : (e == 0) = false := by simp [he]
  clear hP he
  go_enter Tryd.func8, Tryd.ntmps8
  go_wp2_with fail
  refine C.out.mono ?_
  rintro e2 w1 ⟨rfl, rfl⟩
  go_wp2
  go_ret
  exact ⟨by simp, rfl⟩
set_option maxHeartbeats 400000 in
theorem run_fwd (p : Option Addr) (b n ca : Nat) (H : Nat → Nat) (w : World)
    (hP : Calls Tryd.prog 9 #[.pointer p, .slice (some ⟨b, 0, none⟩) n ca, .int .i64 0] w fun e1 w' => e1 = .returned (.int .i64 0) ∧ JR b n H w w') :
    Calls Tryd.prog 8 #[.pointer p, .slice (some ⟨b, 0, none⟩) n ca, .int .i64 0] w fun e1 w' => e1 = .returned (.int .i64 0) ∧ JR b n H w w' := by
  have C := Lib.hid hP
  clear hP
  go_enter Tryd.func8, Tryd.ntmps8
  go_wp2_with fail
  refine C.out.mono ?_
  rintro e2 w1 ⟨rfl, J⟩
  have J1 := Lib.hid J
  clear J
  go_wp2
  go_ret
  exact ⟨by simp, J1.out⟩
set_option maxHeartbeats 1000000 in
theorem run_inv (p b n ca sh : Nat) (H G : Nat → Nat) (w : World) {v0 v1 : Value} (C0 : Cq w p v0 v1 (.int .u64 (sh : Nat))) (hp : p ≠ b)
    (hP : Calls Tryd.prog 9 #[.pointer (some ⟨p, 0, none⟩), .slice (some ⟨b, 0, none⟩) n ca, .int .i64 1] w fun e1 w' => e1 = .returned (.int .i64 0) ∧ JR b n H w w')
    (hS : ∀ W, Wk W b 0 n H → b < W.heap.size → Calls Tryd.prog 21 #[.slice (some ⟨b, 0, none⟩) n ca, .int .u64 (sh : Nat)] W (RwN G n W)) :
    Calls Tryd.prog 8 #[.pointer (some ⟨p, 0, none⟩), .slice (some ⟨b, 0, none⟩) n ca, .int .i64 1] w fun e1 w' => e1 = .returned (.int .i64 0) ∧ JR b n G w w' := by
  have C := Lib.hid hP
  have S := Lib.hid hS
  clear hP hS
  go_enter Tryd.func8, Tryd.ntmps8
  go_wp2_with fail
  refine C.out.mono ?_
  rintro e2 w1 ⟨rfl, J⟩
  have C1 := (C0.but hp J.o).c2
  go_wp2_with fail
  refine (S.out _ J.k J.s).mono ?_
  rintro e3 w2 ⟨b2, rfl, hb2, hl2, K2, d2⟩
  have J2 := (J.call d2)
  have J3 := J2.self
  have B2 := J2.o
  have s2 := J2.s
  clear C1 C S C0 J d2 J2
  go_wp2_with ((refine copy_all w2 ?hgd (.tmp 18) (.tmp 24) ?ho b n ca b2 n H G ?hd ?hs J3 K2 (fun w3 J4 => ?_)); (case hgd => rfl); (case ho => rfl); (case hd => rfl); (case hs => rfl))
  have J5 := Lib.hid (J4.trans B2)
  clear J4 J3 K2
  go_wp2
  go_ret
  exact ⟨by simp, J5.out⟩
/-- The row's transform, in its place. -/
theorem run_kg {w : World} {p p2 bf bi bp : Nat} (k d : Nat) (hk : k ≤ 20) (hd : d ≤ 1) (b n ca : Nat) (hn : n = 2 ^ k) (hca : n ≤ ca) (f : Nat → Nat) (hf : ∀ i, i < n → f i < 18446744073709551616) (hT : Ft.Tab w) (Z : Kg w b k p p2 bf bi bp) (J : JR b n f w w) :
    Calls Tryd.prog 8 #[.pointer (some ⟨p, 0, none⟩), .slice (some ⟨b, 0, none⟩) n ca, .int .i64 (d : Int)] w fun e w' => e = .returned (.int .i64 0) ∧ JR b n (ft k d f) w w' := by
  have P := plain_kg k d hk hd b n ca hn hca f hf hT Z J
  have hl : n ≤ 1048576 := by rw [hn]; exact Nat.le_trans (Nat.pow_le_pow_right (by decide) hk) (show 2 ^ 20 ≤ 1048576 by decide)
  have hd2 : d = 0 ∨ d = 1 := by omega
  rcases hd2 with rfl | rfl
  · refine (run_fwd _ b n ca _ w P).mono fun e w' ⟨h1, h2⟩ => ⟨h1, h2.congr fun j _ => ?_⟩
    rw [ft_zero, rd_zero, hn]
  · refine (run_inv p b n ca _ _ (fun i => Pn.pl (rg (tf f n (rd k 1)) n) i * Nt.inv (2 ^ k) % 18446744069414584321) w Z.c Z.p P (fun W K hb => scale _ ca n _ (rg_len _ _) hl _ (Nat.lt_trans (Nt.inv_lt _) (by decide)) W (wk_ws K (fun i => tf_lt _ _ _ _) hb))).mono fun e w' ⟨h1, h2⟩ => ⟨h1, h2.congr fun j hj => ?_⟩
    rw [pl_rg _ _ _ hj]
    unfold ft
    rw [sc_other k 1 (by decide), hn]
theorem run {w : World} {p p2 bf bi bp : Nat} (k d : Nat) (hk : k ≤ 20) (hd : d ≤ 1) (b n ca : Nat) (hn : n = 2 ^ k) (hca : n ≤ ca) (f : Nat → Nat) (hf : ∀ i, i < n → f i < 18446744073709551616) (hT : Ft.Tab w) (Z : Kf w b k p p2 bf bi bp) (J : JR b n f w w) :
    Calls Tryd.prog 8 #[.pointer (some ⟨p, 0, none⟩), .slice (some ⟨b, 0, none⟩) n ca, .int .i64 (d : Int)] w fun e w' => e = .returned (.int .i64 0) ∧ JR b n (ft k d f) w w' :=
  run_kg k d hk hd b n ca hn hca f hf hT (Z.aside (Nat.le_of_lt J.s)) J
theorem run_len {w : World} {B p p2 bf bi bp : Nat} (k : Nat) (hk : k ≤ 20) (Z : Kf w B k p p2 bf bi bp) (A : Option Addr) (n ca : Nat) (d : Int) (hn : n ≠ 2 ^ k) :
    Calls Tryd.prog 8 #[.pointer (some ⟨p, 0, none⟩), .slice A n ca, .int .i64 d] w fun e w' => e = .returned (.int .i64 4) ∧ w = w' := run_bad _ A n ca d 4 (by decide) w (plain_len k hk Z A n ca d hn)
theorem run_kind {w : World} {B p p2 bf bi bp : Nat} (k : Nat) (hk : k ≤ 20) (Z : Kf w B k p p2 bf bi bp) (A : Option Addr) (n ca : Nat) (d : Int) (hn : n = 2 ^ k) (h0 : d ≠ 0) (h1 : d ≠ 1) :
    Calls Tryd.prog 8 #[.pointer (some ⟨p, 0, none⟩), .slice A n ca, .int .i64 d] w fun e w' => e = .returned (.int .i64 18) ∧ w = w' := run_bad _ A n ca d 18 (by decide) w (plain_kind k hk Z A n ca d hn h0 h1)
end Kq
end Go.Proofs.YtfkhnfaammfbeaaDoor
