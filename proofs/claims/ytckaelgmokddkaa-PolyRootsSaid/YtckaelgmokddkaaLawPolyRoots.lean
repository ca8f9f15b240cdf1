/- PolyRoots: of every row of roots the law of the polynomial of roots answers true, and changes nothing. -/
import Derived.Test.YtckaelgmokddkaaFrame
import Derived.Test.YtckaelgmokddkaaPolyG
set_option linter.unusedVariables false
namespace Go.Proofs.Ytckaelgmokddkaa.polyRoots
open Go.ChangeShapes Go.WideShapes Go.ChangeAt Go.RowKit
open Ww Pn Nt Pl

set_option maxHeartbeats 2000000 in
set_option maxRecDepth 100000 in
theorem walk_long (A : Option Addr) (ca : Nat) (xs : List Nat) (hl : 20 < xs.length) (w : World) :
    Calls Try.prog 5 #[.slice A xs.length ca] w fun e w' => e = .returned (.bool true) ∧ Below w.heap.size w w' := by
  have h1 : 20 < (xs.length : Int) := by omega
  go_enter Try.func5, Try.ntmps5
  go_wp2_with fail
  refine (Pl.awake _).mono ?_
  rintro e w1 ⟨rfl, c1⟩
  go_wp2
  go_ret
  exact ⟨by simp [go_sem], c1⟩

/-- The document's own product by x - a, whose row was laid just now. -/
theorem rmul_lin (A : Option Addr) (ca : Nat) (xs : List Nat) (i g : Nat) (hi : i ≤ 1000) (hg : g = (18446744069414584321 - pl xs i % 18446744069414584321) % 18446744069414584321) (w : World) (R : Ws w w.heap.size A (frl xs i)) :
    Calls Try.prog 11 #[.slice A (i + 1) ca, .slice (some ⟨w.heap.size, 0, none⟩) 2 2] (w.alloc (.cells #[.int .u64 (g : Nat), .int .u64 1] 23)) (Row (frl xs (i + 1)) w) := by
  have hb := below_alloc w (.cells #[.int .u64 (g : Nat), .int .u64 1] 23)
  have M := rmul A (some ⟨w.heap.size, 0, none⟩) ca 2 (frl xs i) [g, 1] (by rw [frl_len]; omega) (by simp) _ (R.step hb) (ws_lin w g (by rw [hg]; exact mod64 _) _)
  rw [frl_len] at M
  refine M.mono ?_
  rintro e w' ⟨zs, A1, c1, hz, hc, rfl, R1, hb1⟩
  obtain rfl : zs = frl xs (i + 1) := frl_eq xs i hz (fun j => by rw [hc, ln_eq, hg])
  exact ⟨A1, c1, rfl, R1, hb.trans (hb1.mono hb.size)⟩
set_option maxHeartbeats 2000000 in
set_option maxRecDepth 100000 in
theorem walk_short (A : Option Addr) (ca : Nat) (xs : List Nat) (hl : xs.length ≤ 20) (w : World) (R : Ws w w.heap.size A xs) :
    Calls Try.prog 5 #[.slice A xs.length ca] w fun e w' => e = .returned (.bool true) ∧ Below w.heap.size w w' := by
  have h1 : ¬ 20 < (xs.length : Int) := by omega
  have FR := Lib.hid (fun W R => fromRoots A ca xs (by omega) W R)
  have ML := Lib.hid (fun A1 c1 i g hi hg W R => rmul_lin A1 c1 xs i g hi hg W R)
  have LE := Lib.hid (frl_len xs)
  have AT := Lib.hid (fun (A1 : Option Addr) (c1 i : Nat) (hi : i < xs.length) (h : pl xs i < 18446744073709551616) W (R : Ws W W.heap.size A1 (frl xs xs.length)) =>
    show Calls Try.prog 16 #[.slice A1 (frl xs xs.length).length c1, .int .u64 (pl xs i : Nat)] W fun e w' => e = .returned (.int .u64 0) ∧ W = w' by
      have c := rat A1 c1 (frl xs xs.length) (pl xs i) h (by rw [frl_len]; omega) W R
      rw [frl_root xs xs.length i hi] at c
      exact c)
  have SU := Lib.hid (fun x W => show Calls Try.prog 25 #[.int .u64 0, .int .u64 (x : Nat)] W fun e w' => e = .returned (.int .u64 (((18446744069414584321 - x % 18446744069414584321) % 18446744069414584321 : Nat) : Int)) ∧ W = w' by
    have c := Gr.sub 0 x W
    rw [Nat.zero_add] at c
    exact c)
  have SA := Lib.hid (fun (A1 A2 : Option Addr) (n m ca cb : Nat) (hn : n = (frl xs xs.length).length) (hm : m = (frl xs xs.length).length) W Ra Rb => Sm.same A1 A2 n m ca cb (frl xs xs.length) hn hm (by rw [frl_len]; omega) W Ra Rb)
  go_enter Try.func5, Try.ntmps5
  go_wp2_with fail
  refine (Pl.awake _).mono ?_
  rintro e w1 ⟨rfl, c1⟩
  have X1 := R.step c1
  go_wp2_with fail
  refine (FR.out _ X1).mono ?_
  rintro e w2 ⟨A2, k2, rfl, Z2, d2⟩
  have c2 := c1.trans (d2.mono c1.size)
  have X2 := X1.step d2
  have LZ := Lib.hid (LE.out xs.length)
  obtain ⟨n3, hn3⟩ : ∃ n3, n3 = (frl xs xs.length).length := ⟨_, rfl⟩
  have hq : ((n3 : Int) == (xs.length : Int) + 1) = true := by rw [hn3, LZ.out]; simp
  rw [← hn3]
  have HN := Lib.hid hn3
  have S0 := Lib.hid (show Ws (w2.alloc (.cells #[.int .u64 1] 23)) (w2.alloc (.cells #[.int .u64 1] 23)).heap.size (some ⟨w2.heap.size, 0, none⟩) (frl xs 0) from ws_lit1 w2 _)
  have B0 := Lib.hid (below_alloc w2 (.cells #[.int .u64 1] 23))
  clear d2 c1 X1 hn3 R FR
  go_wp2_with fail
  go_loopw [5, 6] (fun v5 v6 wr => ∃ (i n : Nat) (A1 : Option Addr) (c1 : Nat), v6 = .int .i64 (i : Int) ∧ v5 = .slice A1 n c1 ∧ n = i + 1 ∧ i ≤ xs.length ∧ Ws wr wr.heap.size A1 (frl xs i) ∧ Below w2.heap.size w2 wr) (fun _ v6 _ => xs.length - (Lib.intOf v6).toNat)
  case atStart => exact ⟨0, 1, _, 1, rfl, rfl, rfl, Nat.zero_le _, S0.out, B0.out⟩
  case round =>
    obtain ⟨i, n, A1, k1, rfl, rfl, hn, hi, Y, hbl⟩ := hrel
    clear S0 B0
    have Z3 := (Z2.below hbl).more hbl.size
    by_cases hlt : i < xs.length
    · have i1 : (i : Int) < xs.length := by omega
      have X3 := (X2.below hbl).more hbl.size
      obtain ⟨b, off, rfl, hB, c⟩ := X3.at_ i hlt
      have c3 : wr.cell? ⟨b, off + i, none⟩ = some (.int .u64 (pl xs i : Nat)) := c
      have N := Lib.hid (SU.out (pl xs i))
      have T := AT.out A2 k2 i hlt (X3.lt i hlt) wr Z3
      rw [← HN.out] at T
      have T := Lib.hid T
      obtain ⟨g, hg⟩ : ∃ g, g = (18446744069414584321 - pl xs i % 18446744069414584321) % 18446744069414584321 := ⟨_, rfl⟩
      have M := ML.out A1 k1 i g (by omega) hg wr Y
      obtain ⟨zs1, hzs⟩ : ∃ z, z = frl xs (i + 1) := ⟨_, rfl⟩
      rw [← hzs, ← hn] at M
      have M := Lib.hid M
      rw [← hg] at N
      have LI := Lib.hid (LE.out (i + 1))
      have HZ := Lib.hid hzs
      clear c hg hn hzs
      generalize pl xs i = x at *
      go_wp2_with fail
      refine T.out.mono ?_
      rintro e w3 ⟨rfl, rfl⟩
      go_wp2_with fail
      refine (N.out _).mono ?_
      rintro e w3 ⟨rfl, rfl⟩
      go_wp2_with fail
      refine M.out.mono ?_
      rintro e w3 ⟨A4, c4, rfl, Y4, d4⟩
      have b4 := hbl.trans (d4.mono hbl.size)
      go_wp2_with fail
      go_roundw
      case rel => exact ⟨i + 1, zs1.length, A4, c4, rfl, rfl, by rw [HZ.out]; exact LI.out, by omega, by rw [← HZ.out]; exact Y4, b4⟩
      case measure => simp [Lib.intOf]; omega
    · have i1 : ¬ (i : Int) < xs.length := by omega
      obtain rfl : i = xs.length := by omega
      have Q := Lib.hid (SA.out A2 A1 n3 n k2 k1 HN.out (by rw [hn, LE.out]) wr Z3 Y)
      have cf := c2.trans (hbl.mono c2.size)
      clear hn Y Z3
      go_wp2_with fail
      refine Q.out.mono ?_
      rintro e w4 ⟨rfl, d4⟩
      go_wp2
      go_ret
      exact ⟨by simp [go_sem], cf.trans (d4.mono cf.size)⟩

theorem walk (A : Option Addr) (ca : Nat) (xs : List Nat) (w : World) (R : Ws w w.heap.size A xs) :
    Calls Try.prog 5 #[.slice A xs.length ca] w fun e w' => e = .returned (.bool true) ∧ Below w.heap.size w w' := by
  by_cases h : 20 < xs.length
  · exact walk_long A ca xs h w
  · exact walk_short A ca xs (by omega) w R

set_option maxRecDepth 100000 in
theorem lifted (os : Os) (started : os.Started) (H : Type) (enc : TypeId × Value → H) :
    ReturnsInHanded {} Try.checked os 5 .any (Rows.polyRootsSpec.pre6 enc Try.prog Try.f5 Rows.polyRootsRow.domain false) (Rows.polyRootsSpec.post enc Try.prog Try.f5 false true false false) := by
  refine returnsInHanded_of_change (C := Try.checked) Fr.own started (by kernel_rfl) Try.func5
    (ChangeSpec.witness6 (enc := enc) (C := Try.checked) false ⟨#[], #[.slice none 0 0], []⟩ 8 (by kernel_rfl) (by kernel_rfl) (by kernel_rfl) (by kernel_rfl)) ?_
  intro W base args ds gs before hval0 hW hcnd _
  have hval : ∀ (j : Nat) t v, Try.f5.params[j]? = some t → args[j]? = some v → Value.okWide Try.prog W .any base t v := hval0
  have hW' := hW
  obtain ⟨p, q, hA0, hV, rfl, hfz, hnd⟩ := hW
  have hA : DataW.TrodAll enc Try.prog W 0 (fun _ => true) true Try.f5.params.toList args.toList ds p := hA0
  obtain ⟨rfl, rfl⟩ := trodVars_none hV
  rw [Try.params5] at hA hval
  obtain ⟨v0, vs0, d0, ds0, p0, q0, hargs, rfl, rfl, h0, r0⟩ := trodAll_cons hA
  obtain ⟨rfl, rfl, rfl⟩ := trodAll_nil r0
  obtain rfl : args = #[v0] := by cases args; simp_all
  obtain ⟨A0, n0, c0, rfl⟩ := okWide_slice Try.underlying22 (hval 0 22 v0 rfl rfl)
  obtain ⟨fuel0, hf0⟩ := h0
  obtain ⟨xs0, rfl, lc0, lm0, R0⟩ := Ww.open_words hf0
  simp only [List.append_nil] at hW' hA0
  refine (walk A0 c0 xs0 W R0).mono fun e W' ⟨he, hb⟩ => ?_
  subst he
  exact ⟨_, rfl, Fr.law_post (tb := 4) hW' hA0 rfl rfl rfl Try.underlying4 (by rw [Try.params5]; intro t ht; simp at ht; rcases ht with rfl; all_goals exact ⟨by kernel_rfl, of_decide_eq_true (by kernel_rfl)⟩) hb⟩

theorem proved : Rows.PolyRootsSaid :=
  OpenClaim.holds_of_wide 5 Try.f5 rfl rfl rfl rfl rfl rfl rfl ⟨rfl, rfl, rfl, rfl, rfl⟩ rfl rfl rfl rfl rfl (by kernel_rfl) Try.func5 (by kernel_rfl)
    (of_decide_eq_true (by kernel_rfl)) (by unfold Func.isWrapper; first | (rw [if_pos (by decide +kernel)]; kernel_rfl) | (rw [if_neg (by decide +kernel)]; exact ⟨rfl, rfl⟩))
    (fun os started H enc _ => lifted os started H enc)
end Go.Proofs.Ytckaelgmokddkaa.polyRoots
