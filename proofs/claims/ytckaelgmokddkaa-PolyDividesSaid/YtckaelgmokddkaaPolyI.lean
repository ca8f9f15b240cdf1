/- Contracts of package poly: Div. -/
import Derived.Test.YtckaelgmokddkaaPolyH
set_option linter.unusedVariables false
namespace Go.Proofs.Ytckaelgmokddkaa
open Go.RowKit Go.Lib Go.Sort
namespace Pl
open Ww Pn Nt

/-- What Div answers. -/
def DvOut (xs ys : List Nat) (w : World) (e : Ending) (w' : World) : Prop :=
  ∃ (qs rs : List Nat) (A1 : Option Addr) (c1 : Nat) (A2 : Option Addr) (c2 : Nat), Nf 18446744069414584321 qs ∧ Nf 18446744069414584321 rs ∧ rs.length < (tr 18446744069414584321 ys).length ∧ qs.length ≤ xs.length ∧
    (∀ i, (conv (pl qs) (pl ys) i + pl rs i) % 18446744069414584321 = pl xs i % 18446744069414584321) ∧ e = .returned (.tuple #[.slice A1 qs.length c1, .slice A2 rs.length c2, .int .i64 0]) ∧ Ws w' w'.heap.size A1 qs ∧ Ws w' w'.heap.size A2 rs ∧ Below w.heap.size w w'
/-- Two blocks of one's own: the rest's, the quotient's. -/
structure Dw (br L bq N : Nat) (f g : Nat → Nat) (w wr : World) : Prop where
  r : Wk wr br 0 L f
  q : Wk wr bq 0 N g
  ne : br < bq
  s : bq < wr.heap.size
  hb : w.heap.size ≤ br
  bel : Below w.heap.size w wr
section
variable {br L bq N : Nat} {f g f' : Nat → Nat} {w wr w1 : World}
theorem Dw.call (h : Dw br L bq N f g w wr) (hc : Below wr.heap.size wr w1) : Dw br L bq N f g w w1 := ⟨h.r.step hc, h.q.step hc, h.ne, Nat.lt_of_lt_of_le h.s hc.size, h.hb, h.bel.trans (hc.mono h.bel.size)⟩
theorem Dw.drew (h : Dw br L bq N f g w wr) : Dw br L bq N f g w wr.drew := ⟨h.r.drew, h.q.drew, h.ne, h.s, h.hb, h.bel.drew⟩
theorem Dw.put (h : Dw br L bq N f g w wr) (i v : Nat) (hi : i < N) : Dw br L bq N f (upd g i v) w (wr.setCell ⟨bq, i, none⟩ (.int .u64 (v : Nat))) := by
  have K1 := h.q.put i v hi
  rw [Nat.zero_add] at K1
  have ne := h.ne
  have hb := h.hb
  exact ⟨h.r.other (a := ⟨bq, i, none⟩) (by show bq ≠ br; omega) _, K1, ne, by simp [World.setCell]; exact h.s, hb, h.bel.setCell (p := ⟨bq, i, none⟩) (by show w.heap.size ≤ bq; omega) _⟩
theorem Dw.take (h : Dw br L bq N f g w wr) (t : Ta br L f' wr w1) : Dw br L bq N f' g w w1 :=
  have ne := h.ne
  have s := h.s
  ⟨t.k, t.o.wk (by omega) s h.q, ne, Nat.lt_of_lt_of_le s t.o.bel.size, h.hb, h.bel.trans (t.o.bel.mono h.hb)⟩
theorem Dw.at_r (h : Dw br L bq N f g w wr) (i : Nat) (hi : i < L) : wr.cell? ⟨br, i, none⟩ = some (.int .u64 (f i : Nat)) := by
  have c := h.r.c i hi
  rwa [Nat.zero_add] at c
theorem Dw.at_q (h : Dw br L bq N f g w wr) (i : Nat) (hi : i < N) : wr.cell? ⟨bq, i, none⟩ = some (.int .u64 (g i : Nat)) ∧ wr.frozen? ⟨bq, i, none⟩ = false := by
  have c := h.q.c i hi
  have z := h.q.z i hi
  rw [Nat.zero_add] at c z
  exact ⟨c, z⟩
end
theorem sizeU (W : World) : (Go.sizeOf 23).run Try.prog W = .ok 1 W := by
  simp [Go.sizeOf]
  rfl
/-- s[j:], s[:h]. -/
theorem slice_from (W : World) (b L j n : Nat) (hj : j < L) (hn : j + n = L) : (Instr.slice 22 (.slice (some ⟨b, 0, none⟩) L L) (some (.int .i64 (j : Int))) none none).run Try.prog W = .ok (.slice (some ⟨b, j, none⟩) n n) W := by
  have ht := Try.underlying22
  have ht' : Try.prog.underlying 22 = some (.slice (Try.prog.elem 22)) := by simp [Program.elem, ht]
  have he : Try.prog.elem 22 = 23 := by simp [Program.elem, ht]
  rw [run_slice_l W 22 _ _ _ ht' .i64 _ (by omega) (by omega), he, sizeU]
  have h0 : ¬ L = j := by omega
  have h2 : L - j = n := by omega
  by_cases h1 : j = 0
  · subst h1; simp at h2; simp [Result.andThen, sliced, Addr.add, h2]
  · simp [Result.andThen, sliced, Addr.add, h0, h1, h2]
theorem slice_upto (W : World) (b off len cap h : Nat) (hh : h ≤ cap) : (Instr.slice 22 (.slice (some ⟨b, off, none⟩) len cap) none (some (.int .i64 (h : Int))) none).run Try.prog W = .ok (.slice (some ⟨b, off, none⟩) h cap) W := by
  have ht := Try.underlying22
  have ht' : Try.prog.underlying 22 = some (.slice (Try.prog.elem 22)) := by simp [Program.elem, ht]
  have he : Try.prog.elem 22 = 23 := by simp [Program.elem, ht]
  rw [run_slice_h W 22 _ _ _ ht' .i64 _ (by omega) (by omega), he, sizeU]
  simp [Result.andThen, sliced, Addr.add]
theorem ws_take {w : World} {B : Nat} {A : Option Addr} {xs : List Nat} (R : Ws w B A xs) (n : Nat) : Ws w B A (xs.take n) := by
  have hl : (xs.take n).length ≤ n ∧ (xs.take n).length ≤ xs.length := by rw [List.length_take]; omega
  have e : ∀ i, i < (xs.take n).length → (xs.take n).getD i 0 = xs.getD i 0 := fun i hi => pl_take xs n i (by omega)
  exact ⟨fun i hi => by rw [e i hi]; exact R.at_ i (by omega), fun i hi => by rw [e i hi]; exact R.lt i (by omega)⟩
theorem dv_out {xs ys : List Nat} {d L N : Nat} (hd : (tr 18446744069414584321 ys).length = d + 1) (hN : N ≤ xs.length) {f g : Nat → Nat} (D : DI 18446744069414584321 (pl xs) (pl ys) d N 0 g f) (hz : ∀ i, L ≤ i → f i = 0) {br bq : Nat} {w wr w5 : World} (W : Dw br L bq N f g w wr)
    {A5 : Option Addr} (c5 : Nat) (R5 : Ws w5 w5.heap.size A5 (tr 18446744069414584321 (rg f L))) (d5 : Below wr.heap.size wr w5) : DvOut xs ys w (.returned (.tuple #[.slice (some ⟨bq, 0, none⟩) N N, .slice A5 (tr 18446744069414584321 (rg f L)).length c5, .int .i64 0])) w5 := by
  obtain ⟨q1, q2⟩ := D.quo (qs := rg g N) (rg_len g N) (fun i hi => pl_rg g N i hi)
  obtain ⟨r1, r2⟩ := D.rest (by decide) (fs := rg f L) (fun i => by
    by_cases hi : i < L
    · exact pl_rg f L i hi
    · rw [pl_far _ _ (by rw [rg_len]; omega), hz i (by omega)])
  have lq := rg_len g N
  refine ⟨rg g N, _, some ⟨bq, 0, none⟩, N, A5, c5, q1, tr_nf (by decide) _, by omega, by omega, fun i => ?_, by rw [lq], (W.q.ws (fun i _ => Nat.lt_trans (D.glt i) (by decide)) W.s).step d5, R5, W.bel.trans (d5.mono W.bel.size)⟩
  rw [r2, conv_congr q2 (fun _ => rfl)]
  exact D.e i

set_option maxHeartbeats 4000000 in
set_option maxRecDepth 100000 in
theorem div (A B : Option Addr) (ca cb : Nat) (xs ys : List Nat) (hx : xs.length ≤ 4096) (hy : ys.length ≤ 4096) (hcb : ys.length ≤ cb) (d : Nat) (hd : (tr 18446744069414584321 ys).length = d + 1) (w : World) (Ra : Ws w w.heap.size A xs) (Rb : Ws w w.heap.size B ys) :
    Calls Try.prog 26 #[.slice A xs.length ca, .slice B ys.length cb] w (DvOut xs ys w) := by
  have DE := degree B cb ys (by omega) w Rb
  rw [hd, show (((d + 1 : Nat) : Int) - 1) = (d : Int) by omega] at DE
  have DE := Lib.hid DE
  have LO := Lib.hid (longest (some ⟨w.heap.size, 0, none⟩) 2 [xs, ys] (by simp) _ (rs_two ca cb Ra Rb 22))
  have hm := mx_two xs ys hx hy
  have b0 := below_alloc w (.cells #[.slice A xs.length ca, .slice B ys.length cb] 22)
  have Ra0 := Ra.step b0
  have Rb0 := Rb.step b0
  have hly := tr_len_le 18446744069414584321 ys
  have hlx := tr_len_le 18446744069414584321 xs
  have hd1 : d < ys.length := by omega
  have hne : pl ys d % 18446744069414584321 ≠ 0 := by
    have := (tr_nf (m := 18446744069414584321) (by decide) ys).last (by omega)
    rw [pl_tr, hd, Nat.add_sub_cancel] at this
    exact this
  have hfar : ∀ i, d < i → pl ys i % 18446744069414584321 = 0 := fun i hi => by rw [← pl_tr, pl_far _ _ (by omega)]
  obtain ⟨v, hv⟩ : ∃ v, v = Nt.inv (pl ys d) := ⟨_, rfl⟩
  have v64 : v < 18446744073709551616 := by rw [hv]; exact Nat.lt_trans (Nt.inv_lt _) (by decide)
  have hv1 : v * pl ys d % 18446744069414584321 = 1 := by rw [hv]; exact Nt.inv_mul _ hne
  have IV := Lib.hid (fun (h : pl ys d < 18446744073709551616) W => show Calls Try.prog 38 #[.int .u64 (pl ys d : Nat)] W fun e w' => e = .returned (.tuple #[.int .u64 (v : Nat), .int .i64 0]) ∧ Below W.heap.size W w' by rw [hv]; exact Gd.inv_some (pl ys d) h hne W)
  have T1 := Lib.hid (fun W R => show Calls Try.prog 12 #[.slice A xs.length ca] W fun e w' => e = .returned (.slice (some ⟨W.heap.size, 0, none⟩) (tr 18446744069414584321 xs).length (tr 18446744069414584321 xs).length) ∧ Wk w' W.heap.size 0 (tr 18446744069414584321 xs).length (fun i => pl xs i % 18446744069414584321) ∧ W.heap.size < w'.heap.size ∧ Below W.heap.size W w' from
    trim_out A ca xs (by omega) W R)
  have S0 := DI.start (m := 18446744069414584321) (by decide) xs (pl ys) d
  have Z0 := Lib.hid (fun i (hi : (tr 18446744069414584321 xs).length ≤ i) => show pl xs i % 18446744069414584321 = 0 by rw [← pl_tr, pl_far _ _ hi])
  obtain ⟨N, hN⟩ : ∃ N, N = (tr 18446744069414584321 xs).length - d := ⟨_, rfl⟩
  obtain ⟨q, hq⟩ : ∃ q : Int, q = ((tr 18446744069414584321 xs).length : Int) - (d : Int) := ⟨_, rfl⟩
  have zw : IntKind.i64.wrap (((tr 18446744069414584321 xs).length : Int) - (d : Int)) = q := by rw [IntKind.wrap_i64]; omega
  have hmax : max (0 : Int) q = (N : Int) := by omega
  rw [← hN] at S0
  obtain ⟨qs, hqs⟩ : ∃ qs, qs = ys.take (d + 1) := ⟨_, rfl⟩
  have hql : qs.length = d + 1 := by rw [hqs, List.length_take]; omega
  have hqe : ∀ i, i ≤ d → pl qs i = pl ys i := fun i hi => by rw [hqs]; exact pl_take ys (d + 1) i (by omega)
  have QW := Lib.hid (fun (W : World) (B' : Nat) (B : Option Addr) (R : Ws W B' B ys) => show Ws W B' B qs by rw [hqs]; exact ws_take R (d + 1))
  have NL : 0 < N → N + d = (tr 18446744069414584321 xs).length := by omega
  have NX : N ≤ xs.length := by omega
  have OUT := Lib.hid (fun (f g : Nat → Nat) (D : DI 18446744069414584321 (pl xs) (pl ys) d N 0 g f) hz (br bq : Nat) (wr w5 : World) W A5 c5 R5 d5 => dv_out (L := (tr 18446744069414584321 xs).length) hd NX (f := f) (g := g) D hz (br := br) (bq := bq) (w := w) (wr := wr) (w5 := w5) W (A5 := A5) c5 R5 d5)
  have DS := Lib.hid (fun k g f (h : DI 18446744069414584321 (pl xs) (pl ys) d N (k + 1) g f) (hk : k < N) => DI.step Nt.prime (by decide) h hk hql hqe hfar hv1 (upd g k (f (k + d) * v % 18446744069414584321)) (fun i => rfl))
  have TA := Lib.hid (fun (b j n cr c : Nat) (B : Option Addr) (f : Nat → Nat) hc hn hq hL hf W K hb R => takeAway b j (tr 18446744069414584321 xs).length n cr B cb qs c f hc hn hq hL hf W K hb R)
  obtain ⟨dd, hdd⟩ : ∃ dd, dd = d + 1 := ⟨_, rfl⟩
  rw [hql, ← hdd] at TA
  have ddw : IntKind.i64.wrap ((d : Int) + 1) = (dd : Int) := by rw [IntKind.wrap_i64]; omega
  have HDD := Lib.hid hdd
  have S0 := Lib.hid S0
  have HNL := Lib.hid NL
  have hy2 := pl64 Rb d
  have I := Lib.hid (IV.out hy2)
  have MU := Lib.hid (fun x (h : x < 18446744073709551616) W => Gd.mul x v h v64 W)
  generalize (tr 18446744069414584321 xs).length = L at *
  have mk := make_words N (by omega) (by omega)
  obtain ⟨b1, off1, rfl, hB1, -⟩ := Rb.at_ d hd1
  have hs2 := fun W => slice_upto W b1 off1 ys.length cb dd (by omega)
  clear hv hv1 hne hfar hqs hqe NL hq hN hd v64 IV hy2 hdd hql
  generalize mx [xs, ys] 2 = mxv at *
  go_enter Try.func26, Try.ntmps26
  go_wp2_with fail
  refine DE.out.mono ?_
  rintro e w1 ⟨rfl, rfl⟩
  go_wp2_with fail
  refine LO.out.mono ?_
  rintro e w1 ⟨rfl, rfl⟩
  generalize w.alloc (.cells #[.slice A xs.length ca, .slice (some ⟨b1, off1, none⟩) ys.length cb] 22) = w1 at *
  have d2 : (d : Int) < ys.length := by omega
  obtain ⟨_, _, e1, hB2, c1⟩ := Rb0.at_ d hd1
  obtain ⟨rfl, rfl⟩ : b1 = _ ∧ off1 = _ := by simpa using e1
  have c2 : w1.cell? ⟨b1, off1 + d, none⟩ = some (.int .u64 (pl ys d : Nat)) := c1
  clear c1 e1 LO DE
  generalize pl ys d = yd at *
  go_wp2_with fail
  refine (I.out _).mono ?_
  rintro e w2 ⟨rfl, hb2⟩
  have e2 := b0.trans (hb2.mono b0.size)
  have Ra2 := Ra0.step hb2
  have Rb2 := Rb0.step hb2
  clear b0 hb2 Ra0 Rb0 c2 I hm
  go_wp2_with fail
  refine (T1.out _ Ra2).mono ?_
  rintro e w3 ⟨rfl, K3, s3, hb3⟩
  have e3 := e2.trans (hb3.mono e2.size)
  have Rb3 := Rb2.below hb3
  have s2 := e2.size
  clear T1 Ra2 Rb2
  have ST := Lib.hid (show Dw w2.heap.size L w3.heap.size N (fun i => pl xs i % 18446744069414584321) (fun _ => 0) w (w3.alloc (.cells (madeCells #[.int .u64 0] N) 23)) from
    ⟨K3.step (below_alloc w3 _), Wk.made w3 N _, s3, by simp, s2, e3.alloc e3.size _⟩)
  have SB := Lib.hid (Rb3.alloc (Nat.le_of_lt s3) (.cells (madeCells #[.int .u64 0] N) 23))
  clear K3 Rb3 e3 hb3
  go_wp2_with fail
  go_loopw [10] (fun v10 wr => ∃ (k : Nat) (z : Int) (f g : Nat → Nat), v10 = .int .i64 z ∧ z = (k : Int) - 1 ∧ k ≤ N ∧ DI 18446744069414584321 (pl xs) (pl ys) d N k g f ∧ (∀ i, L ≤ i → f i = 0) ∧ Dw w2.heap.size L w3.heap.size N f g w wr ∧ Ws wr w2.heap.size (some ⟨b1, off1, none⟩) ys) (fun v10 _ => (Lib.intOf v10 + 1).toNat)
  case atStart => exact ⟨N, _, _, _, rfl, rfl, Nat.le_refl _, S0.out, Z0.out, ST.out, SB.out⟩
  case round =>
    obtain ⟨k, z, f, g, rfl, hz, hk, D, FZ, W, RY⟩ := hrel
    have D := Lib.hid D
    have FZ := Lib.hid FZ
    clear S0 Z0 ST SB mk
    cases k with
    | zero =>
      obtain rfl : z = -1 := by simpa using hz
      have T := trim (some ⟨w2.heap.size, 0, none⟩) L (rg f L) (by rw [rg_len]; omega) wr (W.r.ws (fun i _ => Nat.lt_trans (D.out.flt i) (by decide)) (Nat.lt_trans W.ne W.s))
      rw [rg_len] at T
      have OK := fun A5 c5 w5 R5 d5 => OUT.out f g D.out FZ.out _ _ wr w5 W A5 c5 R5 d5
      generalize tr 18446744069414584321 (rg f L) = rs at T OK
      have T := Lib.hid T
      have OK := Lib.hid OK
      clear hz W RY D FZ OUT
      go_wp2_with fail
      refine T.out.mono ?_
      rintro e w5 ⟨A5, c5, rfl, R5, d5⟩
      have OK1 := Lib.hid (OK.out A5 c5 w5 R5 d5)
      clear OK R5 d5 T
      go_wp2
      exact bodyPost_ret (v := .tuple #[.slice (some ⟨w3.heap.size, 0, none⟩) N N, .slice A5 rs.length c5, .int .i64 0]) (by simp [results, Try.results26, go_sem]) rfl OK1.out
    | succ j =>
      obtain rfl : z = (j : Int) := by simpa using hz
      have j0 : (0 : Int) ≤ j := by omega
      have j1 : (j : Int) < N := by omega
      have hNL := HNL.out (by omega)
      obtain ⟨t, ht⟩ : ∃ t, t = j + d := ⟨_, rfl⟩
      have tw : IntKind.i64.wrap ((j : Int) + (d : Int)) = (t : Int) := by rw [IntKind.wrap_i64]; omega
      have t1 : (t : Int) < L := by omega
      have jL : j + d < L := by omega
      have c0 := W.at_r t (by omega)
      have D1 := DS.out j g f D.out (by omega)
      rw [← ht] at D1
      obtain ⟨c, hc⟩ : ∃ c, c = f t * v % 18446744069414584321 := ⟨_, rfl⟩
      have M := MU.out (f t) (Nat.lt_trans (D.out.flt t) (by decide))
      rw [← hc] at M D1
      have M := Lib.hid M
      have c64 : c < 18446744073709551616 := by rw [hc]; exact mod64 _
      have F64 := Lib.hid (fun i => Nat.lt_trans (D.out.flt i) (show 18446744069414584321 < 18446744073709551616 by decide))
      have FZ1 := Lib.hid (fun i (hi : L ≤ i) => show tk 18446744069414584321 f qs c j i = 0 from D1.fz i (by omega))
      have D1 := Lib.hid D1
      have RB := Nat.lt_trans W.ne W.s
      have NE := W.ne
      clear hz hc D FZ DS OUT ht hNL
      generalize f t = ft at c0 M
      go_wp2_with fail
      refine (M.out _).mono ?_
      rintro e w4 ⟨rfl, hb4⟩
      have W4 := W.call hb4
      obtain ⟨q0, q1⟩ := W4.at_q j (by omega)
      have W6 := W4.put j c (by omega)
      have RY6 := (RY.below (hb4.mono (Nat.le_of_lt RB))).setCell (p := ⟨w3.heap.size, j, none⟩) (Nat.le_of_lt NE) (.int .u64 (c : Nat))
      have W6 := Lib.hid W6
      have RY6 := Lib.hid RY6
      clear W RY c0 hb4 W4
      go_upto_region 13 with fail
      generalize w4.setCell ⟨w3.heap.size, j, none⟩ (.int .u64 (c : Nat)) = w6 at *
      clear q0 q1
      have W7 := W6.out
      obtain ⟨q0, q1⟩ := W7.at_q j (by omega)
      rw [upd_same] at q0
      obtain ⟨l0, l1⟩ := W7.drew.at_q j (by omega)
      rw [upd_same] at l0
      obtain ⟨n, hn⟩ : ∃ n, j + n = L := ⟨L - j, by omega⟩
      have hs1 := fun W => slice_from W w2.heap.size L j n (by omega) hn
      have TK := Lib.hid (TA.out w2.heap.size j n n c (some ⟨b1, off1, none⟩) f c64 hn (by have := HDD.out; omega) (by omega) F64.out _ W7.drew.r (Nat.lt_trans W7.ne W7.drew.s) (QW.out _ _ _ RY6.out.drew))
      clear hn
      go_region_with (first
        | (go_at_call 39; refine TK.out.mono ?_; rintro e w8 ⟨rfl, T8⟩; have W8 := W7.drew.take T8; have RY8 := RY6.out.drew.below T8.o.bel))
      all_goals (go_wp2_with fail)
      all_goals go_roundw
      all_goals first
        | exact ⟨j, (j : Int) - 1, _, _, rfl, rfl, by omega, D1.out, FZ1.out, W8, RY8⟩
        | (simp [Lib.intOf])
end Pl
end Go.Proofs.Ytckaelgmokddkaa
