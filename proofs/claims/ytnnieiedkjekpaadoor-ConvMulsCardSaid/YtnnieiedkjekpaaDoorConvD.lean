/- Contracts of package conv's Shift, of the document's, and that the laws are awake. -/
import Derived.Test.YtnnieiedkjekpaaDoorConvB
import Derived.Test.YtnnieiedkjekpaaDoorConvC
import Derived.Test.YtnnieiedkjekpaaDoorJoinA
set_option linter.unusedVariables false
namespace Go.Proofs.YtnnieiedkjekpaaDoor
open Go.RowKit Go.Lib Go.Sort
namespace Cv
open Nm Ww Tn Pl Kn Kq Td

/-- What a whole number leaves by a length, as Go's % tells it, and as a place. -/
theorem rest_of (n : Int) (L : Nat) (h0 : 0 < L) : ∃ (r : Int) (s : Nat), n.tmod (L : Int) = r ∧ s < L ∧ ((0 ≤ r ∧ r = s) ∨ (r < 0 ∧ 0 < s ∧ r + L = s)) := by
  have h1 := Int.tmod_lt_of_pos n (show (0 : Int) < L by omega)
  have h2 := Int.lt_tmod_of_pos n (show (0 : Int) < L by omega)
  obtain ⟨r, hr⟩ : ∃ r, r = n.tmod (L : Int) := ⟨_, rfl⟩
  rw [← hr] at h1 h2
  by_cases h : 0 ≤ r
  · exact ⟨r, r.toNat, hr.symm, by omega, Or.inl ⟨h, by omega⟩⟩
  · exact ⟨r, (r + L).toNat, hr.symm, by omega, Or.inr ⟨by omega, by omega, by omega⟩⟩
theorem rg_append (g h : Nat → Nat) (a b : Nat) : rg g a ++ rg h b = rg (fun j => if j < a then g j else h (j - a)) (a + b) := by
  unfold rg
  rw [List.range_add, List.map_append, List.map_map]
  congr 1
  · exact List.map_congr_left fun i hi => (if_pos (by simpa using hi)).symm
  · exact List.map_congr_left fun i hi => by
      show h i = if a + i < a then g (a + i) else h (a + i - a)
      rw [if_neg (by omega), Nat.add_sub_cancel_left]

/-- Two rows, laid just now. -/
theorem rj_two {A1 A2 : Option Addr} {n m : Nat} (c1 c2 : Nat) {xs ys : List Nat} (hx : xs.length = n) (hy : ys.length = m) {w : World} (R1 : Ws w w.heap.size A1 xs) (z1 : A1 = none → c1 = 0) (R2 : Ws w w.heap.size A2 ys) (z2 : A2 = none → c2 = 0) (t : TypeId) :
    Jn.Rj (w.alloc (.cells #[.slice A1 n c1, .slice A2 m c2] t)) (w.alloc (.cells #[.slice A1 n c1, .slice A2 m c2] t)).heap.size (some ⟨w.heap.size, 0, none⟩) [xs, ys] := by
  subst hx hy
  have hb := below_alloc w (.cells #[.slice A1 xs.length c1, .slice A2 ys.length c2] t)
  refine ⟨fun i hi => ?_⟩
  rcases i with _ | _ | i
  · exact ⟨w.heap.size, 0, A1, c1, rfl, by simp, by simp [go_sem], R1.step hb, z1⟩
  · exact ⟨w.heap.size, 0, A2, c2, rfl, by simp, by simp [go_sem], R2.step hb, z2⟩
  · exact absurd hi (by simp)
set_option maxHeartbeats 1000000 in
set_option maxRecDepth 100000 in
theorem shift (ab ao ca L : Nat) (xs : List Nat) (n r : Int) (s : Nat) (hx : xs.length = L) (h0 : 0 < L) (hL : L ≤ 1048576) (hc : L ≤ ca) (hr : n.tmod (L : Int) = r) (hs : s < L) (hrs : (0 ≤ r ∧ r = s) ∨ (r < 0 ∧ 0 < s ∧ r + L = s)) (w : World) (R : Ws w w.heap.size (some ⟨ab, ao, none⟩) xs) :
    Calls Tryd.prog 17 #[.slice (some ⟨ab, ao, none⟩) L ca, .int .i64 n] w (RwA (sft (Pn.pl xs) L s) L w) := by
  obtain ⟨f, hf⟩ : ∃ f, f = if s = 0 then 0 else L - s := ⟨_, rfl⟩
  have fl : f < L := by rw [hf]; split <;> omega
  have fe : rg (fun i => Pn.pl xs (f + i)) (L - f) ++ rg (fun i => Pn.pl xs (0 + i)) f = rg (sft (Pn.pl xs) L s) L := by
    rw [rg_append, Nat.sub_add_cancel (Nat.le_of_lt fl)]
    refine rg_congr L fun j hj => ?_
    unfold sft
    by_cases h : s = 0
    · rw [if_pos h] at hf
      subst hf h
      rw [if_pos (by omega), Nat.zero_add, Nat.sub_zero, Nat.add_mod_right, Nat.mod_eq_of_lt hj]
    · rw [if_neg h] at hf
      by_cases h2 : j < L - f
      · rw [if_pos h2, Nat.mod_eq_of_lt (show j + L - s < L by omega), show j + L - s = f + j by omega]
      · rw [if_neg h2, show j + L - s = (j - s) + L by omega, Nat.add_mod_right, Nat.mod_eq_of_lt (show j - s < L by omega), show 0 + (j - (L - f)) = j - s by omega]
  have W1 := fun (W : World) (RW : Ws W W.heap.size (some ⟨ab, ao, none⟩) xs) => ws_sub RW f (L - f) (by omega)
  have W2 := fun (W : World) (RW : Ws W W.heap.size (some ⟨ab, ao, none⟩) xs) => ws_sub RW 0 f (by omega)
  have X64 := fun i => pl64 R i
  obtain ⟨m, hm⟩ : ∃ m, m = L - f := ⟨_, rfl⟩
  rw [← hm] at fe W1
  have CC := Lib.hid (show Calls Tryd.prog 37 #[.slice (some ⟨w.heap.size, 0, none⟩) 2 2] (w.alloc (.cells #[.slice (some ⟨ab, ao + f, none⟩) m (ca - f), .slice (some ⟨ab, ao, none⟩) f ca] 22)).drew (RwA (sft (Pn.pl xs) L s) L w) from by
    have hb := (below_alloc w (.cells #[.slice (some ⟨ab, ao + f, none⟩) m (ca - f), .slice (some ⟨ab, ao, none⟩) f ca] 22)).drew
    have fl2 : [rg (fun i => Pn.pl xs (f + i)) m, rg (fun i => Pn.pl xs (0 + i)) f].flatten = rg (sft (Pn.pl xs) L s) L := by
      rw [← fe]
      simp
    have R2 : Ws w w.heap.size (some ⟨ab, ao, none⟩) (rg (fun i => Pn.pl xs (0 + i)) f) := W2 w R
    have J := rj_two (ca - f) ca (rg_len _ m) (rg_len _ f) (W1 w R) (fun h => nomatch h) R2 (fun h => nomatch h) 22
    have C := Jn.concat (some ⟨w.heap.size, 0, none⟩) 2 2 _ rfl (by rw [fl2, rg_len]; omega) (by decide) _ (J.step (Below.refl _ _).drew)
    rw [fl2] at C
    refine C.mono fun e w' h => ?_
    obtain ⟨A, c, e1, O, hb2⟩ := Row.of_out (fun i hi => by rw [rg_len] at hi; rw [rg_at _ _ _ hi]; exact X64 _) h
    exact ⟨A, c, by rw [rg_len] at e1; exact e1, O, hb.trans (hb2.mono hb.size)⟩)
  have sl1 := fun W => slice_off W ab ao L ca f m fl (by omega) hc
  have sl2 := fun W => slice_upto W ab ao L ca f (by omega)
  have b0 : ((L : Int) == 0) = false := by rw [beq_eq_false_iff_ne]; omega
  have b1 : ¬ (L : Int) = 0 := by omega
  have r1 : IntKind.i64.wrap r = r := IntWalk.i64_in _ (by omega)
  obtain ⟨z, hz⟩ : ∃ z : Int, z = -r := ⟨_, rfl⟩
  have r2 : IntKind.i64.wrap (-r) = z := by rw [hz]; exact IntWalk.i64_in _ (by omega)
  by_cases hz0 : z < 0
  · have r3 : IntKind.i64.wrap (z + (L : Int)) = (f : Int) := by
      have : f = L - s := by rw [hf]; exact if_neg (by omega)
      rw [IntKind.wrap_i64]; omega
    clear hf hz hm fe W1 W2 X64 R hrs hs fl h0 hx hL hc
    go_enter Tryd.func17, Tryd.ntmps17
    go_upto_region 6 with fail
    go_region_with (go_at_call 37; refine CC.out.mono ?_; rintro e w3 ⟨A3, c3, rfl, R3, d3⟩)
    have OK := Lib.hid (show RwA (sft (Pn.pl xs) L s) L w (.returned (.slice A3 L c3)) w3 from ⟨A3, c3, rfl, R3, d3⟩)
    clear R3 d3 CC
    go_wp2
    exact bodyPost_ret (v := .slice A3 L c3) (by simp [results, Tryd.results17, go_sem]) rfl OK.out
  · have r4 : z = (f : Int) := by
      rw [hf]
      split <;> omega
    subst r4
    clear hf hz hm fe W1 W2 X64 R hrs hs fl h0 hx hL hc
    go_enter Tryd.func17, Tryd.ntmps17
    go_upto_region 6 with fail
    go_region_with (go_at_call 37; refine CC.out.mono ?_; rintro e w3 ⟨A3, c3, rfl, R3, d3⟩)
    have OK := Lib.hid (show RwA (sft (Pn.pl xs) L s) L w (.returned (.slice A3 L c3)) w3 from ⟨A3, c3, rfl, R3, d3⟩)
    clear R3 d3 CC
    go_wp2
    exact bodyPost_ret (v := .slice A3 L c3) (by simp [results, Tryd.results17, go_sem]) rfl OK.out
/-- A row of which the first i words are put to their places. -/
def put (a : Nat → Nat) (L s i m : Nat) : Nat := if (m + L - s) % L < i then a ((m + L - s) % L) else a m
theorem put_zero (a : Nat → Nat) (L s m : Nat) : put a L s 0 m = a m := if_neg (Nat.not_lt_zero _)
theorem put_end (a : Nat → Nat) (L s m : Nat) (h : m < L) : put a L s L m = sft a L s m := if_pos (Nat.mod_lt _ (by omega))
theorem put_step (a : Nat → Nat) (L s i m : Nat) (hs : s < L) (hi : i < L) (hm : m < L) : upd (put a L s i) ((i + s) % L) (a i) m = put a L s (i + 1) m := by
  have e1 : (i + s) % L = if i + s < L then i + s else i + s - L := by
    by_cases h : i + s < L
    · rw [if_pos h, Nat.mod_eq_of_lt h]
    · rw [if_neg h, show i + s = (i + s - L) + L by omega, Nat.add_mod_right, Nat.mod_eq_of_lt (show i + s - L < L by omega)]
      omega
  have e2 : (m + L - s) % L = if s ≤ m then m - s else m + L - s := by
    by_cases h : s ≤ m
    · rw [if_pos h, show m + L - s = (m - s) + L by omega, Nat.add_mod_right, Nat.mod_eq_of_lt (show m - s < L by omega)]
    · rw [if_neg h, Nat.mod_eq_of_lt (show m + L - s < L by omega)]
  unfold put
  rw [e1, e2]
  by_cases e : m = if i + s < L then i + s else i + s - L
  · rw [← e, upd_same]
    have : (if s ≤ m then m - s else m + L - s) = i := by
      split at e <;> split <;> omega
    rw [this, if_pos (Nat.lt_succ_self i)]
  · rw [upd_other _ _ _ e, e2]
    have : (if s ≤ m then m - s else m + L - s) ≠ i := by
      split at e <;> split <;> omega
    generalize (if s ≤ m then m - s else m + L - s) = q at *
    by_cases h : q < i
    · rw [if_pos h, if_pos (by omega)]
    · rw [if_neg h, if_neg (by omega)]
set_option maxHeartbeats 1000000 in
set_option maxRecDepth 100000 in
theorem rshift (ab ao ca L : Nat) (xs : List Nat) (n r : Int) (s : Nat) (hx : xs.length = L) (h0 : 0 < L) (hL : L ≤ 1048576) (hr : n.tmod (L : Int) = r) (hs : s < L) (hrs : (0 ≤ r ∧ r = s) ∨ (r < 0 ∧ 0 < s ∧ r + L = s)) (w : World) (R : Ws w w.heap.size (some ⟨ab, ao, none⟩) xs) :
    Calls Tryd.prog 19 #[.slice (some ⟨ab, ao, none⟩) L ca, .int .i64 n] w (RwA (sft (Pn.pl xs) L s) L w) := by
  have HXE := Lib.hid (show Value.slice (some ⟨ab, ao, none⟩) L ca = Value.slice (some ⟨ab, ao, none⟩) xs.length ca by rw [hx])
  have HX := Lib.hid hx
  have RL := Lib.hid R.lt
  have c0 := Below.refl w.heap.size w
  have O1 := Lib.hid (Ow.fresh w w.heap.size (Nat.le_refl _))
  have RA1 := Lib.hid (R.alloc (Nat.le_refl _) (.cells #[] 32))
  have BA1 := Lib.hid (below_alloc w (.cells #[] 32))
  have R := Lib.hid R
  have N0 := Lib.hid h0
  have X64 := Lib.hid (fun i => pl64 R.out i)
  have ST := Lib.hid (fun b (W : World) (J : JR b L (Pn.pl xs) W W) => J.congr (g := put (Pn.pl xs) L s 0) fun m hm => (put_zero _ L s m).symm)
  have SP := Lib.hid (fun b i (hi : i < L) (W W' : World) (J : JR b L (put (Pn.pl xs) L s i) W W') => (J.put ((i + s) % L) (Pn.pl xs i) (Nat.mod_lt _ h0)).congr (g := put (Pn.pl xs) L s (i + 1)) fun m hm => put_step _ L s i m hs hi hm)
  have EN := Lib.hid (fun b (W W' : World) (J : JR b L (put (Pn.pl xs) L s L) W W') => J.congr (g := sft (Pn.pl xs) L s) fun m hm => put_end _ L s m hm)
  have SX := Lib.hid (fun i => show sft (Pn.pl xs) L s i < 18446744073709551616 from X64.out _)
  have b0 : ((L : Int) == 0) = false := by rw [beq_eq_false_iff_ne]; omega
  have b1 : ¬ (L : Int) = 0 := by omega
  have r1 : IntKind.i64.wrap r = r := IntWalk.i64_in _ (by omega)
  have JX := Lib.hid (fun i (hi : i < L) => show ∃ (x1 : Int) (x2 q : Nat), IntKind.i64.wrap ((i : Int) + r) = x1 ∧ IntKind.i64.wrap (x1 + (L : Int)) = (x2 : Int) ∧ ((x2 : Nat) : Int).tmod (L : Int) = (q : Int) ∧ ((x2 : Nat) : Int) % (L : Int) = (q : Int) ∧ q < L ∧ q = (i + s) % L from by
    refine ⟨(i : Int) + r, ((i : Int) + r + L).toNat, (i + s) % L, IntWalk.i64_in _ (by omega), by rw [IntKind.wrap_i64]; omega, ?_, ?_, Nat.mod_lt _ h0, rfl⟩
    · rw [← Int.ofNat_tmod]
      congr 1
      rcases hrs with ⟨h1, h2⟩ | ⟨h1, h2, h3⟩
      · rw [show ((i : Int) + r + L).toNat = i + s + L by omega, Nat.add_mod_right]
      · rw [show ((i : Int) + r + L).toNat = i + s by omega]
    · rw [← Int.natCast_emod]
      congr 1
      rcases hrs with ⟨h1, h2⟩ | ⟨h1, h2, h3⟩
      · rw [show ((i : Int) + r + L).toNat = i + s + L by omega, Nat.add_mod_right]
      · rw [show ((i : Int) + r + L).toNat = i + s by omega])
  clear hx hrs hs
  go_enter Tryd.func19, Tryd.ntmps19
  go_wp2_with (at_builtin; (refine append_all (w.alloc (.cells #[] 32)) ?hgd (.tmp 8) (.tmp 9) ?ho w.heap.size (.slice (some ⟨w.heap.size, 0, none⟩) 0 0) [] ?hs O1.out w.heap.size (some ⟨ab, ao, none⟩) ca xs ?hx RA1.out (fun h => nomatch h) ?c1 ?c2 (fun v1 w1 OO hg => ?_)); (case hgd => rfl); (case ho => rfl); (case hs => rfl); (case hx => exact HXE.out))
  case c1 => have := HX.out; simp only [List.length_nil]; omega
  case c2 => simp
  obtain ⟨b, k, rfl, hk, hb, J, d1⟩ := copied_wk HX.out N0.out O1.out BA1.out OO hg
  have ST1 := Lib.hid (ST.out b w1 J)
  have R1 := R.out.below d1
  clear O1 RA1 BA1 OO hg ST J R HXE
  go_wp2_with fail
  go_loopw [6] (fun v6 wr => ∃ i : Nat, v6 = .int .i64 (i : Int) ∧ i ≤ L ∧ JR b L (put (Pn.pl xs) L s i) w1 wr) (fun v6 _ => L - (Lib.intOf v6).toNat)
  case atStart => exact ⟨0, rfl, Nat.zero_le _, ST1.out⟩
  case round =>
    obtain ⟨i, rfl, hi, J⟩ := hrel
    clear ST1
    by_cases hlt : i < L
    · have i1 : (i : Int) < L := by omega
      obtain ⟨x1, x2, q, e1, e2, e3, e4, ql, qe⟩ := JX.out i hlt
      have e5 : IntKind.i64.wrap (q : Int) = (q : Int) := IntWalk.i64_in _ (by omega)
      obtain ⟨b2, o2, ee, hB, c⟩ := (R1.below (J.bel.mono hb)).at_ i (by rw [HX.out]; exact hlt)
      injection ee with ee
      injection ee with ee1 ee2
      subst ee1 ee2
      have c2 : wr.cell? ⟨ab, ao + i, none⟩ = some (.int .u64 (Pn.pl xs i : Nat)) := c
      have TQ := SP.out b i hlt _ _ J
      rw [← qe] at TQ
      have TQ := Lib.hid TQ
      obtain ⟨k0, k1⟩ := J.at_ q ql
      clear c J SP JX EN qe
      generalize Pn.pl xs i = y at *
      go_wp2_with fail
      go_roundw
      case rel => exact ⟨i + 1, rfl, by omega, TQ.out⟩
      case measure => simp [Lib.intOf]; omega
    · have i1 : ¬ (i : Int) < L := by omega
      obtain rfl : i = L := by omega
      have JE := EN.out b _ _ J
      have OK := Lib.hid (show RwA (sft (Pn.pl xs) i s) i w (.returned (.slice (some ⟨b, 0, none⟩) i k)) wr from ⟨_, _, rfl, JE.k.ws (fun j _ => SX.out j) JE.s, d1.trans (JE.bel.mono hb)⟩)
      clear JE J EN SP JX
      go_wp2
      exact bodyPost_ret (v := .slice (some ⟨b, 0, none⟩) i k) (by simp [results, Tryd.results19, go_sem]) rfl OK.out
/-- A convolution of two rows of two words, and its words. -/
def Aw (zs : List Nat) (w : World) (e : Ending) (w' : World) : Prop := ∃ b, e = .returned (.tuple #[.slice (some ⟨b, 0, none⟩) 2 2, .int .i64 0]) ∧ Ws w' w'.heap.size (some ⟨b, 0, none⟩) zs ∧ Below w.heap.size w w'
theorem aw_cyc : rg (fun j => cyc (Pn.pl [1, 2]) (Pn.pl [3, 4]) 2 j % 18446744069414584321) 2 = [11, 10] := by decide +kernel
theorem aw_ngc : rg (fun j => ngc (Pn.pl [1, 2]) (Pn.pl [3, 4]) 2 j % 18446744069414584321) 2 = [18446744069414584316, 10] := by decide +kernel
/-- Two rows of two words, laid just now. -/
def aw2 (w : World) : World := (w.alloc (.cells #[.int .u64 1, .int .u64 2] 32)).alloc (.cells #[.int .u64 3, .int .u64 4] 32)
theorem aw2_ws (w : World) : Ws (aw2 w) (aw2 w).heap.size (some ⟨w.heap.size, 0, none⟩) [1, 2] ∧ Ws (aw2 w) (aw2 w).heap.size (some ⟨w.heap.size + 1, 0, none⟩) [3, 4] ∧ Below w.heap.size w (aw2 w) := by
  have h1 := ws_two w 1 2 (by decide) (by decide) 32
  have b1 := below_alloc w (.cells #[.int .u64 1, .int .u64 2] 32)
  have b2 := below_alloc (w.alloc (.cells #[.int .u64 1, .int .u64 2] 32)) (.cells #[.int .u64 3, .int .u64 4] 32)
  have h2 := ws_two (w.alloc (.cells #[.int .u64 1, .int .u64 2] 32)) 3 4 (by decide) (by decide) 32
  have e : (w.alloc (.cells #[.int .u64 1, .int .u64 2] 32)).heap.size = w.heap.size + 1 := by simp
  rw [e] at h2
  exact ⟨h1.step b2, h2, b1.trans (b2.mono b1.size)⟩
theorem aw_of {g : Nat → Nat} {zs : List Nat} {w w1 w' : World} {e : Ending} (hz : rg g 2 = zs) (hg : ∀ i, g i < 18446744069414584321) (d : Below w.heap.size w w1) (h : RwE g 2 w1 e w') : Aw zs w e w' := by
  obtain ⟨b, h1, h2, h3, K, h5⟩ := h
  have R := wk_ws K hg h3
  rw [hz] at R
  exact ⟨b, h1, R, d.trans (h5.mono d.size)⟩
theorem aw_same (zs : List Nat) (x y b : Nat) (hz : zs = [x, y]) (hx : x < 18446744073709551616) (hy : y < 18446744073709551616) (w : World) (R : Ws w w.heap.size (some ⟨b, 0, none⟩) zs) :
    Calls Tryd.prog 11 #[.slice (some ⟨b, 0, none⟩) 2 2, .slice (some ⟨w.heap.size, 0, none⟩) 2 2] (w.alloc (.cells #[.int .u64 (x : Nat), .int .u64 (y : Nat)] 32)) fun e w' => e = .returned (.bool true) ∧ Below w.heap.size w w' := by
  subst hz
  have d := below_alloc w (.cells #[.int .u64 (x : Nat), .int .u64 (y : Nat)] 32)
  exact (Sm.same _ _ 2 2 2 2 [x, y] rfl rfl (by simp) _ (R.step d) (ws_two w x y hx hy 32)).mono fun e w' ⟨h1, h2⟩ => ⟨h1, d.trans (h2.mono d.size)⟩
set_option maxHeartbeats 1000000 in
theorem awake (w : World) (hT : Ft.Tab w) : Calls Tryd.prog 6 #[] w fun e w' => e = .returned (.bool true) ∧ Below w.heap.size w w' := by
  have C1 := Lib.hid (show Calls Tryd.prog 7 #[.slice (some ⟨w.heap.size, 0, none⟩) 2 2, .slice (some ⟨w.heap.size + 1, 0, none⟩) 2 2] (aw2 w) (Aw [11, 10] w) from by
    obtain ⟨R1, R2, d⟩ := aw2_ws w
    exact (cyclic 1 2 2 2 _ _ [1, 2] [3, 4] (by decide) (by decide) rfl rfl (aw2 w) (hT.below d) R1 R2).mono fun _ _ h => aw_of aw_cyc (fun i => Nat.mod_lt _ (by decide)) d h)
  have C2 := Lib.hid (fun W (d0 : Below w.heap.size w W) => show Calls Tryd.prog 8 #[.slice (some ⟨W.heap.size, 0, none⟩) 2 2, .slice (some ⟨W.heap.size + 1, 0, none⟩) 2 2] (aw2 W) (Aw [18446744069414584316, 10] W) from by
    obtain ⟨R1, R2, d⟩ := aw2_ws W
    exact (negacyclic 1 2 2 2 _ _ [1, 2] [3, 4] (by decide) (by decide) rfl rfl (aw2 W) ((hT.below d0).below d) R1 R2).mono fun _ _ h => aw_of aw_ngc (fun i => Nat.mod_lt _ (by decide)) d h)
  have S1 := Lib.hid (fun W b (R : Ws W W.heap.size (some ⟨b, 0, none⟩) [11, 10]) => aw_same _ 11 10 b rfl (by decide) (by decide) W R)
  have S2 := Lib.hid (fun W b (R : Ws W W.heap.size (some ⟨b, 0, none⟩) [18446744069414584316, 10]) => aw_same _ 18446744069414584316 10 b rfl (by decide) (by decide) W R)
  unfold aw2 at C1 C2
  clear hT
  go_enter Tryd.func6, Tryd.ntmps6
  go_wp2_with fail
  refine C1.out.mono ?_
  rintro e w1 ⟨b1, rfl, R1, d1⟩
  have D2 := Lib.hid (C2.out w1 d1)
  clear C1 C2
  go_wp2_with fail
  refine D2.out.mono ?_
  rintro e w2 ⟨b2, rfl, R2, d2⟩
  have c2 := d1.trans (d2.mono d1.size)
  have E1 := Lib.hid (S1.out w2 b1 (R1.step d2))
  clear D2 S1 d1 d2 R1
  go_wp2_with fail
  refine E1.out.mono ?_
  rintro e w3 ⟨rfl, d3⟩
  have c3 := c2.trans (d3.mono c2.size)
  have E2 := Lib.hid (S2.out w3 b2 (R2.step d3))
  clear E1 S2 c2 d3 R2
  go_wp2_with fail
  refine E2.out.mono ?_
  rintro e w4 ⟨rfl, d4⟩
  have c4 := c3.trans (d4.mono c3.size)
  clear E2 c3 d4
  go_wp2
  go_ret
  exact ⟨by simp [go_sem], c4⟩
end Cv
end Go.Proofs.YtnnieiedkjekpaaDoor
