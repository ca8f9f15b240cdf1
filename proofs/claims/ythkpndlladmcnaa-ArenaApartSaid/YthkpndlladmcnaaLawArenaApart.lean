/- ArenaApart: of every row of sizes the law answers true, and changes nothing. -/
import Derived.Test.YthkpndlladmcnaaFrame
import Derived.Test.YthkpndlladmcnaaArenaF
import Derived.Test.YthkpndlladmcnaaBytes
set_option linter.unusedVariables false
namespace Go.Proofs.Ythkpndlladmcnaa.arenaApart
open Go.ChangeShapes Go.WideShapes Go.ChangeAt Go.RowKit Go.ChangeMaps
open Ww Ar Lib

theorem wrapN {a : Nat} (h : a < 18446744073709551616) : IntKind.u64.wrap (a : Int) = (a : Int) := by
  rw [IntKind.wrap_u64]
  omega
/-- A block of x words, of which the first t are written: f's; noughts behind. -/
def wcx (f : Nat → Nat) (t x : Nat) : Array Value := ((List.range x).map fun s => Value.int .u64 ((if s < t then f s else 0 : Nat) : Int)).toArray
theorem wcx_zero (f : Nat → Nat) (x : Nat) : madeCells #[.int .u64 0] x = wcx f 0 x := by
  apply Array.ext
  · simp [madeCells, wcx]
  · intro i h1 h2
    simp [madeCells, wcx, Nat.mod_one]
theorem wcx_put (f : Nat → Nat) (t x : Nat) (ht : t < x) : (wcx f t x).setIfInBounds t (.int .u64 (f t : Nat)) = wcx f (t + 1) x := by
  apply Array.ext
  · simp [wcx]
  · intro i h1 h2
    simp only [wcx, List.size_toArray, List.length_map, List.length_range] at h2
    rw [Array.getElem_setIfInBounds (by simpa [wcx] using h2)]
    by_cases e : t = i
    · subst e
      simp [wcx]
    · rw [if_neg e]
      simp only [wcx, List.getElem_toArray, List.getElem_map, List.getElem_range]
      by_cases h : i < t
      · rw [if_pos h, if_pos (by omega)]
      · rw [if_neg h, if_neg (by omega)]
theorem wcx_at (f : Nat → Nat) (t x s : Nat) (hs : s < x) : (wcx f t x)[s]? = some (.int .u64 ((if s < t then f s else 0 : Nat) : Int)) := by
  simp [wcx, hs]

/-- Behind i rounds of the first loop. -/
structure Ap (w wr : World) (p m i : Nat) (x : Nat → Nat) (q n g : Nat → Nat) (peak : Nat) (v4 : Value) : Prop where
  a : Ab wr p m 1000 peak i q n g
  n : ∀ j, j < i → n j = x j
  r : Pw wr w.heap.size v4 q i
  c : ∀ j, j < i → wr.heap[g j]? = some (.cells (wcx (fun s => 100 * j + s + 1) (x j) (x j)) 40)
  d : Below w.heap.size w wr
  o : ∀ b, Mine p m i q b → w.heap.size ≤ b
def sz (bs : List UInt8) (i : Nat) : Nat := 1 + (bs.getD i 0).toNat % 64
theorem sz_le (bs : List UInt8) (i : Nat) : 1 ≤ sz bs i ∧ sz bs i ≤ 64 := by unfold sz; omega
theorem tot_le {n x : Nat → Nat} (hx : ∀ j, x j ≤ 64) : ∀ i, (∀ j, j < i → n j = x j) → tot n i ≤ 64 * i
  | 0, _ => Nat.le_refl _
  | i + 1, h => by
    show tot n i + n i ≤ _
    have := tot_le hx i (fun j hj => h j (by omega))
    have := h i (by omega)
    have := hx i
    omega

set_option maxHeartbeats 2000000 in
set_option maxRecDepth 100000 in
theorem walk_in (A : Option Addr) (c L : Nat) (bs : List UInt8) (hL : bs.length = L) (h8 : L ≤ 8) (w : World) (R : Bs w w.heap.size A bs) :
    Calls Try.prog 4 #[.slice A L c] w fun e w' => e = .returned (.bool true) ∧ Below w.heap.size w w' := by
  have AW := Lib.hid (awake w)
  have NW := Lib.hid (fun W q n g => new_ok 1000 (by omega) (by omega) q n g W)
  have R := Lib.hid R
  have h1 : ¬ (8 : Int) < (L : Int) := by omega
  have HL := Lib.hid hL
  have H8 := Lib.hid h8
  clear hL h8
  go_enter Try.func4, Try.ntmps4
  go_wp2_with fail
  refine AW.out.mono ?_
  rintro e w1 ⟨rfl, d1⟩
  replace d1 := Lib.hid d1
  clear AW
  go_wp2_with fail
  refine (NW.out _ (fun _ => 0) (fun _ => 0) (fun _ => 0)).mono ?_
  rintro e w2 ⟨rfl, A2, d2⟩
  obtain ⟨p, hp⟩ : ∃ p, p = w1.heap.size + 1 := ⟨_, rfl⟩
  obtain ⟨m, hm⟩ : ∃ m, m = w1.heap.size := ⟨_, rfl⟩
  rw [← hp, ← hm] at A2
  rw [← hp]
  have J := Lib.hid (show Ap w w2 p m 0 (sz bs) (fun _ => 0) (fun _ => 0) (fun _ => 0) 0 (.slice none 0 0) from
    ⟨A2, fun j hj => absurd hj (by omega), Pw.nil_ _ _ _, fun j hj => absurd hj (by omega), d1.out.trans (d2.mono d1.out.size), by
      have := d1.out.size
      rintro b (rfl | rfl | ⟨i, hi, _⟩)
      · omega
      · omega
      · omega⟩)
  clear d1 d2 A2 hp hm NW
  go_wp2_with fail
  go_loopw [4, 5] (fun v4 v5 wr => ∃ (i : Nat) (q n g : Nat → Nat) (peak : Nat), v5 = .int .i64 (i : Int) ∧ i ≤ L ∧ Ap w wr p m i (sz bs) q n g peak v4) (fun _ v5 _ => L - (Lib.intOf v5).toNat)
  case atStart => exact ⟨0, _, _, _, 0, rfl, Nat.zero_le _, J.out⟩
  case round =>
    clear J
    obtain ⟨i, q, n, g, peak, rfl, hi, X⟩ := hrel
    by_cases hlt : i < L
    · have i1 : (i : Int) < L := by omega
      obtain ⟨b, off, rfl, hb, cc⟩ := (R.out.below X.d).at_ i (by rw [HL.out]; exact hlt)
      obtain ⟨z, hz⟩ : ∃ z, z = (bs.getD i 0).toNat := ⟨_, rfl⟩
      rw [← hz] at cc
      obtain ⟨x, hx⟩ : ∃ x, x = sz bs i := ⟨_, rfl⟩
      have ex : (1 + (z : Int) % 64) = (x : Int) := by rw [hx, sz, ← hz]; omega
      have x64 := sz_le bs i
      rw [← hx] at x64
      have tl := tot_le (n := n) (x := sz bs) (fun j => (sz_le bs j).2) i X.n
      have TK := Lib.hid (take_ok x X.a x64.1 (by have := H8.out; omega) (by have := H8.out; omega))
      have HX := Lib.hid hx
      have X64 := Lib.hid x64
      replace X := Lib.hid X
      clear hz hx x64 tl
      go_wp2_with fail
      refine TK.out.mono ?_
      rintro e w3 ⟨rfl, A3, F3, G3⟩
      obtain ⟨G, hG⟩ : ∃ G, G = wr.heap.size := ⟨_, rfl⟩
      obtain ⟨Q, hQ⟩ : ∃ Q, Q = wr.heap.size + 1 := ⟨_, rfl⟩
      rw [← hQ] at A3 ⊢
      rw [← hG] at A3 G3
      have d3 := X.out.d.trans (F3.below (B := w.heap.size) (fun b hb => by rcases hb with rfl | rfl; exact X.out.o _ (Or.inl rfl); exact X.out.o _ (Or.inr (Or.inl rfl))) X.out.d.size)
      have cc3 := (d3.cell (p := ⟨b, off + i, none⟩) hb).trans ((X.out.d.cell (p := ⟨b, off + i, none⟩) hb).symm.trans cc)
      have WO := A3.hq i (by omega)
      rw [upd_same, upd_same, upd_same] at WO
      have WO := words WO
      rw [sl_pos (by have := X64.out; omega)] at WO
      replace WO := Lib.hid WO
      -- what the round keeps
      have P3 : Pw w3 w.heap.size u4 q i := owns_fr X.out.r F3 (fun b e hb => owns_aside X.out.a X.out.r (by decide) (by decide) b e (by rcases hb with rfl | rfl; exact Or.inl rfl; exact Or.inr (Or.inl rfl)))
      have C3 : ∀ j, j < i → w3.heap[g j]? = some (.cells (wcx (fun s => 100 * j + s + 1) (sz bs j) (sz bs j)) 40) := fun j hj =>
        F3.at_ (X.out.c j hj) (fun hb => X.out.a.aside (X.out.c j hj) (by decide) (by decide) (by rcases hb with rfl | rfl; exact Or.inl rfl; exact Or.inr (Or.inl rfl)))
      have l3 : ∀ j, j < i → g j ≠ G := fun j hj => by
        have := (Array.getElem?_eq_some_iff.1 (X.out.c j hj)).1
        omega
      obtain ⟨F, hF⟩ : ∃ F : Nat → Nat, F = fun s => 100 * i + s + 1 := ⟨_, rfl⟩
      rw [wcx_zero F x] at G3
      have HF := Lib.hid hF
      clear hF
      have O3 : ∀ b, Mine p m (i + 1) (upd q i Q) b → w.heap.size ≤ b := by
        have := X.out.d.size
        rintro b (rfl | rfl | ⟨j, hj, rfl⟩)
        · exact X.out.o _ (Or.inl rfl)
        · exact X.out.o _ (Or.inr (Or.inl rfl))
        · by_cases e : j = i
          · subst e; rw [upd_same]; omega
          · rw [upd_other _ _ _ e]; exact X.out.o _ (Or.inr (Or.inr ⟨j, by omega, rfl⟩))
      have gw : w.heap.size ≤ G := by have := X.out.d.size; omega
      have N3 : ∀ j, j < i + 1 → upd n i x j = sz bs j := fun j hj => by
        by_cases e : j = i
        · subst e; rw [upd_same]; exact HX.out
        · rw [upd_other _ _ _ e]; exact X.out.n j (by omega)
      have K3 := Lib.hid (And.intro A3 (And.intro P3 (And.intro C3 (And.intro l3 (And.intro O3 (And.intro gw (And.intro N3 d3)))))))
      have W0 := Lib.hid G3
      have W1 := Lib.hid G3
      clear TK A3 F3 G3 d3 hG hQ P3 C3 l3 O3 gw N3 X
      go_wp2_with fail
      refine WO.out.mono ?_
      rintro e w4 ⟨rfl, rfl⟩
      clear WO
      go_wp2_with fail
      go_loopw [9] (fun v9 wv => ∃ s : Nat, v9 = .int .i64 (s : Int) ∧ s ≤ x ∧ Fr (fun b => b = G) w3 wv ∧ wv.heap[G]? = some (.cells (wcx F s x) 40)) (fun v9 _ => x - (Lib.intOf v9).toNat)
      case atStart => exact ⟨0, rfl, Nat.zero_le _, Fr.refl _ _, W0.out⟩
      case round =>
        obtain ⟨s, rfl, hs, f5, g5⟩ := hrel
        clear W0
        by_cases hl2 : s < x
        · have i2 : (s : Int) < x := by omega
          have t0 : _ := (blk_cell g5 s).trans (wcx_at F s x s hl2)
          rw [if_neg (Nat.lt_irrefl s)] at t0
          have t1 := blk_frz g5 s
          have hi8 : i < 8 := by have := H8.out; omega
          have x65 := X64.out.2
          obtain ⟨a1, ha1⟩ : ∃ a, a = 100 * i := ⟨_, rfl⟩
          obtain ⟨a2, ha2⟩ : ∃ a, a = a1 + s := ⟨_, rfl⟩
          obtain ⟨a3, ha3⟩ : ∃ a, a = a2 + 1 := ⟨_, rfl⟩
          have r1 : IntKind.i64.wrap (100 * (i : Int)) = (a1 : Int) := by rw [IntKind.wrap_i64]; omega
          have r2 : IntKind.i64.wrap ((a1 : Int) + (s : Int)) = (a2 : Int) := by rw [IntKind.wrap_i64]; omega
          have r3 : IntKind.i64.wrap ((a2 : Int) + 1) = (a3 : Int) := by rw [IntKind.wrap_i64]; omega
          have r4 : IntKind.u64.wrap (a3 : Int) = (a3 : Int) := wrapN (by omega)
          have eF : F s = a3 := by
            rw [HF.out]
            show 100 * i + s + 1 = a3
            omega
          have UP := blk_put g5 s (.int .u64 (F s : Nat))
          rw [wcx_put F s x hl2, eF] at UP
          replace UP := Lib.hid UP
          have f6 := Lib.hid (f5.put ⟨G, s, none⟩ (.int .u64 (a3 : Nat)) (Or.inl rfl))
          clear f5 g5 ha1 ha2 ha3 eF hi8 x65 hl2
          go_wp2_with fail
          go_roundw
          case rel => exact ⟨s + 1, rfl, by omega, f6.out, UP.out⟩
          case measure => simp [Lib.intOf]; omega
        · have i2 : ¬ (s : Int) < x := by omega
          have es : s = x := by omega
          subst es
          obtain ⟨A3, P3, C3, l3, O3, gw, N3, d3⟩ := K3.out
          have gn : ∀ b, Mine p m (i + 1) (upd q i Q) b → ¬ b = G := fun b hb h => by
            subst h
            exact A3.aside W1.out (by decide) (by decide) hb
          have A5 := A3.fr f5 gn
          have P5 : Pw wr w.heap.size u4 q i := owns_fr P3 f5 (fun b e hb => by subst hb; exact owns_ne P3 W1.out (by decide) e)
          have C5 : ∀ j, j < i + 1 → wr.heap[upd g i G j]? = some (.cells (wcx (fun r => 100 * j + r + 1) (sz bs j) (sz bs j)) 40) := fun j hj => by
            by_cases e : j = i
            · subst e
              rw [upd_same, ← HX.out, ← HF.out]
              exact g5
            · rw [upd_other _ _ _ e]
              exact f5.at_ (C3 j (by omega)) (l3 j (by omega))
          have d5 := d3.trans (f5.below (B := w.heap.size) (fun b h => by subst h; exact gw) d3.size)
          replace W0 := Lib.hid (And.intro A5 (And.intro C5 (And.intro O3 (And.intro N3 d5))))
          have b5 := Lib.hid d5.size
          have P6 := Lib.hid P5
          have IL := Lib.hid (show i + 1 ≤ 17592186044416 by have := H8.out; omega)
          clear A5 P5 C5 d5 gn A3 P3 C3 l3 O3 gw N3 d3 f5 g5
          go_upto_region 11 with (at_builtin; (refine appendB (wr.alloc (.cells #[.pointer (some ⟨Q, 0, none⟩)] 31)) ?hgd (.tmp 77) (.tmp 79) ?ho w.heap.size u4 i q ?hs ?hown wr.heap.size Q ?hx ?hc ?c1 ?c2 (fun v5 w5 P5 hg => ?_)); (case hgd => rfl); (case ho => rfl); (case hs => rfl); (case hown => exact World.ownsRow.alloc P6.out _); (case hx => rfl); (case hc => simp [go_sem]); (case c1 => exact IL.out); (case c2 => have := b5.out; simp; omega); (have G5 := Lib.hid hg); (have P7 := Lib.hid P5); (clear P5 hg))
          obtain ⟨A5, C5, O5, N5, d5⟩ := W0.out
          have b1 : Below wr.heap.size wr (wr.alloc (.cells #[.pointer (some ⟨Q, 0, none⟩)] 31)) := (Below.refl _ _).alloc (Nat.le_refl _) _
          have fg := Fr.grown (S := fun b => u4.ownBlock = some b) G5.out (fun _ h => h)
          have bs5 := b5.out
          have X2 := Lib.hid (show Ap w w5 p m (i + 1) (sz bs) (upd q i Q) (upd n i s) (upd g i G) (max peak (tot n i + s)) v5 from
            ⟨(A5.below b1).fr fg (fun b hb h => owns_aside A5 P6.out (by decide) (by decide) b h hb), N5, P7.out,
              fun j hj => fg.at_ (by rw [Below.heap_alloc _ _ _ (Array.getElem?_eq_some_iff.1 (C5 j hj)).1]; exact C5 j hj) (owns_ne P6.out (C5 j hj) (by decide)),
              (d5.trans (b1.mono d5.size)).grown G5.out (by simp; omega) (fun k hk => (World.ownsRow.lt P6.out k hk).1), O5⟩)
          clear A5 C5 O5 N5 d5 b1 fg bs5 W0 b5 G5 P6 P7 K3
          go_wp2_with fail
          go_roundw
          case rel => exact ⟨i + 1, _, _, _, _, rfl, by omega, X2.out⟩
          case measure => simp [Lib.intOf]; omega
    · have i1 : ¬ (i : Int) < L := by omega
      have ei : i = L := by omega
      subst ei
      obtain ⟨A4, c4, e4⟩ := owns_slice X.r
      subst e4
      have H2 := Lib.hid X.d
      replace X := Lib.hid X
      clear HL R i1
      go_wp2_with fail
      go_loopw [10] (fun v10 wv => ∃ j : Nat, v10 = .int .i64 (j : Int) ∧ j ≤ i ∧ wv = wr) (fun v10 _ => i - (Lib.intOf v10).toNat)
      case atStart => exact ⟨0, rfl, Nat.zero_le _, rfl⟩
      case round =>
        obtain ⟨j, rfl, hj, rfl⟩ := hrel
        by_cases hl2 : j < i
        · have i2 : (j : Int) < i := by omega
          obtain ⟨g4, rfl, _, t4, _⟩ := owns_at X.out.r j _ (pws_at hl2)
          have WO := words (X.out.a.hq j hl2)
          obtain ⟨x, hx⟩ : ∃ x, x = sz bs j := ⟨_, rfl⟩
          have x64 := sz_le bs j
          rw [← hx] at x64
          rw [X.out.n j hl2, ← hx, sl_pos (by omega)] at WO
          have CC := X.out.c j hl2
          rw [← hx] at CC
          replace WO := Lib.hid WO
          replace CC := Lib.hid CC
          have J8 := Lib.hid (show j < 8 by have := H8.out; omega)
          have X64 := Lib.hid x64
          clear hx x64
          go_wp2_with fail
          refine WO.out.mono ?_
          rintro e w4 ⟨rfl, rfl⟩
          clear WO
          go_wp2_with fail
          obtain ⟨wo, rfl⟩ : ∃ wo : World, wo = wr := ⟨_, rfl⟩
          go_loopw [12] (fun v12 wv => ∃ s : Nat, v12 = .int .i64 (s : Int) ∧ s ≤ x ∧ wv = wo) (fun v12 _ => x - (Lib.intOf v12).toNat)
          case atStart => exact ⟨0, rfl, Nat.zero_le _, rfl⟩
          case round =>
            obtain ⟨s, rfl, hs, rfl⟩ := hrel
            by_cases hl3 : s < x
            · have i3 : (s : Int) < x := by omega
              have t0 : _ := (blk_cell CC.out s).trans (wcx_at _ x x s hl3)
              rw [if_pos hl3] at t0
              have j8 := J8.out
              have x65 := X64.out.2
              obtain ⟨a1, ha1⟩ : ∃ a, a = 100 * j := ⟨_, rfl⟩
              obtain ⟨a2, ha2⟩ : ∃ a, a = a1 + s := ⟨_, rfl⟩
              obtain ⟨a3, ha3⟩ : ∃ a, a = a2 + 1 := ⟨_, rfl⟩
              have r1 : IntKind.i64.wrap (100 * (j : Int)) = (a1 : Int) := by rw [IntKind.wrap_i64]; omega
              have r2 : IntKind.i64.wrap ((a1 : Int) + (s : Int)) = (a2 : Int) := by rw [IntKind.wrap_i64]; omega
              have r3 : IntKind.i64.wrap ((a2 : Int) + 1) = (a3 : Int) := by rw [IntKind.wrap_i64]; omega
              have r4 : IntKind.u64.wrap (a3 : Int) = (a3 : Int) := wrapN (by omega)
              rw [show 100 * j + s + 1 = a3 by omega] at t0
              clear ha1 ha2 ha3 j8
              go_wp2_with fail
              go_roundw
              case rel => exact ⟨s + 1, rfl, by omega, by first | rfl | trivial⟩
              case measure => simp [Lib.intOf]; omega
            · have i3 : ¬ (s : Int) < x := by omega
              go_wp2_with fail
              go_roundw
              case rel => exact ⟨j + 1, rfl, by omega, by first | rfl | trivial⟩
              case measure => simp [Lib.intOf]; omega
        · have i2 : ¬ (j : Int) < i := by omega
          go_wp2
          go_ret
          exact ⟨by simp [go_sem], H2.out⟩
set_option maxHeartbeats 400000 in
theorem walk_long (A : Option Addr) (c L : Nat) (h8 : 8 < L) (w : World) :
    Calls Try.prog 4 #[.slice A L c] w fun e w' => e = .returned (.bool true) ∧ Below w.heap.size w w' := by
  have AW := Lib.hid (awake w)
  have h1 : (8 : Int) < (L : Int) := by omega
  clear h8
  go_enter Try.func4, Try.ntmps4
  go_wp2_with fail
  refine AW.out.mono ?_
  rintro e w1 ⟨rfl, d1⟩
  replace d1 := Lib.hid d1
  clear AW
  go_wp2
  go_ret
  exact ⟨by simp [go_sem], d1.out⟩
theorem walk (A : Option Addr) (c : Nat) (bs : List UInt8) (w : World) (R : Bs w w.heap.size A bs) :
    Calls Try.prog 4 #[.slice A bs.length c] w fun e w' => e = .returned (.bool true) ∧ Below w.heap.size w w' := by
  by_cases h : bs.length ≤ 8
  · exact walk_in A c bs.length bs rfl h w R
  · exact walk_long A c bs.length (by omega) w
set_option maxRecDepth 100000 in
theorem lifted (os : Os) (started : os.Started) (H : Type) (enc : TypeId × Value → H) :
    ReturnsInHanded {} Try.checked os 4 .any (Rows.arenaApartSpec.pre6 enc Try.prog Try.f4 Rows.arenaApartRow.domain false) (Rows.arenaApartSpec.post enc Try.prog Try.f4 false true false false) := by
  refine returnsInHanded_of_change (C := Try.checked) Fr.own started (by kernel_rfl) Try.func4
    (ChangeSpec.witness6 (enc := enc) (C := Try.checked) false ⟨#[], #[.slice none 0 0], []⟩ 8 (by kernel_rfl) (by kernel_rfl) (by kernel_rfl) (by kernel_rfl)) ?_
  intro W base args ds gs before hval0 hW hcnd _
  have hval : ∀ (j : Nat) t v, Try.f4.params[j]? = some t → args[j]? = some v → Value.okWide Try.prog W .any base t v := hval0
  have hW' := hW
  obtain ⟨p, q, hA0, hV, rfl, hfz, hnd⟩ := hW
  have hA : DataW.TrodAll enc Try.prog W 0 (fun _ => true) true Try.f4.params.toList args.toList ds p := hA0
  obtain ⟨rfl, rfl⟩ := trodVars_none hV
  rw [Try.params4] at hA hval
  obtain ⟨v0, vs0, d0, ds0, p0, q0, hargs, rfl, rfl, h0, r0⟩ := trodAll_cons hA
  obtain ⟨rfl, rfl, rfl⟩ := trodAll_nil r0
  obtain rfl : args = #[v0] := by cases args; simp_all
  obtain ⟨A0, n0, c0, rfl⟩ := okWide_slice Try.underlying39 (hval 0 39 v0 rfl rfl)
  obtain ⟨fuel0, hf0⟩ := h0
  obtain ⟨xs0, rfl, lc0, lm0, R0⟩ := Ww.open_bytes hf0
  simp only [List.append_nil] at hW' hA0
  refine (walk A0 c0 xs0 W R0).mono fun e W' ⟨he, hb⟩ => ?_
  subst he
  exact ⟨_, rfl, Fr.law_post (tb := 4) hW' hA0 rfl rfl rfl Try.underlying4 (by rw [Try.params4]; intro t ht; simp at ht; rcases ht with rfl; all_goals exact ⟨by kernel_rfl, of_decide_eq_true (by kernel_rfl)⟩) hb⟩

theorem proved : Rows.ArenaApartSaid :=
  OpenClaim.holds_of_wide 4 Try.f4 rfl rfl rfl rfl rfl rfl rfl ⟨rfl, rfl, rfl, rfl, rfl⟩ rfl rfl rfl rfl rfl (by kernel_rfl) Try.func4 (by kernel_rfl)
    (of_decide_eq_true (by kernel_rfl)) (by unfold Func.isWrapper; first | (rw [if_pos (by decide +kernel)]; kernel_rfl) | (rw [if_neg (by decide +kernel)]; exact ⟨rfl, rfl⟩))
    (fun os started H enc _ => lifted os started H enc)
end Go.Proofs.Ythkpndlladmcnaa.arenaApart
