/- Contract of package block's write. -/
import Derived.Test.YtobpjlgiefnmjaaDoorBlockG
set_option linter.unusedVariables false
namespace Go.Proofs.YtobpjlgiefnmjaaDoor
open Go.RowKit Go.Lib Go.Sort
namespace Bk
theorem lt_rows {u v w k : Nat} (hv : v < w) : u * w + v < k * w ↔ u < k := by
  constructor
  · intro h
    apply Classical.byContradiction
    intro h2
    have := Nat.mul_le_mul_right w (Nat.le_of_not_lt h2)
    omega
  · intro h
    exact lt_of h hv
/-- A row of a tile is laid at once. -/
theorem lay_row {q r0 c0 h w i : Nat} {f g : Nat → Nat} (hw : c0 + w ≤ q) (w0 : 0 < w) (hi : i < h) :
    (fun j => if (r0 + i) * q + c0 ≤ j ∧ j < (r0 + i) * q + c0 + w then g (i * w + (j - ((r0 + i) * q + c0))) else layk q r0 c0 h w g f (i * w) j) = layk q r0 c0 h w g f ((i + 1) * w) := by
  funext y
  have e := Nat.div_add_mod' y q
  have z := Nat.mod_lt y (show 0 < q by omega)
  show (if (r0 + i) * q + c0 ≤ y ∧ y < (r0 + i) * q + c0 + w then _ else _) = _
  unfold layk In no
  by_cases hA : y / q = r0 + i ∧ c0 ≤ y % q ∧ y % q < c0 + w
  · obtain ⟨e1, h1, h2⟩ := hA
    have e2 : y / q * q = (r0 + i) * q := by rw [e1]
    have e3 : (y / q - r0) * w = i * w := by rw [e1, Nat.add_sub_cancel_left]
    rw [if_pos (by omega), if_pos ⟨⟨⟨by omega, by omega⟩, h1, h2⟩, by rw [lt_rows (by omega)]; omega⟩]
    congr 1
    omega
  · rw [if_neg (fun h => hA (by
      rcases Nat.lt_trichotomy (y / q) (r0 + i) with l | l | l
      · have := Nat.mul_le_mul_right q l
        rw [Nat.succ_mul] at this
        omega
      · have e2 : y / q * q = (r0 + i) * q := by rw [l]
        exact ⟨l, by omega, by omega⟩
      · have := Nat.mul_le_mul_right q l
        rw [Nat.succ_mul] at this
        omega))]
    by_cases hI : (r0 ≤ y / q ∧ y / q < r0 + h) ∧ c0 ≤ y % q ∧ y % q < c0 + w
    · by_cases hk : y / q - r0 < i
      · rw [if_pos ⟨hI, (lt_rows (by omega)).2 hk⟩, if_pos ⟨hI, (lt_rows (by omega)).2 (by omega)⟩]
      · rw [if_neg (fun h => hk ((lt_rows (by omega)).1 h.2)), if_neg (fun h => by have := (lt_rows (by omega)).1 h.2; exact hA ⟨by omega, hI.2⟩)]
    · rw [if_neg (fun h => hI h.1), if_neg (fun h => hI h.1)]
end Bk
namespace Bl
open Ww Pl

theorem but_setCells (b : Nat) : ∀ (vs : List Value) (o : Nat) (w : World), But b w (w.setCells b o vs)
  | [], _, w => But.refl _ _
  | v :: r, o, w => But.trans ((But.refl b w).put o v) (but_setCells b r (o + 1) (w.setCell ⟨b, o, none⟩ v))
theorem cells_at (g : Nat → Nat) (n j : Nat) (h : j < ((List.range n).map fun i => cw (g i)).length) : ((List.range n).map fun i => cw (g i))[j] = .int .u64 (g j : Nat) := by simp [cw]
/-- copy(dst, src) of two rows of k words: what it answers, and the world behind it. -/
theorem copy_eq (W : World) (b x n k c1 bs y c2 : Nat) (f g : Nat → Nat) (T : Ta b n f W W) (hx : x + k ≤ n) (hs : ∀ j, j < k → W.cell? ⟨bs, y + j, none⟩ = some (.int .u64 (g j : Nat))) (t1 t2 ty : TypeId) (ht : Tryd.prog.underlying t1 = some (.slice 37)) :
    (Builtin.copy_ #[t1, t2] ty #[.slice (some ⟨b, x, none⟩) k c1, .slice (some ⟨bs, y, none⟩) k c2]).run Tryd.prog W = .ok (goInt k) (W.setCells b x ((List.range k).map fun j => cw (g j))) := by
  have hl : ((List.range k).map fun i => cw (g i)).length = k := by simp
  have hU := infoU
  have hsz : (Tryd.prog.info? 37).map (·.size) = some 1 := by
    cases e : Tryd.prog.info? 37 with
    | none => rw [e] at hU; cases hU
    | some i =>
      rw [e] at hU
      simp only [Option.map_some, Option.some.injEq, Prod.mk.injEq] at hU ⊢
      exact hU.2.1
  have hrun := run_copy_cells (P := Tryd.prog) W t1 t2 ty 37 b x k c1 ⟨bs, y, none⟩ k c2 ((List.range k).map fun i => cw (g i)) ht hsz (by rw [hl]; exact (Nat.min_self k).symm)
    (fun j v hv => by
      obtain ⟨hj, e⟩ := List.getElem?_eq_some_iff.1 hv
      rw [add_none, ← e, cells_at g k j hj]
      exact hs j (by rw [hl] at hj; exact hj))
    (fun j hj => by rw [(T.at_ (x + j) (by rw [hl] at hj; omega)).1]; rfl)
    (fun j hj => (T.at_ (x + j) (by rw [hl] at hj; omega)).2)
    (fun v hv => by
      simp at hv
      obtain ⟨i, _, rfl⟩ := hv
      rfl)
  rw [hl] at hrun
  exact hrun
theorem ta_copy {W : World} {b n : Nat} {f g : Nat → Nat} (T : Ta b n f W W) (x k : Nat) (hx : x + k ≤ n) :
    Ta b n (fun j => if x ≤ j ∧ j < x + k then g (j - x) else f j) W (W.setCells b x ((List.range k).map fun j => cw (g j))) := by
  have hl : ((List.range k).map fun i => cw (g i)).length = k := by simp
  refine ⟨⟨fun i hi => ?_, fun i hi => ?_⟩, but_setCells _ _ _ _⟩
  · rw [Nat.zero_add]
    by_cases h : x ≤ i ∧ i < x + k
    · have e : i = x + (i - x) := by omega
      have := World.cell?_setCells_in b ((List.range k).map fun j => cw (g j)) x W (fun j hj => by rw [(T.at_ (x + j) (by rw [hl] at hj; omega)).1]; rfl) (i - x) (by rw [hl]; omega)
      rw [← e, cells_at] at this
      rw [if_pos h]
      exact this
    · rw [if_neg h, World.cell?_setCells_out b _ x W ⟨b, i, none⟩ (fun _ _ => by
        show i < x ∨ _ ≤ i
        rw [hl]; omega)]
      exact (T.at_ i hi).1
  · rw [World.frozen?_setCells, Nat.zero_add]
    exact (T.at_ i hi).2
theorem line_at {w : World} {p b R C n cap : Nat} {f : Nat → Nat} (B : Bx w p b R C n cap f) (r c k x : Nat) (hx : x = r * C + c) (hk : x + k ≤ n) (k0 : 0 < k) :
    Calls Tryd.prog 35 #[.pointer (some ⟨p, 0, none⟩), .int .i64 (r : Int), .int .i64 (c : Int), .int .i64 (k : Int)] w fun e w' => e = .returned (.slice (some ⟨b, x, none⟩) k (cap - x)) ∧ w = w' := line B r c k x hx hk k0 0
theorem layk_lt {q r0 c0 h w n m : Nat} {f g : Nat → Nat} (hf : ∀ i, i < n → f i < 18446744073709551616) (hg : ∀ k, k < h * w → g k < 18446744073709551616) : ∀ i, i < n → Bk.layk q r0 c0 h w g f m i < 18446744073709551616 := by
  intro i hi
  unfold Bk.layk
  split
  · rename_i hx
    exact hg _ (Bk.no_lt hx.1)
  · exact hf i hi
theorem lay_lt {q r0 c0 h w n : Nat} {f g : Nat → Nat} (hf : ∀ i, i < n → f i < 18446744073709551616) (hg : ∀ k, k < h * w → g k < 18446744073709551616) : ∀ i, i < n → Bk.lay q r0 c0 h w g f i < 18446744073709551616 := by
  rw [← Bk.lay_end]
  exact layk_lt hf hg
theorem part_lt {R C n r c h k : Nat} {f : Nat → Nat} (hn : R * C = n) (hr : r + h ≤ R) (hc : c + k ≤ C) (hf : ∀ i, i < n → f i < 18446744073709551616) : ∀ j, j < h * k → Bk.part C r c k f j < 18446744073709551616 := by
  intro j hj
  exact hf _ (by rw [← hn]; exact Bk.pt_lt hc hr hj)
/-- A row of a tile lies in the block. -/
theorem row_in {R C n r c h k i : Nat} (hn : R * C = n) (hr : r + h ≤ R) (hc : c + k ≤ C) (hi : i < h) : (r + i) * C + c + k ≤ n := by
  have a : (r + i + 1) * C ≤ R * C := Nat.mul_le_mul_right C (by omega)
  rw [Nat.succ_mul, hn] at a
  omega

set_option maxHeartbeats 1000000 in
set_option maxRecDepth 100000 in
theorem write {w : World} {p b R C n cap : Nat} {f : Nat → Nat} (B : Bx w p b R C n cap f) {p2 b2 R2 C2 n2 cap2 : Nat} {f2 : Nat → Nat} (S : Bx w p2 b2 R2 C2 n2 cap2 f2)
    (h k r c u v : Nat) (k0 : 0 < k) (hr : r + h ≤ R) (hc : c + k ≤ C) (hu : u + h ≤ R2) (hv : v + k ≤ C2) (n1 : b2 ≠ b) (np : p2 ≠ b) :
    Calls Tryd.prog 33 #[.pointer (some ⟨p, 0, none⟩), .int .i64 (r : Int), .int .i64 (c : Int), .pointer (some ⟨p2, 0, none⟩), .agg #[.int .i64 (h : Int), .int .i64 (k : Int), .int .i64 (u : Int), .int .i64 (v : Int)]] w
      fun e w' => e = .returned (.tuple #[]) ∧ Ta b n (Bk.lay C r c h k (Bk.part C2 u v k f2) f) w w' := by
  have b0 := below_alloc w (.cells #[.int .i64 (h : Int), .int .i64 (k : Int), .int .i64 (u : Int), .int .i64 (v : Int)] 45)
  have V0 := Ti.fresh w h k u v 45
  have B1 := Lib.hid (B.below b0)
  have S1 := Lib.hid (S.below b0)
  have gl := Lib.hid (part_lt S.hn hu hv S.lt)
  have FL := Lib.hid B.lt
  have hRC : R ≤ 1048576 ∧ C ≤ 1048576 ∧ R2 ≤ 1048576 ∧ C2 ≤ 1048576 := by have := B.pos; have := S.pos; have := B.l; have := S.l; omega
  have qb := Lib.hid (show w.heap.size ≠ b by have := B.s; omega)
  have o0 := Lib.hid (But.of_below b0 (Nat.le_of_lt B.s))
  have RI := Lib.hid (fun i (hi : i < h) => row_in B.hn hr hc hi)
  have SI := Lib.hid (fun i (hi : i < h) => row_in S.hn hu hv hi)
  have ST := Lib.hid (show Ta b n (Bk.layk C r c h k (Bk.part C2 u v k f2) f (0 * k)) (w.alloc (.cells #[.int .i64 (h : Int), .int .i64 (k : Int), .int .i64 (u : Int), .int .i64 (v : Int)] 45)) (w.alloc (.cells #[.int .i64 (h : Int), .int .i64 (k : Int), .int .i64 (u : Int), .int .i64 (v : Int)] 45)) by rw [Nat.zero_mul, Bk.lay_zero]; exact B1.out.ta)
  have NX := Lib.hid (fun i (hi : i < h) => Bk.lay_row (r0 := r) (f := f) (g := Bk.part C2 u v k f2) hc k0 hi)
  have EN := Lib.hid (Bk.lay_end (q := C) (r0 := r) (c0 := c) (h := h) (w := k) (f := f) (g := Bk.part C2 u v k f2))
  have PT := Lib.hid (fun i j (hj : j < k) => show Bk.part C2 u v k f2 (i * k + j) = f2 ((u + i) * C2 + v + j) from by unfold Bk.part; rw [Bk.pt_at hj, Nat.add_assoc])
  obtain ⟨G, hG⟩ : ∃ G, G = Bk.part C2 u v k f2 := ⟨_, rfl⟩
  rw [← hG] at gl ST NX EN PT
  rw [← hG]
  clear hG B S b0
  go_enter Tryd.func33, Tryd.ntmps33
  go_upto_region 1 with fail
  have V0 := Lib.hid V0
  generalize w.alloc (.cells #[.int .i64 (h : Int), .int .i64 (k : Int), .int .i64 (u : Int), .int .i64 (v : Int)] 45) = w0 at *
  generalize w.heap.size = vb at V0 qb
  obtain ⟨t0, t1, t2, t3⟩ := V0.out
  go_wp2_with fail
  clear t0 t1 t2 t3
  go_loopw [14] (fun v14 wr => ∃ i : Nat, v14 = .int .i64 (i : Int) ∧ i ≤ h ∧ Ta b n (Bk.layk C r c h k G f (i * k)) w0 wr) (fun v14 _ => h - (Lib.intOf v14).toNat)
  case atStart => exact ⟨0, rfl, Nat.zero_le _, ST.out⟩
  case round =>
    obtain ⟨i, rfl, hi, T⟩ := hrel
    clear ST
    by_cases hlt : i < h
    · have i1 : (i : Int) < h := by omega
      obtain ⟨t0, t1, t2, t3⟩ := V0.out.but T.o qb.out
      obtain ⟨y, hy⟩ : ∃ y, y = r + i := ⟨_, rfl⟩
      obtain ⟨z, hz⟩ : ∃ z, z = u + i := ⟨_, rfl⟩
      obtain ⟨x1, hx1⟩ : ∃ x1, x1 = y * C + c := ⟨_, rfl⟩
      obtain ⟨x2, hx2⟩ : ∃ x2, x2 = z * C2 + v := ⟨_, rfl⟩
      have q1 : IntKind.i64.wrap ((r : Int) + (i : Int)) = (y : Int) := by rw [IntKind.wrap_i64]; omega
      have q2 : IntKind.i64.wrap ((u : Int) + (i : Int)) = (z : Int) := by rw [IntKind.wrap_i64]; omega
      have B2 := B1.out.wrote T (layk_lt FL.out gl.out)
      have S2 := S1.out.but T.o np n1
      have a1 : x1 + k ≤ n := by rw [hx1, hy]; exact RI.out i hlt
      have a2 : x2 + k ≤ n2 := by rw [hx2, hz]; exact SI.out i hlt
      have L1 := Lib.hid (line_at B2.drew y c k x1 hx1 a1 k0)
      have L2 := Lib.hid (line_at S2.drew z v k x2 hx2 a2 k0)
      have T1 : Ta b n (Bk.layk C r c h k G f (i * k)) wr.drew wr.drew := ⟨T.k.drew, But.refl _ _⟩
      have CP := fun ty => copy_eq wr.drew b x1 n k (cap - x1) b2 x2 (cap2 - x2) _ (fun j => G (i * k + j)) T1 a1 (fun j hj => by
        rw [PT.out i j hj, ← hz, ← hx2]
        have := S2.drew.k.c (x2 + j) (by omega)
        rw [Nat.zero_add] at this
        exact this) 24 24 ty Tryd.underlying24
      have TC := ta_copy (g := fun j => G (i * k + j)) T1 x1 k a1
      have e := NX.out i hlt
      rw [← hy, ← hx1] at e
      rw [e] at TC
      have TD := Lib.hid (show Ta b n (Bk.layk C r c h k G f ((i + 1) * k)) w0 (wr.drew.setCells b x1 ((List.range k).map fun j => cw (G (i * k + j)))) from ⟨TC.k, But.trans T.o.drew TC.o⟩)
      have PX := Lib.hid (fun W (o : But b wr W) => show W.cell? ⟨vb, 1, none⟩ = some (.int .i64 (k : Int)) ∧ W.cell? ⟨vb, 2, none⟩ = some (.int .i64 (u : Int)) ∧ W.cell? ⟨vb, 3, none⟩ = some (.int .i64 (v : Int)) ∧ But b wr W from by
        have V2 := (V0.out.but T.o qb.out).but o qb.out
        exact ⟨V2.c1, V2.c2, V2.c3, o⟩)
      have OD := Lib.hid (But.trans ((But.refl b wr).drew) TC.o)
      have M := But.refl b wr
      clear B2 S2 T1 TC e T a1 a2 hx1 hx2 hy hz
      generalize (List.range k).map (fun j => cw (G (i * k + j))) = cs at *
      go_upto_region 10 with fail
      go_region_held3 (fun w' => w'.cell? ⟨vb, 1, none⟩ = some (.int .i64 (k : Int)) ∧ w'.cell? ⟨vb, 2, none⟩ = some (.int .i64 (u : Int)) ∧ w'.cell? ⟨vb, 3, none⟩ = some (.int .i64 (v : Int)) ∧ But b wr w')
        (exact PX.out _ (by first | with_reducible exact OD.out | with_reducible exact M.drew | with_reducible exact M))
        (first
          | (go_at_call 35; (with_reducible refine L1.out.mono ?_); rintro e w2 ⟨rfl, rfl⟩)
          | (go_at_call 35; (with_reducible refine L2.out.mono ?_); rintro e w2 ⟨rfl, rfl⟩))
      all_goals (go_wp2_with fail)
      all_goals go_roundw
      all_goals first
        | exact ⟨i + 1, rfl, by omega, TD.out⟩
        | (simp [Lib.intOf]; omega)
    · have i1 : ¬ (i : Int) < h := by omega
      obtain rfl : i = h := by omega
      rw [EN.out] at T
      have F := Lib.hid (show Ta b n (Bk.lay C r c i k G f) w wr from ⟨T.k, But.trans o0.out T.o⟩)
      clear T
      go_wp2
      exact bodyPost_end (v := .tuple #[]) (by simp [results, Tryd.results33, go_sem]) rfl ⟨rfl, F.out⟩
end Bl
end Go.Proofs.YtobpjlgiefnmjaaDoor
