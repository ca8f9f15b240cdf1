/- Contract of package rows' transform. / Contract of package rows' Run. / Contract of package shape's Transpose, of a row that lies in its shape. / Contracts of package rows' fault, rowsOf, colsOf (and their closures), each. / Contract of package rows' each. / Contracts of package rows' Rows and Cols. / Contracts of the document's own Rows and Cols. -/
import Derived.Test.YtfjoacopnkceoaaDoorViewA
import Derived.Test.YtfjoacopnkceoaaDoorFits
import Derived.Test.YtfjoacopnkceoaaDoorTwidF
import Derived.Test.YtfjoacopnkceoaaDoorCross
set_option linter.unusedVariables false
namespace Go.Proofs.YtfjoacopnkceoaaDoor
open Go.RowKit Go.Lib Go.Sort
namespace Vw
open Nm Ww Tn Pl Td Kn

theorem ws_but {w w' : World} {B b : Nat} {A : Option Addr} {xs : List Nat} (h : Ws w B A xs) (o : Wo w b A xs) (t : But b w w') : Ws w' B A xs :=
  ⟨fun i hi => by
    obtain ⟨b1, o1, e, hB, c⟩ := h.at_ i hi
    obtain ⟨b2, o2, e2, hb, c2⟩ := o.at_ i hi
    rw [e] at e2
    injection e2 with e2
    injection e2 with e3 e4
    subst e3 e4
    exact ⟨b1, o1, e, hB, (t.cell ⟨b1, o1 + i, none⟩ hb.1 hb.2).trans c⟩, h.lt⟩
/-- A kernel in other blocks than b, all of them below B. -/
structure Kz (w : World) (B b k p p2 bf bi bp : Nat) : Prop where
  f : Kq.Kf w B k p p2 bf bi bp
  g : Kq.Kg w b k p p2 bf bi bp
theorem Kz.but {w w' : World} {B b k p p2 bf bi bp : Nat} (h : Kz w B b k p p2 bf bi bp) (o : But b w w') : Kz w' B b k p p2 bf bi bp :=
  ⟨⟨h.f.c.but h.g.p o, h.f.p, ⟨h.f.z.c.but h.g.z.p o, h.f.z.p, ws_but h.f.z.rf h.g.z.rf o, ws_but h.f.z.ri h.g.z.ri o⟩, ws_but h.f.r h.g.r o⟩, h.g.but o⟩
/-- Another block that is written stays aside of all that was there. -/
theorem but_new {b g : Nat} {w w2 w3 : World} (h : But b w w2) (h3 : But g w2 w3) (hg : w.heap.size ≤ g) (hb : b ≤ w.heap.size) : But b w w3 :=
  ⟨h.bel.trans (h3.bel.mono (Nat.le_trans hb hg)),
   fun p q1 q2 => (h3.cell p (Nat.ne_of_lt (Nat.lt_of_lt_of_le q2 hg)) (Nat.lt_of_lt_of_le q2 h.bel.size)).trans (h.cell p q1 q2),
   fun p q1 q2 => (h3.frz p (Nat.ne_of_lt (Nat.lt_of_lt_of_le q2 hg)) (Nat.lt_of_lt_of_le q2 h.bel.size)).trans (h.frz p q1 q2)⟩

set_option maxHeartbeats 1000000 in
set_option maxRecDepth 100000 in
theorem transform (b n ca o s N k d B p p2 bf bi bp : Nat) (f : Nat → Nat) (hv : Vg o s N n) (hN : N = 2 ^ k) (hk : k ≤ 20) (hd : d ≤ 1) (hn : n ≤ 1048576) (hf : ∀ j, j < n → f j < 18446744073709551616) (w : World) (hT : Ft.Tab w)
    (Z : Kz w B b k p p2 bf bi bp) (hB : B ≤ w.heap.size) (J : JR b n f w w) :
    Calls Tryd.prog 30 #[.slice (some ⟨b, 0, none⟩) n ca, .agg #[.int .i64 (o : Int), .int .i64 (s : Int), .int .i64 (N : Int)], .pointer (some ⟨p, 0, none⟩), .int .i64 (d : Int)] w fun e w' => e = .returned (.int .i64 0) ∧ JR b n (vt k d f o s N) w w' := by
  have h0 : 0 < N := by rw [hN]; exact Nat.two_pow_pos k
  have hg : ∀ i, i < N → gth f o s i < 18446744073709551616 := fun i hi => hf _ (hv.lt hi)
  have GA := Lib.hid (fun W (X : Ws W W.heap.size (some ⟨b, 0, none⟩) (rg f n)) => gather (some ⟨b, 0, none⟩) n ca o s N f hv hn W X)
  have WS := Lib.hid (fun (W : World) (K : JR b n f W W) => show Ws W W.heap.size (some ⟨b, 0, none⟩) (rg f n) from K.k.ws hf K.s)
  have RU := Lib.hid (fun W g c (hT : Ft.Tab W) (Z : Kq.Kg W g k p p2 bf bi bp) (J : JR g N (gth f o s) W W) (hc : N ≤ c) => Kq.run_kg k d hk hd g N c hN hc (gth f o s) hg hT Z J)
  have SC := Lib.hid (fun W g c (K : JR b n f W W) (X : Ws W W.heap.size (some ⟨g, 0, none⟩) (rg (ft k d (gth f o s)) N)) => show Calls Tryd.prog 12 #[.slice (some ⟨b, 0, none⟩) n ca, .agg #[.int .i64 (o : Int), .int .i64 (s : Int), .int .i64 (N : Int)], .slice (some ⟨g, 0, none⟩) N c] W fun e w' => e = .returned (.int .i64 0) ∧ JR b n (vt k d f o s N) W w' from
    scatter b n ca o s N c ⟨g, 0, none⟩ f (ft k d (gth f o s)) hv h0 hn W K X)
  have FL := Lib.hid (fun i => show ft k d (gth f o s) i < 18446744069414584321 from ft_lt k d _ i)
  have HB := Lib.hid (below_alloc w)
  have Z := Lib.hid Z
  have hB := Lib.hid hB
  have J := Lib.hid J
  have HT := Lib.hid hT
  clear hv hN h0 hg hf hT
  generalize vt k d f o s N = vf at *
  generalize ft k d (gth f o s) = tf at *
  generalize gth f o s = gf at *
  go_enter Tryd.func30, Tryd.ntmps30
  go_upto_region 1 with fail
  have V1 := Lib.hid (Vi.fresh w o s N 24)
  have b1 := Lib.hid (HB.out (.cells #[.int .i64 (o : Int), .int .i64 (s : Int), .int .i64 (N : Int)] 24))
  have hs1 := Lib.hid (show (w.alloc (.cells #[.int .i64 (o : Int), .int .i64 (s : Int), .int .i64 (N : Int)] 24)).heap.size = w.heap.size + 1 by simp)
  clear HB
  generalize w.alloc (.cells #[.int .i64 (o : Int), .int .i64 (s : Int), .int .i64 (N : Int)] 24) = w1 at *
  have J1 := Lib.hid (J.out.call b1.out)
  obtain ⟨k0, k1, k2⟩ := V1.out
  go_wp2_with fail
  refine (GA.out _ (WS.out _ ⟨J1.out.k, But.refl _ _, J1.out.s⟩)).mono ?_
  rintro e w2 ⟨g, rfl, hg1, hg2, K, h2⟩
  have J2 := Lib.hid (J1.out.call h2)
  have V2 := Lib.hid (V1.out.below h2)
  have b2 := Lib.hid (b1.out.trans (h2.mono b1.out.size))
  have hgb := Lib.hid (show b ≠ g ∧ w.heap.size < g by have := J.out.s; have := hs1.out; omega)
  have JG := Lib.hid (show JR g N gf w2 w2 from ⟨K, But.refl _ _, hg2⟩)
  have KG := Lib.hid (((Z.out.f.below (b2.out.mono hB.out)).more (show B ≤ g by have := hB.out; have := hgb.out; omega)).aside (Nat.le_of_lt hg2))
  clear k0 k1 k2 V1 J1 K h2 GA WS hg1 hg2
  obtain ⟨k0, k1, k2⟩ := V2.out
  go_wp2_with fail
  refine (RU.out _ _ _ (HT.out.below b2.out) KG.out JG.out (Nat.le_refl _)).mono ?_
  rintro e w3 ⟨rfl, J3⟩
  have B3 := Lib.hid (but_new J2.out.o J3.o (Nat.le_of_lt hgb.out.2) (Nat.le_of_lt J.out.s))
  have X3 := Lib.hid (show Ws w3 w3.heap.size (some ⟨g, 0, none⟩) (rg tf N) from J3.k.ws (fun i _ => Nat.lt_trans (FL.out i) (by decide)) J3.s)
  have K3 := Lib.hid (show JR b n f w3 w3 from ⟨J3.o.wk hgb.out.1 J2.out.s J2.out.k, But.refl _ _, Nat.lt_of_lt_of_le J2.out.s J3.o.bel.size⟩)
  have V3 := Lib.hid (V2.out.but (Nat.ne_of_lt hgb.out.2) J3.o)
  clear k0 k1 k2 V2 J2 JG KG J3 RU
  obtain ⟨k0, k1, k2⟩ := V3.out
  go_wp2_with fail
  refine (SC.out _ _ _ K3.out X3.out).mono ?_
  rintro e w4 ⟨rfl, J4⟩
  have OK := Lib.hid (JR.trans B3.out J4)
  clear k0 k1 k2 V3 J4 K3 X3 B3
  go_wp2
  go_ret
  exact ⟨rfl, OK.out⟩
set_option maxHeartbeats 1000000 in
set_option maxRecDepth 100000 in
theorem transform_kind (A : Option Addr) (n ca o s N k B p p2 bf bi bp : Nat) (d : Int) (f : Nat → Nat) (hv : Vg o s N n) (hN : N = 2 ^ k) (hk : k ≤ 20) (h0 : d ≠ 0) (h1 : d ≠ 1) (hn : n ≤ 1048576) (w : World) (Z : Kq.Kf w B k p p2 bf bi bp) (hB : B ≤ w.heap.size) (X : Ws w w.heap.size A (rg f n)) :
    Calls Tryd.prog 30 #[.slice A n ca, .agg #[.int .i64 (o : Int), .int .i64 (s : Int), .int .i64 (N : Int)], .pointer (some ⟨p, 0, none⟩), .int .i64 d] w fun e w' => e = .returned (.int .i64 18) ∧ Below w.heap.size w w' := by
  have GA := Lib.hid (fun W X => gather A n ca o s N f hv hn W X)
  have RU := Lib.hid (fun (W : World) (Z : Kq.Kf W B k p p2 bf bi bp) A c => Kq.run_kind k hk Z A N c d hN h0 h1)
  have HB := Lib.hid (below_alloc w)
  have Z := Lib.hid Z
  have hB := Lib.hid hB
  have X := Lib.hid X
  clear hv hN
  go_enter Tryd.func30, Tryd.ntmps30
  go_upto_region 1 with fail
  have V1 := Lib.hid (Vi.fresh w o s N 24)
  have b1 := Lib.hid (HB.out (.cells #[.int .i64 (o : Int), .int .i64 (s : Int), .int .i64 (N : Int)] 24))
  clear HB
  generalize w.alloc (.cells #[.int .i64 (o : Int), .int .i64 (s : Int), .int .i64 (N : Int)] 24) = w1 at *
  obtain ⟨k0, k1, k2⟩ := V1.out
  go_wp2_with fail
  refine (GA.out _ (X.out.step b1.out)).mono ?_
  rintro e w2 ⟨g, rfl, hg1, hg2, K, h2⟩
  have V2 := Lib.hid (V1.out.below h2)
  have b2 := Lib.hid (b1.out.trans (h2.mono b1.out.size))
  clear k0 k1 k2 V1 K h2 GA hg1 hg2
  obtain ⟨k0, k1, k2⟩ := V2.out
  go_wp2_with fail
  refine (RU.out _ (Z.out.below (b2.out.mono hB.out)) _ _).mono ?_
  rintro e w3 ⟨rfl, rfl⟩
  go_wp2
  go_ret
  exact ⟨rfl, b2.out⟩
end Vw
end Go.Proofs.YtfjoacopnkceoaaDoor
set_option linter.unusedVariables false
namespace Go.Proofs.YtfjoacopnkceoaaDoor
open Go.RowKit Go.Lib Go.Sort
namespace Vw
open Nm Ww Tn Pl Td Kn

/-- What a drawn region reads of a view in memory, in all worlds in which no block that was there but b is written. -/
structure Vb (w : World) (b vb : Nat) (p q r : Int) (wr : World) : Prop where
  v : Vi wr vb p q r
  d : But b w wr
  n : vb ≠ b
  s : b < w.heap.size
section
variable {w wr w1 : World} {b vb : Nat} {p q r : Int}
theorem Vb.drew (h : Vb w b vb p q r wr) : Vb w b vb p q r wr.drew := ⟨⟨h.v.c0, h.v.c1, h.v.c2⟩, h.d.drew, h.n, h.s⟩
theorem Vb.but (h : Vb w b vb p q r wr) (hb : But b wr w1) : Vb w b vb p q r w1 := ⟨h.v.but h.n hb, But.trans h.d hb, h.n, h.s⟩
theorem Vb.call (h : Vb w b vb p q r wr) (hb : Below wr.heap.size wr w1) : Vb w b vb p q r w1 := h.but (But.of_below hb (Nat.le_trans (Nat.le_of_lt h.s) h.d.bel.size))
theorem Vb.all (h : Vb w b vb p q r wr) : wr.cell? ⟨vb, 0, none⟩ = some (.int .i64 p) ∧ wr.cell? ⟨vb, 1, none⟩ = some (.int .i64 q) ∧ wr.cell? ⟨vb, 2, none⟩ = some (.int .i64 r) ∧ Vb w b vb p q r wr := ⟨h.v.c0, h.v.c1, h.v.c2, h⟩
end

set_option maxHeartbeats 400000 in
theorem run_no (A : Option Addr) (n ca : Nat) (o s N d : Int) (h : ¬ Gv o s N n) (hn : n ≤ 1048576) (w : World) :
    Calls Tryd.prog 16 #[.slice A n ca, .agg #[.int .i64 o, .int .i64 s, .int .i64 N], .int .i64 d] w fun e w' => e = .returned (.int .i64 2) ∧ Below w.heap.size w w' := by
  have GO := Lib.hid (fun W => good_no h (by omega) W)
  have HB := Lib.hid (below_alloc w)
  clear h
  go_enter Tryd.func16, Tryd.ntmps16
  go_wp2_with fail
  refine (GO.out _).mono ?_
  rintro e w1 ⟨rfl, h1⟩
  have b1 := (HB.out _).trans (h1.mono (HB.out _).size)
  clear h1
  go_wp2
  go_ret
  exact ⟨rfl, b1⟩
set_option maxHeartbeats 400000 in
theorem run_len (A : Option Addr) (n ca o s N : Nat) (d : Int) (hv : Vg o s N n) (hN : ∀ j, j ≤ 32 → (N : Int) ≠ ((2 ^ j : Nat) : Int)) (hn : n ≤ 1048576) (w : World) :
    Calls Tryd.prog 16 #[.slice A n ca, .agg #[.int .i64 (o : Int), .int .i64 (s : Int), .int .i64 (N : Int)], .int .i64 d] w fun e w' => e = .returned (.int .i64 4) ∧ Below w.heap.size w w' := by
  have GO := Lib.hid (fun W => good_yes hv (by omega) W)
  have FI := Lib.hid (fun W => Ft.fits_none N hN W)
  have HB := Lib.hid (below_alloc w)
  clear hv hN
  go_enter Tryd.func16, Tryd.ntmps16
  go_wp2_with fail
  refine (GO.out _).mono ?_
  rintro e w1 ⟨rfl, h1⟩
  have V1 := (Vi.fresh w o s N 24).below h1
  have b1 := (HB.out _).trans (h1.mono (HB.out _).size)
  obtain ⟨k0, k1, k2⟩ := V1
  clear h1 GO
  go_wp2_with fail
  refine (FI.out _).mono ?_
  rintro e w2 ⟨rfl, rfl⟩
  go_wp2
  go_ret
  exact ⟨rfl, b1⟩
set_option maxHeartbeats 1000000 in
set_option maxRecDepth 100000 in
theorem run_kind (A : Option Addr) (n ca o s N k : Nat) (d : Int) (f : Nat → Nat) (hv : Vg o s N n) (hN : N = 2 ^ k) (h0 : d ≠ 0) (h1 : d ≠ 1) (hn : n ≤ 1048576) (w : World) (hT : Ft.Tab w) (X : Ws w w.heap.size A (rg f n)) :
    Calls Tryd.prog 16 #[.slice A n ca, .agg #[.int .i64 (o : Int), .int .i64 (s : Int), .int .i64 (N : Int)], .int .i64 d] w fun e w' => e = .returned (.int .i64 18) ∧ Below w.heap.size w w' := by
  have hk : k ≤ 20 := by
    have h1 := hv.hN
    rw [hN] at h1
    exact (Nat.pow_le_pow_iff_right (a := 2) (by decide)).1 (Nat.le_trans h1 (show 1048576 ≤ 2 ^ 20 by decide))
  have GO := Lib.hid (fun W => good_yes hv (by omega) W)
  have FI := Lib.hid (fun W T => show Calls Tryd.prog 29 #[.int .i64 (N : Int)] W fun e w' => e = .returned (.tuple #[.int .i64 (k : Int), .bool true]) ∧ W = w' by
    rw [hN]; exact Ft.fits_some k (by omega) W T)
  have NE := Lib.hid (fun W => Kq.new k hk W)
  have TR := Lib.hid (fun B p p2 bf bi bp (W : World) (Z : Kq.Kf W B k p p2 bf bi bp) (hB : B ≤ W.heap.size) (X : Ws W W.heap.size A (rg f n)) => transform_kind A n ca o s N k B p p2 bf bi bp d f hv hN hk h0 h1 hn W Z hB X)
  have HB := Lib.hid (below_alloc w)
  have X := Lib.hid X
  have HT := Lib.hid hT
  clear hv hN hT h0 h1
  go_enter Tryd.func16, Tryd.ntmps16
  go_wp2_with fail
  refine (GO.out _).mono ?_
  rintro e w1 ⟨rfl, h1⟩
  have V1 := (Vi.fresh w o s N 24).below h1
  have b1 := (HB.out _).trans (h1.mono (HB.out _).size)
  have OK2 := Lib.hid (fun wx w3 (h2 : Below w3.heap.size w3 wx) (h3 : Below w1.heap.size w1 w3) => show Below w.heap.size w wx from b1.trans ((h3.trans (h2.mono h3.size)).mono b1.size))
  have X1 := Lib.hid (X.out.step b1)
  have T1 := Lib.hid (HT.out.below b1)
  clear h1 GO HB X b1 HT
  generalize hvv : w.heap.size = vb at *
  have HV := Lib.hid hvv
  clear hvv
  have M := (show Vk w1 vb o s N w1 from ⟨V1, Below.refl _ _⟩)
  obtain ⟨k0, k1, k2⟩ := V1
  go_wp2_with fail
  refine (FI.out _ T1.out).mono ?_
  rintro e w2 ⟨rfl, rfl⟩
  clear FI T1
  go_upto_region 6 with fail
  clear k0 k1 k2
  go_cut [6] (fun v6 wx => v6 = .int .i64 18 ∧ Below vb w wx)
  case first =>
    go_region_held3 (fun w' => w'.cell? ⟨vb, 0, none⟩ = some (.int .i64 (o : Int)) ∧ w'.cell? ⟨vb, 1, none⟩ = some (.int .i64 (s : Int)) ∧ w'.cell? ⟨vb, 2, none⟩ = some (.int .i64 (N : Int)) ∧ Vk w1 vb o s N w')
      (exact Vk.all (by repeat (first | with_reducible exact M | with_reducible refine Vk.drew ?_ | with_reducible refine Vk.call ?_ h4 | with_reducible refine Vk.call ?_ h3)))
      (first
        | (go_at_call 31; refine (NE.out _).mono ?_; rintro e w3 ⟨p, p2, bf, bi, bp, rfl, Z3, h3⟩)
        | (go_at_call 30; refine (TR.out _ _ _ _ _ _ _ Z3 (Nat.le_refl _) (X1.out.step (M.drew.call h3).d)).mono ?_; rintro e w4 ⟨rfl, h4⟩))
    all_goals (go_wp2_with fail; go_meet)
    all_goals exact ⟨rfl, OK2.out _ _ h4 (M.drew.call h3).d⟩
  case rest =>
    obtain ⟨rfl, h6⟩ := hcut
    go_wp2
    go_ret
    exact ⟨rfl, by rw [HV.out]; exact h6⟩
set_option maxHeartbeats 1000000 in
set_option maxRecDepth 100000 in
theorem run (b n ca o s N k d : Nat) (f : Nat → Nat) (hv : Vg o s N n) (hN : N = 2 ^ k) (hd : d ≤ 1) (hn : n ≤ 1048576) (hf : ∀ j, j < n → f j < 18446744073709551616) (w : World) (hT : Ft.Tab w) (J : JR b n f w w) :
    Calls Tryd.prog 16 #[.slice (some ⟨b, 0, none⟩) n ca, .agg #[.int .i64 (o : Int), .int .i64 (s : Int), .int .i64 (N : Int)], .int .i64 (d : Int)] w fun e w' => e = .returned (.int .i64 0) ∧ JR b n (vt k d f o s N) w w' := by
  have hk : k ≤ 20 := by
    have h1 := hv.hN
    rw [hN] at h1
    exact (Nat.pow_le_pow_iff_right (a := 2) (by decide)).1 (Nat.le_trans h1 (show 1048576 ≤ 2 ^ 20 by decide))
  have GO := Lib.hid (fun W => good_yes hv (by omega) W)
  have FI := Lib.hid (fun W T => show Calls Tryd.prog 29 #[.int .i64 (N : Int)] W fun e w' => e = .returned (.tuple #[.int .i64 (k : Int), .bool true]) ∧ W = w' by
    rw [hN]; exact Ft.fits_some k (by omega) W T)
  have NE := Lib.hid (fun W => Kq.new_at k hk W)
  have TR := Lib.hid (fun B p p2 bf bi bp (W : World) (hT : Ft.Tab W) (Z : Kz W B b k p p2 bf bi bp) (hB : B ≤ W.heap.size) (J : JR b n f W W) => transform b n ca o s N k d B p p2 bf bi bp f hv hN hk hd hn hf W hT Z hB J)
  have HB := Lib.hid (below_alloc w)
  have HT := Lib.hid hT
  have J := Lib.hid J
  clear hv hN hT hf
  generalize vt k d f o s N = vf at *
  go_enter Tryd.func16, Tryd.ntmps16
  go_wp2_with fail
  refine (GO.out _).mono ?_
  rintro e w1 ⟨rfl, h1⟩
  have V1 := (Vi.fresh w o s N 24).below h1
  have b1 := (HB.out _).trans (h1.mono (HB.out _).size)
  have hb1 := Lib.hid (show b < w1.heap.size from Nat.lt_of_lt_of_le J.out.s b1.size)
  have hvb := Lib.hid (show w.heap.size ≠ b from Nat.ne_of_gt J.out.s)
  have o1 := Lib.hid (show But b w w1 from But.of_below b1 (Nat.le_of_lt J.out.s))
  have T1 := Lib.hid (HT.out.below b1)
  have J1 := Lib.hid (J.out.call b1)
  clear h1 GO HB b1 HT J
  generalize w.heap.size = vb at *
  have M := (show Vb w1 b vb o s N w1 from ⟨V1, But.refl _ _, hvb.out, hb1.out⟩)
  obtain ⟨k0, k1, k2⟩ := V1
  go_wp2_with fail
  refine (FI.out _ T1.out).mono ?_
  rintro e w2 ⟨rfl, rfl⟩
  clear FI
  have JJ := Lib.hid (fun w3 (h3 : Below w1.heap.size w1.drew w3) => show JR b n f w3 w3 from ⟨(J1.out.drew.call h3).k, But.refl _ _, (J1.out.drew.call h3).s⟩)
  have TT := Lib.hid (fun w3 (h3 : Below w1.heap.size w1.drew w3) => show Ft.Tab w3 from T1.out.below ((Below.refl w1.heap.size w1).drew.trans h3))
  have OK := Lib.hid (fun w3 w4 (h3 : Below w1.heap.size w1.drew w3) (J4 : JR b n vf w3 w4) => show JR b n vf w w4 from JR.trans (But.trans (But.trans o1.out (But.refl b w1).drew) (But.of_below h3 (Nat.le_of_lt hb1.out))) J4)
  go_upto_region 6 with fail
  clear k0 k1 k2 o1
  go_cut [6] (fun v6 wx => v6 = .int .i64 0 ∧ JR b n vf w wx)
  case first =>
    go_region_held3 (fun w' => w'.cell? ⟨vb, 0, none⟩ = some (.int .i64 (o : Int)) ∧ w'.cell? ⟨vb, 1, none⟩ = some (.int .i64 (s : Int)) ∧ w'.cell? ⟨vb, 2, none⟩ = some (.int .i64 (N : Int)) ∧ Vb w1 b vb o s N w')
      (exact Vb.all (by repeat (first | with_reducible exact M | with_reducible refine Vb.drew ?_ | with_reducible refine Vb.but ?_ (JR.o J4) | with_reducible refine Vb.call ?_ h3)))
      (first
        | (go_at_call 31; refine (NE.out _).mono ?_; rintro e w3 ⟨p, p2, bf, bi, bp, rfl, Z3, h3⟩)
        | (go_at_call 30; refine (TR.out _ _ _ _ _ _ _ (TT.out _ h3) ⟨Z3.r, Z3.aside hb1.out⟩ (Nat.le_refl _) (JJ.out _ h3)).mono ?_; rintro e w4 ⟨rfl, J4⟩))
    all_goals (go_wp2_with fail; go_meet)
    all_goals exact ⟨rfl, OK.out _ _ h3 J4⟩
  case rest =>
    obtain ⟨rfl, h6⟩ := hcut
    go_wp2
    go_ret
    exact ⟨rfl, h6⟩
end Vw
end Go.Proofs.YtfjoacopnkceoaaDoor
set_option linter.unusedVariables false
namespace Go.Proofs.YtfjoacopnkceoaaDoor
open Go.RowKit Go.Lib Go.Sort
namespace Vw
open Nm Ww Tn Pl Td

theorem tw_drew {w : World} {b : Nat} {p q : Int} (h : Sh.Tw w b p q) : Sh.Tw w.drew b p q := ⟨h.c0, h.c1⟩
set_option maxHeartbeats 400000 in
theorem lies (A : Option Addr) (n ca : Nat) (p q : Int) (hg : Sh.Gd p q) (hm : p * q = (n : Int)) (w : World) (hT : Ft.Tab w) :
    Calls Tryd.prog 59 #[.slice A n ca, .agg #[.int .i64 p, .int .i64 q]] w fun e w' => e = .returned (.bool true) ∧ Below w.heap.size w w' := by
  have G := Lib.hid (fun W T => Sh.good p q true (by simp [hg]) W T)
  have Z := Lib.hid (fun W T => Sh.size_yes p q (n : Int) hg hm W T)
  have HB := Lib.hid (below_alloc w)
  have HT := Lib.hid hT
  clear hg hm hT
  go_enter Tryd.func59, Tryd.ntmps59
  go_wp2_with fail
  refine (G.out _ (HT.out.below (HB.out _))).mono ?_
  rintro e w1 ⟨rfl, h1⟩
  have c1 := (HB.out _).trans (h1.mono (HB.out _).size)
  have T1 := (Sh.Tw.fresh w p q 40).below h1
  have t0 := T1.c0
  have t1 := T1.c1
  clear h1
  go_wp2_with fail
  refine (Z.out _ (HT.out.below c1)).mono ?_
  rintro e w2 ⟨rfl, h2⟩
  have c2 := c1.trans (h2.mono c1.size)
  clear h2 c1 T1 t0 t1
  go_wp2
  go_ret
  exact ⟨by simp [go_sem], c2⟩

/-- Which places are done, behind r rows and c words of the next one. -/
def Dn (n R r c j : Nat) : Prop := j < n ∧ (j % R < r ∨ j % R = r ∧ j / R < c)
theorem dn_zero (n R j : Nat) : ¬ Dn n R 0 0 j := by
  rintro ⟨_, h | ⟨_, h⟩⟩ <;> exact Nat.not_lt_zero _ h
theorem dn_put {n R r c j : Nat} (h : Dn n R r (c + 1) j) : Dn n R r c j ∨ j = c * R + r := by
  obtain ⟨h1, h2 | ⟨h2, h3⟩⟩ := h
  · exact Or.inl ⟨h1, Or.inl h2⟩
  · by_cases e : j / R = c
    · right
      have := Nat.div_add_mod' j R
      rw [e, h2] at this
      exact this.symm
    · exact Or.inl ⟨h1, Or.inr ⟨h2, by omega⟩⟩
theorem dn_row {n R C r j : Nat} (hn : n = R * C) (h : Dn n R (r + 1) 0 j) : Dn n R r C j := by
  obtain ⟨h1, h2 | ⟨h2, h3⟩⟩ := h
  · by_cases e : j % R = r
    · exact ⟨h1, Or.inr ⟨e, Nat.div_lt_of_lt_mul (by rw [← hn]; exact h1)⟩⟩
    · exact ⟨h1, Or.inl (by omega)⟩
  · exact absurd h3 (Nat.not_lt_zero _)
theorem dn_all {n R j : Nat} (h0 : 0 < R) (h : j < n) : Dn n R R 0 j := ⟨h, Or.inl (Nat.mod_lt j h0)⟩

set_option maxHeartbeats 1000000 in
set_option maxRecDepth 100000 in
theorem transpose (A : Option Addr) (n ca R C : Nat) (f : Nat → Nat) (hg : Sh.Gd (R : Int) (C : Int)) (hn : n = R * C) (hl : n ≤ 1048576) (w : World) (hT : Ft.Tab w) (X : Ws w w.heap.size A (rg f n)) :
    Calls Tryd.prog 38 #[.slice A n ca, .agg #[.int .i64 (R : Int), .int .i64 (C : Int)]] w (RwE (tn f R C) n w) := by
  have mk := make_words n (by omega) (by omega)
  obtain ⟨g1, g2, g3, g4, g5⟩ := hg.bound
  have LI := Lib.hid (fun W T => lies A n ca R C hg (by rw [hn]; simp) W T)
  have R0 := Lib.hid (show 0 < R by omega)
  have PA := Lib.hid (fun r c (hr : r < R) (hc : c < C) => show r * C + c < n ∧ c * R + r < n ∧ r * C ≤ n ∧ c * R ≤ n by
    have a1 : (r + 1) * C ≤ R * C := Nat.mul_le_mul_right C hr
    have a2 : (c + 1) * R ≤ C * R := Nat.mul_le_mul_right R hc
    rw [Nat.mul_comm C R, Nat.succ_mul] at a2
    rw [Nat.succ_mul] at a1
    rw [hn]; omega)
  have DR := Lib.hid (fun r j (h : Dn n R (r + 1) 0 j) => dn_row hn h)
  obtain ⟨G, hG⟩ : ∃ G : Nat → Nat, G = tn f R C := ⟨_, rfl⟩
  have HG := Lib.hid (fun r c (hr : r < R) => show f (r * C + c) = G (c * R + r) by rw [hG, tn_at f R C r c hr])
  rw [← hG]
  have HT := Lib.hid hT
  have HB := Lib.hid (below_alloc w)
  have X := Lib.hid X
  have RC : R ≤ 4294967296 ∧ C ≤ 4294967296 := ⟨by omega, by omega⟩
  clear hG hg hn hT g1 g2 g3 g4 g5
  go_enter Tryd.func38, Tryd.ntmps38
  go_wp2_with fail
  refine (LI.out _ (HT.out.below (HB.out _))).mono ?_
  rintro e w1 ⟨rfl, h1⟩
  have b1 := (HB.out _).trans (h1.mono (HB.out _).size)
  have T1 := (Sh.Tw.fresh w R C 40).below h1
  have X1 := Lib.hid (X.out.step b1)
  have B1 := Lib.hid (fun (g : Nat → Nat) (b : Nat) wr => rwE_of (w := w) (n := n) (b := b) (w' := wr) b1 (g := g) (h := g) (fun _ _ => rfl))
  clear X b1 h1 HB LI HT
  generalize w.heap.size = vb at *
  obtain ⟨t0, t1⟩ := T1
  have V1 := Lib.hid (show Sh.Tw w1 vb R C from ⟨t0, t1⟩)
  have ST := Lib.hid (Bd.start (w := w1) (w1 := w1) (D := Dn n R 0 0) G n (Below.refl _ _) 51 (fun j hj => absurd hj (dn_zero n R j)))
  obtain ⟨a0, a1⟩ := V1.out.below (below_alloc w1 (.cells (madeCells #[.int .u64 0] n) 51))
  go_wp2_with fail
  clear a0 a1
  go_loopw [18] (fun v18 wr => ∃ r : Nat, v18 = .int .i64 (r : Int) ∧ r ≤ R ∧ Bd G n w1.heap.size w1 wr (Dn n R r 0)) (fun v18 _ => R - (Lib.intOf v18).toNat)
  case atStart => exact ⟨0, rfl, Nat.zero_le _, ST.out⟩
  case round =>
    obtain ⟨r, rfl, hr, BD⟩ := hrel
    clear ST mk t0 t1
    obtain ⟨t0, t1⟩ := V1.out.below BD.bel
    by_cases hrlt : r < R
    · have r1 : (r : Int) < R := by omega
      have B0 := Lib.hid BD
      obtain ⟨wo, rfl⟩ : ∃ wo : World, wo = wr := ⟨_, rfl⟩
      clear BD
      go_wp2_with fail
      go_loopw [23] (fun v23 wr => ∃ c : Nat, v23 = .int .i64 (c : Int) ∧ c ≤ C ∧ Bd G n w1.heap.size w1 wr (Dn n R r c)) (fun v23 _ => C - (Lib.intOf v23).toNat)
      case atStart => exact ⟨0, rfl, Nat.zero_le _, B0.out⟩
      case round =>
        obtain ⟨c, rfl, hc, BD⟩ := hrel
        clear B0 t0 t1
        obtain ⟨t0, t1⟩ := V1.out.below BD.bel
        by_cases hclt : c < C
        · have c1 : (c : Int) < C := by omega
          obtain ⟨p1, p2, p3, p4⟩ := PA.out r c hrlt hclt
          have hg := HG.out r c hrlt
          have X2 := X1.out.below BD.bel
          obtain ⟨xb, xo, rfl, hB, x0⟩ := X2.at_ (r * C + c) (by rw [rg_len]; exact p1)
          rw [rg_at _ _ _ p1, hg] at x0
          obtain ⟨⟨v, u0⟩, u1⟩ := BD.at_ (c * R + r) p2
          have PU := Lib.hid (fun wx (h : Bd G n w1.heap.size w1 wx (Dn n R r c)) => h.put (c * R + r) p2 (D' := Dn n R r (c + 1)) (fun j hj => dn_put hj))
          obtain ⟨s, hs⟩ : ∃ s, s = c * R := ⟨_, rfl⟩
          obtain ⟨t, ht⟩ : ∃ t, t = r * C := ⟨_, rfl⟩
          rw [← ht] at p1 p3 x0
          rw [← hs] at p2 p4 u0 u1 PU x0
          have q1 : IntKind.i64.wrap ((c : Int) * (R : Int)) = (s : Int) := by rw [← Int.natCast_mul, ← hs]; exact IntWalk.i64_in _ (by omega)
          have q2 : IntKind.i64.wrap ((r : Int) * (C : Int)) = (t : Int) := by rw [← Int.natCast_mul, ← ht]; exact IntWalk.i64_in _ (by omega)
          obtain ⟨x, hx⟩ : ∃ x, x = t + c := ⟨_, rfl⟩
          obtain ⟨y, hy⟩ : ∃ y, y = s + r := ⟨_, rfl⟩
          rw [← hx] at p1 x0
          rw [← hy] at p2 u0 u1 PU x0
          have q3 : IntKind.i64.wrap ((t : Int) + (c : Int)) = (x : Int) := by rw [IntKind.wrap_i64]; omega
          have q4 : IntKind.i64.wrap ((s : Int) + (r : Int)) = (y : Int) := by rw [IntKind.wrap_i64]; omega
          have l0 : wr.drew.cell? ⟨xb, xo + x, none⟩ = some (.int .u64 (G y : Nat)) := x0
          have l1 : wr.drew.cell? ⟨vb, 0, none⟩ = some (.int .i64 (R : Int)) := t0
          have l2 : wr.drew.cell? ⟨vb, 1, none⟩ = some (.int .i64 (C : Int)) := t1
          have l3 : wr.drew.cell? ⟨w1.heap.size, y, none⟩ = some (.int .u64 (v : Nat)) := u0
          have l4 : wr.drew.frozen? ⟨w1.heap.size, y, none⟩ = false := u1
          have BH := Lib.hid BD
          clear hx hy hs ht hg X2 BD
          generalize G y = z at *
          go_upto_region 10 with fail
          go_region
          go_wp2_with fail
          go_roundw
          case rel => exact ⟨c + 1, rfl, by omega, by first | exact PU.out _ (BH.out.drewN _) | exact PU.out _ BH.out.drew⟩
          case measure => simp [Lib.intOf]; omega
        · have c1 : ¬ (c : Int) < C := by omega
          obtain rfl : c = C := by omega
          have OK := Lib.hid (BD.less (DR.out r))
          clear BD
          go_wp2_with fail
          go_roundw
          case rel => exact ⟨r + 1, rfl, by omega, OK.out⟩
          case measure => simp [Lib.intOf]; omega
    · have r1 : ¬ (r : Int) < R := by omega
      obtain rfl : r = R := by omega
      have OK := Lib.hid (B1.out G _ _ (Nat.le_refl _) BD.s (BD.wk (fun j h => dn_all R0.out h)) BD.bel)
      clear BD
      go_wp2
      exact bodyPost_ret (v := .tuple #[.slice (some ⟨w1.heap.size, 0, none⟩) n n, .int .i64 0]) (by simp [results, Tryd.results38, go_sem]) rfl OK.out
end Vw
end Go.Proofs.YtfjoacopnkceoaaDoor
set_option linter.unusedVariables false
namespace Go.Proofs.YtfjoacopnkceoaaDoor
open Go.RowKit Go.Lib Go.Sort
namespace Vw
open Nm Ww Tn Pl Td Kn

set_option maxHeartbeats 400000 in
theorem fault_shape (A : Option Addr) (n ca : Nat) (p q d m : Int) (hg : ¬ Sh.Gd p q) (w : World) (hT : Ft.Tab w) :
    Calls Tryd.prog 33 #[.slice A n ca, .agg #[.int .i64 p, .int .i64 q], .int .i64 d, .int .i64 m] w fun e w' => e = .returned (.int .i64 19) ∧ Below w.heap.size w w' := by
  have G := Lib.hid (fun W T => Sh.good p q false (by simp [hg]) W T)
  have HB := Lib.hid (below_alloc w)
  have HT := Lib.hid hT
  clear hg hT
  go_enter Tryd.func33, Tryd.ntmps33
  go_wp2_with fail
  refine (G.out _ (HT.out.below (HB.out _))).mono ?_
  rintro e w1 ⟨rfl, h1⟩
  have c1 := (HB.out _).trans (h1.mono (HB.out _).size)
  clear h1
  go_wp2
  go_ret
  exact ⟨rfl, c1⟩
set_option maxHeartbeats 400000 in
theorem fault_size (A : Option Addr) (n ca : Nat) (p q d m r : Int) (hg : Sh.Gd p q) (hm : p * q = r) (hne : (n : Int) ≠ r) (w : World) (hT : Ft.Tab w) :
    Calls Tryd.prog 33 #[.slice A n ca, .agg #[.int .i64 p, .int .i64 q], .int .i64 d, .int .i64 m] w fun e w' => e = .returned (.int .i64 19) ∧ Below w.heap.size w w' := by
  have G := Lib.hid (fun W T => Sh.good p q true (by simp [hg]) W T)
  have Z := Lib.hid (fun W T => Sh.size_yes p q r hg hm W T)
  have nm : ((n : Int) != r) = true := by simp [hne]
  have HB := Lib.hid (below_alloc w)
  have HT := Lib.hid hT
  clear hg hm hT hne
  go_enter Tryd.func33, Tryd.ntmps33
  go_wp2_with fail
  refine (G.out _ (HT.out.below (HB.out _))).mono ?_
  rintro e w1 ⟨rfl, h1⟩
  have c1 := (HB.out _).trans (h1.mono (HB.out _).size)
  have T1 := (Sh.Tw.fresh w p q 40).below h1
  have t0 := T1.c0
  have t1 := T1.c1
  clear h1
  go_wp2_with fail
  refine (Z.out _ (HT.out.below c1)).mono ?_
  rintro e w2 ⟨rfl, h2⟩
  have c2 := c1.trans (h2.mono c1.size)
  clear h2 c1 T1 t0 t1
  go_wp2
  go_ret
  exact ⟨rfl, c2⟩
set_option maxHeartbeats 400000 in
theorem fault_kind (A : Option Addr) (n ca : Nat) (p q d m : Int) (hg : Sh.Gd p q) (hm : p * q = (n : Int)) (h0 : d ≠ 0) (h1 : d ≠ 1) (w : World) (hT : Ft.Tab w) :
    Calls Tryd.prog 33 #[.slice A n ca, .agg #[.int .i64 p, .int .i64 q], .int .i64 d, .int .i64 m] w fun e w' => e = .returned (.int .i64 18) ∧ Below w.heap.size w w' := by
  have G := Lib.hid (fun W T => Sh.good p q true (by simp [hg]) W T)
  have Z := Lib.hid (fun W T => Sh.size_yes p q (n : Int) hg hm W T)
  have U := Lib.hid (fun W => Kq.unit_kind d h0 h1 W)
  have HB := Lib.hid (below_alloc w)
  have HT := Lib.hid hT
  clear hg hm hT h0 h1
  go_enter Tryd.func33, Tryd.ntmps33
  go_wp2_with fail
  refine (G.out _ (HT.out.below (HB.out _))).mono ?_
  rintro e w1 ⟨rfl, h1⟩
  have c1 := (HB.out _).trans (h1.mono (HB.out _).size)
  have T1 := (Sh.Tw.fresh w p q 40).below h1
  have t0 := T1.c0
  have t1 := T1.c1
  clear h1
  go_wp2_with fail
  refine (Z.out _ (HT.out.below c1)).mono ?_
  rintro e w2 ⟨rfl, h2⟩
  have c2 := c1.trans (h2.mono c1.size)
  clear h2 c1 T1 t0 t1
  go_wp2_with fail
  refine (U.out _).mono ?_
  rintro e w3 ⟨rfl, rfl⟩
  go_wp2
  go_ret
  exact ⟨rfl, c2⟩
set_option maxHeartbeats 400000 in
theorem fault_none (A : Option Addr) (n ca d : Nat) (p q m : Int) (hg : Sh.Gd p q) (hm : p * q = (n : Int)) (hd : d ≤ 1) (hl : m ≤ 1048576) (w : World) (hT : Ft.Tab w) :
    Calls Tryd.prog 33 #[.slice A n ca, .agg #[.int .i64 p, .int .i64 q], .int .i64 (d : Int), .int .i64 m] w fun e w' => e = .returned (.int .i64 0) ∧ Below w.heap.size w w' := by
  have G := Lib.hid (fun W T => Sh.good p q true (by simp [hg]) W T)
  have Z := Lib.hid (fun W T => Sh.size_yes p q (n : Int) hg hm W T)
  have U := Lib.hid (fun W => Kq.unit_in d hd W)
  generalize rd 2 d = u at *
  have HB := Lib.hid (below_alloc w)
  have HT := Lib.hid hT
  have nl : ¬ 1048576 < m := by omega
  clear hg hm hT hd hl
  go_enter Tryd.func33, Tryd.ntmps33
  go_wp2_with fail
  refine (G.out _ (HT.out.below (HB.out _))).mono ?_
  rintro e w1 ⟨rfl, h1⟩
  have c1 := (HB.out _).trans (h1.mono (HB.out _).size)
  have T1 := (Sh.Tw.fresh w p q 40).below h1
  have t0 := T1.c0
  have t1 := T1.c1
  clear h1
  go_wp2_with fail
  refine (Z.out _ (HT.out.below c1)).mono ?_
  rintro e w2 ⟨rfl, h2⟩
  have c2 := c1.trans (h2.mono c1.size)
  clear h2 c1 T1 t0 t1
  go_wp2_with fail
  refine (U.out _).mono ?_
  rintro e w3 ⟨rfl, h3⟩
  have c3 := c2.trans (h3.mono c2.size)
  clear h3 c2
  go_wp2
  go_ret
  exact ⟨rfl, c3⟩

/-- A shape captured, in another block than b. -/
theorem tw_but {w w' : World} {b sb : Nat} {p q : Int} (h : Sh.Tw w sb p q) (hb : sb ≠ b) (o : But b w w') : Sh.Tw w' sb p q :=
  ⟨(o.cell ⟨sb, 0, none⟩ hb h.lt).trans h.c0, (o.cell ⟨sb, 1, none⟩ hb h.lt).trans h.c1⟩
/-- The closures. -/
def rowsF (sb : Nat) : Value := .func (.func 53) #[] #[.pointer (some ⟨sb, 0, none⟩)]
def colsF (sb : Nat) : Value := .func (.func 54) #[] #[.pointer (some ⟨sb, 0, none⟩)]
set_option maxHeartbeats 400000 in
theorem rowsOf (p q : Int) (w : World) :
    Calls Tryd.prog 35 #[.agg #[.int .i64 p, .int .i64 q]] w fun e w' => e = .returned (rowsF w.heap.size) ∧ Sh.Tw w' w.heap.size p q ∧ Below w.heap.size w w' := by
  have HB := Lib.hid (below_alloc w)
  have T1 := Lib.hid (Sh.Tw.fresh w p q 40)
  go_enter Tryd.func35, Tryd.ntmps35
  go_wp2
  go_ret
  exact ⟨rfl, T1.out, HB.out _⟩
set_option maxHeartbeats 400000 in
theorem colsOf (p q : Int) (w : World) :
    Calls Tryd.prog 36 #[.agg #[.int .i64 p, .int .i64 q]] w fun e w' => e = .returned (colsF w.heap.size) ∧ Sh.Tw w' w.heap.size p q ∧ Below w.heap.size w w' := by
  have HB := Lib.hid (below_alloc w)
  have T1 := Lib.hid (Sh.Tw.fresh w p q 40)
  go_enter Tryd.func36, Tryd.ntmps36
  go_wp2
  go_ret
  exact ⟨rfl, T1.out, HB.out _⟩
/-- A new view of noughts, and one that is written. -/
theorem fresh3 (w : World) (t : TypeId) : (w.alloc (.cells #[.int .i64 0, .int .i64 0, .int .i64 0] t)).cell? ⟨w.heap.size, 0, none⟩ = some (.int .i64 0) ∧ (w.alloc (.cells #[.int .i64 0, .int .i64 0, .int .i64 0] t)).cell? ⟨w.heap.size, 1, none⟩ = some (.int .i64 0) ∧ (w.alloc (.cells #[.int .i64 0, .int .i64 0, .int .i64 0] t)).cell? ⟨w.heap.size, 2, none⟩ = some (.int .i64 0) ∧ (w.alloc (.cells #[.int .i64 0, .int .i64 0, .int .i64 0] t)).frozen? ⟨w.heap.size, 0, none⟩ = false ∧ (w.alloc (.cells #[.int .i64 0, .int .i64 0, .int .i64 0] t)).frozen? ⟨w.heap.size, 1, none⟩ = false ∧ (w.alloc (.cells #[.int .i64 0, .int .i64 0, .int .i64 0] t)).frozen? ⟨w.heap.size, 2, none⟩ = false :=
  ⟨by simp [go_sem], by simp [go_sem], by simp [go_sem], by simp [go_sem], by simp [go_sem], by simp [go_sem]⟩
theorem put3 {w : World} {b : Nat} {u0 u1 u2 : Value} (c0 : w.cell? ⟨b, 0, none⟩ = some u0) (c1 : w.cell? ⟨b, 1, none⟩ = some u1) (c2 : w.cell? ⟨b, 2, none⟩ = some u2) (v0 v1 v2 : Value) :
    (((w.setCell ⟨b, 0, none⟩ v0).setCell ⟨b, 1, none⟩ v1).setCell ⟨b, 2, none⟩ v2).cell? ⟨b, 0, none⟩ = some v0 ∧ (((w.setCell ⟨b, 0, none⟩ v0).setCell ⟨b, 1, none⟩ v1).setCell ⟨b, 2, none⟩ v2).cell? ⟨b, 1, none⟩ = some v1 ∧ (((w.setCell ⟨b, 0, none⟩ v0).setCell ⟨b, 1, none⟩ v1).setCell ⟨b, 2, none⟩ v2).cell? ⟨b, 2, none⟩ = some v2 :=
  ⟨put_o _ _ _ _ _ _ (by decide) (put_o _ _ _ _ _ _ (by decide) (put_c _ _ _ _ _ c0)), put_o _ _ _ _ _ _ (by decide) (put_c _ _ _ _ _ (put_o _ _ _ _ _ _ (by decide) c1)), put_c _ _ _ _ _ (put_o _ _ _ _ _ _ (by decide) (put_o _ _ _ _ _ _ (by decide) c2))⟩
set_option maxHeartbeats 400000 in
theorem row_view (sb i R C : Nat) (m : Nat) (hm : m = i * C) (hC : m ≤ 1048576) (w : World) (T : Sh.Tw w sb (R : Int) (C : Int)) :
    Calls Tryd.prog 53 #[.int .i64 (i : Int), .pointer (some ⟨sb, 0, none⟩)] w fun e w' => e = .returned (.agg #[.int .i64 (m : Int), .int .i64 1, .int .i64 (C : Int)]) ∧ Below w.heap.size w w' := by
  have q1 : IntKind.i64.wrap ((i : Int) * (C : Int)) = (m : Int) := by rw [← Int.natCast_mul, ← hm]; exact IntWalk.i64_in _ (by omega)
  clear hm
  have W1 := Lib.hid (fresh3 w 24)
  have T1 := Lib.hid (T.below (below_alloc w (.cells #[.int .i64 0, .int .i64 0, .int .i64 0] 24)))
  have B1 := Lib.hid (below_alloc w (.cells #[.int .i64 0, .int .i64 0, .int .i64 0] 24))
  clear T
  go_enter Tryd.func53, Tryd.ntmps53
  go_upto_region 1 with fail
  generalize w.alloc (.cells #[.int .i64 0, .int .i64 0, .int .i64 0] 24) = w1 at *
  obtain ⟨c0, c1, c2, f0, f1, f2⟩ := W1.out
  obtain ⟨t0, t1⟩ := T1.out
  obtain ⟨k0, k1, k2⟩ := put3 c0 c1 c2 (.int .i64 (m : Int)) (.int .i64 1) (.int .i64 (C : Int))
  have B2 := Lib.hid ((((B1.out.setCell (p := ⟨w.heap.size, 0, none⟩) (Nat.le_refl _) (.int .i64 (m : Int)))).setCell (p := ⟨w.heap.size, 1, none⟩) (Nat.le_refl _) (.int .i64 1)).setCell (p := ⟨w.heap.size, 2, none⟩) (Nat.le_refl _) (.int .i64 (C : Int)))
  go_wp2
  exact bodyPost_ret (v := .agg #[.int .i64 (m : Int), .int .i64 1, .int .i64 (C : Int)]) (by simp [results, Tryd.results53, go_sem, k0, k1, k2]) rfl ⟨rfl, B2.out⟩
set_option maxHeartbeats 400000 in
theorem col_view (sb i R C : Nat) (w : World) (T : Sh.Tw w sb (R : Int) (C : Int)) :
    Calls Tryd.prog 54 #[.int .i64 (i : Int), .pointer (some ⟨sb, 0, none⟩)] w fun e w' => e = .returned (.agg #[.int .i64 (i : Int), .int .i64 (C : Int), .int .i64 (R : Int)]) ∧ Below w.heap.size w w' := by
  have W1 := Lib.hid (fresh3 w 24)
  have T1 := Lib.hid (T.below (below_alloc w (.cells #[.int .i64 0, .int .i64 0, .int .i64 0] 24)))
  have B1 := Lib.hid (below_alloc w (.cells #[.int .i64 0, .int .i64 0, .int .i64 0] 24))
  clear T
  go_enter Tryd.func54, Tryd.ntmps54
  go_upto_region 1 with fail
  generalize w.alloc (.cells #[.int .i64 0, .int .i64 0, .int .i64 0] 24) = w1 at *
  obtain ⟨c0, c1, c2, f0, f1, f2⟩ := W1.out
  obtain ⟨t0, t1⟩ := T1.out
  obtain ⟨k0, k1, k2⟩ := put3 c0 c1 c2 (.int .i64 (i : Int)) (.int .i64 (C : Int)) (.int .i64 (R : Int))
  have B2 := Lib.hid ((((B1.out.setCell (p := ⟨w.heap.size, 0, none⟩) (Nat.le_refl _) (.int .i64 (i : Int)))).setCell (p := ⟨w.heap.size, 1, none⟩) (Nat.le_refl _) (.int .i64 (C : Int))).setCell (p := ⟨w.heap.size, 2, none⟩) (Nat.le_refl _) (.int .i64 (R : Int)))
  go_wp2
  exact bodyPost_ret (v := .agg #[.int .i64 (i : Int), .int .i64 (C : Int), .int .i64 (R : Int)]) (by simp [results, Tryd.results54, go_sem, k0, k1, k2]) rfl ⟨rfl, B2.out⟩
end Vw
end Go.Proofs.YtfjoacopnkceoaaDoor
set_option linter.unusedVariables false
namespace Go.Proofs.YtfjoacopnkceoaaDoor
open Go.RowKit Go.Lib Go.Sort
namespace Vw
open Nm Ww Tn Pl Td Kn

theorem field_n (a c e : Int) (W : World) : (Instr.field 24 (.agg #[.int .i64 a, .int .i64 c, .int .i64 e]) 2).run Tryd.prog W = .ok (.int .i64 e) W := by kernel_rfl
theorem tab_but {w w' : World} {b : Nat} (h : Ft.Tab w) (hb : 1 < b) (o : But b w w') : Ft.Tab w' := fun i hi =>
  (o.cell ⟨1, i, none⟩ (Nat.ne_of_lt hb) (World.block_lt_of_cell? w _ (h i hi))).trans (h i hi)
set_option maxHeartbeats 1000000 in
set_option maxRecDepth 100000 in
theorem each (F : FuncId) (he : ∀ args w, (callFunc F args).run Tryd.prog w = .ok (.enter F args) w) (cap : Array Value) (b n ca m s N k d : Nat) (O : Nat → Nat) (f : Nat → Nat) (Inv : World → Prop)
    (hN : N = 2 ^ k) (hk : k ≤ 20) (hd : d ≤ 1) (hn : n ≤ 1048576) (hm0 : 0 < m) (hm : m ≤ 4294967296) (hv : ∀ i, i < m → Vg (O i) s N n) (hf : ∀ j, j < n → f j < 18446744073709551616)
    (hI : ∀ W W', Inv W → But b W W' → Inv W')
    (hF : ∀ i W, i < m → Inv W → Calls Tryd.prog F (#[.int .i64 (i : Nat)] ++ cap) W fun e w' => e = .returned (.agg #[.int .i64 (O i : Nat), .int .i64 (s : Nat), .int .i64 (N : Nat)]) ∧ Below W.heap.size W w')
    (w : World) (hT : Ft.Tab w) (hbt : 1 < b) (hi : Inv w) (J : JR b n f w w) :
    Calls Tryd.prog 34 #[.slice (some ⟨b, 0, none⟩) n ca, .int .i64 (m : Int), .int .i64 (d : Int), .func (.func F) #[] cap] w fun e w' => e = .returned (.int .i64 0) ∧ JR b n (ev k d O s N f m) w w' := by
  have FN := field_n
  have FI := Lib.hid (fun W T => show Calls Tryd.prog 29 #[.int .i64 (N : Int)] W fun e w' => e = .returned (.tuple #[.int .i64 (k : Int), .bool true]) ∧ W = w' by
    rw [hN]; exact Ft.fits_some k (by omega) W T)
  have NE := Lib.hid (fun W => Kq.new_at k hk W)
  have TR := Lib.hid (fun i (hi : i < m) B p p2 bf bi bp (W : World) (hT : Ft.Tab W) (Z : Kz W B b k p p2 bf bi bp) (hB : B ≤ W.heap.size) (J : JR b n (ev k d O s N f i) W W) =>
    show Calls Tryd.prog 30 #[.slice (some ⟨b, 0, none⟩) n ca, .agg #[.int .i64 (O i : Int), .int .i64 (s : Int), .int .i64 (N : Int)], .pointer (some ⟨p, 0, none⟩), .int .i64 (d : Int)] W fun e w' => e = .returned (.int .i64 0) ∧ JR b n (ev k d O s N f (i + 1)) W w' from
    transform b n ca (O i) s N k d B p p2 bf bi bp (ev k d O s N f i) (hv i hi) hN hk hd hn (fun j hj => ev_lt j (hf j hj) i) W hT Z hB J)
  have HF := Lib.hid hF
  have HI := Lib.hid hI
  have HT := Lib.hid hT
  have hi := Lib.hid hi
  have J := Lib.hid J
  have HM := Lib.hid hm0
  clear hv hN hT hf hF hI hm0
  have E0 := Lib.hid (show JR b n (ev k d O s N f 0) w w from J.out)
  clear J
  generalize ev k d O s N f = H at *
  have hbs := Lib.hid E0.out.s
  go_enter Tryd.func34, Tryd.ntmps34
  go_wp2_with fail
  refine (HF.out 0 _ HM.out hi.out).mono ?_
  rintro e w1 ⟨rfl, h1⟩
  have o1 := Lib.hid (But.of_below h1 (Nat.le_of_lt hbs.out))
  have d1 := Lib.hid h1
  clear h1
  go_wp2_with fail
  refine (FI.out _ (HT.out.below d1.out)).mono ?_
  rintro e w' ⟨rfl, rfl⟩
  clear FI FN
  go_wp2_with fail
  refine (NE.out _).mono ?_
  rintro e w2 ⟨p, p2, bf, bi, bp, rfl, Z, h2⟩
  have hb1 := Lib.hid (Nat.lt_of_lt_of_le hbs.out d1.out.size)
  have o2 := Lib.hid (But.trans o1.out (But.of_below h2 (Nat.le_of_lt hb1.out)))
  have Z2 := Lib.hid (show Kz w2 w2.heap.size b k p p2 bf bi bp from ⟨Z.r, Z.aside hb1.out⟩)
  have I2 := Lib.hid (HI.out _ _ hi.out o2.out)
  have T2 := Lib.hid (HT.out.below (d1.out.trans (h2.mono d1.out.size)))
  have E2 := Lib.hid (show JR b n (H 0) w2 w2 from ⟨((E0.out.call d1.out).call h2).k, But.refl _ _, ((E0.out.call d1.out).call h2).s⟩)
  have BT := Lib.hid (fun (W : World) (h : But b w2 W) => show Ft.Tab W from tab_but T2.out hbt h)
  clear Z h2 E0 hi hb1 o1 d1 HT NE hbs
  go_wp2_with fail
  go_loopw [24] (fun v24 wr => ∃ i : Nat, v24 = .int .i64 (i : Int) ∧ i ≤ m ∧ JR b n (H i) w2 wr) (fun v24 _ => m - (Lib.intOf v24).toNat)
  case atStart => exact ⟨0, rfl, Nat.zero_le _, E2.out⟩
  case round =>
    obtain ⟨i, rfl, hi, E⟩ := hrel
    clear E2
    by_cases hlt : i < m
    · have i1 : (i : Int) < m := by omega
      have CF := Lib.hid (HF.out i wr hlt (HI.out _ _ I2.out E.o))
      have CT := Lib.hid (TR.out i hlt)
      have E := Lib.hid E
      clear HF TR
      go_wp2_with fail
      refine CF.out.mono ?_
      rintro e w3 ⟨rfl, h3⟩
      have E3 := Lib.hid (E.out.call h3)
      clear CF h3 E
      go_wp2_with fail
      refine (CT.out _ _ _ _ _ _ _ (BT.out _ E3.out.o) (Z2.out.but E3.out.o) E3.out.o.bel.size ⟨E3.out.k, But.refl _ _, E3.out.s⟩).mono ?_
      rintro e w4 ⟨rfl, J4⟩
      have E4 := Lib.hid (JR.trans E3.out.o J4)
      clear CT J4 E3
      go_wp2_with fail
      go_roundw
      case rel => exact ⟨i + 1, rfl, by omega, E4.out⟩
      case measure => simp [Lib.intOf]; omega
    · have i1 : ¬ (i : Int) < m := by omega
      obtain rfl : i = m := by omega
      have OK := Lib.hid (JR.trans o2.out E)
      clear E
      go_wp2
      go_ret
      exact ⟨rfl, OK.out⟩
end Vw
end Go.Proofs.YtfjoacopnkceoaaDoor
set_option linter.unusedVariables false
namespace Go.Proofs.YtfjoacopnkceoaaDoor
open Go.RowKit Go.Lib Go.Sort
namespace Vw
open Nm Ww Tn Pl Td Kn

/-- What a drawn region reads of a shape in memory, in all worlds in which no block that was there but b is written. -/
structure Vs (w : World) (b vb : Nat) (p q : Int) (wr : World) : Prop where
  v : Sh.Tw wr vb p q
  d : But b w wr
  n : vb ≠ b
  s : b < w.heap.size
section
variable {w wr w1 : World} {b vb : Nat} {p q : Int}
theorem Vs.drew (h : Vs w b vb p q wr) : Vs w b vb p q wr.drew := ⟨⟨h.v.c0, h.v.c1⟩, h.d.drew, h.n, h.s⟩
theorem Vs.but (h : Vs w b vb p q wr) (hb : But b wr w1) : Vs w b vb p q w1 := ⟨tw_but h.v h.n hb, But.trans h.d hb, h.n, h.s⟩
theorem Vs.call (h : Vs w b vb p q wr) (hb : Below wr.heap.size wr w1) : Vs w b vb p q w1 := h.but (But.of_below hb (Nat.le_trans (Nat.le_of_lt h.s) h.d.bel.size))
theorem Vs.all (h : Vs w b vb p q wr) : wr.cell? ⟨vb, 0, none⟩ = some (.int .i64 p) ∧ wr.cell? ⟨vb, 1, none⟩ = some (.int .i64 q) ∧ Vs w b vb p q wr := ⟨h.v.c0, h.v.c1, h⟩
end
theorem row_vg {R C n i : Nat} (hn : n = R * C) (hl : n ≤ 1048576) (hi : i < R) (h0 : 0 < C) : Vg (i * C) 1 C n := by
  have h1 : (i + 1) * C ≤ R * C := Nat.mul_le_mul_right C hi
  rw [Nat.succ_mul] at h1
  have h2 : C ≤ R * C := Nat.le_mul_of_pos_left C (by omega)
  exact ⟨by omega, Nat.le_refl 1, Or.inr (by rw [Nat.mul_one]; omega)⟩
theorem col_vg {R C n i : Nat} (hn : n = R * C) (hl : n ≤ 1048576) (hi : i < C) (h0 : 0 < R) : Vg i C R n := by
  have h2 : R ≤ R * C := Nat.le_mul_of_pos_right R (by omega)
  have h3 : (R - 1) * C + C = R * C := by rw [← Nat.succ_mul, show (R - 1).succ = R by omega]
  exact ⟨by omega, by omega, Or.inr (by omega)⟩
set_option maxHeartbeats 400000 in
theorem rows_err (A : Option Addr) (n ca : Nat) (p q d e0 : Int) (he : e0 ≠ 0) (w : World) (hT : Ft.Tab w) (hF : ∀ m W, Ft.Tab W → Calls Tryd.prog 33 #[.slice A n ca, .agg #[.int .i64 p, .int .i64 q], .int .i64 d, .int .i64 m] W fun e w' => e = .returned (.int .i64 e0) ∧ Below W.heap.size W w') :
    Calls Tryd.prog 19 #[.slice A n ca, .agg #[.int .i64 p, .int .i64 q], .int .i64 d] w fun e w' => e = .returned (.int .i64 e0) ∧ Below w.heap.size w w' := by
  have HF := Lib.hid hF
  have HB := Lib.hid (below_alloc w)
  have HT := Lib.hid hT
  have ne : (e0 != 0) = true := by simp [he]
  clear hF hT he
  go_enter Tryd.func19, Tryd.ntmps19
  go_wp2_with fail
  refine (HF.out _ _ (HT.out.below (HB.out _))).mono ?_
  rintro e w1 ⟨rfl, h1⟩
  have b1 := (HB.out _).trans (h1.mono (HB.out _).size)
  clear h1
  go_wp2
  go_ret
  exact ⟨rfl, b1⟩
set_option maxHeartbeats 400000 in
theorem cols_err (A : Option Addr) (n ca : Nat) (p q d e0 : Int) (he : e0 ≠ 0) (w : World) (hT : Ft.Tab w) (hF : ∀ m W, Ft.Tab W → Calls Tryd.prog 33 #[.slice A n ca, .agg #[.int .i64 p, .int .i64 q], .int .i64 d, .int .i64 m] W fun e w' => e = .returned (.int .i64 e0) ∧ Below W.heap.size W w') :
    Calls Tryd.prog 20 #[.slice A n ca, .agg #[.int .i64 p, .int .i64 q], .int .i64 d] w fun e w' => e = .returned (.int .i64 e0) ∧ Below w.heap.size w w' := by
  have HF := Lib.hid hF
  have HB := Lib.hid (below_alloc w)
  have HT := Lib.hid hT
  have ne : (e0 != 0) = true := by simp [he]
  clear hF hT he
  go_enter Tryd.func20, Tryd.ntmps20
  go_wp2_with fail
  refine (HF.out _ _ (HT.out.below (HB.out _))).mono ?_
  rintro e w1 ⟨rfl, h1⟩
  have b1 := (HB.out _).trans (h1.mono (HB.out _).size)
  clear h1
  go_wp2
  go_ret
  exact ⟨rfl, b1⟩
set_option maxHeartbeats 1000000 in
set_option maxRecDepth 100000 in
theorem rows_ok (b n ca R C ra rc d : Nat) (f : Nat → Nat) (hR : R = 2 ^ ra) (hC : C = 2 ^ rc) (hk : ra + rc ≤ 32) (hn : n = R * C) (hl : n ≤ 1048576) (hd : d ≤ 1) (hf : ∀ j, j < n → f j < 18446744073709551616) (w : World) (hT : Ft.Tab w) (hbt : 1 < b) (J : JR b n f w w) :
    Calls Tryd.prog 19 #[.slice (some ⟨b, 0, none⟩) n ca, .agg #[.int .i64 (R : Int), .int .i64 (C : Int)], .int .i64 (d : Int)] w fun e w' => e = .returned (.int .i64 0) ∧ JR b n (ev rc d (fun i => i * C) 1 C f R) w w' := by
  have R0 : 0 < R := by rw [hR]; exact Nat.two_pow_pos ra
  have C0 : 0 < C := by rw [hC]; exact Nat.two_pow_pos rc
  have RL : R ≤ n := by rw [hn]; exact Nat.le_mul_of_pos_right R C0
  have CL : C ≤ n := by rw [hn]; exact Nat.le_mul_of_pos_left C R0
  have hg : Sh.Gd (R : Int) (C : Int) := ⟨ra, rc, hk, by rw [hR], by rw [hC]⟩
  have FA := Lib.hid (fun m (hm : m ≤ 1048576) W T => fault_none (some ⟨b, 0, none⟩) n ca d R C m hg (by rw [hn]; simp) hd hm W T)
  have h20 : ∀ j, 2 ^ j ≤ n → j ≤ 20 := fun j h => (Nat.pow_le_pow_iff_right (a := 2) (by decide)).1 (Nat.le_trans h (Nat.le_trans hl (show 1048576 ≤ 2 ^ 20 by decide)))
  have EA := Lib.hid (fun sb (hsb : sb ≠ b) W (hT : Ft.Tab W) (T : Sh.Tw W sb (R : Int) (C : Int)) (J : JR b n f W W) => show Calls Tryd.prog 34 #[.slice (some ⟨b, 0, none⟩) n ca, .int .i64 (R : Int), .int .i64 (d : Int), rowsF sb] W fun e w' => e = .returned (.int .i64 0) ∧ JR b n (ev rc d (fun i => i * C) 1 C f R) W w' from
    each 53 (fun args w => Tryd.call53 args w) #[.pointer (some ⟨sb, 0, none⟩)] b n ca R 1 C rc d (fun i => i * C) f (fun W => Sh.Tw W sb (R : Int) (C : Int)) hC (h20 _ (by rw [← hC]; omega)) hd hl R0 (by omega) (fun i hi => row_vg hn hl hi C0) hf (fun W W' h o => tw_but h hsb o) (fun i W hi T => row_view sb i R C (i * C) rfl (by have := row_vg hn hl hi C0; have h1 : (i + 1) * C ≤ R * C := Nat.mul_le_mul_right C hi; rw [Nat.succ_mul] at h1; omega) W T) W hT hbt T J)
  have OF := Lib.hid (fun W => rowsOf (R : Int) (C : Int) W)
  have HB := Lib.hid (below_alloc w)
  have HT := Lib.hid hT
  have J := Lib.hid J
  have HL := Lib.hid (show (C : Int) ≤ 1048576 ∧ (R : Int) ≤ 1048576 by omega)
  clear hg hR hC hk hn hf hT h20
  generalize ev rc d (fun i => i * C) 1 C f R = H at *
  go_enter Tryd.func19, Tryd.ntmps19
  go_wp2_with fail
  refine (FA.out _ (by have := HL.out; omega) _ (HT.out.below (HB.out _))).mono ?_
  rintro e w1 ⟨rfl, h1⟩
  have V1 := (Sh.Tw.fresh w R C 40).below h1
  have b1 := (HB.out _).trans (h1.mono (HB.out _).size)
  have hb1 := Lib.hid (show b < w1.heap.size from Nat.lt_of_lt_of_le J.out.s b1.size)
  have hvb := Lib.hid (show w.heap.size ≠ b from Nat.ne_of_gt J.out.s)
  have o1 := Lib.hid (show But b w w1 from But.of_below b1 (Nat.le_of_lt J.out.s))
  have T1 := Lib.hid (HT.out.below b1)
  have J1 := Lib.hid (J.out.call b1)
  clear h1 FA HB b1 HT J
  generalize w.heap.size = vb at *
  have M := (show Vs w1 b vb R C w1 from ⟨V1, But.refl _ _, hvb.out, hb1.out⟩)
  have JJ := Lib.hid (fun w3 (h3 : Below w1.heap.size w1.drew w3) => show JR b n f w3 w3 from ⟨(J1.out.drew.call h3).k, But.refl _ _, (J1.out.drew.call h3).s⟩)
  have TT := Lib.hid (fun w3 (h3 : Below w1.heap.size w1.drew w3) => show Ft.Tab w3 from T1.out.below ((Below.refl w1.heap.size w1).drew.trans h3))
  have NB := Lib.hid (show ∀ W : World, W = w1.drew → W.heap.size ≠ b from fun W h => by subst h; exact Nat.ne_of_gt hb1.out)
  have OK := Lib.hid (fun w3 w4 (h3 : Below w1.heap.size w1.drew w3) (J4 : JR b n H w3 w4) => show JR b n H w w4 from JR.trans (But.trans (But.trans o1.out (But.refl b w1).drew) (But.of_below h3 (Nat.le_of_lt hb1.out))) J4)
  go_upto_region 4 with fail
  clear o1 V1
  go_cut [6] (fun v6 wx => v6 = .int .i64 0 ∧ JR b n H w wx)
  case first =>
    go_region_held3 (fun w' => w'.cell? ⟨vb, 0, none⟩ = some (.int .i64 (R : Int)) ∧ w'.cell? ⟨vb, 1, none⟩ = some (.int .i64 (C : Int)) ∧ Vs w1 b vb R C w')
      (exact Vs.all (by repeat (first | with_reducible exact M | with_reducible refine Vs.drew ?_ | with_reducible refine Vs.but ?_ (JR.o J4) | with_reducible refine Vs.call ?_ h3)))
      (first
        | (go_at_call 35; refine (OF.out _).mono ?_; rintro e w3 ⟨rfl, T3, h3⟩)
        | (go_at_call 34; refine (EA.out _ (NB.out _ rfl) _ (TT.out _ h3) T3 (JJ.out _ h3)).mono ?_; rintro e w4 ⟨rfl, J4⟩))
    all_goals (go_wp2_with fail; go_meet)
    all_goals exact ⟨rfl, OK.out _ _ h3 J4⟩
  case rest =>
    obtain ⟨rfl, h6⟩ := hcut
    go_wp2
    go_ret
    exact ⟨rfl, h6⟩
set_option maxHeartbeats 1000000 in
set_option maxRecDepth 100000 in
theorem cols_ok (b n ca R C ra rc d : Nat) (f : Nat → Nat) (hR : R = 2 ^ ra) (hC : C = 2 ^ rc) (hk : ra + rc ≤ 32) (hn : n = R * C) (hl : n ≤ 1048576) (hd : d ≤ 1) (hf : ∀ j, j < n → f j < 18446744073709551616) (w : World) (hT : Ft.Tab w) (hbt : 1 < b) (J : JR b n f w w) :
    Calls Tryd.prog 20 #[.slice (some ⟨b, 0, none⟩) n ca, .agg #[.int .i64 (R : Int), .int .i64 (C : Int)], .int .i64 (d : Int)] w fun e w' => e = .returned (.int .i64 0) ∧ JR b n (ev ra d (fun i => i) C R f C) w w' := by
  have R0 : 0 < R := by rw [hR]; exact Nat.two_pow_pos ra
  have C0 : 0 < C := by rw [hC]; exact Nat.two_pow_pos rc
  have RL : R ≤ n := by rw [hn]; exact Nat.le_mul_of_pos_right R C0
  have CL : C ≤ n := by rw [hn]; exact Nat.le_mul_of_pos_left C R0
  have hg : Sh.Gd (R : Int) (C : Int) := ⟨ra, rc, hk, by rw [hR], by rw [hC]⟩
  have FA := Lib.hid (fun m (hm : m ≤ 1048576) W T => fault_none (some ⟨b, 0, none⟩) n ca d R C m hg (by rw [hn]; simp) hd hm W T)
  have h20 : ∀ j, 2 ^ j ≤ n → j ≤ 20 := fun j h => (Nat.pow_le_pow_iff_right (a := 2) (by decide)).1 (Nat.le_trans h (Nat.le_trans hl (show 1048576 ≤ 2 ^ 20 by decide)))
  have EA := Lib.hid (fun sb (hsb : sb ≠ b) W (hT : Ft.Tab W) (T : Sh.Tw W sb (R : Int) (C : Int)) (J : JR b n f W W) => show Calls Tryd.prog 34 #[.slice (some ⟨b, 0, none⟩) n ca, .int .i64 (C : Int), .int .i64 (d : Int), colsF sb] W fun e w' => e = .returned (.int .i64 0) ∧ JR b n (ev ra d (fun i => i) C R f C) W w' from
    each 54 (fun args w => Tryd.call54 args w) #[.pointer (some ⟨sb, 0, none⟩)] b n ca C C R ra d (fun i => i) f (fun W => Sh.Tw W sb (R : Int) (C : Int)) hR (h20 _ (by rw [← hR]; omega)) hd hl C0 (by omega) (fun i hi => col_vg hn hl hi R0) hf (fun W W' h o => tw_but h hsb o) (fun i W hi T => col_view sb i R C W T) W hT hbt T J)
  have OF := Lib.hid (fun W => colsOf (R : Int) (C : Int) W)
  have HB := Lib.hid (below_alloc w)
  have HT := Lib.hid hT
  have J := Lib.hid J
  have HL := Lib.hid (show (C : Int) ≤ 1048576 ∧ (R : Int) ≤ 1048576 by omega)
  clear hg hR hC hk hn hf hT h20
  generalize ev ra d (fun i => i) C R f C = H at *
  go_enter Tryd.func20, Tryd.ntmps20
  go_wp2_with fail
  refine (FA.out _ (by have := HL.out; omega) _ (HT.out.below (HB.out _))).mono ?_
  rintro e w1 ⟨rfl, h1⟩
  have V1 := (Sh.Tw.fresh w R C 40).below h1
  have b1 := (HB.out _).trans (h1.mono (HB.out _).size)
  have hb1 := Lib.hid (show b < w1.heap.size from Nat.lt_of_lt_of_le J.out.s b1.size)
  have hvb := Lib.hid (show w.heap.size ≠ b from Nat.ne_of_gt J.out.s)
  have o1 := Lib.hid (show But b w w1 from But.of_below b1 (Nat.le_of_lt J.out.s))
  have T1 := Lib.hid (HT.out.below b1)
  have J1 := Lib.hid (J.out.call b1)
  clear h1 FA HB b1 HT J
  generalize w.heap.size = vb at *
  have M := (show Vs w1 b vb R C w1 from ⟨V1, But.refl _ _, hvb.out, hb1.out⟩)
  have JJ := Lib.hid (fun w3 (h3 : Below w1.heap.size w1.drew w3) => show JR b n f w3 w3 from ⟨(J1.out.drew.call h3).k, But.refl _ _, (J1.out.drew.call h3).s⟩)
  have TT := Lib.hid (fun w3 (h3 : Below w1.heap.size w1.drew w3) => show Ft.Tab w3 from T1.out.below ((Below.refl w1.heap.size w1).drew.trans h3))
  have NB := Lib.hid (show ∀ W : World, W = w1.drew → W.heap.size ≠ b from fun W h => by subst h; exact Nat.ne_of_gt hb1.out)
  have OK := Lib.hid (fun w3 w4 (h3 : Below w1.heap.size w1.drew w3) (J4 : JR b n H w3 w4) => show JR b n H w w4 from JR.trans (But.trans (But.trans o1.out (But.refl b w1).drew) (But.of_below h3 (Nat.le_of_lt hb1.out))) J4)
  go_upto_region 4 with fail
  clear o1 V1
  go_cut [6] (fun v6 wx => v6 = .int .i64 0 ∧ JR b n H w wx)
  case first =>
    go_region_held3 (fun w' => w'.cell? ⟨vb, 0, none⟩ = some (.int .i64 (R : Int)) ∧ w'.cell? ⟨vb, 1, none⟩ = some (.int .i64 (C : Int)) ∧ Vs w1 b vb R C w')
      (exact Vs.all (by repeat (first | with_reducible exact M | with_reducible refine Vs.drew ?_ | with_reducible refine Vs.but ?_ (JR.o J4) | with_reducible refine Vs.call ?_ h3)))
      (first
        | (go_at_call 36; refine (OF.out _).mono ?_; rintro e w3 ⟨rfl, T3, h3⟩)
        | (go_at_call 34; refine (EA.out _ (NB.out _ rfl) _ (TT.out _ h3) T3 (JJ.out _ h3)).mono ?_; rintro e w4 ⟨rfl, J4⟩))
    all_goals (go_wp2_with fail; go_meet)
    all_goals exact ⟨rfl, OK.out _ _ h3 J4⟩
  case rest =>
    obtain ⟨rfl, h6⟩ := hcut
    go_wp2
    go_ret
    exact ⟨rfl, h6⟩
end Vw
end Go.Proofs.YtfjoacopnkceoaaDoor
set_option linter.unusedVariables false
namespace Go.Proofs.YtfjoacopnkceoaaDoor
open Go.RowKit Go.Lib Go.Sort
namespace Vw
open Nm Ww Tn Pl Td Kn

theorem some_ws {w : World} {B : Nat} {A : Option Addr} {f : Nat → Nat} {n ca : Nat} (h0 : 0 < n) (X : Ws w B A (rg f n)) : A = none → ca = 0 := by
  intro h
  obtain ⟨b, o, e, _⟩ := X.at_ 0 (by rw [rg_len]; exact h0)
  rw [h] at e
  cases e
set_option maxHeartbeats 1000000 in
set_option maxRecDepth 100000 in
theorem rrows (A : Option Addr) (n ca R C ra rc d : Nat) (f : Nat → Nat) (hR : R = 2 ^ ra) (hC : C = 2 ^ rc) (hn : n = R * C) (hl : n ≤ 1048576) (hd : d ≤ 1) (w : World) (X : Ws w w.heap.size A (rg f n)) :
    Calls Tryd.prog 22 #[.slice A n ca, .agg #[.int .i64 (R : Int), .int .i64 (C : Int)], .int .i64 (d : Int)] w (RwA (ev rc d (fun i => i * C) 1 C f R) n w) := by
  have R0 : 0 < R := by rw [hR]; exact Nat.two_pow_pos ra
  have C0 : 0 < C := by rw [hC]; exact Nat.two_pow_pos rc
  have RL : R ≤ n := by rw [hn]; exact Nat.le_mul_of_pos_right R C0
  have CL : C ≤ n := by rw [hn]; exact Nat.le_mul_of_pos_left C R0
  have h20 : ∀ j, 2 ^ j ≤ n → j ≤ 20 := fun j h => (Nat.pow_le_pow_iff_right (a := 2) (by decide)).1 (Nat.le_trans h (Nat.le_trans hl (show 1048576 ≤ 2 ^ 20 by decide)))
  have RR := Lib.hid (fun i (hi : i < R) (A : Option Addr) ca W (X : Ws W W.heap.size A (rg (ev rc d (fun i => i * C) 1 C f i) n)) => show Calls Tryd.prog 18 #[.slice A n ca, .agg #[.int .i64 ((i * C : Nat) : Int), .int .i64 (1 : Nat), .int .i64 (C : Int)], .int .i64 (d : Int)] W (RwA (ev rc d (fun i => i * C) 1 C f (i + 1)) n W) from
    rrun A n ca ((fun i => i * C) i) 1 C rc d (ev rc d (fun i => i * C) 1 C f i) (some_ws (by omega) X) (row_vg hn hl hi C0) hC (h20 _ (by rw [← hC]; omega)) hd hl W X)
  have PB := Lib.hid (fun i (hi : i < R) => show i * C ≤ n by have h1 : (i + 1) * C ≤ R * C := Nat.mul_le_mul_right C hi; rw [Nat.succ_mul] at h1; omega)
  have E0 := Lib.hid (show Ws w w.heap.size A (rg (ev rc d (fun i => i * C) 1 C f 0) n) from X)
  have HB := Lib.hid (below_alloc w)
  generalize ev rc d (fun i => i * C) 1 C f = H at *
  clear hR hC hn hd h20 X R0 C0
  go_enter Tryd.func22, Tryd.ntmps22
  go_upto_region 1 with fail
  have V1 := Lib.hid (Sh.Tw.fresh w R C 40)
  have b1 := Lib.hid (HB.out (.cells #[.int .i64 (R : Int), .int .i64 (C : Int)] 40))
  clear HB
  generalize w.alloc (.cells #[.int .i64 (R : Int), .int .i64 (C : Int)] 40) = w1 at *
  have X1 := Lib.hid (E0.out.step b1.out)
  have OK := Lib.hid (fun (A : Option Addr) ca wr (h : Below w1.heap.size w1 wr) (X : Ws wr wr.heap.size A (rg (H R) n)) => show RwA (H R) n w (.returned (.slice A n ca)) wr from ⟨A, ca, rfl, X, b1.out.trans (h.mono b1.out.size)⟩)
  clear E0 b1
  generalize w.heap.size = vb at V1
  go_wp2_with fail
  go_loopw [0, 7] (fun v0 v7 wr => ∃ (i : Nat) (Ai : Option Addr) (ci : Nat), v7 = .int .i64 (i : Int) ∧ v0 = .slice Ai n ci ∧ i ≤ R ∧ Ws wr wr.heap.size Ai (rg (H i) n) ∧ Below w1.heap.size w1 wr) (fun _ v7 _ => R - (Lib.intOf v7).toNat)
  case atStart => exact ⟨0, A, ca, rfl, rfl, Nat.zero_le _, X1.out, Below.refl _ _⟩
  case round =>
    obtain ⟨i, Ai, ci, rfl, rfl, hi, X, hb⟩ := hrel
    clear X1
    obtain ⟨t0, t1⟩ := V1.out.below hb
    have X := Lib.hid X
    have hb := Lib.hid hb
    by_cases hlt : i < R
    · have i1 : (i : Int) < R := by omega
      have CR := Lib.hid (RR.out i hlt)
      clear RR
      obtain ⟨t, ht⟩ : ∃ t, t = i * C := ⟨_, rfl⟩
      rw [← ht] at CR
      have q1 : IntKind.i64.wrap ((i : Int) * (C : Int)) = (t : Int) := by rw [← Int.natCast_mul, ← ht]; exact IntWalk.i64_in _ (by have := PB.out i hlt; omega)
      clear ht
      go_wp2_with fail
      refine (CR.out _ _ _ X.out).mono ?_
      rintro e w2 ⟨A2, c2, rfl, X2, h2⟩
      have X2 := Lib.hid X2
      have b2 := Lib.hid (hb.out.trans (h2.mono hb.out.size))
      clear h2 X CR
      go_wp2_with fail
      go_roundw
      case rel => exact ⟨i + 1, A2, c2, rfl, rfl, by omega, X2.out, b2.out⟩
      case measure => simp [Lib.intOf]; omega
    · have i1 : ¬ (i : Int) < R := by omega
      obtain rfl : i = R := by omega
      have F := Lib.hid (OK.out Ai ci _ hb.out X.out)
      clear X hb OK RR
      go_wp2
      exact bodyPost_ret (v := .slice Ai n ci) (by simp [results, Tryd.results22, go_sem]) rfl F.out
set_option maxHeartbeats 1000000 in
set_option maxRecDepth 100000 in
theorem rcols (A : Option Addr) (n ca R C ra rc d : Nat) (f : Nat → Nat) (hR : R = 2 ^ ra) (hC : C = 2 ^ rc) (hn : n = R * C) (hl : n ≤ 1048576) (hd : d ≤ 1) (w : World) (X : Ws w w.heap.size A (rg f n)) :
    Calls Tryd.prog 23 #[.slice A n ca, .agg #[.int .i64 (R : Int), .int .i64 (C : Int)], .int .i64 (d : Int)] w (RwA (ev ra d (fun i => i) C R f C) n w) := by
  have R0 : 0 < R := by rw [hR]; exact Nat.two_pow_pos ra
  have C0 : 0 < C := by rw [hC]; exact Nat.two_pow_pos rc
  have RL : R ≤ n := by rw [hn]; exact Nat.le_mul_of_pos_right R C0
  have CL : C ≤ n := by rw [hn]; exact Nat.le_mul_of_pos_left C R0
  have h20 : ∀ j, 2 ^ j ≤ n → j ≤ 20 := fun j h => (Nat.pow_le_pow_iff_right (a := 2) (by decide)).1 (Nat.le_trans h (Nat.le_trans hl (show 1048576 ≤ 2 ^ 20 by decide)))
  have RR := Lib.hid (fun i (hi : i < C) (A : Option Addr) ca W (X : Ws W W.heap.size A (rg (ev ra d (fun i => i) C R f i) n)) => show Calls Tryd.prog 18 #[.slice A n ca, .agg #[.int .i64 ((i : Nat) : Int), .int .i64 (C : Nat), .int .i64 (R : Int)], .int .i64 (d : Int)] W (RwA (ev ra d (fun i => i) C R f (i + 1)) n W) from
    rrun A n ca ((fun i => i) i) C R ra d (ev ra d (fun i => i) C R f i) (some_ws (by omega) X) (col_vg hn hl hi R0) hR (h20 _ (by rw [← hR]; omega)) hd hl W X)
  have PB := Lib.hid (fun i (hi : i < R) => show i * C ≤ n by have h1 : (i + 1) * C ≤ R * C := Nat.mul_le_mul_right C hi; rw [Nat.succ_mul] at h1; omega)
  have E0 := Lib.hid (show Ws w w.heap.size A (rg (ev ra d (fun i => i) C R f 0) n) from X)
  have HB := Lib.hid (below_alloc w)
  generalize ev ra d (fun i => i) C R f = H at *
  clear hR hC hn hd h20 X R0 C0
  go_enter Tryd.func23, Tryd.ntmps23
  go_upto_region 1 with fail
  have V1 := Lib.hid (Sh.Tw.fresh w R C 40)
  have b1 := Lib.hid (HB.out (.cells #[.int .i64 (R : Int), .int .i64 (C : Int)] 40))
  clear HB
  generalize w.alloc (.cells #[.int .i64 (R : Int), .int .i64 (C : Int)] 40) = w1 at *
  have X1 := Lib.hid (E0.out.step b1.out)
  have OK := Lib.hid (fun (A : Option Addr) ca wr (h : Below w1.heap.size w1 wr) (X : Ws wr wr.heap.size A (rg (H C) n)) => show RwA (H C) n w (.returned (.slice A n ca)) wr from ⟨A, ca, rfl, X, b1.out.trans (h.mono b1.out.size)⟩)
  clear E0 b1
  generalize w.heap.size = vb at V1
  go_wp2_with fail
  go_loopw [0, 7] (fun v0 v7 wr => ∃ (i : Nat) (Ai : Option Addr) (ci : Nat), v7 = .int .i64 (i : Int) ∧ v0 = .slice Ai n ci ∧ i ≤ C ∧ Ws wr wr.heap.size Ai (rg (H i) n) ∧ Below w1.heap.size w1 wr) (fun _ v7 _ => C - (Lib.intOf v7).toNat)
  case atStart => exact ⟨0, A, ca, rfl, rfl, Nat.zero_le _, X1.out, Below.refl _ _⟩
  case round =>
    obtain ⟨i, Ai, ci, rfl, rfl, hi, X, hb⟩ := hrel
    clear X1
    obtain ⟨t0, t1⟩ := V1.out.below hb
    have X := Lib.hid X
    have hb := Lib.hid hb
    by_cases hlt : i < C
    · have i1 : (i : Int) < C := by omega
      have CR := Lib.hid (RR.out i hlt)
      clear RR
      go_wp2_with fail
      refine (CR.out _ _ _ X.out).mono ?_
      rintro e w2 ⟨A2, c2, rfl, X2, h2⟩
      have X2 := Lib.hid X2
      have b2 := Lib.hid (hb.out.trans (h2.mono hb.out.size))
      clear h2 X CR
      go_wp2_with fail
      go_roundw
      case rel => exact ⟨i + 1, A2, c2, rfl, rfl, by omega, X2.out, b2.out⟩
      case measure => simp [Lib.intOf]; omega
    · have i1 : ¬ (i : Int) < C := by omega
      obtain rfl : i = C := by omega
      have F := Lib.hid (OK.out Ai ci _ hb.out X.out)
      clear X hb OK RR
      go_wp2
      exact bodyPost_ret (v := .slice Ai n ci) (by simp [results, Tryd.results23, go_sem]) rfl F.out
end Vw
end Go.Proofs.YtfjoacopnkceoaaDoor
