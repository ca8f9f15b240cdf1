/- The contract of package gold's Invs: of every row of words that isn't too long for memory, the inverses of all, or the place of the first that has none; nothing that was there is written. -/
import Derived.Test.YtckaelgmokddkaaGoldS
set_option linter.unusedVariables false
namespace Go.Proofs.Ytckaelgmokddkaa
open Go.RowKit Go.Lib
namespace Gd
open Nm Ww

/-- What Invs answers of a row of which each word has an inverse. -/
def InvsOut (xs : List Nat) (w : World) (e : Ending) (w' : World) : Prop :=
  ∃ f : Nat → Nat, e = .returned (.tuple #[.slice (some ⟨w.heap.size, 0, none⟩) xs.length xs.length, .int .i64 0, .int .i64 0]) ∧ Wk w' w.heap.size 0 xs.length f ∧
    (∀ i, i < xs.length → f i < 18446744069414584321 ∧ f i * xs.getD i 0 % 18446744069414584321 = 1) ∧ w.heap.size < w'.heap.size ∧ Below w.heap.size w w'
/-- What Invs answers of a row whose first word without an inverse stands at k. -/
def InvsNone (k : Nat) (w : World) (e : Ending) (w' : World) : Prop := e = .returned (.tuple #[.slice none 0 0, .int .i64 (k : Int), .int .i64 13]) ∧ Below w.heap.size w w'

/-- The first loop: the products ahead of each place. -/
structure IRel (xs : List Nat) (A : Option Addr) (w wr : World) (i a : Nat) : Prop where
  hi : i ≤ xs.length
  a : a = Nt.prod (xs.take i) % 18446744069414584321
  k : ∃ f, Wk wr w.heap.size 0 xs.length f ∧ ∀ j, j < i → f j = Nt.prod (xs.take j) % 18446744069414584321
  r : Ws wr w.heap.size A xs
  s : w.heap.size < wr.heap.size
  b : Below w.heap.size w wr
/-- The second loop: k places are left. -/
structure JRel (xs : List Nat) (A : Option Addr) (w wr : World) (k a : Nat) : Prop where
  hk : k ≤ xs.length
  ha : a < 18446744069414584321
  a : a * Nt.prod (xs.take k) % 18446744069414584321 = 1
  k : ∃ f, Wk wr w.heap.size 0 xs.length f ∧ (∀ j, j < k → f j = Nt.prod (xs.take j) % 18446744069414584321) ∧ (∀ j, j < xs.length → k ≤ j → f j < 18446744069414584321 ∧ f j * xs.getD j 0 % 18446744069414584321 = 1)
  r : Ws wr w.heap.size A xs
  s : w.heap.size < wr.heap.size
  b : Below w.heap.size w wr
theorem put0 {w : World} {b n : Nat} {f : Nat → Nat} (h : Wk w b 0 n f) (k v : Nat) (hk : k < n) : Wk (w.setCell ⟨b, k, none⟩ (.int .u64 v)) b 0 n (upd f k v) := by
  have := h.put k v hk
  rwa [Nat.zero_add] at this
theorem invsNone_mk {k : Nat} {w w' : World} (h : Below w.heap.size w w') : InvsNone k w (.returned (.tuple #[.slice none 0 0, .int .i64 (k : Int), .int .i64 13])) w' := ⟨rfl, h⟩
theorem invsOut_mk {xs : List Nat} {A : Option Addr} {w wr : World} {a : Nat} (h : JRel xs A w wr 0 a) : InvsOut xs w (.returned (.tuple #[.slice (some ⟨w.heap.size, 0, none⟩) xs.length xs.length, .int .i64 0, .int .i64 0])) wr := by
  obtain ⟨f, K, _, hg⟩ := h.k
  exact ⟨f, rfl, K, fun i hi => hg i hi (Nat.zero_le _), h.s, h.b⟩
theorem IRel.start {xs : List Nat} {A : Option Addr} {w : World} (r : Ws w w.heap.size A xs) (e : TypeId) : IRel xs A w (w.alloc (.cells (madeCells #[.int .u64 0] xs.length) e)) 0 1 :=
  ⟨Nat.zero_le _, rfl, ⟨_, Wk.made w xs.length e, fun j hj => by omega⟩, r.alloc (Nat.le_refl _) _, by simp, (Below.refl _ _).alloc (Nat.le_refl _) _⟩
theorem IRel.step {xs : List Nat} {A : Option Addr} {w wr w1 : World} {i a : Nat} (h : IRel xs A w wr i a) (hlt : i < xs.length) (hb : Below (wr.setCell ⟨w.heap.size, i, none⟩ (.int .u64 a)).heap.size (wr.setCell ⟨w.heap.size, i, none⟩ (.int .u64 a)) w1) :
    IRel xs A w w1 (i + 1) (a * xs.getD i 0 % 18446744069414584321) := by
  obtain ⟨f, K, hf⟩ := h.k
  have hs : w.heap.size < (wr.setCell ⟨w.heap.size, i, none⟩ (.int .u64 a)).heap.size := by simp [World.setCell]; exact h.s
  refine ⟨by omega, by rw [h.a]; exact prod_step xs i hlt, ⟨_, (put0 K i a hlt).step hb, fun j hj => ?_⟩, (h.r.setCell (by simp) _).below (hb.mono (Nat.le_of_lt hs)), Nat.lt_of_lt_of_le hs hb.size, (h.b.setCell (by simp) _).trans (hb.mono (Nat.le_of_lt hs))⟩
  by_cases e : j = i
  · subst e; rw [upd_same, h.a]
  · rw [upd_other _ _ _ e]; exact hf j (by omega)
theorem JRel.start {xs : List Nat} {A : Option Addr} {w wr w1 : World} {a : Nat} (h : IRel xs A w wr xs.length a) (ha : a % 18446744069414584321 ≠ 0) (hb : Below wr.heap.size wr w1) : JRel xs A w w1 xs.length (Nt.inv a) := by
  obtain ⟨f, K, hf⟩ := h.k
  refine ⟨Nat.le_refl _, Nt.inv_lt a, ?_, ⟨f, K.step hb, hf, fun j h1 h2 => by omega⟩, h.r.below (hb.mono (Nat.le_of_lt h.s)), Nat.lt_of_lt_of_le h.s hb.size, h.b.trans (hb.mono (Nat.le_of_lt h.s))⟩
  have e := Nt.inv_mul a ha
  conv at e => lhs; lhs; rhs; rw [h.a]
  rwa [Nat.mul_mod_mod] at e
theorem JRel.step {xs : List Nat} {A : Option Addr} {w wr w1 w2 : World} {m a p : Nat} (h : JRel xs A w wr (m + 1) a) (hp : p = Nt.prod (xs.take m) % 18446744069414584321) (hb : Below wr.heap.size wr w1)
    (hb2 : Below (w1.setCell ⟨w.heap.size, m, none⟩ (.int .u64 (p * a % 18446744069414584321 : Nat))).heap.size (w1.setCell ⟨w.heap.size, m, none⟩ (.int .u64 (p * a % 18446744069414584321 : Nat))) w2) :
    JRel xs A w w2 m (a * xs.getD m 0 % 18446744069414584321) := by
  obtain ⟨f, K, hf, hg⟩ := h.k
  have hm : m < xs.length := h.hk
  have s1 : w.heap.size < w1.heap.size := Nat.lt_of_lt_of_le h.s hb.size
  have hs : w.heap.size < (w1.setCell ⟨w.heap.size, m, none⟩ (.int .u64 (p * a % 18446744069414584321 : Nat))).heap.size := by simp [World.setCell]; exact s1
  have ea := h.a
  rw [Nt.prod_take xs m hm] at ea
  refine ⟨by omega, Nat.mod_lt _ (by decide), ?_, ⟨_, (put0 (K.step hb) m _ hm).step hb2, fun j hj => ?_, fun j h1 h2 => ?_⟩, ((h.r.below (hb.mono (Nat.le_of_lt h.s))).setCell (by simp) _).below (hb2.mono (Nat.le_of_lt hs)), Nat.lt_of_lt_of_le hs hb2.size,
    ((h.b.trans (hb.mono (Nat.le_of_lt h.s))).setCell (by simp) _).trans (hb2.mono (Nat.le_of_lt hs))⟩
  · rw [Nat.mod_mul_mod, Nat.mul_assoc, Nat.mul_comm (xs.getD m 0)]; exact ea
  · rw [upd_other _ _ _ (by omega)]; exact hf j (by omega)
  · by_cases e : j = m
    · subst e
      rw [upd_same]
      refine ⟨Nat.mod_lt _ (by decide), ?_⟩
      rw [Nat.mod_mul_mod, hp, Nat.mul_assoc, Nat.mod_mul_mod]
      rw [← ea]; congr 1
      ac_rfl
    · rw [upd_other _ _ _ e]; exact hg j h1 (by omega)
theorem prod_ne (xs : List Nat) (h : ∀ i, i < xs.length → xs.getD i 0 % 18446744069414584321 ≠ 0) : Nt.prod xs % 18446744069414584321 ≠ 0 := by
  intro e
  have c := Nt.prod_cop Nt.prime xs (fun x hx => by
    obtain ⟨i, hi, rfl⟩ := List.getElem_of_mem hx
    have := h i hi
    simpa [List.getD, hi] using this)
  have := Nat.dvd_of_mod_eq_zero e
  have g := Nat.dvd_gcd this (Nat.dvd_refl 18446744069414584321)
  rw [show Nat.gcd (Nt.prod xs) 18446744069414584321 = 1 from c] at g
  exact absurd (Nat.le_of_dvd (by decide) g) (by decide)

set_option maxHeartbeats 2000000 in
set_option maxRecDepth 100000 in
theorem invs_none (A : Option Addr) (cap : Nat) (xs : List Nat) (k : Nat) (hlen : xs.length ≤ 17592186044416) (hk : k < xs.length) (h0 : xs.getD k 0 % 18446744069414584321 = 0) (hne : ∀ i, i < k → xs.getD i 0 % 18446744069414584321 ≠ 0) (w : World) (hr : Ws w w.heap.size A xs) :
    Calls Try.prog 40 #[.slice A xs.length cap] w (InvsNone k w) := by
  have mk := make_words xs.length (by omega) (by omega)
  have H0 := Lib.hid h0
  have HN := Lib.hid hne
  clear h0 hne
  go_enter Try.func40, Try.ntmps40
  go_wp2_with fail
  go_loopw [6, 17] (fun v6 v17 wr => ∃ i a : Nat, i ≤ k ∧ v17 = .int .i64 (i : Int) ∧ v6 = .int .u64 a ∧ IRel xs A w wr i a) (fun _ v17 _ => xs.length - (intOf v17).toNat)
  case atStart => exact ⟨0, 1, Nat.zero_le _, rfl, rfl, IRel.start hr _⟩
  case round =>
    obtain ⟨i, a, hik, rfl, rfl, R⟩ := hrel
    clear mk hr
    have hlt : i < xs.length := by omega
    have i1 : (i : Int) < xs.length := by omega
    obtain ⟨b, off, rfl, hB, c0⟩ := R.r.at_ i hlt
    have hx := R.r.lt i hlt
    have hal : a < 18446744069414584321 := by rw [R.a]; exact Nat.mod_lt _ (by decide)
    obtain ⟨x, hx0⟩ : ∃ x, x = xs.getD i 0 := ⟨_, rfl⟩
    rw [← hx0] at c0 hx
    have O := Lib.hid (fun W => of x hx W)
    by_cases hi : i = k
    · subst hi
      have hz := H0.out
      rw [← hx0] at hz
      rw [hz] at O
      clear hz hx0 hx hal
      go_wp2_with fail
      refine (O.out _).mono ?_
      rintro e w1 ⟨rfl, rfl⟩
      go_wp2
      exact bodyPost_ret (v := .tuple #[.slice none 0 0, .int .i64 (i : Int), .int .i64 13]) (by simp [results, Try.results40, go_sem]) rfl (invsNone_mk R.b)
    · have hz := HN.out i (by omega)
      rw [← hx0] at hz
      have x0 : (((x % 18446744069414584321 : Nat) : Int) == 0) = false := by
        rw [beq_eq_false_iff_ne]; omega
      obtain ⟨o, ho⟩ : ∃ o, o = x % 18446744069414584321 := ⟨_, rfl⟩
      rw [← ho] at O x0
      obtain ⟨f, K, _⟩ := R.k
      have k0 := K.c i hlt
      have k1 := K.z i hlt
      rw [Nat.zero_add] at k0 k1
      have M := Lib.hid (fun W => mul a x (by omega) hx W)
      obtain ⟨a', ha'⟩ : ∃ a', a' = a * x % 18446744069414584321 := ⟨_, rfl⟩
      rw [← ha'] at M
      have HX := Lib.hid hx0
      have HA := Lib.hid ha'
      clear hz hx0 hx hal K ho ha'
      go_wp2_with fail
      refine (O.out _).mono ?_
      rintro e w1 ⟨rfl, rfl⟩
      go_wp2_with fail
      refine (M.out _).mono ?_
      rintro e w2 ⟨rfl, hb⟩
      have R2 := R.step hlt hb
      rw [← HX.out, ← HA.out] at R2
      clear R c0 k0 k1 hb
      go_wp2_with fail
      go_roundw
      case rel => exact ⟨i + 1, a', by omega, rfl, rfl, R2⟩
      case measure => simp [intOf]; omega

set_option maxHeartbeats 2000000 in
set_option maxRecDepth 100000 in
theorem invs_some (A : Option Addr) (cap : Nat) (xs : List Nat) (hlen : xs.length ≤ 17592186044416) (hne : ∀ i, i < xs.length → xs.getD i 0 % 18446744069414584321 ≠ 0) (w : World) (hr : Ws w w.heap.size A xs) :
    Calls Try.prog 40 #[.slice A xs.length cap] w (InvsOut xs w) := by
  have mk := make_words xs.length (by omega) (by omega)
  have HN := Lib.hid hne
  clear hne
  go_enter Try.func40, Try.ntmps40
  go_wp2_with fail
  go_loopw [6, 17] (fun v6 v17 wr => ∃ i a : Nat, v17 = .int .i64 (i : Int) ∧ v6 = .int .u64 a ∧ IRel xs A w wr i a) (fun _ v17 _ => xs.length - (intOf v17).toNat)
  case atStart => exact ⟨0, 1, rfl, rfl, IRel.start hr _⟩
  case round =>
    obtain ⟨i, a, rfl, rfl, R⟩ := hrel
    clear mk hr
    have hil := R.hi
    have hal : a < 18446744069414584321 := by rw [R.a]; exact Nat.mod_lt _ (by decide)
    by_cases hlt : i < xs.length
    · have i1 : (i : Int) < xs.length := by omega
      obtain ⟨b, off, rfl, hB, c0⟩ := R.r.at_ i hlt
      have hx := R.r.lt i hlt
      obtain ⟨x, hx0⟩ : ∃ x, x = xs.getD i 0 := ⟨_, rfl⟩
      rw [← hx0] at c0 hx
      have O := Lib.hid (fun W => of x hx W)
      have hz := HN.out i hlt
      rw [← hx0] at hz
      have x0 : (((x % 18446744069414584321 : Nat) : Int) == 0) = false := by
        rw [beq_eq_false_iff_ne]; omega
      obtain ⟨o, ho⟩ : ∃ o, o = x % 18446744069414584321 := ⟨_, rfl⟩
      rw [← ho] at O x0
      obtain ⟨f, K, _⟩ := R.k
      have k0 := K.c i hlt
      have k1 := K.z i hlt
      rw [Nat.zero_add] at k0 k1
      have M := Lib.hid (fun W => mul a x (by omega) hx W)
      obtain ⟨a', ha'⟩ : ∃ a', a' = a * x % 18446744069414584321 := ⟨_, rfl⟩
      rw [← ha'] at M
      have HX := Lib.hid hx0
      have HA := Lib.hid ha'
      clear hz hx0 hx hal K ho ha'
      go_wp2_with fail
      refine (O.out _).mono ?_
      rintro e w1 ⟨rfl, rfl⟩
      go_wp2_with fail
      refine (M.out _).mono ?_
      rintro e w2 ⟨rfl, hb⟩
      have R2 := R.step hlt hb
      rw [← HX.out, ← HA.out] at R2
      clear R c0 k0 k1 hb
      go_wp2_with fail
      go_roundw
      case rel => exact ⟨i + 1, a', rfl, rfl, R2⟩
      case measure => simp [intOf]; omega
    · have i1 : ¬ (i : Int) < xs.length := by omega
      obtain rfl : i = xs.length := by omega
      have hne : a % 18446744069414584321 ≠ 0 := by
        have := prod_ne xs HN.out
        have e := R.a
        rw [List.take_of_length_le (Nat.le_refl _)] at e
        rw [e, Nat.mod_mod]; exact this
      have I := Lib.hid (fun W => inv_some a (by omega) hne W)
      clear hal
      go_wp2_with fail
      refine (I.out _).mono ?_
      rintro e w2 ⟨rfl, hb⟩
      have J := JRel.start R hne hb
      clear R hb hne I
      generalize Nt.inv a = y at *
      go_wp2_with fail
      go_loopw [9, 11] (fun v9 v11 wr => ∃ (k c : Nat) (z : Int), z = (k : Int) - 1 ∧ v11 = .int .i64 z ∧ v9 = .int .u64 c ∧ JRel xs A w wr k c) (fun _ v11 _ => (intOf v11 + 1).toNat)
      case atStart => exact ⟨xs.length, y, _, rfl, rfl, rfl, J⟩
      case round =>
        obtain ⟨k, c, z, hz, rfl, rfl, R⟩ := hrel
        clear J
        have hkl := R.hk
        have hcl := R.ha
        rcases k with _ | m
        · obtain rfl : z = -1 := by omega
          clear hz hkl hcl
          go_wp2
          exact bodyPost_ret (v := .tuple #[.slice (some ⟨w.heap.size, 0, none⟩) xs.length xs.length, .int .i64 0, .int .i64 0]) (by simp [results, Try.results40, go_sem]) rfl (invsOut_mk R)
        · obtain rfl : z = (m : Int) := by omega
          clear hz
          have m1 : (m : Int) < xs.length := by omega
          obtain ⟨b, off, rfl, hB, c0⟩ := R.r.at_ m hkl
          have hx := R.r.lt m hkl
          obtain ⟨x, hx0⟩ : ∃ x, x = xs.getD m 0 := ⟨_, rfl⟩
          rw [← hx0] at c0 hx
          obtain ⟨f, K, hf, _⟩ := R.k
          have k0 := K.c m hkl
          have k1 := K.z m hkl
          rw [Nat.zero_add] at k0 k1
          have hfm := hf m (by omega)
          obtain ⟨p, hp⟩ : ∃ p, p = f m := ⟨_, rfl⟩
          rw [← hp] at k0 hfm
          have hpl : p < 18446744069414584321 := by rw [hfm]; exact Nat.mod_lt _ (by decide)
          have M1 := Lib.hid (fun W => mul p c (by omega) (by omega) W)
          have M2 := Lib.hid (fun W => mul c x (by omega) hx W)
          obtain ⟨p', hp'⟩ : ∃ p', p' = p * c % 18446744069414584321 := ⟨_, rfl⟩
          obtain ⟨c', hc'⟩ : ∃ c', c' = c * x % 18446744069414584321 := ⟨_, rfl⟩
          rw [← hp'] at M1
          rw [← hc'] at M2
          have HX := Lib.hid hx0
          have HF := Lib.hid hfm
          have HP := Lib.hid hp'
          have HC := Lib.hid hc'
          have hB' : b ≠ w.heap.size := by omega
          have hs := R.s
          clear hx0 hfm hp' hc' hf K hp hx hpl hcl
          go_wp2_with fail
          refine (M1.out _).mono ?_
          rintro e w3 ⟨rfl, h3⟩
          have k2 := (h3.frozen (p := ⟨w.heap.size, m, none⟩) hs).trans k1
          have k3 := (h3.cell (p := ⟨w.heap.size, m, none⟩) hs).trans k0
          have c1 := (h3.cell (p := ⟨b, off + m, none⟩) (Nat.lt_trans hB hs)).trans c0
          go_wp2_with fail
          refine (M2.out _).mono ?_
          rintro e w4 ⟨rfl, h4⟩
          rw [HP.out] at h4
          have R2 := R.step HF.out h3 h4
          rw [← HX.out, ← HC.out] at R2
          clear R c0 c1 k0 k1 k2 k3 h3 h4
          go_wp2_with fail
          go_roundw
          case rel => exact ⟨m, c', _, rfl, rfl, rfl, R2⟩
          case measure => simp [intOf]
end Gd
end Go.Proofs.Ytckaelgmokddkaa
