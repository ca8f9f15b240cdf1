/- What layer 4's laws ask of Take: the row, the place and the error are told by the bytes alone. -/
import Derived.Test.YtggocbblpgaaoaaDoorCodW
set_option linter.unusedVariables false
namespace Go.Proofs.YtggocbblpgaaoaaDoor
open Go.RowKit
namespace Cw
open Ww Cd Cc Cr

/-- What Take answers. -/
def TakeAll (l : List Nat) (a m : Nat) (w : World) (e : Ending) (w' : World) : Prop :=
  ∃ A cap, e = .returned (.tuple #[.slice A (List.length l) cap, .int .i64 (a : Nat), .int .i64 (m : Nat)]) ∧ Ws w' w'.heap.size A l ∧ Below w.heap.size w w'
theorem TakeAll.nil_ (a m : Nat) {w w' : World} (hb : Below w.heap.size w w') : TakeAll [] a m w (.returned (.tuple #[.slice none 0 0, .int .i64 (a : Nat), .int .i64 (m : Nat)])) w' :=
  ⟨none, 0, rfl, Ws.nil_ _ _ _, hb⟩
theorem words_lt (bs : List UInt8) (n : Nat) : ∀ i, i < (words bs n).length → (words bs n).getD i 0 < 18446744073709551616 := by
  intro i hi
  rw [words_len] at hi
  rw [words_at _ _ _ hi]
  exact wordAt_lt _ _
/-- Take, the program's and the document's own, of any bytes. -/
theorem take_any (bs : List UInt8) (hl : bs.length ≤ 8388608) : ∃ (l : List Nat) (a m : Nat), l.length ≤ bs.length ∧ a ≤ bs.length ∧ m ≤ 15 ∧ (m = 0 → form l = bs) ∧
    (∀ A cap W, bs.length ≤ cap → Bs W W.heap.size A bs → Calls Tryd.prog 8 #[.slice A bs.length cap] W (TakeAll l a m W)) ∧
    (∀ W, Calls Tryd.prog 9 #[.string (sb bs)] W (TakeAll l a m W)) := by
  have hsz := sb_size bs
  have hsl := sb_list bs
  by_cases h8 : bs.length % 8 = 0
  · obtain ⟨n, hn⟩ : ∃ n, bs.length = 8 * n := ⟨bs.length / 8, by omega⟩
    rcases first_bad (words bs n) with hg | ⟨k, hk, hk2, hg⟩
    · have hx : ∀ i, i < n → wordAt bs (8 * i) < 18446744069414584321 := fun i hi => by
        have := hg i (by rw [words_len]; exact hi)
        rwa [words_at _ _ _ hi] at this
      refine ⟨words bs n, 0, 0, by rw [words_len]; omega, Nat.zero_le _, by omega, fun _ => form_words bs n hn, fun A cap W hc R => ?_, fun W => ?_⟩
      · refine (Cc.take_ok A n cap bs (by omega) hc hn hx W R).mono ?_
        rintro e w' ⟨rfl, R2, hb⟩
        exact ⟨_, n, by rw [words_len]; rfl, R2, hb⟩
      · have T := Cr.take_ok (sb bs) n (by omega) (by rw [hsz]; exact hn) (by rw [hsl]; exact hx) W
        rw [hsl] at T
        refine T.mono ?_
        rintro e w' ⟨v, rfl, O, hb⟩
        obtain ⟨A, cap, rfl, R2⟩ := O.ws (words_lt bs n)
        exact ⟨A, cap, rfl, R2, hb⟩
    · rw [words_len] at hk
      rw [words_at _ _ _ hk] at hk2
      have hx : ∀ i, i < k → wordAt bs (8 * i) < 18446744069414584321 := fun i hi => by
        have := hg i hi
        rwa [words_at _ _ _ (by omega)] at this
      refine ⟨[], 8 * k, 3, by simp, by omega, by omega, fun h => by omega, fun A cap W hc R => ?_, fun W => ?_⟩
      · refine (Cc.take_bad A n cap k bs (by omega) hc hn hk hk2 hx W R).mono ?_
        rintro e w' ⟨rfl, hb⟩
        exact TakeAll.nil_ _ _ hb
      · refine (Cr.take_bad (sb bs) n k (by omega) (by rw [hsz]; exact hn) hk (by rw [hsl]; exact hk2) (by rw [hsl]; exact hx) W).mono ?_
        rintro e w' ⟨rfl, hb⟩
        exact TakeAll.nil_ _ _ hb
  · refine ⟨[], 8 * (bs.length / 8), 15, by simp, by omega, by omega, fun h => by omega, fun A cap W hc R => ?_, fun W => ?_⟩
    · refine (Cc.take_short A bs.length cap (by omega) h8 W).mono ?_
      rintro e w' ⟨rfl, rfl⟩
      exact TakeAll.nil_ _ _ (Below.refl _ _)
    · have T := Cr.take_short (sb bs) (by rw [hsz]; omega) (by rw [hsz]; exact h8) W
      rw [hsz] at T
      refine T.mono ?_
      rintro e w' ⟨rfl, rfl⟩
      exact TakeAll.nil_ _ _ (Below.refl _ _)
/-- Take of a canonical row's form. -/
theorem take_form_ok (xs : List Nat) (hn : xs.length ≤ 1048576) (hw : ∀ x, x ∈ xs → x < 18446744073709551616) (hg : ∀ i, i < xs.length → xs.getD i 0 < 18446744069414584321) (A : Option Addr) (cap : Nat) (W : World) (hc : (form xs).length ≤ cap) (R : Bs W W.heap.size A (form xs)) :
    Calls Tryd.prog 8 #[.slice A (form xs).length cap] W (TakeAll xs 0 0 W) := by
  refine (Cc.take_ok A xs.length cap (form xs) hn hc (form_len xs) (fun i hi => by rw [wordAt_form xs i hw hi]; exact hg i hi) W R).mono ?_
  rintro e w' ⟨rfl, R2, hb⟩
  rw [words_form xs hw] at R2
  exact ⟨_, _, rfl, R2, hb⟩
theorem take_form_bad (xs : List Nat) (k : Nat) (hn : xs.length ≤ 1048576) (hw : ∀ x, x ∈ xs → x < 18446744073709551616) (hk : k < xs.length) (hk2 : 18446744069414584321 ≤ xs.getD k 0) (hg : ∀ i, i < k → xs.getD i 0 < 18446744069414584321) (A : Option Addr) (cap : Nat) (W : World) (hc : (form xs).length ≤ cap) (R : Bs W W.heap.size A (form xs)) :
    Calls Tryd.prog 8 #[.slice A (form xs).length cap] W (TakeAll [] (8 * k) 3 W) := by
  refine (Cc.take_bad A xs.length cap k (form xs) hn hc (form_len xs) hk (by rw [wordAt_form xs k hw hk]; exact hk2) (fun i hi => by rw [wordAt_form xs i hw (by omega)]; exact hg i hi) W R).mono ?_
  rintro e w' ⟨rfl, hb⟩
  exact TakeAll.nil_ _ _ hb
end Cw
end Go.Proofs.YtggocbblpgaaoaaDoor
