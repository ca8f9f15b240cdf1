/- What layer 4's laws ask of Read: the row, the place and the error are told by the text alone. -/
import Derived.Test.YtggocbblpgaaoaaDoorCodW
set_option linter.unusedVariables false
namespace Go.Proofs.YtggocbblpgaaoaaDoor
open Go.RowKit
namespace Cw
open Ww Cd Cc Cr

/-- What reading makes of a text. -/
def Spec (L : List UInt8) (l : List Nat) (a m : Nat) : Prop := (L = [] ∧ l = [] ∧ a = 0 ∧ m = 0) ∨ (L ≠ [] ∧ Rd L 0 [] l a m)
theorem Spec.det {L : List UInt8} {l l' : List Nat} {a a' m m' : Nat} (h : Spec L l a m) (h' : Spec L l' a' m') : l = l' ∧ a = a' ∧ m = m' := by
  rcases h with ⟨h0, rfl, rfl, rfl⟩ | ⟨h0, R⟩
  · rcases h' with ⟨_, rfl, rfl, rfl⟩ | ⟨h1, _⟩
    · exact ⟨rfl, rfl, rfl⟩
    · exact absurd h0 h1
  · rcases h' with ⟨h1, _⟩ | ⟨_, R'⟩
    · exact absurd h1 h0
    · exact R.det R'
theorem Spec.text {L : List UInt8} {l : List Nat} {a m : Nat} (h : Spec L l a m) (hm : m = 0) : txt l = L := by
  rcases h with ⟨rfl, rfl, _, _⟩ | ⟨h0, R⟩
  · rfl
  · obtain ⟨k, _, hk, hd, _, _⟩ := R.text (Nat.zero_le _) hm
    rw [hk, List.nil_append, ← hd, List.drop_zero]
theorem Spec.lt {L : List UInt8} {l : List Nat} {a m : Nat} (h : Spec L l a m) : ∀ i, i < l.length → l.getD i 0 < 18446744073709551616 := by
  intro i hi
  rcases h with ⟨rfl, rfl, _, _⟩ | ⟨h0, R⟩
  · simp at hi
  · have hmem : l.getD i 0 ∈ l := by
      simp only [List.getD, List.getElem?_eq_getElem hi, Option.getD_some]
      exact List.getElem_mem _
    rcases (R.place (Nat.zero_le _)).2.2 _ hmem with h | h
    · simp at h
    · omega
theorem Spec.place {L : List UInt8} {l : List Nat} {a m : Nat} (h : Spec L l a m) : a ≤ L.length ∧ m ≤ 17 := by
  rcases h with ⟨rfl, rfl, rfl, rfl⟩ | ⟨h0, R⟩
  · exact ⟨Nat.zero_le _, by decide⟩
  · exact ⟨(R.place (Nat.zero_le _)).1, (R.place (Nat.zero_le _)).2.1⟩
theorem txt_nil {x : Nat} {r : List Nat} : txt (x :: r) ≠ [] := by
  intro e
  have := dec_pos x
  have h := congrArg List.length e
  simp [txt] at h
  have h2 : (dec x).length = 0 := by rw [h.1]; rfl
  omega
theorem Spec.of_txt {xs l : List Nat} {a m : Nat} (h : Spec (txt xs) l a m) (hw : ∀ y, y ∈ xs → y < 18446744073709551616) :
    ((∀ y, y ∈ xs → y < 18446744069414584321) → l = xs ∧ m = 0) ∧ ((∃ y, y ∈ xs ∧ 18446744069414584321 ≤ y) → m = 3) := by
  cases xs with
  | nil =>
    rcases h with ⟨_, rfl, _, rfl⟩ | ⟨h0, _⟩
    · exact ⟨fun _ => ⟨rfl, rfl⟩, fun ⟨y, hy, _⟩ => by simp at hy⟩
    · exact absurd rfl h0
  | cons x r =>
    rcases h with ⟨h0, _⟩ | ⟨_, R⟩
    · exact absurd h0 txt_nil
    · have := rd_txt r x 0 [] l a m (Nat.zero_le _) (by rw [List.drop_zero]) hw R
      simpa using this
/-- What Read answers. -/
def ReadAll (L : List UInt8) (w : World) (e : Ending) (w' : World) : Prop :=
  ∃ A cap l a m, e = .returned (.tuple #[.slice A (List.length l) cap, .int .i64 (a : Nat), .int .i64 (m : Nat)]) ∧ Spec L l a m ∧ Ws w' w'.heap.size A l ∧ Below w.heap.size w w'
theorem all_of {L : List UInt8} (h0 : L ≠ []) (w : World) (e : Ending) (w' : World) (h : ReadOut L w e w') : ReadAll L w e w' := by
  obtain ⟨v, l, a, m, rfl, R, O, hb⟩ := h
  have S : Spec L l a m := Or.inr ⟨h0, R⟩
  obtain ⟨A, cap, rfl, W⟩ := O.ws S.lt
  exact ⟨A, cap, l, a, m, rfl, S, W, hb⟩
theorem list_ne (s : ByteArray) (h : ¬ s.size = 0) : s.data.toList ≠ [] := by
  intro e
  have := str_len s
  rw [e] at this
  simp at this
  omega
theorem read (s : ByteArray) (hs : s.size ≤ 1048576) (w : World) : Calls Tryd.prog 17 #[.string s] w (ReadAll s.data.toList w) := by
  by_cases h0 : s.size = 0
  · obtain rfl := list_of_size s h0
    refine (Cc.read_empty w).mono ?_
    rintro e w' ⟨rfl, rfl⟩
    exact ⟨none, 0, [], 0, 0, rfl, Or.inl ⟨rfl, rfl, rfl, rfl⟩, Ws.nil_ _ _ _, Below.refl _ _⟩
  · exact (Cc.read s hs (by omega) w).mono (all_of (list_ne s h0) w)
theorem read_ref (s : ByteArray) (hs : s.size ≤ 1048576) (w : World) : Calls Tryd.prog 18 #[.string s] w (ReadAll s.data.toList w) := by
  by_cases h0 : s.size = 0
  · obtain rfl := list_of_size s h0
    refine (Cr.read_empty w).mono ?_
    rintro e w' ⟨rfl, rfl⟩
    exact ⟨none, 0, [], 0, 0, rfl, Or.inl ⟨rfl, rfl, rfl, rfl⟩, Ws.nil_ _ _ _, Below.refl _ _⟩
  · exact (Cr.read s hs (by omega) w).mono (all_of (list_ne s h0) w)
/-- How many words a text has. -/
theorem Rd.count {s : List UInt8} {k acc l a e} (R : Rd s k acc l a e) (hk : k ≤ s.length) : l.length ≤ acc.length + (s.length - k) + 1 := by
  induction R with
  | bad h he => simp
  | last h hl => simp
  | @next k acc x l a e h hl hr ih =>
    have := ih (by omega)
    simp at this
    omega
theorem Spec.count {L : List UInt8} {l : List Nat} {a m : Nat} (h : Spec L l a m) : l.length ≤ L.length + 1 := by
  rcases h with ⟨rfl, rfl, rfl, rfl⟩ | ⟨h0, R⟩
  · simp
  · have := Rd.count R (Nat.zero_le _)
    simpa using this
end Cw
end Go.Proofs.YtggocbblpgaaoaaDoor
