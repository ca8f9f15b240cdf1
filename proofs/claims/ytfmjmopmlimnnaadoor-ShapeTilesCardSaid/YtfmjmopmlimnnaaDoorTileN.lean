/- Plain numbers about tiles: where the n-th tile of a shape lies, which tile a place lies in, which places have been met. It names no program. -/
set_option linter.unusedVariables false
namespace Go.Proofs.YtfmjmopmlimnnaaDoor
namespace Tl
/-- How many tiles it takes along n places. -/
def up (n l : Nat) : Nat := (n - 1) / l + 1
def row (q h w n : Nat) : Nat := n / up q w * h
def col (q w n : Nat) : Nat := n % up q w * w
def rws (p q h w n : Nat) : Nat := min h (p - row q h w n)
def cls (q w n : Nat) : Nat := min w (q - col q w n)
/-- The tile of a place. -/
def tn (q h w i : Nat) : Nat := i / q / h * up q w + i % q / w
theorem up_pos (n l : Nat) : 0 < up n l := Nat.succ_pos _
theorem up_le (n l : Nat) (hn : 0 < n) : up n l ≤ n := by
  have : (n - 1) / l ≤ n - 1 := Nat.div_le_self _ _
  unfold up; omega
theorem lt_of_up {n l k : Nat} (hn : 0 < n) (hk : k < up n l) : k * l < n := by
  unfold up at hk
  have h1 : k * l ≤ (n - 1) / l * l := Nat.mul_le_mul_right l (by omega)
  have h2 := Nat.div_mul_le_self (n - 1) l
  omega
theorem div_up {n l k : Nat} (hk : k < n) : k / l < up n l := by
  have : k / l ≤ (n - 1) / l := Nat.div_le_div_right (by omega)
  unfold up; omega
section
variable {p q h w n : Nat}
theorem row_lt (hp : 0 < p) (hn : n < up p h * up q w) : row q h w n < p :=
  lt_of_up hp ((Nat.div_lt_iff_lt_mul (up_pos q w)).2 hn)
theorem col_lt (hq : 0 < q) : col q w n < q := lt_of_up hq (Nat.mod_lt _ (up_pos q w))
theorem rws_pos (hp : 0 < p) (hh : 0 < h) (hn : n < up p h * up q w) : 0 < rws p q h w n := by
  have := row_lt (q := q) (w := w) hp hn; unfold rws; omega
theorem cls_pos (hq : 0 < q) (hw : 0 < w) : 0 < cls q w n := by
  have := col_lt (w := w) (n := n) hq; unfold cls; omega
theorem div_of_row {r : Nat} (h1 : row q h w n ≤ r) (h2 : r < row q h w n + rws p q h w n) : r / h = n / up q w := by
  unfold row rws row at *
  exact Nat.div_eq_of_lt_le h1 (by rw [Nat.succ_mul]; omega)
theorem div_of_col {c : Nat} (h1 : col q w n ≤ c) (h2 : c < col q w n + cls q w n) : c / w = n % up q w := by
  unfold col cls col at *
  exact Nat.div_eq_of_lt_le h1 (by rw [Nat.succ_mul]; omega)
theorem place_div {r c : Nat} (hc : c < q) : (r * q + c) / q = r := by
  rw [Nat.add_comm, Nat.add_mul_div_right _ _ (by omega), Nat.div_eq_of_lt hc, Nat.zero_add]
theorem place_mod {r c : Nat} (hc : c < q) : (r * q + c) % q = c := by
  rw [Nat.mul_comm, Nat.mul_add_mod, Nat.mod_eq_of_lt hc]
theorem place_lt {r c : Nat} (hr : r < p) (hc : c < q) : r * q + c < p * q := by
  have : (r + 1) * q ≤ p * q := Nat.mul_le_mul_right q hr
  rw [Nat.succ_mul] at this
  omega
theorem place_of (i : Nat) : i / q * q + i % q = i := Nat.div_add_mod' i q
theorem tn_of {r c : Nat} (h1 : row q h w n ≤ r) (h2 : r < row q h w n + rws p q h w n) (h3 : col q w n ≤ c) (h4 : c < col q w n + cls q w n) (hc : c < q) : tn q h w (r * q + c) = n := by
  unfold tn
  rw [place_div hc, place_mod hc, div_of_row h1 h2, div_of_col h3 h4]
  exact Nat.div_add_mod' n (up q w)
theorem row_of {i : Nat} (hh : 0 < h) (hw : 0 < w) (hq : 0 < q) (hi : i < p * q) : row q h w (tn q h w i) ≤ i / q ∧ i / q < row q h w (tn q h w i) + rws p q h w (tn q h w i) ∧ col q w (tn q h w i) ≤ i % q ∧ i % q < col q w (tn q h w i) + cls q w (tn q h w i) := by
  have hb : i % q / w < up q w := div_up (Nat.mod_lt _ hq)
  have e1 : tn q h w i / up q w = i / q / h := by
    unfold tn
    rw [Nat.add_comm, Nat.add_mul_div_right _ _ (up_pos q w), Nat.div_eq_of_lt hb, Nat.zero_add]
  have e2 : tn q h w i % up q w = i % q / w := by
    unfold tn
    rw [Nat.mul_comm, Nat.mul_add_mod, Nat.mod_eq_of_lt hb]
  unfold rws cls row col
  rw [e1, e2]
  have i1 : i / q < p := (Nat.div_lt_iff_lt_mul hq).2 hi
  have i2 : i % q < q := Nat.mod_lt _ hq
  have a1 := Nat.div_mul_le_self (i / q) h
  have a2 := Nat.div_mul_le_self (i % q) w
  have b1 := Nat.lt_mul_div_succ (i / q) hh
  have b2 := Nat.lt_mul_div_succ (i % q) hw
  rw [Nat.mul_comm, Nat.succ_mul] at b1 b2
  omega
theorem tn_lt {i : Nat} (hq : 0 < q) (hi : i < p * q) : tn q h w i < up p h * up q w := by
  have hb : i % q / w < up q w := div_up (Nat.mod_lt _ hq)
  have ha : i / q / h < up p h := div_up ((Nat.div_lt_iff_lt_mul hq).2 hi)
  unfold tn
  exact place_lt ha hb
/-- Tiles stand row by row. -/
theorem order (hh : 0 < h) (hw : 0 < w) (hn : 0 < n) : row q h w (n - 1) < row q h w n ∨ row q h w (n - 1) = row q h w n ∧ col q w (n - 1) < col q w n := by
  unfold row col
  have hC := up_pos q w
  generalize up q w = C at *
  have e := Nat.div_add_mod' n C
  have hm := Nat.mod_lt n hC
  generalize n / C = x at *
  generalize n % C = y at *
  by_cases y0 : y = 0
  · left
    subst y0
    have x0 : 0 < x := Nat.pos_of_ne_zero fun c => by subst c; simp at e; omega
    have e2 : (n - 1) / C = x - 1 := by
      have : n - 1 = (x - 1) * C + (C - 1) := by
        have : x * C = (x - 1) * C + C := by rw [← Nat.succ_mul]; congr 1; omega
        omega
      rw [this, place_div (by omega)]
    rw [e2]
    exact Nat.mul_lt_mul_of_lt_of_le (by omega) (Nat.le_refl _) hh
  · right
    have e1 : n - 1 = x * C + (y - 1) := by omega
    rw [e1, place_div (by omega), place_mod (by omega)]
    exact ⟨rfl, Nat.mul_lt_mul_of_lt_of_le (by omega) (Nat.le_refl _) hw⟩
end
/-- Which places have been met: 1 where P, 0 elsewhere. -/
structure Cn (N : Nat) (P : Nat → Prop) (f : Nat → Nat) : Prop where
  yes : ∀ i, i < N → P i → f i = 1
  no : ∀ i, i < N → ¬ P i → f i = 0
theorem Cn.iff {N : Nat} {P Q : Nat → Prop} {f : Nat → Nat} (h : Cn N P f) (hPQ : ∀ i, i < N → (P i ↔ Q i)) : Cn N Q f :=
  ⟨fun i hi hq => h.yes i hi ((hPQ i hi).2 hq), fun i hi hq => h.no i hi fun hp => hq ((hPQ i hi).1 hp)⟩
theorem Cn.put {N : Nat} {P Q : Nat → Prop} {f g : Nat → Nat} (h : Cn N P f) (k : Nat) (hg : g k = 1) (hf : ∀ i, i ≠ k → g i = f i) (hPQ : ∀ i, i < N → (Q i ↔ P i ∨ i = k)) : Cn N Q g :=
  ⟨fun i hi hq => by
    by_cases e : i = k
    · rw [e]; exact hg
    · rw [hf i e]; exact h.yes i hi (((hPQ i hi).1 hq).resolve_right e),
   fun i hi hq => by
    by_cases e : i = k
    · exact absurd ((hPQ i hi).2 (Or.inr e)) hq
    · rw [hf i e]; exact h.no i hi fun hp => hq ((hPQ i hi).2 (Or.inl hp))⟩
def SA (q h w n : Nat) (i : Nat) : Prop := tn q h w i < n
def SB (q h w n r : Nat) (i : Nat) : Prop := tn q h w i < n ∨ tn q h w i = n ∧ i / q < r
def SD (q h w n r c : Nat) (i : Nat) : Prop := tn q h w i < n ∨ tn q h w i = n ∧ (i / q < r ∨ i / q = r ∧ i % q < c)
section
variable {p q h w n : Nat} {f : Nat → Nat}
theorem start_ (hf : ∀ i, f i = 0) : Cn (p * q) (SA q h w 0) f := ⟨fun i hi hp => absurd hp (Nat.not_lt_zero _), fun i _ _ => hf i⟩
theorem a_b (hh : 0 < h) (hw : 0 < w) (hq : 0 < q) (H : Cn (p * q) (SA q h w n) f) : Cn (p * q) (SB q h w n (row q h w n)) f :=
  H.iff fun i hi => ⟨Or.inl, fun c => c.elim id fun ⟨e, c⟩ => by have := (row_of hh hw hq hi).1; rw [e] at this; omega⟩
theorem b_d {r : Nat} (hh : 0 < h) (hw : 0 < w) (hq : 0 < q) (H : Cn (p * q) (SB q h w n r) f) : Cn (p * q) (SD q h w n r (col q w n)) f :=
  H.iff fun i hi => ⟨fun c => c.elim Or.inl fun ⟨e, c⟩ => Or.inr ⟨e, Or.inl c⟩, fun c => c.elim Or.inl fun ⟨e, c⟩ => Or.inr ⟨e, by
    have := (row_of hh hw hq hi).2.2.1; rw [e] at this; omega⟩⟩
theorem d_b {r : Nat} (hh : 0 < h) (hw : 0 < w) (hq : 0 < q) (H : Cn (p * q) (SD q h w n r (col q w n + cls q w n)) f) : Cn (p * q) (SB q h w n (r + 1)) f :=
  H.iff fun i hi => ⟨fun c => c.elim Or.inl fun ⟨e, c⟩ => Or.inr ⟨e, by omega⟩, fun c => c.elim Or.inl fun ⟨e, c⟩ => Or.inr ⟨e, by
    have := (row_of hh hw hq hi).2.2.2; rw [e] at this; omega⟩⟩
theorem b_a (hh : 0 < h) (hw : 0 < w) (hq : 0 < q) (H : Cn (p * q) (SB q h w n (row q h w n + rws p q h w n)) f) : Cn (p * q) (SA q h w (n + 1)) f :=
  H.iff fun i hi => ⟨fun c => by unfold SA; rcases c with c | ⟨e, c⟩ <;> omega, fun c => by
    unfold SA at c
    by_cases e : tn q h w i = n
    · right
      have := (row_of hh hw hq hi).2.1; rw [e] at this
      exact ⟨e, this⟩
    · left; omega⟩
theorem d_no {r c : Nat} (h1 : row q h w n ≤ r) (h2 : r < row q h w n + rws p q h w n) (h3 : col q w n ≤ c) (h4 : c < col q w n + cls q w n) (hc : c < q) (hr : r < p) (H : Cn (p * q) (SD q h w n r c) f) : f (r * q + c) = 0 := by
  refine H.no _ (place_lt hr hc) ?_
  unfold SD
  rw [tn_of h1 h2 h3 h4 hc, place_div hc, place_mod hc]
  omega
theorem d_step {r c : Nat} {g : Nat → Nat} (h1 : row q h w n ≤ r) (h2 : r < row q h w n + rws p q h w n) (h3 : col q w n ≤ c) (h4 : c < col q w n + cls q w n) (hc : c < q) (H : Cn (p * q) (SD q h w n r c) f)
    (hg : g (r * q + c) = 1) (hf : ∀ i, i ≠ r * q + c → g i = f i) : Cn (p * q) (SD q h w n r (c + 1)) g :=
  H.put _ hg hf fun i hi => by
    constructor
    · intro c'
      by_cases e : i = r * q + c
      · exact Or.inr e
      · left
        rcases c' with c' | ⟨e1, c' | ⟨e2, c'⟩⟩
        · exact Or.inl c'
        · exact Or.inr ⟨e1, Or.inl c'⟩
        · refine Or.inr ⟨e1, Or.inr ⟨e2, ?_⟩⟩
          have : i % q ≠ c := fun e3 => e (by rw [← place_of (q := q) i, e2, e3])
          omega
    · rintro (c' | e)
      · rcases c' with c' | ⟨e1, c' | ⟨e2, c'⟩⟩
        · exact Or.inl c'
        · exact Or.inr ⟨e1, Or.inl c'⟩
        · exact Or.inr ⟨e1, Or.inr ⟨e2, by omega⟩⟩
      · subst e
        refine Or.inr ⟨tn_of h1 h2 h3 h4 hc, Or.inr ⟨place_div hc, ?_⟩⟩
        rw [place_mod hc]; omega
theorem end_ (hq : 0 < q) (H : Cn (p * q) (SA q h w (up p h * up q w)) f) : ∀ i, i < p * q → f i = 1 := fun i hi => H.yes i hi (tn_lt hq hi)
end
end Tl
end Go.Proofs.YtfmjmopmlimnnaaDoor
