/- Plain numbers about tiles in a shape, for layer 12: a tile's places and their numbers, its part, what is laid there, two tiles that change places, a row that is turned tile by tile. It names no program. -/
set_option linter.unusedVariables false
namespace Go.Proofs.YtobpjlgiefnmjaaDoor
namespace Bk
/-- The place x of a shape of q columns lies in the tile of h rows and w columns at r0, c0. -/
def In (q r0 c0 h w x : Nat) : Prop := (r0 ≤ x / q ∧ x / q < r0 + h) ∧ c0 ≤ x % q ∧ x % q < c0 + w
instance (q r0 c0 h w x : Nat) : Decidable (In q r0 c0 h w x) := by unfold In; infer_instance
/-- Its number in the tile. -/
def no (q r0 c0 w x : Nat) : Nat := (x / q - r0) * w + (x % q - c0)
/-- The k-th place of a tile. -/
def pt (q r0 c0 w k : Nat) : Nat := (r0 + k / w) * q + (c0 + k % w)
theorem div_of {q r c : Nat} (hc : c < q) : (r * q + c) / q = r := by
  rw [Nat.add_comm, Nat.add_mul_div_right _ _ (by omega), Nat.div_eq_of_lt hc, Nat.zero_add]
theorem mod_of {q r c : Nat} (hc : c < q) : (r * q + c) % q = c := by
  rw [Nat.mul_comm, Nat.mul_add_mod, Nat.mod_eq_of_lt hc]
theorem lt_of {p q r c : Nat} (hr : r < p) (hc : c < q) : r * q + c < p * q := by
  have : (r + 1) * q ≤ p * q := Nat.mul_le_mul_right q hr
  rw [Nat.succ_mul] at this
  omega
section
variable {q r0 c0 r1 c1 h w x k : Nat}
theorem pt_lt {p : Nat} (hw : c0 + w ≤ q) (hh : r0 + h ≤ p) (hk : k < h * w) : pt q r0 c0 w k < p * q := by
  have w0 : 0 < w := by apply Nat.pos_of_ne_zero; rintro rfl; omega
  have : k / w < h := (Nat.div_lt_iff_lt_mul w0).2 hk
  have := Nat.mod_lt k w0
  exact lt_of (by omega) (by omega)
theorem pt_div (hw : c0 + w ≤ q) (w0 : 0 < w) : pt q r0 c0 w k / q = r0 + k / w := div_of (by have := Nat.mod_lt k w0; omega)
theorem pt_mod (hw : c0 + w ≤ q) (w0 : 0 < w) : pt q r0 c0 w k % q = c0 + k % w := mod_of (by have := Nat.mod_lt k w0; omega)
theorem pt_in (hw : c0 + w ≤ q) (hk : k < h * w) : In q r0 c0 h w (pt q r0 c0 w k) := by
  have w0 : 0 < w := by apply Nat.pos_of_ne_zero; rintro rfl; omega
  have h1 : k / w < h := (Nat.div_lt_iff_lt_mul w0).2 hk
  have h2 := Nat.mod_lt k w0
  unfold In
  rw [pt_div hw w0, pt_mod hw w0]
  exact ⟨⟨Nat.le_add_right _ _, Nat.add_lt_add_left h1 _⟩, Nat.le_add_right _ _, Nat.add_lt_add_left h2 _⟩
theorem no_pt (hw : c0 + w ≤ q) (w0 : 0 < w) : no q r0 c0 w (pt q r0 c0 w k) = k := by
  unfold no
  rw [pt_div hw w0, pt_mod hw w0, Nat.add_sub_cancel_left, Nat.add_sub_cancel_left]
  exact Nat.div_add_mod' k w
theorem pt_no (hx : In q r0 c0 h w x) : pt q r0 c0 w (no q r0 c0 w x) = x := by
  obtain ⟨⟨h1, h2⟩, h3, h4⟩ := hx
  unfold pt no
  have hm : x % q - c0 < w := by omega
  rw [div_of hm, mod_of hm]
  have e1 : r0 + (x / q - r0) = x / q := by omega
  have e2 : c0 + (x % q - c0) = x % q := by omega
  rw [e1, e2]
  exact Nat.div_add_mod' x q
theorem no_lt (hx : In q r0 c0 h w x) : no q r0 c0 w x < h * w := by
  obtain ⟨⟨h1, h2⟩, h3, h4⟩ := hx
  exact lt_of (by omega) (by omega)
theorem eq_pt (hw : c0 + w ≤ q) (w0 : 0 < w) (hx : In q r0 c0 h w x) : x = pt q r0 c0 w k ↔ no q r0 c0 w x = k := by
  constructor
  · intro e; rw [e]; exact no_pt hw w0
  · intro e; rw [← e]; exact (pt_no hx).symm
/-- The place at row r and column c of the tile. -/
theorem pt_at {r c : Nat} (hc : c < w) : pt q r0 c0 w (r * w + c) = (r0 + r) * q + (c0 + c) := by
  unfold pt
  rw [div_of hc, mod_of hc]
/-- The tile's words. -/
def part (q r0 c0 w : Nat) (f : Nat → Nat) : Nat → Nat := fun k => f (pt q r0 c0 w k)
/-- The first k words of g are laid at the tile. -/
def layk (q r0 c0 h w : Nat) (g f : Nat → Nat) (k : Nat) : Nat → Nat := fun x => if In q r0 c0 h w x ∧ no q r0 c0 w x < k then g (no q r0 c0 w x) else f x
def lay (q r0 c0 h w : Nat) (g f : Nat → Nat) : Nat → Nat := fun x => if In q r0 c0 h w x then g (no q r0 c0 w x) else f x
variable {f g : Nat → Nat}
theorem lay_zero : layk q r0 c0 h w g f 0 = f := by
  funext x
  simp [layk]
theorem lay_step (hw : c0 + w ≤ q) (hk : k < h * w) : (fun j => if j = pt q r0 c0 w k then g k else layk q r0 c0 h w g f k j) = layk q r0 c0 h w g f (k + 1) := by
  have w0 : 0 < w := by apply Nat.pos_of_ne_zero; rintro rfl; omega
  funext x
  unfold layk
  by_cases hx : In q r0 c0 h w x
  · by_cases e : no q r0 c0 w x = k
    · rw [if_pos ((eq_pt hw w0 hx).2 e), if_pos ⟨hx, by omega⟩, e]
    · rw [if_neg (fun h => e ((eq_pt hw w0 hx).1 h))]
      by_cases h1 : no q r0 c0 w x < k
      · rw [if_pos ⟨hx, h1⟩, if_pos ⟨hx, by omega⟩]
      · rw [if_neg (fun h => h1 h.2), if_neg (fun h => by have := h.2; omega)]
  · rw [if_neg (fun e => hx (by rw [e]; exact pt_in hw hk)), if_neg (fun h => hx h.1), if_neg (fun h => hx h.1)]
theorem lay_end : layk q r0 c0 h w g f (h * w) = lay q r0 c0 h w g f := by
  funext x
  unfold layk lay
  by_cases hx : In q r0 c0 h w x
  · rw [if_pos ⟨hx, no_lt hx⟩, if_pos hx]
  · rw [if_neg (fun h => hx h.1), if_neg hx]
theorem lay_at (hw : c0 + w ≤ q) (hk : k < h * w) : lay q r0 c0 h w g f (pt q r0 c0 w k) = g k := by
  have w0 : 0 < w := by apply Nat.pos_of_ne_zero; rintro rfl; omega
  unfold lay
  rw [if_pos (pt_in hw hk), no_pt hw w0]
theorem part_lay (hw : c0 + w ≤ q) (hk : k < h * w) : part q r0 c0 w (lay q r0 c0 h w g f) k = g k := lay_at hw hk
theorem lay_part : lay q r0 c0 h w (part q r0 c0 w f) f = f := by
  funext x
  unfold lay part
  by_cases hx : In q r0 c0 h w x
  · rw [if_pos hx, pt_no hx]
  · rw [if_neg hx]
/-- Two tiles of one form change places: the first k words have. -/
def swk (q r0 c0 r1 c1 h w : Nat) (f : Nat → Nat) (k : Nat) : Nat → Nat := fun x =>
  if In q r0 c0 h w x ∧ no q r0 c0 w x < k then f (pt q r1 c1 w (no q r0 c0 w x)) else if In q r1 c1 h w x ∧ no q r1 c1 w x < k then f (pt q r0 c0 w (no q r1 c1 w x)) else f x
def sw (q r0 c0 r1 c1 h w : Nat) (f : Nat → Nat) : Nat → Nat := fun x =>
  if In q r0 c0 h w x then f (pt q r1 c1 w (no q r0 c0 w x)) else if In q r1 c1 h w x then f (pt q r0 c0 w (no q r1 c1 w x)) else f x
theorem sw_zero : swk q r0 c0 r1 c1 h w f 0 = f := by
  funext x
  simp [swk]
theorem sw_end : swk q r0 c0 r1 c1 h w f (h * w) = sw q r0 c0 r1 c1 h w f := by
  funext x
  unfold swk sw
  by_cases h0 : In q r0 c0 h w x
  · rw [if_pos ⟨h0, no_lt h0⟩, if_pos h0]
  · rw [if_neg (fun h => h0 h.1), if_neg h0]
    by_cases h1 : In q r1 c1 h w x
    · rw [if_pos ⟨h1, no_lt h1⟩, if_pos h1]
    · rw [if_neg (fun h => h1 h.1), if_neg h1]
/-- The places that are not yet changed. -/
theorem sw_at0 (hw : c0 + w ≤ q) (hk : k < h * w) (hd : ∀ x, In q r0 c0 h w x → ¬ In q r1 c1 h w x) : swk q r0 c0 r1 c1 h w f k (pt q r0 c0 w k) = f (pt q r0 c0 w k) := by
  have w0 : 0 < w := by apply Nat.pos_of_ne_zero; rintro rfl; omega
  unfold swk
  rw [if_neg (fun h => by have := h.2; rw [no_pt hw w0] at this; omega), if_neg (fun h => hd _ (pt_in hw hk) h.1)]
theorem sw_at1 (hw : c1 + w ≤ q) (hk : k < h * w) (hd : ∀ x, In q r0 c0 h w x → ¬ In q r1 c1 h w x) : swk q r0 c0 r1 c1 h w f k (pt q r1 c1 w k) = f (pt q r1 c1 w k) := by
  have w0 : 0 < w := by apply Nat.pos_of_ne_zero; rintro rfl; omega
  unfold swk
  rw [if_neg (fun h => hd _ h.1 (pt_in hw hk)), if_neg (fun h => by have := h.2; rw [no_pt hw w0] at this; omega)]
theorem sw_step (hw : c0 + w ≤ q) (hw1 : c1 + w ≤ q) (hk : k < h * w) (hd : ∀ x, In q r0 c0 h w x → ¬ In q r1 c1 h w x) :
    (fun j => if j = pt q r1 c1 w k then f (pt q r0 c0 w k) else (fun j => if j = pt q r0 c0 w k then f (pt q r1 c1 w k) else swk q r0 c0 r1 c1 h w f k j) j) = swk q r0 c0 r1 c1 h w f (k + 1) := by
  have w0 : 0 < w := by apply Nat.pos_of_ne_zero; rintro rfl; omega
  funext x
  show (if x = pt q r1 c1 w k then f (pt q r0 c0 w k) else if x = pt q r0 c0 w k then f (pt q r1 c1 w k) else swk q r0 c0 r1 c1 h w f k x) = _
  unfold swk
  by_cases h0 : In q r0 c0 h w x
  · have h1 := hd x h0
    rw [if_neg (fun e => h1 (by rw [e]; exact pt_in hw1 hk))]
    by_cases e : no q r0 c0 w x = k
    · rw [if_pos ((eq_pt hw w0 h0).2 e), if_pos ⟨h0, by omega⟩, e]
    · rw [if_neg (fun h => e ((eq_pt hw w0 h0).1 h))]
      by_cases l : no q r0 c0 w x < k
      · rw [if_pos ⟨h0, l⟩, if_pos ⟨h0, by omega⟩]
      · rw [if_neg (fun h => l h.2), if_neg (fun h => h1 h.1), if_neg (fun h => by have := h.2; omega), if_neg (fun h => h1 h.1)]
  · rw [if_neg (c := In q r0 c0 h w x ∧ no q r0 c0 w x < k) (fun h => h0 h.1), if_neg (c := In q r0 c0 h w x ∧ no q r0 c0 w x < k + 1) (fun h => h0 h.1)]
    rw [if_neg (c := x = pt q r0 c0 w k) (fun e => h0 (by rw [e]; exact pt_in hw hk))]
    by_cases h1 : In q r1 c1 h w x
    · by_cases e : no q r1 c1 w x = k
      · rw [if_pos ((eq_pt hw1 w0 h1).2 e), if_pos ⟨h1, by omega⟩, e]
      · rw [if_neg (fun h => e ((eq_pt hw1 w0 h1).1 h))]
        by_cases l : no q r1 c1 w x < k
        · rw [if_pos ⟨h1, l⟩, if_pos ⟨h1, by omega⟩]
        · rw [if_neg (fun h => l h.2), if_neg (fun h => by have := h.2; omega)]
    · rw [if_neg (fun e => h1 (by rw [e]; exact pt_in hw1 hk)), if_neg (fun h => h1 h.1), if_neg (fun h => h1 h.1)]
/-- A tile that changes places with itself. -/
theorem sw_same : sw q r0 c0 r0 c0 h w f = f := by
  funext x
  unfold sw
  by_cases h0 : In q r0 c0 h w x
  · rw [if_pos h0, pt_no h0]
  · rw [if_neg h0, if_neg h0]
/-- Two tiles share a place. -/
def Sh (r0 c0 r1 c1 h w : Nat) : Prop := (r1 < r0 + h ∧ r0 < r1 + h) ∧ c1 < c0 + w ∧ c0 < c1 + w
instance (r0 c0 r1 c1 h w : Nat) : Decidable (Sh r0 c0 r1 c1 h w) := by unfold Sh; infer_instance
theorem apart (hs : ¬ Sh r0 c0 r1 c1 h w) : ∀ x, In q r0 c0 h w x → ¬ In q r1 c1 h w x := by
  intro x ⟨⟨a1, a2⟩, a3, a4⟩ ⟨⟨b1, b2⟩, b3, b4⟩
  exact hs ⟨⟨by omega, by omega⟩, by omega, by omega⟩
/-- One of the first k places of the tile at r1, c1 lies in the tile at r0, c0. -/
def Shk (r0 c0 r1 c1 h w k : Nat) : Prop := ∃ j, j < k ∧ ((r0 ≤ r1 + j / w ∧ r1 + j / w < r0 + h) ∧ c0 ≤ c1 + j % w ∧ c1 + j % w < c0 + w)
theorem shk_zero : ¬ Shk r0 c0 r1 c1 h w 0 := fun ⟨j, hj, _⟩ => absurd hj (Nat.not_lt_zero _)
theorem shk_succ : Shk r0 c0 r1 c1 h w (k + 1) ↔ Shk r0 c0 r1 c1 h w k ∨ ((r0 ≤ r1 + k / w ∧ r1 + k / w < r0 + h) ∧ c0 ≤ c1 + k % w ∧ c1 + k % w < c0 + w) := by
  constructor
  · rintro ⟨j, hj, h1⟩
    by_cases e : j = k
    · subst e; exact Or.inr h1
    · exact Or.inl ⟨j, by omega, h1⟩
  · rintro (⟨j, hj, h1⟩ | h1)
    · exact ⟨j, by omega, h1⟩
    · exact ⟨k, by omega, h1⟩
theorem shk_end : Shk r0 c0 r1 c1 h w (h * w) ↔ Sh r0 c0 r1 c1 h w := by
  constructor
  · rintro ⟨j, hj, ⟨h1, h2⟩, h3, h4⟩
    have w0 : 0 < w := by apply Nat.pos_of_ne_zero; rintro rfl; omega
    have a := (Nat.div_lt_iff_lt_mul w0).2 hj
    have b := Nat.mod_lt j w0
    generalize j / w = u at *
    generalize j % w = v at *
    exact ⟨⟨by omega, by omega⟩, by omega, by omega⟩
  · rintro ⟨⟨h1, h2⟩, h3, h4⟩
    have w0 : 0 < w := by omega
    have hc : c0 - c1 < w := by omega
    refine ⟨(r0 - r1) * w + (c0 - c1), lt_of (by omega) hc, ?_⟩
    rw [div_of hc, mod_of hc]
    exact ⟨⟨by omega, by omega⟩, by omega, by omega⟩
/-- A row that is turned, piece by piece: what has been written so far. -/
structure Fl (p q : Nat) (f out : Nat → Nat) (P : Nat → Nat → Prop) : Prop where
  at_ : ∀ r c, r < p → c < q → P r c → out (c * p + r) = f (r * q + c)
variable {p : Nat} {out : Nat → Nat} {P Q : Nat → Nat → Prop}
theorem Fl.none_ (h : ∀ r c, r < p → c < q → ¬ P r c) : Fl p q f out P := ⟨fun r c hr hc hp => absurd hp (h r c hr hc)⟩
theorem Fl.iff (H : Fl p q f out P) (h : ∀ r c, r < p → c < q → Q r c → P r c) : Fl p q f out Q := ⟨fun r c hr hc hq => H.at_ r c hr hc (h r c hr hc hq)⟩
theorem Fl.put (H : Fl p q f out P) {r c : Nat} (hr : r < p) (hc : c < q) (h : ∀ r' c', r' < p → c' < q → Q r' c' → P r' c' ∨ r' = r ∧ c' = c) : Fl p q f (fun j => if j = c * p + r then f (r * q + c) else out j) Q :=
  ⟨fun r' c' hr' hc' hq => by
    by_cases e : c' * p + r' = c * p + r
    · have e1 : c' = c := by have := congrArg (· / p) e; simpa [div_of hr', div_of hr] using this
      have e2 : r' = r := by have := congrArg (· % p) e; simpa [mod_of hr', mod_of hr] using this
      subst e1; subst e2
      simp
    · simp only [e, if_false]
      rcases h r' c' hr' hc' hq with hp | ⟨rfl, rfl⟩
      · exact H.at_ r' c' hr' hc' hp
      · exact absurd rfl e⟩
theorem Fl.end_ (hp : 0 < p) (H : Fl p q f out P) (h : ∀ r c, r < p → c < q → P r c) : ∀ x, x < p * q → out x = f (x % p * q + x / p) := by
  intro x hx
  have h1 : x % p < p := Nat.mod_lt _ hp
  have h2 : x / p < q := (Nat.div_lt_iff_lt_mul hp).2 (by rw [Nat.mul_comm]; exact hx)
  have := H.at_ (x % p) (x / p) h1 h2 (h _ _ h1 h2)
  rwa [Nat.div_add_mod' x p] at this
/-- Turned twice. -/
theorem turned_twice (hp : 0 < p) (hq : 0 < q) (hx : x < p * q) : (x % q * p + x / q) % p * q + (x % q * p + x / q) / p = x := by
  have h2 : x / q < p := (Nat.div_lt_iff_lt_mul hq).2 hx
  rw [mod_of h2, div_of h2]
  exact Nat.div_add_mod' x q
end
end Bk
end Go.Proofs.YtobpjlgiefnmjaaDoor
