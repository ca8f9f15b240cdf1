/- Plain mathematics of layer 4: words' forms (eight bytes, the lowest first) and texts (decimal digits, one blank between), as lists of bytes. -/
import Derived.Lib.ItoaNum
set_option linter.unusedVariables false
namespace Go.Proofs.YtinachlkaochdaaDoor
namespace Cd

/-- The n lowest bytes of w, the lowest first. -/
def le : Nat → Nat → List UInt8
  | 0, _ => []
  | n + 1, w => UInt8.ofNat (w % 256) :: le n (w / 256)
/-- The number whose bytes they are, the lowest first. -/
def vb : List UInt8 → Nat
  | [] => 0
  | b :: r => b.toNat + 256 * vb r
theorem le_len : ∀ n w, (le n w).length = n
  | 0, _ => rfl
  | n + 1, w => by simp [le, le_len n]
theorem u8_lt (b : UInt8) : b.toNat < 256 := b.toNat_lt
theorem vb_lt : ∀ bs, vb bs < 256 ^ bs.length
  | [] => by simp [vb]
  | b :: r => by
    have := vb_lt r
    have := u8_lt b
    simp only [vb, List.length_cons, Nat.pow_succ]
    omega
theorem toNat_mod (n : Nat) : (UInt8.ofNat (n % 256)).toNat = n % 256 := by simp
theorem vb_le : ∀ n w, w < 256 ^ n → vb (le n w) = w
  | 0, w, h => by simp at h; simp [vb, le, h]
  | n + 1, w, h => by
    have := vb_le n (w / 256) (by rw [Nat.pow_succ] at h; omega)
    simp only [le, vb, this, toNat_mod]
    omega
theorem le_vb : ∀ bs, le bs.length (vb bs) = bs
  | [] => rfl
  | b :: r => by
    have h1 := u8_lt b
    have e1 : (b.toNat + 256 * vb r) % 256 = b.toNat := by omega
    have e2 : (b.toNat + 256 * vb r) / 256 = vb r := by omega
    simp only [List.length_cons, le, vb, e1, e2, le_vb r]
    simp
theorem vb_snoc : ∀ (bs : List UInt8) (b : UInt8), vb (bs ++ [b]) = vb bs + 256 ^ bs.length * b.toNat
  | [], b => by simp [vb]
  | c :: r, b => by
    simp only [List.cons_append, vb, vb_snoc r b, List.length_cons, Nat.pow_succ, Nat.mul_add]
    rw [Nat.mul_comm (256 ^ r.length) 256, Nat.mul_assoc]
    omega
theorem le_getD : ∀ n w i, i < n → (le n w).getD i 0 = UInt8.ofNat (w / 256 ^ i % 256)
  | 0, w, i, h => by omega
  | n + 1, w, 0, h => by simp [le]
  | n + 1, w, i + 1, h => by
    have := le_getD n (w / 256) i (by omega)
    simp only [le, List.getD_cons_succ, this, Nat.pow_succ]
    rw [Nat.div_div_eq_div_mul, Nat.mul_comm (256 ^ i)]
/-- A row's form. -/
def form (l : List Nat) : List UInt8 := l.flatMap (le 8)
theorem form_nil : form [] = [] := rfl
theorem form_cons (x : Nat) (l : List Nat) : form (x :: l) = le 8 x ++ form l := by simp [form]
theorem form_snoc (l : List Nat) (x : Nat) : form (l ++ [x]) = form l ++ le 8 x := by simp [form]
theorem form_len : ∀ l, (form l).length = 8 * l.length
  | [] => rfl
  | x :: l => by rw [form_cons, List.length_append, le_len, form_len l, List.length_cons]; omega
/-- The word whose form begins at a place. -/
def wordAt (bs : List UInt8) (k : Nat) : Nat := vb ((bs.drop k).take 8)
theorem wordAt_lt (bs : List UInt8) (k : Nat) : wordAt bs k < 18446744073709551616 := by
  have h := vb_lt ((bs.drop k).take 8)
  have hl : ((bs.drop k).take 8).length ≤ 8 := by simp; omega
  have : (256 : Nat) ^ ((bs.drop k).take 8).length ≤ 256 ^ 8 := Nat.pow_le_pow_right (by decide) hl
  unfold wordAt
  omega
def words (bs : List UInt8) (n : Nat) : List Nat := (List.range n).map fun i => wordAt bs (8 * i)
theorem words_len (bs : List UInt8) (n : Nat) : (words bs n).length = n := by simp [words]
theorem words_succ (bs : List UInt8) (n : Nat) : words bs (n + 1) = words bs n ++ [wordAt bs (8 * n)] := by simp [words, List.range_succ]
theorem words_at (bs : List UInt8) (n i : Nat) (h : i < n) : (words bs n).getD i 0 = wordAt bs (8 * i) := by simp [words, List.getD, h]
theorem wordAt_form : ∀ (l : List Nat) (i : Nat), (∀ x, x ∈ l → x < 18446744073709551616) → i < l.length → wordAt (form l) (8 * i) = l.getD i 0
  | [], i, _, h => by simp at h
  | x :: l, 0, hx, h => by
    have := hx x (by simp)
    simp only [wordAt, form_cons, Nat.mul_zero, List.drop_zero, List.getD_cons_zero]
    rw [List.take_append_of_le_length (by rw [le_len]; omega), List.take_of_length_le (by rw [le_len]; omega), vb_le _ _ (by omega)]
  | x :: l, i + 1, hx, h => by
    have ih := wordAt_form l i (fun y hy => hx y (by simp [hy])) (by simpa using h)
    simp only [wordAt, form_cons, List.getD_cons_succ] at ih ⊢
    rw [← ih, List.drop_append, List.drop_eq_nil_of_le (by rw [le_len]; omega), le_len, show 8 * (i + 1) - 8 = 8 * i from by omega]
    simp
theorem words_form (l : List Nat) (hx : ∀ x, x ∈ l → x < 18446744073709551616) : words (form l) l.length = l := by
  apply List.ext_getElem (by rw [words_len])
  intro i h1 h2
  have e := wordAt_form l i hx h2
  have e2 := words_at (form l) l.length i h2
  rw [e] at e2
  simpa [List.getD, h1, h2] using e2
theorem form_words_take (bs : List UInt8) : ∀ n, 8 * n ≤ bs.length → form (words bs n) = bs.take (8 * n)
  | 0, _ => by simp [words, form]
  | n + 1, h => by
    have hl : ((bs.drop (8 * n)).take 8).length = 8 := by simp; omega
    have e : le 8 (wordAt bs (8 * n)) = (bs.drop (8 * n)).take 8 := by
      have := le_vb ((bs.drop (8 * n)).take 8)
      rwa [hl] at this
    rw [words_succ, form_snoc, form_words_take bs n (by omega), e, show 8 * (n + 1) = 8 * n + 8 from by omega, List.take_add]
theorem form_words (bs : List UInt8) (n : Nat) (h : bs.length = 8 * n) : form (words bs n) = bs := by
  rw [form_words_take bs n (by omega), List.take_of_length_le (by omega)]
/-- The form of one word laid at a place. -/
def lay (bs : List UInt8) (k x : Nat) : List UInt8 := bs.take k ++ (le 8 x ++ bs.drop (k + 8))
theorem lay_len (bs : List UInt8) (k x : Nat) (h : k + 8 ≤ bs.length) : (lay bs k x).length = bs.length := by
  simp only [lay, List.length_append, List.length_take, List.length_drop, le_len]; omega
theorem wordAt_lay (bs : List UInt8) (k x : Nat) (h : k + 8 ≤ bs.length) (hx : x < 18446744073709551616) : wordAt (lay bs k x) k = x := by
  unfold wordAt lay
  rw [List.drop_append, List.drop_eq_nil_of_le (by simp; omega), List.nil_append, List.length_take, show k - min k bs.length = 0 from by omega, List.drop_zero,
    List.take_append_of_le_length (by rw [le_len]; omega), List.take_of_length_le (by rw [le_len]; omega), vb_le _ _ (by omega)]
/-- All words are canonical, or there is a first one that is not. -/
theorem first_bad (l : List Nat) : (∀ i, i < l.length → l.getD i 0 < 18446744069414584321) ∨ ∃ k, k < l.length ∧ 18446744069414584321 ≤ l.getD k 0 ∧ ∀ i, i < k → l.getD i 0 < 18446744069414584321 := by
  suffices h : ∀ n, n ≤ l.length → (∀ i, i < n → l.getD i 0 < 18446744069414584321) ∨ ∃ k, k < n ∧ 18446744069414584321 ≤ l.getD k 0 ∧ ∀ i, i < k → l.getD i 0 < 18446744069414584321 from h _ (Nat.le_refl _)
  intro n
  induction n with
  | zero => intro _; exact Or.inl fun i hi => by omega
  | succ n ih =>
    intro h
    rcases ih (by omega) with h1 | ⟨k, hk, h2, h3⟩
    · by_cases hb : l.getD n 0 < 18446744069414584321
      · exact Or.inl fun i hi => by
          by_cases e : i = n
          · rw [e]; exact hb
          · exact h1 i (by omega)
      · exact Or.inr ⟨n, by omega, by omega, h1⟩
    · exact Or.inr ⟨k, by omega, h2, h3⟩

/-! Texts. -/
abbrev dec (u : Nat) : List UInt8 := Lib.decDigits u
theorem dec_len (u : Nat) (h : u < 18446744073709551616) : (dec u).length ≤ 20 := by
  unfold dec
  rw [Lib.decDigits_length]
  by_cases h1 : 1 ≤ u
  · have := Lib.numDigits_eq u h1 h
    split at this <;> omega
  · rw [Lib.nDigits_small (by omega)]; omega
theorem dec_pos (u : Nat) : 1 ≤ (dec u).length := by unfold dec; rw [Lib.decDigits_length]; exact Lib.nDigits_pos u
theorem dec_small {u : Nat} (h : u < 10) : dec u = [UInt8.ofNat (48 + u)] := Lib.decDigits_one h
theorem dec_big {u : Nat} (h : ¬ u < 10) : dec u = dec (u / 10) ++ [UInt8.ofNat (48 + u % 10)] := by
  show Lib.decDigits u = _
  rw [Lib.decDigits, dif_neg h]
def tl (r : List Nat) : List UInt8 := r.flatMap fun y => 32 :: dec y
/-- A row's text. -/
def txt : List Nat → List UInt8
  | [] => []
  | x :: r => dec x ++ tl r
theorem txt_one (x : Nat) : txt ([] ++ [x]) = dec x := by simp [txt, tl]
theorem txt_snoc (l : List Nat) (x : Nat) (h : l ≠ []) : txt (l ++ [x]) = txt l ++ (32 :: dec x) := by
  cases l with
  | nil => exact absurd rfl h
  | cons y r => simp [txt, tl]
theorem tl_txt (y : Nat) (r : List Nat) : tl (y :: r) = 32 :: txt (y :: r) := by simp [txt, tl]
theorem txt_len : ∀ (l : List Nat), (∀ x, x ∈ l → x < 18446744073709551616) → (txt l).length ≤ 21 * l.length
  | [], _ => by simp [txt]
  | x :: r, h => by
    have h1 := dec_len x (h x (by simp))
    have h2 : ∀ r : List Nat, (∀ x, x ∈ r → x < 18446744073709551616) → (tl r).length ≤ 21 * r.length := by
      intro r
      induction r with
      | nil => intro _; simp [tl]
      | cons y r ih =>
        intro hr
        have a := dec_len y (hr y (by simp))
        have b := ih (fun z hz => hr z (by simp [hz]))
        have e : tl (y :: r) = (32 :: dec y) ++ tl r := by simp [tl]
        rw [e, List.length_append, List.length_cons, List.length_cons]
        omega
    have h3 := h2 r (fun z hz => h z (by simp [hz]))
    simp only [txt, List.length_append, List.length_cons]
    omega

/-- The number of decimal digits. -/
def dv (g : List UInt8) : Nat := g.foldl (fun a d => 10 * a + (d.toNat - 48)) 0
theorem dv_snoc (g : List UInt8) (d : UInt8) : dv (g ++ [d]) = 10 * dv g + (d.toNat - 48) := by simp [dv]
def Dig (d : UInt8) : Prop := 48 ≤ d.toNat ∧ d.toNat ≤ 57
theorem dv_lt : ∀ g : List UInt8, (∀ d, d ∈ g → Dig d) → dv g < 10 ^ g.length := by
  intro g
  have h : ∀ (g : List UInt8) (a : Nat), (∀ d, d ∈ g → Dig d) → g.foldl (fun a d => 10 * a + (d.toNat - 48)) a < (a + 1) * 10 ^ g.length := by
    intro g
    induction g with
    | nil => intro a _; simp
    | cons d r ih =>
      intro a hd
      have h1 := hd d (by simp)
      have h2 := ih (10 * a + (d.toNat - 48)) (fun x hx => hd x (by simp [hx]))
      unfold Dig at h1
      rw [List.foldl_cons, List.length_cons, Nat.pow_succ]
      refine Nat.lt_of_lt_of_le h2 ?_
      rw [Nat.mul_comm (10 ^ r.length) 10, ← Nat.mul_assoc]
      exact Nat.mul_le_mul_right _ (by omega)
  intro hd
  have := h g 0 hd
  simpa [dv] using this
/-- No numeral: no digit, a 0 in front of others, or another byte. -/
def NoNum (g : List UInt8) : Prop := g = [] ∨ (g.getD 0 0 = 48 ∧ 1 < g.length) ∨ ¬ ∀ d, d ∈ g → Dig d
open Classical in
/-- A numeral's word, and an error's number. -/
noncomputable def nume (g : List UInt8) : Nat × Nat :=
  if NoNum g then (0, 17) else if 20 < g.length then (0, 14) else if 18446744069414584321 ≤ dv g then (0, 3) else (dv g, 0)
theorem nume_line {g : List UInt8} (h : NoNum g) : nume g = (0, 17) := by simp [nume, h]
theorem nume_large {g : List UInt8} (h : ¬ NoNum g) (h2 : 20 < g.length) : nume g = (0, 14) := by simp [nume, h, h2]
theorem nume_word {g : List UInt8} (h : ¬ NoNum g) (h2 : ¬ 20 < g.length) (h3 : 18446744069414584321 ≤ dv g) : nume g = (0, 3) := by simp only [nume, if_neg h, if_neg h2, if_pos h3]
theorem nume_ok {g : List UInt8} (h : ¬ NoNum g) (h2 : ¬ 20 < g.length) (h3 : ¬ 18446744069414584321 ≤ dv g) : nume g = (dv g, 0) := by simp only [nume, if_neg h, if_neg h2, if_neg h3]
theorem nume_cases (g : List UInt8) : nume g = (0, 17) ∨ nume g = (0, 14) ∨ nume g = (0, 3) ∨ (¬ NoNum g ∧ dv g < 18446744069414584321 ∧ nume g = (dv g, 0)) := by
  by_cases h : NoNum g
  · exact Or.inl (nume_line h)
  by_cases h2 : 20 < g.length
  · exact Or.inr (Or.inl (nume_large h h2))
  by_cases h3 : 18446744069414584321 ≤ dv g
  · exact Or.inr (Or.inr (Or.inl (nume_word h h2 h3)))
  · exact Or.inr (Or.inr (Or.inr ⟨h, by omega, nume_ok h h2 h3⟩))
theorem dig_of (k : Nat) (h : k < 10) : (UInt8.ofNat (48 + k)).toNat = 48 + k := by
  simp only [UInt8.toNat_ofNat']
  omega
theorem of_dig (d : UInt8) (h : Dig d) : UInt8.ofNat (48 + (d.toNat - 48)) = d := by
  unfold Dig at h
  rw [show 48 + (d.toNat - 48) = d.toNat from by omega]
  simp
theorem dec_dv : ∀ (n : Nat) (g : List UInt8), g.length = n → ¬ NoNum g → dec (dv g) = g := by
  intro n
  induction n with
  | zero =>
    intro g hl h
    exact absurd (Or.inl (List.length_eq_zero_iff.1 hl)) h
  | succ n ih =>
    intro g hl h
    obtain ⟨g', d, rfl⟩ : ∃ g' d, g = g' ++ [d] := ⟨g.dropLast, g.getLast (by intro e; simp [e] at hl), (List.dropLast_concat_getLast _).symm⟩
    have hl' : g'.length = n := by simpa using hl
    have hd : ∀ x, x ∈ g' ++ [d] → Dig x := Classical.byContradiction fun hh => h (Or.inr (Or.inr hh))
    have hdd := hd d (by simp)
    have hdl : d.toNat - 48 < 10 := by unfold Dig at hdd; omega
    rw [dv_snoc]
    by_cases h0 : g' = []
    · subst h0
      rw [show dv [] = 0 from rfl, dec_small (by omega), Nat.mul_zero, Nat.zero_add, of_dig d hdd]
      rfl
    · have hz : ¬ (g'.getD 0 0 = 48) := by
        intro e
        refine h (Or.inr (Or.inl ⟨?_, ?_⟩))
        · cases g' with
          | nil => exact absurd rfl h0
          | cons a r => simpa using e
        · cases g' with
          | nil => exact absurd rfl h0
          | cons a r => simp
      have hn : ¬ NoNum g' := by
        rintro (e | ⟨e, _⟩ | e)
        · exact h0 e
        · exact hz e
        · exact e fun x hx => hd x (by simp [hx])
      have e1 := ih g' hl' hn
      have hp : dv g' ≠ 0 := by
        intro e
        rw [e, dec_small (by omega)] at e1
        rw [← e1] at hz
        exact hz rfl
      rw [dec_big (by omega), show (10 * dv g' + (d.toNat - 48)) / 10 = dv g' from by omega, show (10 * dv g' + (d.toNat - 48)) % 10 = d.toNat - 48 from by omega, e1, of_dig d hdd]
theorem dec_digits : ∀ u : Nat, (∀ d, d ∈ dec u → Dig d) ∧ dv (dec u) = u ∧ ((dec u).getD 0 0 = 48 → u = 0) := by
  intro u
  induction u using Nat.strongRecOn with
  | ind u ih =>
    by_cases h : u < 10
    · rw [dec_small h]
      refine ⟨fun d hd => ?_, ?_, fun e => ?_⟩
      · obtain rfl := List.mem_singleton.1 hd; unfold Dig; rw [dig_of u h]; omega
      · simp only [dv, List.foldl_cons, List.foldl_nil, dig_of u h]; omega
      · have e2 : UInt8.ofNat (48 + u) = 48 := e
        have := congrArg UInt8.toNat e2
        rw [dig_of u h] at this
        have h48 : (48 : UInt8).toNat = 48 := rfl
        omega
    · obtain ⟨i1, i2, i3⟩ := ih (u / 10) (by omega)
      have hp := dec_pos (u / 10)
      rw [dec_big h]
      refine ⟨fun d hd => ?_, ?_, fun e => ?_⟩
      · rcases List.mem_append.1 hd with hd | hd
        · exact i1 d hd
        · obtain rfl := List.mem_singleton.1 hd; unfold Dig; rw [dig_of _ (by omega)]; omega
      · rw [dv_snoc, i2, dig_of _ (by omega)]; omega
      · have e2 : (dec (u / 10)).getD 0 0 = 48 := by
          rw [← e]
          generalize dec (u / 10) = g at hp
          cases g with
          | nil => simp at hp
          | cons a r => rfl
        have := i3 e2
        omega
theorem dec_num (u : Nat) : ¬ NoNum (dec u) := by
  obtain ⟨h1, h2, h3⟩ := dec_digits u
  rintro (e | ⟨e, el⟩ | e)
  · have := dec_pos u; rw [e] at this; simp at this
  · have := h3 e
    subst this
    rw [dec_small (by omega)] at el
    simp at el
  · exact e h1
theorem nume_dec_ok (u : Nat) (h : u < 18446744069414584321) : nume (dec u) = (u, 0) := by
  have hd := (dec_digits u).2.1
  have := dec_len u (by omega)
  rw [nume_ok (dec_num u) (by omega) (by rw [hd]; omega), hd]
theorem nume_dec_bad (u : Nat) (h : 18446744069414584321 ≤ u) (h2 : u < 18446744073709551616) : nume (dec u) = (0, 3) := by
  have hd := (dec_digits u).2.1
  have := dec_len u h2
  exact nume_word (dec_num u) (by omega) (by rw [hd]; omega)
theorem dec_no_blank (u : Nat) : ∀ d, d ∈ dec u → d ≠ 32 := by
  intro d hd e
  have := (dec_digits u).1 d hd
  subst e
  unfold Dig at this
  simp at this

/-- What stands from a place to the next blank, or the end. -/
def sg (s : List UInt8) (k : Nat) : List UInt8 := (s.drop k).takeWhile fun d => d != 32
/-- What reading makes of a text, from a place on, behind some words. -/
inductive Rd (s : List UInt8) : Nat → List Nat → List Nat → Nat → Nat → Prop
  | bad {k acc e} (h : nume (sg s k) = (0, e)) (he : e ≠ 0) : Rd s k acc [] k e
  | last {k acc x} (h : nume (sg s k) = (x, 0)) (hl : k + (sg s k).length = s.length) : Rd s k acc (acc ++ [x]) 0 0
  | next {k acc x l a e} (h : nume (sg s k) = (x, 0)) (hl : k + (sg s k).length < s.length) (hr : Rd s (k + (sg s k).length + 1) (acc ++ [x]) l a e) : Rd s k acc l a e
theorem Rd.det {s : List UInt8} {k acc l a e l' a' e'} (h : Rd s k acc l a e) (h' : Rd s k acc l' a' e') : l = l' ∧ a = a' ∧ e = e' := by
  induction h with
  | bad h he =>
    cases h' with
    | bad h2 he2 => rw [h] at h2; exact ⟨rfl, rfl, (Prod.mk.inj h2).2⟩
    | last h2 hl => rw [h] at h2; exact absurd (Prod.mk.inj h2).2 he
    | next h2 hl hr => rw [h] at h2; exact absurd (Prod.mk.inj h2).2 he
  | last h hl =>
    cases h' with
    | bad h2 he2 => rw [h] at h2; exact absurd (Prod.mk.inj h2).2.symm he2
    | last h2 hl2 => rw [h] at h2; rw [(Prod.mk.inj h2).1]; exact ⟨rfl, rfl, rfl⟩
    | next h2 hl2 hr => omega
  | next h hl hr ih =>
    cases h' with
    | bad h2 he2 => rw [h] at h2; exact absurd (Prod.mk.inj h2).2.symm he2
    | last h2 hl2 => omega
    | next h2 hl2 hr2 => rw [h] at h2; rw [← (Prod.mk.inj h2).1] at hr2; exact ih hr2
theorem sg_prefix (s : List UInt8) (k : Nat) : ∃ r, s.drop k = sg s k ++ r ∧ (r = [] ∨ ∃ r', r = 32 :: r') := by
  refine ⟨(s.drop k).dropWhile fun d => d != 32, (List.takeWhile_append_dropWhile).symm, ?_⟩
  cases h : (s.drop k).dropWhile fun d => d != 32 with
  | nil => exact Or.inl rfl
  | cons a r =>
    refine Or.inr ⟨r, ?_⟩
    have := List.head?_dropWhile_not (fun d : UInt8 => d != 32) (s.drop k)
    rw [h] at this
    simp at this
    rw [this]
theorem sg_le (s : List UInt8) (k : Nat) (h : k ≤ s.length) : k + (sg s k).length ≤ s.length := by
  obtain ⟨r, e, _⟩ := sg_prefix s k
  have := congrArg List.length e
  rw [List.length_drop, List.length_append] at this
  omega
theorem sg_of (s : List UInt8) (k : Nat) (g r : List UInt8) (h : s.drop k = g ++ r) (hg : ∀ d, d ∈ g → d ≠ 32) (hr : r = [] ∨ ∃ r', r = 32 :: r') : sg s k = g := by
  unfold sg
  rw [h, List.takeWhile_append_of_pos (fun d hd => by simpa using hg d hd)]
  rcases hr with rfl | ⟨r', rfl⟩
  · simp
  · simp
theorem tl_head (r : List Nat) : tl r = [] ∨ ∃ r', tl r = 32 :: r' := by
  cases r with
  | nil => exact Or.inl rfl
  | cons y r => exact Or.inr ⟨_, tl_txt y r⟩
/-- A text's reading: the row, if all words are canonical; else ErrWord. -/
theorem rd_txt {s : List UInt8} : ∀ (r : List Nat) (x k : Nat) (acc l : List Nat) (a e : Nat), k ≤ s.length → s.drop k = txt (x :: r) → (∀ y, y ∈ x :: r → y < 18446744073709551616) → Rd s k acc l a e →
    ((∀ y, y ∈ x :: r → y < 18446744069414584321) → l = acc ++ x :: r ∧ e = 0) ∧ ((∃ y, y ∈ x :: r ∧ 18446744069414584321 ≤ y) → e = 3) := by
  intro r
  induction r with
  | nil =>
    intro x k acc l a e hk hs hw R
    have hx := hw x (by simp)
    have hs' : s.drop k = dec x ++ [] := by rw [hs]; simp [txt, tl]
    have eg := sg_of s k (dec x) [] hs' (dec_no_blank x) (Or.inl rfl)
    have hlen : k + (sg s k).length = s.length := by
      have := congrArg List.length hs'
      rw [List.length_drop, List.length_append, List.length_nil, Nat.add_zero] at this
      rw [eg]; omega
    by_cases hb : x < 18446744069414584321
    · have hn := nume_dec_ok x hb
      rw [← eg] at hn
      have D := Rd.det R (.last (acc := acc) hn hlen)
      obtain ⟨rfl, rfl, rfl⟩ := D
      exact ⟨fun _ => ⟨rfl, rfl⟩, fun ⟨y, hy, hy2⟩ => by simp at hy; omega⟩
    · have hn := nume_dec_bad x (by omega) hx
      rw [← eg] at hn
      obtain ⟨rfl, rfl, rfl⟩ := Rd.det R (.bad (acc := acc) hn (by decide))
      exact ⟨fun h => absurd (h x (by simp)) hb, fun _ => rfl⟩
  | cons y r ih =>
    intro x k acc l a e hk hs hw R
    have hx := hw x (by simp)
    have hs' : s.drop k = dec x ++ tl (y :: r) := hs
    have eg := sg_of s k (dec x) _ hs' (dec_no_blank x) (tl_head _)
    rw [tl_txt] at hs'
    have hlen : k + (sg s k).length < s.length := by
      have := congrArg List.length hs'
      rw [List.length_drop, List.length_append, List.length_cons] at this
      rw [eg]; omega
    by_cases hb : x < 18446744069414584321
    · have hn := nume_dec_ok x hb
      rw [← eg] at hn
      cases R with
      | bad h2 he2 => rw [hn] at h2; exact absurd (Prod.mk.inj h2).2.symm he2
      | last h2 hl2 => omega
      | next h2 hl2 hr2 =>
        rw [hn] at h2
        rw [← (Prod.mk.inj h2).1] at hr2
        have hd : s.drop (k + (sg s k).length + 1) = txt (y :: r) := by
          rw [show k + (sg s k).length + 1 = k + ((sg s k).length + 1) from by omega, ← List.drop_drop, hs', eg, List.drop_append, List.drop_eq_nil_of_le (by omega), show (dec x).length + 1 - (dec x).length = 1 from by omega]
          rfl
        have I := ih y _ _ l a e (by omega) hd (fun z hz => hw z (by simp at hz; simp [hz])) hr2
        refine ⟨fun h => ?_, fun ⟨z, hz, hz2⟩ => ?_⟩
        · obtain ⟨i1, i2⟩ := I.1 fun z hz => h z (by simp at hz; simp [hz])
          exact ⟨by rw [i1]; simp, i2⟩
        · refine I.2 ⟨z, ?_, hz2⟩
          rcases List.mem_cons.1 hz with rfl | hz
          · omega
          · exact hz
    · have hn := nume_dec_bad x (by omega) hx
      rw [← eg] at hn
      obtain ⟨rfl, rfl, rfl⟩ := Rd.det R (.bad (acc := acc) hn (by decide))
      exact ⟨fun h => absurd (h x (by simp)) hb, fun _ => rfl⟩
/-- What was read has that text; its words are canonical. -/
theorem Rd.text {s : List UInt8} {k acc l a e} (R : Rd s k acc l a e) (hk : k ≤ s.length) (he : e = 0) : ∃ m, m ≠ [] ∧ l = acc ++ m ∧ s.drop k = txt m ∧ a = 0 ∧ ∀ x, x ∈ m → x < 18446744069414584321 := by
  induction R with
  | bad h he2 => exact absurd he he2
  | @last k acc x h hl =>
    obtain ⟨r, e1, _⟩ := sg_prefix s k
    have hr : r = [] := by
      have := congrArg List.length e1
      rw [List.length_drop, List.length_append] at this
      exact List.length_eq_zero_iff.1 (by omega)
    rw [hr, List.append_nil] at e1
    rcases nume_cases (sg s k) with c | c | c | ⟨c1, c2, c3⟩
    · rw [c] at h; cases h
    · rw [c] at h; cases h
    · rw [c] at h; cases h
    · rw [c3] at h
      obtain rfl := (Prod.mk.inj h).1
      exact ⟨_, by simp, rfl, by rw [e1]; simp only [txt, tl, List.flatMap_nil, List.append_nil]; exact (dec_dv _ _ rfl c1).symm, rfl, fun x hx => by simp at hx; omega⟩
  | @next k acc x l a e h hl hr ih =>
    obtain ⟨m, hm, rfl, hd, ha, hx⟩ := ih (by omega) he
    obtain ⟨r, e1, e2⟩ := sg_prefix s k
    rcases nume_cases (sg s k) with c | c | c | ⟨c1, c2, c3⟩
    · rw [c] at h; cases h
    · rw [c] at h; cases h
    · rw [c] at h; cases h
    · rw [c3] at h
      obtain rfl := (Prod.mk.inj h).1
      refine ⟨dv (sg s k) :: m, by simp, by simp, ?_, ha, fun x hx2 => ?_⟩
      · rcases e2 with rfl | ⟨r', rfl⟩
        · have := congrArg List.length e1
          rw [List.length_drop, List.length_append, List.length_nil] at this
          omega
        · have hd2 : s.drop (k + (sg s k).length + 1) = r' := by
            rw [show k + (sg s k).length + 1 = k + ((sg s k).length + 1) from by omega, ← List.drop_drop, e1, List.drop_append, List.drop_eq_nil_of_le (by omega), show (sg s k).length + 1 - (sg s k).length = 1 from by omega]
            rfl
          rw [hd2] at hd
          cases m with
          | nil => exact absurd rfl hm
          | cons y m =>
            rw [e1, hd]
            show _ = dec _ ++ tl (y :: m)
            rw [tl_txt]
            congr 1
            exact (dec_dv _ _ rfl c1).symm
      · rcases List.mem_cons.1 hx2 with rfl | hx2
        · exact c2
        · exact hx x hx2
theorem Rd.place {s : List UInt8} {k acc l a e} (R : Rd s k acc l a e) (hk : k ≤ s.length) : a ≤ s.length ∧ e ≤ 17 ∧ (∀ x, x ∈ l → x ∈ acc ∨ x < 18446744069414584321) := by
  induction R with
  | @bad k acc e h he =>
    refine ⟨hk, ?_, fun x hx => by simp at hx⟩
    rcases nume_cases (sg s k) with c | c | c | ⟨c1, c2, c3⟩ <;> (rw [h] at *; simp at *; try omega)
  | @last k acc x h hl =>
    refine ⟨Nat.zero_le _, by omega, fun y hy => ?_⟩
    rcases List.mem_append.1 hy with hy | hy
    · exact Or.inl hy
    · rcases nume_cases (sg s k) with c | c | c | ⟨c1, c2, c3⟩
      · rw [c] at h; cases h
      · rw [c] at h; cases h
      · rw [c] at h; cases h
      · rw [c3] at h
        obtain rfl := (Prod.mk.inj h).1
        simp at hy
        exact Or.inr (by omega)
  | @next k acc x l a e h hl hr ih =>
    obtain ⟨i1, i2, i3⟩ := ih (by omega)
    refine ⟨i1, i2, fun y hy => ?_⟩
    rcases i3 y hy with hy | hy
    · rcases List.mem_append.1 hy with hy | hy
      · exact Or.inl hy
      · rcases nume_cases (sg s k) with c | c | c | ⟨c1, c2, c3⟩
        · rw [c] at h; cases h
        · rw [c] at h; cases h
        · rw [c] at h; cases h
        · rw [c3] at h
          obtain rfl := (Prod.mk.inj h).1
          simp at hy
          exact Or.inr (by omega)
    · exact Or.inr hy
end Cd
end Go.Proofs.YtinachlkaochdaaDoor
