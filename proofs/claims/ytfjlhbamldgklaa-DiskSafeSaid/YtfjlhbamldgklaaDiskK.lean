/- Layer 15: the contract of Boot. -/
import Derived.Test.YtfjlhbamldgklaaDiskJ
import Derived.Test.YtfjlhbamldgklaaDiskH
set_option linter.unusedVariables false
namespace Go.Proofs.Ytfjlhbamldgklaa
open Go.RowKit Go.Lib Go.ChangeMaps
namespace Dk
open Ww

theorem cnt_nc (f : Nat → Sec) : ∀ j, cnt f j = nc (fun i => (f i).dirty) j
  | 0 => rfl
  | j + 1 => by
    show cnt f j + _ = _
    rw [cnt_nc f j]
    cases h : (f j).dirty with
    | true => rw [nc_yes (p := fun i => (f i).dirty) h]; rfl
    | false => rw [nc_no (p := fun i => (f i).dirty) h]; rfl
/-- A row of numbers, where it lies. -/
theorem Nw.reads {l : List Nat} {w w' : World} {e : Ending} (h : Nw l w e w') : ∃ A c, e = .returned (.slice A l.length c) ∧ (∀ q i : Nat, l[q]? = some i → ∃ g, A = some ⟨g, 0, none⟩ ∧ w.heap.size ≤ g ∧ g < w'.heap.size ∧ w'.cell? ⟨g, q, none⟩ = some (.int .i64 (i : Int))) ∧ Below w.heap.size w w' := by
  obtain ⟨v, rfl, O, D⟩ := h
  have hl := World.ownsRow.lt O
  rcases O.2 with ⟨rfl, h0⟩ | ⟨g, cap, cur, rfl, h1, h2, h3, h4⟩
  · have e : l = [] := List.length_eq_zero_iff.1 h0
    subst e
    exact ⟨none, 0, rfl, fun q i hq => by simp at hq, D⟩
  · refine ⟨_, cap, rfl, fun q i hq => ⟨g, rfl, h1, (hl g rfl).2, ?_⟩, D⟩
    have c := World.ownsRow.cells O (g := g) rfl q (.int .i64 (i : Int)) (by rw [List.getElem?_map, hq]; rfl)
    rw [add_none, Nat.zero_add] at c
    exact c
/-- A boot under way: q of the sectors in the cache have been seen. -/
def Bt (n : Nat) (f : Nat → Sec) (K : Nat) (ks : Nat → Bool) (sf : Nat → Value) (c : Nat → Option Value) (q : Nat) (sf' : Nat → Value) : Prop :=
  ∀ i, i < n → (sf' i = sf i ∧ ((f i).dirty = false ∨ q ≤ cnt f i ∨ kept f K ks i = false)) ∨ (c i = some (sf' i) ∧ (f i).dirty = true ∧ kept f K ks i = true)
section
variable {n K q : Nat} {f : Nat → Sec} {ks : Nat → Bool} {sf sf' : Nat → Value} {c : Nat → Option Value}
theorem Bt.start : Bt n f K ks sf c 0 sf := fun i _ => Or.inl ⟨rfl, Or.inr (Or.inl (Nat.zero_le _))⟩
theorem Bt.other (h : Bt n f K ks sf c q sf') {i j : Nat} (hd : (f i).dirty = true) (hq : cnt f i = q) (hj : j < n) (hne : j ≠ i) :
    (sf' j = sf j ∧ ((f j).dirty = false ∨ q + 1 ≤ cnt f j ∨ kept f K ks j = false)) ∨ (c j = some (sf' j) ∧ (f j).dirty = true ∧ kept f K ks j = true) := by
  rcases h j hj with ⟨e, e1 | e1 | e1⟩ | e
  · exact Or.inl ⟨e, Or.inl e1⟩
  · by_cases hdj : (f j).dirty = true
    · refine Or.inl ⟨e, Or.inr (Or.inl ?_)⟩
      have : cnt f j ≠ q := fun e2 => hne (nc_inj (p := fun i => (f i).dirty) hdj hd (by rw [← cnt_nc, ← cnt_nc, e2, hq]))
      omega
    · exact Or.inl ⟨e, Or.inl (by simpa using hdj)⟩
  · exact Or.inl ⟨e, Or.inr (Or.inr e1)⟩
  · exact Or.inr e
theorem Bt.yes (h : Bt n f K ks sf c q sf') {i : Nat} {v : Value} (hd : (f i).dirty = true) (hq : cnt f i = q) (hc : c i = some v) (hk : kept f K ks i = true) : Bt n f K ks sf c (q + 1) (fun j => if j = i then v else sf' j) := fun j hj => by
  by_cases e : j = i
  · subst e; exact Or.inr ⟨by simp [hc], hd, hk⟩
  · simp only [e, if_false]; exact h.other hd hq hj e
theorem Bt.no (h : Bt n f K ks sf c q sf') {i : Nat} (hd : (f i).dirty = true) (hq : cnt f i = q) (hk : kept f K ks i = false) : Bt n f K ks sf c (q + 1) sf' := fun j hj => by
  by_cases e : j = i
  · subst e
    rcases h j hj with ⟨e, _⟩ | ⟨_, _, e⟩
    · exact Or.inl ⟨e, Or.inr (Or.inr hk)⟩
    · rw [hk] at e; cases e
  · exact h.other hd hq hj e
theorem kept_yes {i : Nat} (hq : cnt f i = q) (h1 : q < K) (h2 : ks q = true) : kept f K ks i = true := by unfold kept; rw [hq, decide_eq_true h1, h2]; rfl
theorem kept_no {i : Nat} (hq : cnt f i = q) (h2 : ks q = false) : kept f K ks i = false := by unfold kept; rw [hq, h2, Bool.and_false]
theorem kept_far {i : Nat} (hq : cnt f i = q) (h1 : ¬ q < K) : kept f K ks i = false := by unfold kept; rw [hq, decide_eq_false h1]; rfl
end
section
variable {w : World} {L : Ly} {z n k : Nat} {d : Dm}
theorem boot_no (h : Db w L z n d k) (hd : d.down = false) (v : Value) : Calls Try.prog 19 #[.pointer (some ⟨L.p, 0, none⟩), v] w (DO L z n d k (.int .i64 5) w) := by
  have F := Lib.hid (show DO L z n d k (.int .i64 5) w (.returned (.int .i64 5)) w from ⟨rfl, h, Fr.refl _ _⟩)
  obtain ⟨φ, sf, c, h⟩ := h
  have c7 := h.cells.2.2.2.2.2.2.2.1
  rw [hd] at c7
  clear h hd
  obtain ⟨p, s, t, m⟩ := L
  go_enter Try.func19, Try.ntmps19
  go_wp2
  exact bodyPost_ret (v := .int .i64 5) (by simp [results, Try.results19, go_sem]) rfl F.out
set_option maxHeartbeats 1000000 in
set_option maxRecDepth 100000 in
theorem boot_ok (h : Db w L z n d k) (hd : d.down = true) (hk : k ≤ 1000000) (A2 : Option Addr) (K c2 : Nat) (ks : Nat → Bool) (Q : Kb w w.heap.size A2 K ks) (hK : K ≤ 9223372036854775807) :
    Calls Try.prog 19 #[.pointer (some ⟨L.p, 0, none⟩), .slice A2 K c2] w (DO L z n { d with down := false, f := fun i => booted (d.f i) (kept d.f K ks i) } 0 (.int .i64 0) w) := by
  have DI := Lib.hid (dirty h hk)
  obtain ⟨φ, sf, c, h⟩ := h
  have c7 := h.cells.2.2.2.2.2.2.2.1
  rw [hd] at c7
  have hln := h.ln.2
  obtain ⟨l, hl⟩ : ∃ l, l = nl (fun i => (d.f i).dirty) n := ⟨_, rfl⟩
  rw [← hl] at DI
  have HL := Lib.hid (show ∀ q i, l[q]? = some i → i < n ∧ (d.f i).dirty = true ∧ cnt d.f i = q ∧ ∃ v, c i = some v ∧ ∃ A l q, v = .slice A l q from fun q i e => by
    rw [hl] at e
    obtain ⟨h1, h2, h3⟩ := nl_nc _ e
    refine ⟨h1, h2, by rw [cnt_nc]; exact h3, ?_⟩
    cases ec : c i with
    | none => have h4 := (h.hn i h1 ec).1; rw [h2] at h4; cases h4
    | some v =>
      obtain ⟨A, q, bs, e, _⟩ := (h.hc i v h1 ec).2
      exact ⟨v, rfl, A, _, q, e⟩)
  have LE := Lib.hid (show ∀ i, i < n → (d.f i).dirty = true → cnt d.f i < l.length from fun i hi hdi => by
    rw [hl]
    have := (List.getElem?_eq_some_iff.1 (nl_at (fun i => (d.f i).dirty) hdi hi)).1
    rw [cnt_nc]
    exact this)
  have ll := Lib.hid (show l.length ≤ 1048576 from by rw [hl]; have := nc_le (fun i => (d.f i).dirty) n; unfold nc at this; omega)
  have HH := Lib.hid h
  have QQ := Lib.hid Q
  obtain ⟨y, hy⟩ : ∃ y, y = l.length := ⟨_, rfl⟩
  have HY := Lib.hid hy
  have HN := Lib.hid hln
  clear hl h hd hk Q hy hln
  obtain ⟨p, s, t, m⟩ := L
  go_enter Try.func19, Try.ntmps19
  go_wp2_with (go_at_call 16; refine DI.out.mono ?_; rintro e w2 hN; obtain ⟨A, ca, rfl, C, D⟩ := hN.reads; rw [← HY.out]; replace C := Lib.hid C; replace D := Lib.hid D; clear hN)
  clear c7 DI
  have h := HH.out.below D.out
  have hs0 : s < w.heap.size := HH.out.hs.lt
  have X0 := Lib.hid (show w2.rowIs s 47 n sf ∧ Bt n d.f K ks sf c 0 sf ∧ Fr (fun b => b = s) w2 w2 from ⟨h.hs, Bt.start, Fr.refl _ _⟩)
  have CE := Lib.hid (fun wr (f : Fr (fun b => b = s) w2 wr) => (show wr.cell? ⟨p, 1, none⟩ = some (.slice (some ⟨s, 0, none⟩) n n) ∧ wr.cell? ⟨p, 2, none⟩ = some (.map (some m)) ∧ Mp wr m n c k from
    ⟨(World.cell?_of_block (a := ⟨p, 1, none⟩) (f.block p (h.lt (Or.inl rfl)) h.ps)).trans h.cells.2.1, (World.cell?_of_block (a := ⟨p, 2, none⟩) (f.block p (h.lt (Or.inl rfl)) h.ps)).trans h.cells.2.2.1,
      h.hm.keep (f.block m (h.lt (Or.inr (Or.inr (Or.inr rfl)))) (fun e => h.sm e.symm))⟩))
  have CL := Lib.hid (fun wr (f : Fr (fun b => b = s) w2 wr) q (i : Nat) (e : l[q]? = some i) => (show ∃ g, A = some ⟨g, 0, none⟩ ∧ wr.cell? ⟨g, q, none⟩ = some (.int .i64 (i : Int)) from by
    obtain ⟨g, e1, h1, h2, h3⟩ := C.out q i e
    exact ⟨g, e1, (World.cell?_of_block (a := ⟨g, q, none⟩) (f.block g h2 (fun e => by have e' : g = s := e; omega))).trans h3⟩))
  have KE := Lib.hid (fun wr (f : Fr (fun b => b = s) w2 wr) q (hq : q < K) => (show ∃ b off, A2 = some ⟨b, off, none⟩ ∧ wr.cell? ⟨b, off + q, none⟩ = some (.bool (ks q)) from by
    obtain ⟨b, off, e1, h1, h2⟩ := QQ.out.at_ q hq
    have h3 := (D.out.cell (p := ⟨b, off + q, none⟩) h1).trans h2
    refine ⟨b, off, e1, (World.cell?_of_block (a := ⟨b, off + q, none⟩) (f.block b (Nat.lt_of_lt_of_le h1 D.out.size) (fun e => ?_))).trans h3⟩
    obtain ⟨cs, r1, r2, r3⟩ := h.hs
    rw [e, blk_cell r1] at h3
    have ho : off + q < n := by rw [← r2]; exact (Array.getElem?_eq_some_iff.1 h3).1
    obtain ⟨A, u, bs, e4, _⟩ := h.hv _ ho
    rw [r3 _ ho, e4] at h3
    cases h3))
  have EN := Lib.hid (fun wr sf' (hr : wr.rowIs s 47 n sf') (hb : Bt n d.f K ks sf c y sf') (f : Fr (fun b => b = s) w2 wr) => (show ∃ w3, (∀ ty, (Builtin.clear_ #[29] ty #[.map (some m)]).run Try.prog wr = .ok (.tuple #[]) w3) ∧ w3.cell? ⟨p, 7, none⟩ = some (.bool d.down) ∧ w3.frozen? ⟨p, 7, none⟩ = false ∧
      DO ⟨p, s, t, m⟩ z n { d with down := false, f := fun i => booted (d.f i) (kept d.f K ks i) } 0 (.int .i64 0) w (.returned (.int .i64 0)) (w3.setCell ⟨p, 7, none⟩ (.bool false)) from by
    obtain ⟨w3, e3, m3, t3⟩ := clears (CE.out wr f).2.2
    have S := h.swept f hr t3 m3 (fun i => booted (d.f i) (kept d.f K ks i)) (fun i hi => by
      rcases hb i hi with ⟨e, e1 | e1 | e1⟩ | ⟨e, e1, e2⟩
      · exact Or.inl ⟨e, by unfold booted; rw [if_neg (by rw [e1]; simp)]⟩
      · by_cases hdi : (d.f i).dirty = true
        · have := LE.out i hi hdi
          have := HY.out
          omega
        · exact Or.inl ⟨e, by unfold booted; rw [if_neg hdi]⟩
      · refine Or.inl ⟨e, ?_⟩
        unfold booted
        rw [e1]
        split <;> rfl
      · refine Or.inr ⟨e, ?_⟩
        unfold booted
        rw [e2, if_pos e1]
        rfl) (fun i hi => by
      unfold booted
      by_cases hdi : (d.f i).dirty = true
      · rw [if_pos hdi]; exact ⟨rfl, rfl, rfl⟩
      · rw [if_neg hdi]
        cases hci : c i with
        | none => exact ⟨(h.hn i hi hci).1, (h.hn i hi hci).2, rfl⟩
        | some v => exact absurd (h.hc i v hi hci).1 hdi)
    have S2 := S.1.put (d' := { d with down := false, f := fun i => booted (d.f i) (kept d.f K ks i) }) 7 (.bool false) (blk_put S.1.hp 7 _) rfl h.hφ h.bφ
    exact ⟨w3, e3, S.1.cells.2.2.2.2.2.2.2.1, S.1.frz 7, rfl, ⟨_, _, _, S2⟩, ((Fr.of_below D.out).step S.2).put _ _ (Or.inl (Or.inl rfl))⟩))
  have YL := Lib.hid (show y ≤ 1048576 from by rw [HY.out]; exact ll.out)
  have LQ := Lib.hid (show ∀ q, q < y → ∃ i, l[q]? = some i from fun q hq => ⟨_, List.getElem?_eq_getElem (by rw [← HY.out]; exact hq)⟩)
  clear h hs0 C D QQ LE HH HY ll
  go_loopw [18] (fun v18 wr => ∃ (q : Nat) (sf' : Nat → Value), v18 = .int .i64 (q : Int) ∧ q ≤ y ∧ wr.rowIs s 47 n sf' ∧ Bt n d.f K ks sf c q sf' ∧ Fr (fun b => b = s) w2 wr) (fun v18 _ => y - (Lib.intOf v18).toNat)
  case atStart => exact ⟨0, sf, rfl, Nat.zero_le _, X0.out⟩
  case round =>
    obtain ⟨q, sf', rfl, hq, R, B, F⟩ := hrel
    clear X0
    have yl := YL.out
    by_cases hlt : q < y
    · have i1 : (q : Int) < y := by omega
      obtain ⟨i, hi⟩ := LQ.out q hlt
      obtain ⟨g, rfl, t1⟩ := CL.out wr F q i hi
      obtain ⟨cp1, cp2, M⟩ := CE.out wr F
      obtain ⟨hin, hdi, hcq, v, hc, hv⟩ := HL.out q i hi
      by_cases hk : q < K
      · have i2 : (q : Int) < K := by omega
        obtain ⟨b, off, rfl, t2⟩ := KE.out wr F q hk
        cases hb : ks q with
        | true =>
          rw [hb] at t2
          have SV := Lib.hid (save (L := ⟨p, s, t, m⟩) cp1 cp2 R M i hin HN.out hc hv)
          have NX := Lib.hid (fun w6 (e6 : w6 = (wr.setCell ⟨s, i, none⟩ v).drew) => (show w6.rowIs s 47 n (fun j => if j = i then v else sf' j) ∧ Bt n d.f K ks sf c (q + 1) (fun j => if j = i then v else sf' j) ∧ Fr (fun b => b = s) w2 w6 from by
            subst e6
            exact ⟨R.set i v, B.yes hdi hcq hc (kept_yes hcq hk hb), (F.put ⟨s, i, none⟩ v (Or.inl rfl)).trans (Fr.of_below (S := fun b => b = s) (Below.refl _ _).drew) (fun b e => Or.inl e)⟩))
          clear R B F M hi hin hdi hcq hc hv CE CL KE EN HL LQ cp1 cp2 hb
          go_wp2_with (go_at_call 32; refine SV.out.mono ?_; rintro e w6 ⟨rfl, e6⟩; replace e6 := Lib.hid e6)
          go_roundw
          case rel => exact ⟨q + 1, _, rfl, by omega, NX.out w6 e6.out⟩
          case measure => simp [Lib.intOf]; omega
        | false =>
          rw [hb] at t2
          have NX := Lib.hid (show wr.rowIs s 47 n sf' ∧ Bt n d.f K ks sf c (q + 1) sf' ∧ Fr (fun b => b = s) w2 wr from ⟨R, B.no hdi hcq (kept_no hcq hb), F⟩)
          clear R B F M hi hin hdi hcq hc hv CE CL KE EN HL LQ cp1 cp2 hb
          go_wp2_with fail
          go_roundw
          case rel => exact ⟨q + 1, _, rfl, by omega, NX.out⟩
          case measure => simp [Lib.intOf]; omega
      · have i2 : ¬ (q : Int) < K := by omega
        have NX := Lib.hid (show wr.rowIs s 47 n sf' ∧ Bt n d.f K ks sf c (q + 1) sf' ∧ Fr (fun b => b = s) w2 wr from ⟨R, B.no hdi hcq (kept_far hcq hk), F⟩)
        clear R B F M hi hin hdi hcq hc hv CE CL KE EN HL LQ cp1 cp2
        go_wp2_with fail
        go_roundw
        case rel => exact ⟨q + 1, _, rfl, by omega, NX.out⟩
        case measure => simp [Lib.intOf]; omega
    · have i1 : ¬ (q : Int) < y := by omega
      have e : q = y := by omega
      subst e
      have cp2 := (CE.out wr F).2.1
      obtain ⟨w3, CW, t7, z7, E⟩ := EN.out wr sf' R B F
      replace CW := Lib.hid CW
      replace E := Lib.hid E
      clear R B F CE CL KE EN HL LQ
      go_wp2_with (refine clear_at wr w3 rfl _ _ rfl _ rfl CW.out ?_)
      exact bodyPost_ret (v := .int .i64 0) (by simp [results, Try.results19, go_sem]) rfl E.out
end
end Dk
end Go.Proofs.Ytfjlhbamldgklaa
