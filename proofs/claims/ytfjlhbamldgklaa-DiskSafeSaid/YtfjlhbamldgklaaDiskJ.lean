/- Layer 15: the contract of Sync. -/
import Derived.Test.YtfjlhbamldgklaaDiskI
import Derived.LoopTactic
set_option linter.unusedVariables false
namespace Go.Proofs.Ytfjlhbamldgklaa
open Go.RowKit Go.Lib Go.ChangeMaps
namespace Dk
open Ww

theorem clears {w : World} {m n k : Nat} {c : Nat → Option Value} (h : Mp w m n c k) :
    ∃ w', (∀ ty, (Builtin.clear_ #[29] ty #[.map (some m)]).run Try.prog w = .ok (.tuple #[]) w') ∧ Mp w' m n (fun _ => none) 0 ∧ w.mapTurned w' m := by
  obtain ⟨w', h1, h2⟩ := run_clear (ty := 0) h
  exact ⟨w', fun ty => h1, h2⟩
/-- clear(m) at the operation, where its run is told. -/
theorem clear_at (w w' : World) {ops : Array Oper} {rest : List Oper} {o : Oper} {a : Act} {Q : Exit → Act → World → Prop} (hg : o.guard = none) (m : Operand) (t : TypeId)
    (hop : o.op = Op.call { callee := Callee.builtin Builtin.clear, args := #[m], argTypes := #[t] }) (u : Value) (hm : a.eval m = u)
    (hrun : ∀ ty, (Builtin.clear_ #[t] ty #[u]).run Try.prog w = .ok (.tuple #[]) w') (hK : wpList Try.prog ops Q rest (a.put o.dst (.tuple #[])) w') : wpList Try.prog ops Q (o :: rest) a w := by
  refine wpList_plain hg fun K' hK' => ?_
  unfold Oper.wp
  simp [execOp, hop, resolve, invoke, builtin, hm, hrun, Result.andThen]
  exact hK' _ _ hK
/-- The disk behind a sweep: some sectors of the cache were made safe, the cache is empty. -/
theorem Dc.swept {w wr w3 : World} {L : Ly} {z n k : Nat} {d : Dm} {φ : Int} {sf sf' : Nat → Value} {c : Nat → Option Value} (h : Dc w L z n d φ sf c k) (f : Fr (fun b => b = L.s) w wr) (hs' : wr.rowIs L.s 47 n sf') (mt : wr.mapTurned w3 L.m) (hm3 : Mp w3 L.m n (fun _ => none) 0)
    (g : Nat → Sec) (hsf : ∀ i, i < n → (sf' i = sf i ∧ (g i).safe = (d.f i).safe) ∨ (c i = some (sf' i) ∧ (g i).safe = (d.f i).now)) (hg : ∀ i, i < n → (g i).dirty = false ∧ (g i).now = (g i).safe ∧ (g i).touched = (d.f i).touched) :
    Dc w3 L z n { d with f := g } φ sf' (fun _ => none) 0 ∧ Fr (Mine L) w w3 := by
  have f3 : Fr (fun b => b = L.s ∨ b = L.m) w w3 := (f.mono fun b e => Or.inl e).map mt (Or.inl (Or.inr rfl))
  have fm : Fr (fun b => b = L.m) wr w3 := (Fr.refl _ _).map mt (Or.inl rfl)
  have sub : ∀ b, (b = L.s ∨ b = L.m) → Mine L b := fun b e => by
    rcases e with e | e
    · exact Or.inr (Or.inl e)
    · exact Or.inr (Or.inr (Or.inr e))
  have nb := h.nobytes.mono sub
  refine ⟨⟨f3.at_ h.hp (fun e => ?_), hs'.of_block (fm.block _ hs'.lt (fun e => h.sm e)), ?_, hm3, fun i hi => ?_, fun i hi _ => ⟨(hg i hi).1, (hg i hi).2.1⟩, fun i v hi hc => (by cases hc), h.hφ, h.bφ, h.ln, h.lz⟩, f3.mono sub⟩
  · rcases e with e | e
    · exact h.ps e
    · exact h.pm e
  · refine (h.ht.of_block (f3.block _ h.ht.lt (fun e => ?_))).congr fun i hi => by
      show Value.bool (d.f i).touched = .bool (g i).touched
      rw [(hg i hi).2.2]
    rcases e with e | e
    · exact h.st e.symm
    · exact h.tm e
  · show Hs w3 z (sf' i) (g i).safe
    rcases hsf i hi with ⟨e1, e2⟩ | ⟨e1, e2⟩
    · rw [e1, e2]; exact (h.hv i hi).fr f3 nb
    · rw [e2]; exact (h.hc i _ hi e1).2.fr f3 nb

/-- A sync under way: w2 is the world ahead of it. -/
structure Sy (w2 wr : World) (s m r n k : Nat) (D0 : DataW Value) (sf : Nat → Value) (c : Nat → Option Value) (left : Lit → Bool) (cnt : Nat) (sf' : Nat → Value) : Prop where
  rg : wr.ranges Try.prog 3 Rv m r k D0 left cnt
  hs : wr.rowIs s 47 n sf'
  e1 : ∀ i, i < n → sf' i = sf i ∨ c i = some (sf' i)
  e2 : ∀ i v, i < n → c i = some v → left (ky i) = false → sf' i = v
  fr : Fr (fun b => b = s) w2 wr
section
variable {w2 wr : World} {s m r n k : Nat} {D0 : DataW Value} {sf : Nat → Value} {c : Nat → Option Value} {left : Lit → Bool} {cnt : Nat} {sf' : Nat → Value}
set_option maxRecDepth 100000 in
theorem Sy.next (X : Sy w2 wr s m r n k D0 sf c left cnt sf') (h2 : ∀ kl, Maps.has D0 kl = true ↔ ∃ i v, i < n ∧ c i = some v ∧ kl = ky i) (h3 : ∀ i v, i < n → c i = some v → ∀ z, D0.atKey (ky i) z = .held v) (hr : w2.heap.size ≤ r) (hs2 : s < w2.heap.size) (hsm : s ≠ m) :
    ((∀ i v, i < n → c i = some v → sf' i = v) ∧ ∀ ty, (Instr.next (.pointer (some ⟨r, 0, none⟩)) false ty).run Try.prog wr = .ok (.tuple #[.bool false]) wr) ∨
    ∃ i v u w5, i < n ∧ c i = some v ∧ (∀ ty, (Instr.next (.pointer (some ⟨r, 0, none⟩)) false ty).run Try.prog wr = .ok (.tuple #[.bool true, .int .i64 (i : Int), u]) w5) ∧ (Instr.entry (.pointer (some ⟨r, 0, none⟩))).run Try.prog w5 = .ok (.tuple #[.int .i64 (i : Int), u]) w5 ∧
      Fr (fun b => b = s) w2 w5 ∧ w5.rowIs s 47 n sf' ∧ Mp w5 m n c k ∧ ∀ w6, w6 = (w5.setCell ⟨s, i, none⟩ v).drew → ∃ left' cnt' sf'', Sy w2 w6 s m r n k D0 sf c left' cnt' sf'' ∧ w6.rangeLeft m r < wr.rangeLeft m r := by
  rcases X.rg.next KI 0 with ⟨_, hl, NX⟩ | ⟨key, u, kl, y, w5, cnt', hkey, hlk, hv, hat, NX, hrg5, hlt, hg5, hs5, EN⟩
  · exact Or.inl ⟨fun i v hi hc => X.e2 i v hi hc (hl _), fun ty => NX⟩
  · obtain ⟨i, v, hi, hc, rfl⟩ := (h2 kl).1 (Maps.has_true_of_atKey hat)
    obtain ⟨x, rfl, ex, _⟩ := Maps.keyOf_int_inv Try.underlying3 hkey
    have hx : x = (i : Int) := by
      unfold ky at ex
      injection ex with _ ex
      exact ex.symm
    subst hx
    have f5 : Fr (fun b => b = s) w2 w5 := X.fr.grown hg5 (fun b e => by cases e; exact Or.inr hr)
    have hsr : s ≠ r := by omega
    have row5 : w5.rowIs s 47 n sf' := X.hs.of_block (hg5.block _ X.hs.lt (fun e => by cases e; exact hsr rfl))
    refine Or.inr ⟨i, v, u, w5, hi, hc, fun ty => NX, EN, f5, row5, ⟨D0, hrg5.owns, h2, h3⟩, fun w6 e6 => ?_⟩
    subst e6
    have g6 : w5.grownBy (w5.setCell ⟨s, i, none⟩ v).drew (some s) := ⟨rfl, rfl, rfl, by simp [World.setCell], fun b _ hb => Below.heap_setCell _ _ _ _ (fun e => hb (by rw [e]))⟩
    have rg6 := hrg5.kept g6 (fun e => hsm (by cases e; rfl)) (fun e => hsr (by cases e; rfl))
    refine ⟨_, _, fun j => if j = i then v else sf' j, ⟨rg6, row5.set i v, fun j hj => ?_, fun j u2 hj hcj hl => ?_, (f5.put ⟨s, i, none⟩ v (Or.inl rfl)).trans (Fr.of_below (S := fun b => b = s) (Below.refl _ _).drew) (fun b e => Or.inl e)⟩, ?_⟩
    · by_cases e : j = i
      · subst e; exact Or.inr (by simp [hc])
      · simp only [e, if_false]; exact X.e1 j hj
    · by_cases e : j = i
      · subst e
        rw [hc] at hcj
        cases hcj
        simp
      · simp only [e, if_false]
        refine X.e2 j u2 hj hcj ?_
        have hne : (ky j).sameKey (ky i) = false := Maps.sameKey_ne (fun e2 => e (ky_inj e2))
        simpa [hne] using hl
    · rw [rg6.left_eq, X.rg.left_eq]; exact hlt
end
section
variable {w : World} {L : Ly} {z n k : Nat} {d : Dm}
set_option maxHeartbeats 1000000 in
theorem sync_err (h : Db w L z n d k) (he : adm d 0 ≠ 0) : Calls Try.prog 20 #[.pointer (some ⟨L.p, 0, none⟩)] w (DO L z n (admd d 0) k (.int .i64 (adm d 0 : Nat)) w) := by
  have AD := Lib.hid (admit h 0)
  obtain ⟨a, ha⟩ : ∃ a, a = adm d 0 := ⟨_, rfl⟩
  obtain ⟨d1, hd1⟩ : ∃ d1, d1 = admd d 0 := ⟨_, rfl⟩
  rw [← ha, ← hd1] at AD ⊢
  rw [← ha] at he
  have he2 : ¬ (a : Int) = 0 := by omega
  clear h ha hd1 he
  obtain ⟨p, s, t, m⟩ := L
  go_enter Try.func20, Try.ntmps20
  go_wp2_with (go_at_call 33; refine AD.out.mono ?_; rintro e w1 ⟨rfl, D, F⟩)
  exact bodyPost_ret (v := .int .i64 (a : Nat)) (by simp [results, Try.results20, go_sem]) rfl ⟨rfl, D, F⟩
set_option maxHeartbeats 1000000 in
set_option maxRecDepth 100000 in
theorem sync_ok (h : Db w L z n d k) (he : adm d 0 = 0) (hr : d.s ≤ 1000000) :
    Calls Try.prog 20 #[.pointer (some ⟨L.p, 0, none⟩)] w (DO L z n { d with fuse := d.fuse - 1, s := d.s + 1, f := fun i => synced (d.f i) } 0 (.int .i64 0) w) := by
  obtain ⟨y, hy⟩ : ∃ y, y = d.s := ⟨_, rfl⟩
  have AD := admit h 0
  rw [he, (adm_zero he).2.2.2] at AD
  replace AD := Lib.hid AD
  have GE := Lib.hid (fun (w1 : World) (D : Db w1 L z n { d with fuse := d.fuse - 1 } k) => (show w1.cell? ⟨L.p, 6, none⟩ = some (.int .i64 (y : Nat)) ∧ w1.frozen? ⟨L.p, 6, none⟩ = false ∧ Fr (Mine L) w1 (w1.setCell ⟨L.p, 6, none⟩ (.int .i64 ((d.s + 1 : Nat) : Int))) ∧ Db (w1.setCell ⟨L.p, 6, none⟩ (.int .i64 ((d.s + 1 : Nat) : Int))) L z n { d with fuse := d.fuse - 1, s := d.s + 1 } k from by
    obtain ⟨hD, hF⟩ := D.count { d with fuse := d.fuse - 1, s := d.s + 1 } (d.s + 1) 6 (Or.inr (Or.inr ⟨rfl, rfl, rfl⟩))
    obtain ⟨φ, sf, c, D⟩ := D
    exact ⟨by rw [hy]; exact D.cells.2.2.2.2.2.2.1, D.frz 6, hF, hD⟩))
  have r1 : IntKind.i64.wrap ((y : Int) + 1) = ((d.s + 1 : Nat) : Int) := by rw [IntKind.wrap_i64]; omega
  obtain ⟨x, hx⟩ : ∃ x, x = d.s + 1 := ⟨_, rfl⟩
  obtain ⟨d2, hd2⟩ : ∃ d2 : Dm, d2 = { d with fuse := d.fuse - 1, s := d.s + 1 } := ⟨_, rfl⟩
  have ed : ({ d with fuse := d.fuse - 1, s := d.s + 1, f := fun i => synced (d.f i) } : Dm) = { d2 with f := fun i => synced (d2.f i) } := by rw [hd2]
  rw [ed]
  rw [← hd2, ← hx] at GE
  rw [← hx] at r1
  clear h he hr hx hd2 hy ed
  obtain ⟨p, s, t, m⟩ := L
  go_enter Try.func20, Try.ntmps20
  go_upto_region 4 with (go_at_call 33; refine AD.out.mono ?_; rintro e w1 ⟨rfl, D, F⟩)
  obtain ⟨g6, z6, f6, D2⟩ := GE.out w1 D
  have F2 := Lib.hid (F.step f6)
  replace D2 := Lib.hid D2
  clear D F f6 GE AD
  go_upto_region 5 with fail
  clear g6 z6
  generalize w1.setCell ⟨p, 6, none⟩ (.int .i64 (x : Int)) = w2 at *
  obtain ⟨φ, sf, c, h⟩ := D2.out
  have hsm : s ≠ m := h.sm
  have hs2 := h.hs.lt
  have ln := h.ln
  have c1 := h.cells.2.1
  have c2 := h.cells.2.2.1
  obtain ⟨D0, hown, h2, h3⟩ := h.hm
  obtain ⟨w4, RG, hrg, hg4, _⟩ := hown.range KI Try.underlying29
  have X0 := Lib.hid (show Sy w2 w4 s m w2.heap.size n k D0 sf c (Maps.has D0) (Maps.size D0) sf from
    ⟨hrg, h.hs.of_block (hg4.block _ hs2 (by simp)), fun i _ => Or.inl rfl, fun i v hi hc hl => by rw [(h2 (ky i)).2 ⟨i, v, hi, hc, rfl⟩] at hl; exact absurd hl (by simp), (Fr.refl _ _).grown hg4 (fun b e => by cases e)⟩)
  have NX := Lib.hid (fun wr left cnt sf' (X : Sy w2 wr s m w2.heap.size n k D0 sf c left cnt sf') => X.next h2 h3 (Nat.le_refl _) hs2 hsm)
  have VS := Lib.hid (fun i v (hi : i < n) (hc : c i = some v) => (show ∃ A l q, v = .slice A l q from by
    obtain ⟨A, q, bs, e, _⟩ := (h.hc i v hi hc).2
    exact ⟨A, _, q, e⟩))
  have CE := Lib.hid (fun wr (f : Fr (fun b => b = s) w2 wr) => (show wr.cell? ⟨p, 1, none⟩ = some (.slice (some ⟨s, 0, none⟩) n n) ∧ wr.cell? ⟨p, 2, none⟩ = some (.map (some m)) from
    ⟨(World.cell?_of_block (a := ⟨p, 1, none⟩) (f.block p (h.lt (Or.inl rfl)) h.ps)).trans c1, (World.cell?_of_block (a := ⟨p, 2, none⟩) (f.block p (h.lt (Or.inl rfl)) h.ps)).trans c2⟩))
  have EN := Lib.hid (fun wr left cnt sf' (X : Sy w2 wr s m w2.heap.size n k D0 sf c left cnt sf') (h0 : ∀ i v, i < n → c i = some v → sf' i = v) => (show ∃ w3, (∀ ty, (Builtin.clear_ #[29] ty #[.map (some m)]).run Try.prog wr = .ok (.tuple #[]) w3) ∧ DO ⟨p, s, t, m⟩ z n { d2 with f := fun i => synced (d2.f i) } 0 (.int .i64 0) w (.returned (.int .i64 0)) w3 from by
    obtain ⟨w3, e3, m3, t3⟩ := clears (show Mp wr m n c k from ⟨D0, X.rg.owns, h2, h3⟩)
    have S := h.swept X.fr X.hs t3 m3 (fun i => synced (d2.f i)) (fun i hi => by
      cases hc : c i with
      | none =>
        refine Or.inl ⟨?_, ((h.hn i hi hc).2)⟩
        rcases X.e1 i hi with e | e
        · exact e
        · rw [hc] at e; cases e
      | some v => exact Or.inr ⟨by rw [h0 i v hi hc], rfl⟩) (fun i hi => ⟨rfl, rfl, rfl⟩)
    exact ⟨w3, e3, rfl, ⟨_, _, _, S.1⟩, F2.out.step S.2⟩))
  generalize w2.heap.size = r at *
  have LN := Lib.hid ln.2
  clear h h2 h3 hown hrg hg4 hs2 hsm F2 D2 ln c1
  go_wp2_with fail
  clear RG c2
  go_loopw [4] (fun _ wr => ∃ left cnt sf', Sy w2 wr s m r n k D0 sf c left cnt sf') (fun _ wr => wr.rangeLeft m r)
  case atStart => exact ⟨_, _, _, X0.out⟩
  case round =>
    obtain ⟨left, cnt, sf', X⟩ := hrel
    clear X0
    obtain ⟨cp1, cp2⟩ := CE.out wr X.fr
    rcases NX.out wr left cnt sf' X with ⟨h0, N1⟩ | ⟨i, v, u, w5, hi, hc, N1, E1, F5, R5, M5, ST⟩
    · obtain ⟨w3, CL, F⟩ := EN.out wr left cnt sf' X h0
      replace CL := Lib.hid CL
      replace F := Lib.hid F
      clear X NX EN CE VS LN h0 cp1
      go_wp2_with (refine clear_at wr w3 rfl _ _ rfl _ rfl CL.out ?_)
      exact bodyPost_ret (v := .int .i64 0) (by simp [results, Try.results20, go_sem]) rfl F.out
    · obtain ⟨cq1, cq2⟩ := CE.out w5 F5
      have SV := Lib.hid (save (L := ⟨p, s, t, m⟩) cq1 cq2 R5 M5 i hi LN.out hc (VS.out i v hi hc))
      replace ST := Lib.hid ST
      clear X NX EN CE VS LN cq1 cq2 cp1 cp2 F5 R5 M5 hi hc
      go_wp2_with (go_at_call 32; refine SV.out.mono ?_; rintro e w6 ⟨rfl, e6⟩; replace e6 := Lib.hid e6)
      obtain ⟨left', cnt', sf'', X6, hlt⟩ := ST.out w6 e6.out
      go_roundw
      case rel => exact ⟨_, _, _, X6⟩
      case measure => exact hlt
end
end Dk
end Go.Proofs.Ytfjlhbamldgklaa
