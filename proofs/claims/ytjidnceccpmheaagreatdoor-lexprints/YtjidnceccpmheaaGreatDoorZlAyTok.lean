/- A slice of tokens that comes in: opened. -/
import Derived.Test.YtjidnceccpmheaaGreatDoorZlArPrint
import Derived.Test.YtjidnceccpmheaaGreatDoorZlAuLaid
import Derived.Deep.Strs
import Derived.SizedLaws
namespace Go.Proofs.YtjidnceccpmheaaGreatDoor
open Go.ChangeShapes Go.WideShapes Go.ChangeAt Go.RowKit Go.Joins Lx
set_option linter.unusedVariables false
set_option maxRecDepth 100000
theorem c3 : Tryz.prog.cellsOf 3 = 1 := by kernel_rfl
theorem c9 : Tryz.prog.cellsOf 9 = 1 := by kernel_rfl
theorem cTk : Tryz.prog.cellsOf 32 = 3 := by kernel_rfl
theorem cTw : Tryz.prog.cellsOf 30 = 1 := by kernel_rfl
theorem weights_in {H : Type} {P : Program} {e : TypeId} {ds : List (DataW H)} {d : DataW H} (hd : d ∈ ds) {n : Nat} (hn : n ∈ DataW.weights P e d) : n ∈ DataW.weightsAll P e ds := by
  induction ds with
  | nil => cases hd
  | cons x xs ih =>
    simp only [DataW.weightsAll, List.mem_append]
    rcases List.mem_cons.1 hd with rfl | h
    · exact Or.inl hn
    · exact Or.inr (ih h)
theorem weightsE {H : Type} {P : Program} {t : TypeId} {ts : List TypeId} {d : DataW H} {ds : List (DataW H)} : DataW.weightsEach P (t :: ts) (d :: ds) = DataW.weights P t d ++ DataW.weightsEach P ts ds := rfl
theorem list_of {α : Type} {p : Nat → α → Prop} : ∀ (len : Nat), (∀ i, i < len → ∃ a, p i a) → ∃ l : List α, l.length = len ∧ ∀ i (h : i < l.length), p i l[i]
  | 0, _ => ⟨[], rfl, fun i h => by simp at h⟩
  | n + 1, h => by
    obtain ⟨l, hl, hp⟩ := list_of n (fun i hi => h i (by omega))
    obtain ⟨a, ha⟩ := h n (by omega)
    refine ⟨l ++ [a], by simp [hl], fun i hi => ?_⟩
    by_cases q : i < l.length
    · rw [List.getElem_append_left q]; exact hp i q
    · have : i = n := by simp at hi; omega
      subst this
      rw [List.getElem_append_right (by omega)]
      simp [hl, ha]
theorem spot_none {w : World} {a : Addr} {v : Value} (h : w.cell? a = some v) : a.spot = none := by
  unfold World.cell? at h
  split at h
  · cases hs : a.spot with
    | none => rfl
    | some q => rw [hs] at h; simp at h
  · cases h
theorem add_none {a : Addr} (h : a.spot = none) (i : Nat) : a.add i = ⟨a.block, a.off + i, none⟩ := by
  obtain ⟨b, o, sp⟩ := a
  simp only at h
  subst h
  exact Addr.add_mid b o i
theorem reach_le {n : Nat} (h : n ≤ reachBytes) : n ≤ 281474976710656 := by
  have : reachBytes = 140737488351232 := by decide
  omega
theorem three_cells {cs : List Value} (h : cs.length = 3) : ∃ a0 a1 a2, cs = [a0, a1, a2] := by
  match cs, h with
  | [a0, a1, a2], _ => exact ⟨_, _, _, rfl⟩
theorem open_tk {H : Type} {enc : TypeId × Value → H} {W : World} (fuel : Nat) (cs : List Value) (x : DataW H × List MemPlace) (h : DataW.trod enc Tryz.prog W 0 (fun _ => true) true fuel 32 cs = some x)
    (hw : ∀ k ∈ DataW.weights Tryz.prog 32 x.1, k ≤ reachBytes) : ∃ t : Tk, cs = [.int .i64 t.w, .string (mkB t.s), .int .i64 t.p] ∧ t.s.length ≤ 281474976710656 := by
  obtain ⟨xs, n, rfl, rfl, hlen, hxs, hel⟩ := DataW.trod_struct Tryz.underlying32 h
  rw [cTk] at hlen
  obtain ⟨a0, a1, a2, rfl⟩ := three_cells hlen
  obtain ⟨x0, x1, x2, rfl⟩ : ∃ x0 x1 x2, xs = [x0, x1, x2] := by
    match xs, hxs with
    | [x0, x1, x2], _ => exact ⟨_, _, _, rfl⟩
  have e0 := hel 0 _ rfl
  have e1 := hel 1 _ rfl
  have e2 := hel 2 _ rfl
  replace e0 : DataW.trod enc Tryz.prog W 0 (fun _ => true) true n 30 (([a0, a1, a2].drop 0).take (Tryz.prog.cellsOf 30)) = some x0 := e0
  rw [cTw] at e0
  replace e1 : DataW.trod enc Tryz.prog W 0 (fun _ => true) true n 9 (([a0, a1, a2].drop 1).take (Tryz.prog.cellsOf 9)) = some x1 := e1
  rw [c9] at e1
  replace e2 : DataW.trod enc Tryz.prog W 0 (fun _ => true) true n 3 (([a0, a1, a2].drop 2).take (Tryz.prog.cellsOf 3)) = some x2 := e2
  rw [c3] at e2
  replace e0 : DataW.trod enc Tryz.prog W 0 (fun _ => true) true n 30 [a0] = some x0 := e0
  replace e1 : DataW.trod enc Tryz.prog W 0 (fun _ => true) true n 9 [a1] = some x1 := e1
  replace e2 : DataW.trod enc Tryz.prog W 0 (fun _ => true) true n 3 [a2] = some x2 := e2
  obtain ⟨kd, q0, rfl, _⟩ := DataW.trod_int Tryz.underlying30 e0
  obtain ⟨tx, q1, rfl, _⟩ := DataW.trod_string Tryz.underlying9 e1
  obtain ⟨pp, q2, rfl, _⟩ := DataW.trod_int Tryz.underlying3 e2
  simp only [List.cons.injEq, and_true] at q0 q1 q2
  subst q0 q1 q2
  have hwt : tx.size ≤ reachBytes := by
    apply hw
    simp only [DataW.weights, Tryz.underlying32, List.map_cons, List.map_nil, weightsE, List.mem_append, DataW.weightsEach]
    simp
  exact ⟨⟨kd, bl tx, pp⟩, by simp only [mkB_bl], by simp only [bl_length]; exact reach_le hwt⟩
theorem open_tks {H : Type} {enc : TypeId × Value → H} {W : World} (fuel : Nat) (v : Value) (x : DataW H × List MemPlace) (h : DataW.trod enc Tryz.prog W 0 (fun _ => true) true fuel 22 [v] = some x)
    (hp : ∀ q ∈ x.2, q.block < W.heap.size) (hw : ∀ k ∈ DataW.weights Tryz.prog 22 x.1, k ≤ reachBytes) : ∃ ts : List Tk, TS W v ts ∧ ∀ t ∈ ts, t.s.length ≤ 281474976710656 := by
  rcases DataW.trod_slice Tryz.underlying22 h with ⟨hcs, hx⟩ | ⟨a, len, cap, elems, rest, n3, hn3, hcs, hx, _, hl, hm, hlen2, hele, hsp, _⟩
  · simp only [List.cons.injEq, and_true] at hcs
    exact ⟨[], by rw [hcs]; exact TS.nil W, by intro e he; cases he⟩
  · simp only [List.cons.injEq, and_true] at hcs
    subst hx
    rw [cTk] at hele hp
    have key : ∀ i, i < len → ∃ t : Tk, (W.cell? ⟨a.block, a.off + i * 3, none⟩ = some (.int .i64 t.w) ∧ W.cell? ⟨a.block, a.off + i * 3 + 1, none⟩ = some (.string (mkB t.s)) ∧ W.cell? ⟨a.block, a.off + i * 3 + 2, none⟩ = some (.int .i64 t.p)) ∧ t.s.length ≤ 281474976710656 ∧ (a.add (i * 3)).spot = none := by
      intro i hi
      have he := hele i hi
      rw [List.getElem?_eq_getElem (by omega)] at he
      obtain ⟨cs', hcells, htr⟩ := Option.bind_eq_some_iff.1 he
      obtain ⟨_, hcl, hcc⟩ := World.cells?_some hcells
      have hmem : elems[i]'(by omega) ∈ elems := List.getElem_mem _
      obtain ⟨t, r1, r3⟩ := open_tk n3 cs' _ htr
        (fun k hk => hw k (by
          simp only [DataW.weights, Tryz.underlying22, List.mem_cons, List.mem_append]
          exact Or.inr (Or.inl (weights_in (List.mem_map.2 ⟨_, hmem, rfl⟩) hk))))
      have hsn : (a.add (i * 3)).spot = none := by
        have q := hcc 0 (by omega)
        have q2 : cs'[0]? = some cs'[0] := List.getElem?_eq_getElem (by omega)
        rw [q2] at q
        exact spot_none (a := a.add (i * 3)) (by simpa [Addr.add] using q)
      have hab : (a.add (i * 3)).block = a.block ∧ (a.add (i * 3)).off = a.off + i * 3 := by
        unfold Addr.add
        split
        · rename_i q; rw [q]; exact ⟨rfl, rfl⟩
        · exact ⟨rfl, rfl⟩
      refine ⟨t, ?_, r3, hsn⟩
      subst r1
      have q0 := hcc 0 (by omega)
      have q1 := hcc 1 (by omega)
      have q2 := hcc 2 (by omega)
      rw [add_none hsn, hab.1, hab.2] at q0 q1 q2
      exact ⟨q0, q1, q2⟩
    obtain ⟨l, hll, hlp⟩ := list_of len key
    refine ⟨l, ⟨some a, cap, by rw [hcs, hll], by rw [hll]; exact hl, hm, fun h0 => ?_⟩, ?_⟩
    · have hs0 : a.spot = none := by have := (hlp 0 h0).2.2; simpa [Addr.add] using this
      refine ⟨a.block, a.off, ?_, ?_, fun i hi => (hlp i hi).1⟩
      · obtain ⟨b, o, sp⟩ := a
        simp only at hs0
        rw [hs0]
      · exact hp (.cell a.block (a.off + 0)) (List.mem_append.2 (Or.inl (MemPlace.mem_row.2 ⟨0, by omega, rfl⟩)))
    · intro y hy
      obtain ⟨i, hi, rfl⟩ := List.mem_iff_getElem.1 hy
      exact (hlp i hi).2.1
end Go.Proofs.YtjidnceccpmheaaGreatDoor
