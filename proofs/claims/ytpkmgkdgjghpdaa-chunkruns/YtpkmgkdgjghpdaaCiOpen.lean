/- What comes in: bytes, numbers, calls: opened. -/
import Derived.Test.YtpkmgkdgjghpdaaChNil
import Derived.ProofKit
import Derived.ChangeMaps5
import Derived.SizedLaws
import Derived.Lib.SmallJoins
import Derived.Lay
import Derived.HandedShaped
import Derived.SevenTiedAt
namespace Go.Proofs.Ytpkmgkdgjghpdaa
open Go.ChangeShapes Go.WideShapes Go.ChangeAt Go.RowKit Go.Joins
set_option linter.unusedVariables false
set_option maxRecDepth 100000
theorem own : ownKnob Try.prog.godebug = none := by kernel_rfl
theorem laidOut : laidOutB Try.prog = true := by kernel_rfl
theorem c5 : Try.prog.cellsOf 5 = 1 := by kernel_rfl
theorem c3 : Try.prog.cellsOf 3 = 1 := by kernel_rfl
theorem cB : Try.prog.cellsOf 33 = 1 := by kernel_rfl
theorem cO : Try.prog.cellsOf 35 = 3 := by kernel_rfl
theorem by5 : Try.prog.bytesOf 5 = 1 := by kernel_rfl
theorem int_range {n : Int} (h : (Lit.int .i64 n).wf = true) : -9223372036854775808 ≤ n ∧ n ≤ 9223372036854775807 := by
  have m1 : IntKind.i64.min = -9223372036854775808 := rfl
  have m2 : IntKind.i64.max = 9223372036854775807 := rfl
  simp [Lit.wf, m1, m2] at h
  omega
theorem weights_in {H : Type} {P : Program} {e : TypeId} {ds : List (DataW H)} {d : DataW H} (hd : d ∈ ds) {n : Nat} (hn : n ∈ DataW.weights P e d) : n ∈ DataW.weightsAll P e ds := by
  induction ds with
  | nil => cases hd
  | cons x xs ih =>
    simp only [DataW.weightsAll, List.mem_append]
    rcases List.mem_cons.1 hd with rfl | h
    · exact Or.inl hn
    · exact Or.inr (ih h)
theorem weightsE {H : Type} {P : Program} {t : TypeId} {ts : List TypeId} {d : DataW H} {ds : List (DataW H)} : DataW.weightsEach P (t :: ts) (d :: ds) = DataW.weights P t d ++ DataW.weightsEach P ts ds := rfl
theorem list_of {α : Type} {p : Nat → α → Prop} : ∀ (len : Nat), (∀ i, i < len → ∃ a, p i a) → ∃ l : List α, l.length = len ∧ ∀ i (h : i < l.length), p i l[i]
  | 0, _ => ⟨[], rfl, fun i h => by simp at h⟩
  | n + 1, h => by
    obtain ⟨l, hl, hp⟩ := list_of n (fun i hi => h i (by omega))
    obtain ⟨a, ha⟩ := h n (by omega)
    refine ⟨l ++ [a], by simp [hl], fun i hi => ?_⟩
    by_cases q : i < l.length
    · rw [List.getElem_append_left q]; exact hp i q
    · have : i = n := by simp at hi; omega
      subst this
      rw [List.getElem_append_right (by omega)]
      simp [hl, ha]
theorem spot_none {w : World} {a : Addr} {v : Value} (h : w.cell? a = some v) : a.spot = none := by
  unfold World.cell? at h
  split at h
  · cases hs : a.spot with
    | none => rfl
    | some q => rw [hs] at h; simp at h
  · cases h
theorem add_none {a : Addr} (h : a.spot = none) (i : Nat) : a.add i = ⟨a.block, a.off + i, none⟩ := by
  obtain ⟨b, o, sp⟩ := a
  simp only at h
  subst h
  exact Addr.add_mid b o i
theorem reach_le {n : Nat} (h : n ≤ reachBytes) : n ≤ 281474976710656 := by
  have : reachBytes = 140737488351232 := by decide
  omega
section
variable {H : Type} {enc : TypeId × Value → H} {W : World}
theorem open_b {fuel : Nat} {cs : List Value} {x : DataW H × List MemPlace} (hf : DataW.trod enc Try.prog W 0 (fun _ => true) true fuel 33 cs = some x) (hlt : ∀ q ∈ x.2, q.block < W.heap.size) (hw : ∀ k ∈ DataW.weights Try.prog 33 x.1, k ≤ reachBytes) :
    ∃ v l, cs = [v] ∧ SL W v l ∧ l.length ≤ 281474976710656 := by
  rcases open_ints Try.underlying33 Try.underlying5 c5 hf with ⟨hcs, hx⟩ | ⟨a, n0, cap0, zs, hcs, _, hl, hm, hz, hx, hcell, hwz⟩
  · exact ⟨_, [], hcs, Or.inl ⟨rfl, rfl⟩, by simp⟩
  · simp only [if_true] at hz
    have hll : ((zs.take n0).map fun z => UInt8.ofNat z.toNat).length = n0 := by rw [List.length_map, List.length_take]; omega
    refine ⟨_, (zs.take n0).map fun z => UInt8.ofNat z.toNat, hcs, Or.inr ⟨a, cap0, by rw [hll], by omega, hm, fun i hi => ?_⟩, ?_⟩
    · rw [hll] at hi
      refine ⟨?_, ?_⟩
      · obtain ⟨b, off, spot⟩ := a
        exact hlt (.cell b (off + i)) (by rw [hx]; exact MemPlace.mem_row.2 ⟨i, by omega, by simp⟩)
      · rw [hcell i (by omega)]
        have hiz : i < zs.length := by omega
        have hw := hwz zs[i] (List.getElem_mem _)
        have m1 : IntKind.u8.min = 0 := rfl
        have m2 : IntKind.u8.max = 255 := rfl
        simp [Lit.wf, m1, m2] at hw
        simp only [List.getElem_map, List.getElem_take, List.getD, List.getElem?_eq_getElem hiz, Option.getD_some]
        rw [UInt8.toNat_ofNat']
        congr 2
        omega
    · rw [hll]
      subst hx
      have := hw ((n0 + (cap0 - n0)) * 1) (by simp [DataW.weights, Try.underlying33, by5, hl]; exact Or.inl (by simp [lits]; omega))
      have := reach_le this
      omega
theorem open_bytes {v : Value} {d : DataW H} {p : List MemPlace} (h : DataW.Trod enc Try.prog W 0 (fun _ => true) true 33 v d p) {r : Reach} {b0 : Nat} (hval : Value.okWide Try.prog W r b0 33 v) (hlt : ∀ x ∈ p, x.block < W.heap.size) (hw : ∀ k ∈ DataW.weights Try.prog 33 d, k ≤ reachBytes) : ∃ l, SL W v l ∧ l.length ≤ 281474976710656 := by
  obtain ⟨a0, n0, cap0, rfl⟩ := okWide_slice Try.underlying33 hval
  obtain ⟨fuel, hf⟩ := h
  obtain ⟨v, l, hcs, h1, h2⟩ := open_b hf hlt hw
  simp [Value.cells] at hcs
  subst hcs
  exact ⟨l, h1, h2⟩
theorem open_op {fuel : Nat} {cs : List Value} {x : DataW H × List MemPlace} (h : DataW.trod enc Try.prog W 0 (fun _ => true) true fuel 35 cs = some x) (hp : ∀ q ∈ x.2, q.block < W.heap.size) (hw : ∀ k ∈ DataW.weights Try.prog 35 x.1, k ≤ reachBytes) :
    ∃ (o : OpT) (vb : Value), cs = [.int .i64 o.1, .int .i64 o.2.1, vb] ∧ SL W vb o.2.2 ∧ OpOk o := by
  obtain ⟨xs, n, rfl, rfl, hlen, hxs, hel⟩ := DataW.trod_struct Try.underlying35 h
  rw [cO] at hlen
  obtain ⟨a0, a1, a2, rfl⟩ : ∃ a0 a1 a2, cs = [a0, a1, a2] := by
    match cs, hlen with
    | [a0, a1, a2], _ => exact ⟨_, _, _, rfl⟩
  obtain ⟨x0, x1, x2, rfl⟩ : ∃ x0 x1 x2, xs = [x0, x1, x2] := by
    match xs, hxs with
    | [x0, x1, x2], _ => exact ⟨_, _, _, rfl⟩
  have e0 := hel 0 _ rfl
  have e1 := hel 1 _ rfl
  have e2 := hel 2 _ rfl
  replace e0 : DataW.trod enc Try.prog W 0 (fun _ => true) true n 3 (([a0, a1, a2].drop 0).take (Try.prog.cellsOf 3)) = some x0 := e0
  rw [c3] at e0
  replace e1 : DataW.trod enc Try.prog W 0 (fun _ => true) true n 3 (([a0, a1, a2].drop 1).take (Try.prog.cellsOf 3)) = some x1 := e1
  rw [c3] at e1
  replace e2 : DataW.trod enc Try.prog W 0 (fun _ => true) true n 33 (([a0, a1, a2].drop 2).take (Try.prog.cellsOf 33)) = some x2 := e2
  rw [cB] at e2
  replace e0 : DataW.trod enc Try.prog W 0 (fun _ => true) true n 3 [a0] = some x0 := e0
  replace e1 : DataW.trod enc Try.prog W 0 (fun _ => true) true n 3 [a1] = some x1 := e1
  replace e2 : DataW.trod enc Try.prog W 0 (fun _ => true) true n 33 [a2] = some x2 := e2
  obtain ⟨k0, q0, rfl, wf0⟩ := DataW.trod_int Try.underlying3 e0
  obtain ⟨k1, q1, rfl, wf1⟩ := DataW.trod_int Try.underlying3 e1
  simp only [List.cons.injEq, and_true] at q0 q1
  subst q0 q1
  obtain ⟨v, l, hv, h1, h2⟩ := open_b e2 (fun q hq => hp q (by simp [hq])) (fun k hk => hw k (by
    simp only [DataW.weights, Try.underlying35, List.map_cons, List.map_nil, weightsE, List.mem_append, DataW.weightsEach]
    simp [hk]))
  simp only [List.cons.injEq, and_true] at hv
  subst hv
  exact ⟨(k0, k1, l), a2, rfl, h1, (int_range wf0).1, (int_range wf0).2, (int_range wf1).1, (int_range wf1).2, h2⟩
end
end Go.Proofs.Ytpkmgkdgjghpdaa
