/- num.Parse: walked. -/
import Derived.Test.YtjidnceccpmheaaGreatDoorZlNyParse
import Derived.Test.YtjidnceccpmheaaGreatDoorZlN
import Derived.Deep.RegionWith
import Derived.Outline
namespace Go.Proofs.YtjidnceccpmheaaGreatDoor
open Go.RowKit
set_option linter.unusedSimpArgs false
set_option linter.unusedVariables false
/-- Bytes of digits, as digits. -/
def dlu (l : List UInt8) : List Nat := l.map fun c => c.toNat - 48
theorem dlu_mkB (l : List UInt8) : dg (mkB l) = dlu l := by unfold dg dlu; rw [bl_mkB]
/-- What Parse makes of a text. -/
def parseF (l : List UInt8) : Bool × ByteArray × Int × Int :=
  match splitL l with
  | none => (false, ⟨#[]⟩, 0, 10)
  | some (n, wh, fr, pn, pw) => if 512 < l.length then (false, ⟨#[]⟩, 0, 2) else formF n (dlu wh ++ dlu fr) (powF pn pw - fr.length)
theorem layR_nil (p : List Nat) (o : Nat) : layR p o [] = p := by unfold layR; simp
theorem layR_two (a b : List Nat) (m : Nat) (h : a.length + b.length ≤ m) (i : Nat) (hi : i < (a ++ b).length) (hi' : i < (layR (layR (List.replicate m 0) 0 a) a.length b).length) : (layR (layR (List.replicate m 0) 0 a) a.length b)[i] = (a ++ b)[i] := by
  have e : layR (layR (List.replicate m 0) 0 a) a.length b = a ++ b ++ List.replicate (m - a.length - b.length) 0 := by
    unfold layR
    simp [List.take_append, List.drop_append]
  simp only [e]
  rw [List.getElem_append_left hi]
theorem dlu_dgs (l : List UInt8) (h : allD l = true) : Dgs (dlu l) := by
  intro d hd
  simp only [dlu, List.mem_map] at hd
  obtain ⟨c, hc, rfl⟩ := hd
  have := (isDig_iff c).1 ((List.all_eq_true.1 h) c hc)
  omega
/-- Where Parse stands once the digits are laid. -/
structure PSt (w : World) (b : Nat) (n : Bool) (wh fr : ByteArray) (pn : Bool) (pw : ByteArray) (d : List Nat) (W : World) : Prop where
  below : Below w.heap.size w W
  hp : PBox W b n wh fr pn pw
  hb : Box W w.heap.size false ⟨#[]⟩ 0
  hz : b + 1 < W.heap.size
  hc : ∀ i (h : i < d.length), W.cell? ⟨b + 1, 0 + i, none⟩ = some (.int .u8 (d[i] : Nat))
theorem PSt.drew {w : World} {b : Nat} {n : Bool} {wh fr : ByteArray} {pn : Bool} {pw : ByteArray} {d : List Nat} {W : World} (h : PSt w b n wh fr pn pw d W) : PSt w b n wh fr pn pw d W.drew := ⟨h.below.drew, h.hp, h.hb, h.hz, h.hc⟩
theorem PSt.then {w : World} {b : Nat} {n : Bool} {wh fr : ByteArray} {pn : Bool} {pw : ByteArray} {d : List Nat} {W W1 : World} (h : PSt w b n wh fr pn pw d W) (hb : Below W.heap.size W W1) : PSt w b n wh fr pn pw d W1 :=
  ⟨below_then h.below hb, h.hp.below hb h.hp.lt, h.hb.below hb h.hb.lt, Nat.lt_of_lt_of_le h.hz hb.size, fun i hi => (hb.cell (p := ⟨b + 1, 0 + i, none⟩) h.hz).trans (h.hc i hi)⟩
theorem powF_bounds (pn : Bool) (l : List UInt8) (h : allD l = true) : -9129 ≤ powF pn l ∧ powF pn l ≤ 9129 := by
  have := pwA_le l 0 h (by omega)
  unfold powF
  split <;> omega
set_option maxHeartbeats 1000000 in
theorem parse_none (s : ByteArray) (w : World) (hs : s.size ≤ 100000) (h : splitL (bl s) = none) :
    Calls Tryz.prog 44 #[.string s] w fun e w' => e = retF (false, ⟨#[]⟩, 0, 10) ∧ Below w.heap.size w w' := by
  have hB := hide (box_new w false ⟨#[]⟩ 0)
  have h := hide h
  go_enter Tryz.func44, Tryz.ntmps44
  go_wp2_with fail
  refine (split_any s _ hs).mono ?_
  rw [h.out]
  rintro e w1 ⟨rfl, hb1⟩
  have hB1 := hide (hB.out.below hb1 (by simp))
  have hl := hB1.out.lt
  obtain ⟨c0, c1, c2, f0, f1, f2⟩ := hB1.out.cells
  have hb := hide (below_alloc hb1)
  clear hb1
  simp only [splitE, partsE, if_true, Bool.false_eq_true, if_false]
  go_wp2
  refine bodyPost_ret (v := .tuple #[.agg #[.bool false, .string ⟨#[]⟩, .int .i64 0], .int .i64 10]) (by simp [results, Tryz.results44, go_sem, c0, c1, c2, hl]) rfl ⟨rfl, ?_⟩
  refine below_al ?_
  iterate 3 refine below_set ?_ (by omega)
  exact hb.out
set_option maxHeartbeats 1000000 in
theorem parse_long (s : ByteArray) (w : World) (hs : s.size ≤ 100000) (n : Bool) (wh fr : List UInt8) (pn : Bool) (pw : List UInt8) (h : splitL (bl s) = some (n, wh, fr, pn, pw)) (hlong : 512 < s.size) :
    Calls Tryz.prog 44 #[.string s] w fun e w' => e = retF (false, ⟨#[]⟩, 0, 2) ∧ Below w.heap.size w w' := by
  have hB := hide (box_new w false ⟨#[]⟩ 0)
  have h := hide h
  go_enter Tryz.func44, Tryz.ntmps44
  go_wp2_with fail
  refine (split_any s _ hs).mono ?_
  rw [h.out]
  rintro e w1 ⟨rfl, hb1⟩
  have hB1 := hide (hB.out.below hb1 (by simp))
  have hl := hB1.out.lt
  obtain ⟨c0, c1, c2, f0, f1, f2⟩ := hB1.out.cells
  have hb := hide (below_alloc hb1)
  clear hb1
  simp only [splitE, partsE, if_true, Bool.false_eq_true, if_false]
  go_wp2
  refine bodyPost_ret (v := .tuple #[.agg #[.bool false, .string ⟨#[]⟩, .int .i64 0], .int .i64 2]) (by simp [results, Tryz.results44, go_sem, c0, c1, c2, hl]) rfl ⟨rfl, ?_⟩
  refine below_al ?_
  iterate 3 refine below_set ?_ (by omega)
  exact hb.out
end Go.Proofs.YtjidnceccpmheaaGreatDoor
