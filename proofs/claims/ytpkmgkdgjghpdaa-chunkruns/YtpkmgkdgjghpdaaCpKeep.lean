/- calamuslaw06.told, calamuskeep.Lend and Back: walked. -/
import Derived.Test.YtpkmgkdgjghpdaaChNil
namespace Go.Proofs.Ytpkmgkdgjghpdaa
open Go.RowKit
set_option linter.unusedSimpArgs false
set_option linter.unusedVariables false
/-- A row of u8 cells, some bytes of any value: what a loop that writes over it leaves. -/
def RW (W : World) (k n : Nat) : Prop := ∃ cs : Array Value, cs.size = n ∧ W.heap[k]? = some (.cells cs 5 (0, 0)) ∧ ∀ j (h : j < cs.size), ∃ b : Nat, b < 256 ∧ cs[j] = .int .u8 b
theorem RB.rw {W : World} {k : Nat} {l : List UInt8} (q : RB W k l) : RW W k l.length := ⟨(bcs l).toArray, by simp [bcs], q, fun j h => ⟨l[j]'(by simpa [bcs] using h) |>.toNat, by exact UInt8.toNat_lt _, by simp [bcs]⟩⟩
theorem RW.at {W : World} {k n : Nat} (q : RW W k n) (j : Nat) (h : j < n) : ∃ b : Nat, b < 256 ∧ W.cell? ⟨k, j, none⟩ = some (.int .u8 b) ∧ W.frozen? ⟨k, j, none⟩ = false := by
  obtain ⟨cs, hs, hh, hc⟩ := q
  obtain ⟨b, hb, he⟩ := hc j (by omega)
  refine ⟨b, hb, ?_, by simp [World.frozen?, hh]⟩
  unfold World.cell?
  rw [hh]
  show cs[j]? = _
  rw [Array.getElem?_eq_getElem (by omega), he]
theorem RW.set {W : World} {k n : Nat} (q : RW W k n) (j : Nat) (b : Nat) (hb : b < 256) : RW (W.setCell ⟨k, j, none⟩ (.int .u8 b)) k n := by
  obtain ⟨cs, hs, hh, hc⟩ := q
  refine ⟨cs.setIfInBounds j (.int .u8 b), by simpa using hs, ?_, fun i hi => ?_⟩
  · rw [setCell_eq_setRow W k j _ _ (0, 0) _ hh, setRow_heap W k _ _ _ (0, 0) hh]
  · rw [Array.getElem_setIfInBounds]
    split
    · exact ⟨b, hb, rfl⟩
    · exact hc i (by simpa using hi)
theorem But.setk {i o : Nat} {u : Value} {w W : World} (h : Fr i (.slice none 0 0) w W) : Fr i (.slice none 0 0) w (W.setCell ⟨i, o, none⟩ u) := h.set
set_option maxHeartbeats 2000000 in
set_option maxRecDepth 100000 in
theorem told_nil (w : World) : Calls Try.prog 22 #[.slice none 0 0, .bool false, .string ⟨#[]⟩, .bool false] w fun r w' => r = .returned (.bool true) ∧ w' = w := by
  have hcn : ∀ w, (convert 33 9 (.slice none 0 0)).run Try.prog w = .ok (.string ⟨#[]⟩) w := fun w => (SL.conv (l := []) (Or.inl ⟨rfl, rfl⟩))
  go_enter Try.func22, Try.ntmps22
  go_wp2
  go_loopw [10] (fun i w' => i = .int .i64 0 ∧ w' = w) (fun _ _ => 0)
  case atStart => exact ⟨rfl, rfl⟩
  case round =>
    obtain ⟨rfl, rfl⟩ := hrel
    go_wp2
    go_ret
    exact ⟨rfl, rfl⟩
set_option maxHeartbeats 2000000 in
set_option maxRecDepth 100000 in
theorem told_any (k : Nat) (l : List UInt8) (w : World) (q : RB w k l) (hl : l.length ≤ 65536) : Calls Try.prog 22 #[.slice (some ⟨k, 0, none⟩) l.length l.length, .bool true, .string (mkB l), .bool true] w fun r w' => r = .returned (.bool true) ∧ Fr k (.slice none 0 0) w w' := by
  have ml : maxLen = 2 ^ 63 - 1 := rfl
  have hcn := (q.sl (by omega)).conv
  have Q := hide q.rw
  obtain ⟨n, hn⟩ : ∃ n, l.length = n := ⟨_, rfl⟩
  obtain ⟨S, hS⟩ : ∃ S, mkB l = S := ⟨_, rfl⟩
  rw [hn] at hcn Q hl
  rw [hS] at hcn
  rw [hn, hS]
  clear q hn hS
  go_enter Try.func22, Try.ntmps22
  go_wp2
  go_loopw [10] (fun i w' => ∃ m : Nat, i = .int .i64 m ∧ m ≤ n ∧ Hid (RW w' k n ∧ Fr k (.slice none 0 0) w w')) (fun i _ => n - (intOf i).toNat)
  case atStart => exact ⟨0, rfl, Nat.zero_le _, Q.out, Fr.refl _ _ _⟩
  case round =>
    obtain ⟨m, rfl, hm, H⟩ := hrel
    by_cases hmn : (m : Int) < (n : Int)
    · obtain ⟨b, hb, c1, f1⟩ := H.out.1.at m (by omega)
      obtain ⟨b2, hb2⟩ : ∃ b2 : Nat, IntKind.u8.wrap ((b : Int) + 99) = b2 ∧ b2 < 256 := by
        refine ⟨((b + 99) % 256), ?_, by omega⟩
        have : IntKind.u8.wrap ((b : Int) + 99) = ((b : Int) + 99) % 256 := rfl
        rw [this]; omega
      have hw := hb2.1
      have hb3 := hide hb2.2
      clear hb2
      go_wp2
      exact ⟨⟨m + 1, by go_num, by omega, H.out.1.set m b2 hb3.out, H.out.2.set⟩, by simp [intOf]; omega⟩
    · go_wp2
      go_ret
      exact ⟨rfl, H.out.2⟩
theorem made_r (w : World) (n : Nat) : (w.alloc (.cells (madeCells #[.int .u8 0] n) 5)).heap[w.heap.size]? = some (.cells (List.replicate n (.int .u8 0)).toArray 5 (0, 0)) := made_row w n
theorem RB.set2 {W : World} {k : Nat} {l : List UInt8} {c d : UInt8} (h : W.heap[k]? = some (.cells (splice (List.replicate (l.length + 2) (Value.int .u8 0)) 0 (bcs l)).toArray 5 (0, 0))) :
    RB ((W.setCell ⟨k, l.length, none⟩ (.int .u8 (c.toNat : Int))).setCell ⟨k, l.length + 1, none⟩ (.int .u8 (d.toNat : Int))) k (l ++ [c, d]) := by
  have h1 := setRow_heap W k _ ((splice (List.replicate (l.length + 2) (Value.int .u8 0)) 0 (bcs l)).toArray.setIfInBounds l.length (.int .u8 (c.toNat : Int))) 5 (0, 0) h
  rw [← setCell_eq_setRow W k _ _ _ (0, 0) _ h] at h1
  have h2 := setRow_heap _ k _ (((splice (List.replicate (l.length + 2) (Value.int .u8 0)) 0 (bcs l)).toArray.setIfInBounds l.length (.int .u8 (c.toNat : Int))).setIfInBounds (l.length + 1) (.int .u8 (d.toNat : Int))) 5 (0, 0) h1
  rw [← setCell_eq_setRow _ k _ _ _ (0, 0) _ h1] at h2
  unfold RB
  rw [h2]
  have hs : splice (List.replicate (l.length + 2) (Value.int .u8 0)) 0 (bcs l) = bcs l ++ [Value.int .u8 0, Value.int .u8 0] := by
    unfold splice
    simp [bcs_length, List.drop_replicate]
  rw [hs]
  congr 2
  apply Array.toList_inj.1
  simp only [Array.toList_setIfInBounds]
  rw [List.set_append_right _ _ (by rw [bcs_length]; exact Nat.le_refl _), bcs_length, Nat.sub_self]
  rw [List.set_append_right _ _ (by rw [bcs_length]; omega), bcs_length, show l.length + 1 - l.length = 1 by omega]
  rw [bcs_append]
  rfl
theorem copy_run2 {w : World} {a : Option Addr} {c : Nat} {l : List UInt8} (sx : SL (w.alloc (.cells (madeCells #[.int .u8 0] (l.length + 2)) 5)) (.slice a l.length c) l) :
    ∃ W2, (Builtin.copy_ #[33, 33] 3 #[.slice (some ⟨w.heap.size, 0, none⟩) (l.length + 2) (l.length + 2), .slice a l.length c]).run Try.prog (w.alloc (.cells (madeCells #[.int .u8 0] (l.length + 2)) 5)) = .ok (.int .i64 l.length) W2 ∧ W2.heap[w.heap.size]? = some (.cells (splice (List.replicate (l.length + 2) (Value.int .u8 0)) 0 (bcs l)).toArray 5 (0, 0)) ∧ Below w.heap.size w W2 := by
  have f1 := made_row w (l.length + 2)
  have sx' := sx
  rcases sx with ⟨e, hl⟩ | ⟨ad, c', e, h1, h2, hc⟩
  · simp only [Value.slice.injEq] at e
    obtain ⟨rfl, _, rfl⟩ := e
    subst hl
    exact ⟨_, run_copy_nil (P := Try.prog) _ _ _ _ 5 _ _ _ Try.underlying33 (by rw [size5]; rfl), by simpa [splice, bcs] using f1, below_al (Below.refl _ _)⟩
  · simp only [Value.slice.injEq] at e
    obtain ⟨rfl, _, rfl⟩ := e
    have hr := run_copy_row (P := Try.prog) (w.alloc (.cells (madeCells #[.int .u8 0] (l.length + 2)) 5)) 33 33 3 5 w.heap.size 0 (l.length + 2) (l.length + 2) ad l.length c _ 5 (bcs l) Try.underlying33 size5 f1 (by rw [bcs_length]; exact (Nat.min_eq_left (by omega)).symm) sx'.news (by simp [bcs_length]) (bcs_one _)
    rw [bcs_length] at hr
    refine ⟨_, hr, ?_, below_setRow (below_al (Below.refl _ _)) (Nat.le_refl _) _⟩
    have := setRow_heap (w.alloc (.cells (madeCells #[.int .u8 0] (l.length + 2)) 5)) w.heap.size _ ((List.replicate (l.length + 2) (Value.int .u8 0)).toArray.toList.take 0 ++ bcs l ++ (List.replicate (l.length + 2) (Value.int .u8 0)).toArray.toList.drop (0 + l.length)).toArray 5 (0, 0) f1
    rw [this]
    simp [splice, bcs_length]
theorem two_cells {W2 : World} {k : Nat} {l : List UInt8} (h : W2.heap[k]? = some (.cells (splice (List.replicate (l.length + 2) (Value.int .u8 0)) 0 (bcs l)).toArray 5 (0, 0))) :
    W2.cell? ⟨k, l.length, none⟩ = some (.int .u8 0) ∧ W2.cell? ⟨k, l.length + 1, none⟩ = some (.int .u8 0) ∧ W2.frozen? ⟨k, l.length, none⟩ = false ∧ W2.frozen? ⟨k, l.length + 1, none⟩ = false := by
  have hs : splice (List.replicate (l.length + 2) (Value.int .u8 0)) 0 (bcs l) = bcs l ++ [Value.int .u8 0, Value.int .u8 0] := by
    unfold splice
    simp [bcs_length, List.drop_replicate]
  rw [hs] at h
  refine ⟨?_, ?_, by simp [World.frozen?, h], by simp [World.frozen?, h]⟩
  · simp [World.cell?, h, bcs_length, List.getElem?_append_right]
  · simp [World.cell?, h, bcs_length, List.getElem?_append_right]
set_option maxHeartbeats 2000000 in
set_option maxRecDepth 100000 in
theorem lend_any (vb : Value) (l : List UInt8) (w : World) (sl : SL w vb l) (hl : l.length ≤ 200000) : Calls Try.prog 18 #[vb] w fun r w' => r = .returned (.slice (some ⟨w.heap.size, 0, none⟩) l.length (l.length + 2)) ∧ RB w' w.heap.size (l ++ [165, 90]) ∧ Below w.heap.size w w' := by
  have ml : maxLen = 2 ^ 63 - 1 := rfl
  obtain ⟨a, c, rfl, h1, h2⟩ := sl.len
  have hmk : ∀ w, (Instr.makeSlice 33 (.int .i64 ((l.length : Int) + 2)) (.int .i64 ((l.length : Int) + 2))).run Try.prog w = .ok (.slice (some ⟨w.heap.size, 0, none⟩) (l.length + 2) (l.length + 2)) (w.alloc (.cells (madeCells #[.int .u8 0] (l.length + 2)) 5)) := fun w => by
    have := run_make_row' 33 5 (.int .u8 0) 1 Try.underlying33 info5 rfl .i64 .i64 (l.length + 2) (by omega) (by omega) w
    exact this
  have hsl : Hid (∀ o, SL (w.alloc o) (.slice a l.length c) l) := fun o => sl.below (below_al (Below.refl _ _))
  clear sl
  obtain ⟨W2, hcp, hrow, hbw⟩ := copy_run2 (hsl.out _)
  obtain ⟨c1, c2, f1, f2⟩ := two_cells hrow
  have R2 := hide (RB.set2 (c := 165) (d := 90) hrow)
  have B2 := hide hbw
  clear hrow hbw
  go_enter Try.func18, Try.ntmps18
  go_wp2
  go_ret
  exact ⟨rfl, R2.out, (B2.out.setCell (Nat.le_refl _) _).setCell (Nat.le_refl _) _⟩
set_option maxHeartbeats 2000000 in
set_option maxRecDepth 100000 in
theorem kback_any (k : Nat) (vb : Value) (l : List UInt8) (w : World) (q : RB w k (l ++ [165, 90])) (sl : SL w vb l) (hl : l.length ≤ 200000) : Calls Try.prog 19 #[.slice (some ⟨k, 0, none⟩) l.length (l.length + 2), vb] w fun r w' => r = .returned (.bool true) ∧ Fr k (.slice none 0 0) w w' := by
  have ml : maxLen = 2 ^ 63 - 1 := rfl
  obtain ⟨a, c, rfl, h1, h2⟩ := sl.len
  have hs2 : ∀ d, (convert 33 9 (.slice a l.length c)).run Try.prog (w.drewN d) = .ok (.string (mkB l)) (w.drewN d) := fun d => (sl.below (below_drewN _ d _)).conv
  have hx : SL w (.slice (some ⟨k, 0, none⟩) l.length (l.length + 2)) l := by
    refine Or.inr ⟨_, _, rfl, by omega, by omega, fun i hi => ⟨q.lt, ?_⟩⟩
    rw [add_z, q.cell i (by simp; omega), List.getElem_append_left hi]
  have hs1 : ∀ d, (convert 33 9 (.slice (some ⟨k, 0, none⟩) l.length (l.length + 2))).run Try.prog (w.drewN d) = .ok (.string (mkB l)) (w.drewN d) := fun d => (hx.below (below_drewN _ d _)).conv
  have hs3 := hs1 0
  have hs4 := hs2 0
  rw [World.drewN_zero] at hs3 hs4
  have c1 : w.cell? ⟨k, l.length, none⟩ = some (.int .u8 165) := by rw [q.cell l.length (by simp)]; simp
  have c2 : w.cell? ⟨k, l.length + 1, none⟩ = some (.int .u8 90) := by rw [q.cell (l.length + 1) (by simp)]; simp
  have Q : Hid (RW w k (l.length + 2)) := by have := q.rw; simp at this; exact this
  clear q sl hx
  go_enter Try.func19, Try.ntmps19
  go_wp2
  go_loopw [7] (fun i w' => ∃ m : Nat, i = .int .i64 m ∧ m ≤ l.length + 2 ∧ Hid (RW w' k (l.length + 2) ∧ Fr k (.slice none 0 0) w w')) (fun i _ => l.length + 2 - (intOf i).toNat)
  case atStart => exact ⟨0, rfl, Nat.zero_le _, Q.out, Fr.refl _ _ _⟩
  case round =>
    obtain ⟨m, rfl, hm, H⟩ := hrel
    clear c1 c2 hs1 hs2 hs3 hs4
    by_cases hmn : (m : Int) < (l.length : Int) + 2
    · obtain ⟨b, hb, c1, f1⟩ := H.out.1.at m (by omega)
      obtain ⟨b2, hb2⟩ : ∃ b2 : Nat, IntKind.u8.wrap ((b : Int) + 77) = b2 ∧ b2 < 256 := by
        refine ⟨((b + 77) % 256), ?_, by omega⟩
        have : IntKind.u8.wrap ((b : Int) + 77) = ((b : Int) + 77) % 256 := rfl
        rw [this]; omega
      have hw := hb2.1
      have hb3 := hide hb2.2
      have hmn2 : m < l.length + 2 := by omega
      clear hb2
      go_wp2
      exact ⟨⟨m + 1, by go_num, by omega, H.out.1.set m b2 hb3.out, H.out.2.set⟩, by simp [intOf]; omega⟩
    · go_wp2
      go_ret
      exact ⟨rfl, H.out.2⟩
end Go.Proofs.Ytpkmgkdgjghpdaa
