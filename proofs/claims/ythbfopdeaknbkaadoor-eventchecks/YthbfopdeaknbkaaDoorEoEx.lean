/- The laws' example: what it is. -/
import Derived.Test.YthbfopdeaknbkaaDoorEnBuild
import Derived.Test.YthbfopdeaknbkaaDoorXcReq
namespace Go.Proofs.YthbfopdeaknbkaaDoor
open Go.RowKit
set_option linter.unusedSimpArgs false
set_option linter.unusedVariables false
def exH : Hd := { zr 8 with names := [⟨#[97]⟩, ⟨#[98]⟩] }
def exN : Hd := { zr 3 with dig := ⟨#[49]⟩ }
def exL : VT 2 := (zr 7, [null1])
def exT : VT 3 := (exH, [((exN, []) : VT 2), exL])
theorem ex_fl : fl 3 exT = [hd0 exH, evN ⟨#[97]⟩, hd0 exN, evN ⟨#[98]⟩, hd0 (zr 7), hd0 (zr 1), evE, evE] := rfl
theorem ex_mem {α : Type} {a b : α} {p : α → Prop} (h1 : p a) (h2 : p b) : ∀ y ∈ [a, b], p y := by
  intro y hy
  simp only [List.mem_cons, List.not_mem_nil, or_false] at hy
  rcases hy with rfl | rfl
  · exact h1
  · exact h2
theorem ex_one {α : Type} {a : α} {p : α → Prop} (h1 : p a) : ∀ y ∈ [a], p y := by
  intro y hy
  rw [List.mem_singleton.1 hy]; exact h1
theorem ex_isvN : IsV 2 ((exN, []) : VT 2) := ⟨⟨(show (1 : Int) ≤ 3 by decide), (show (3 : Int) ≤ 9 by decide), rfl, Or.inr rfl⟩, ⟨fun _ => by decide, fun h => (by cases h), fun h => (by cases h), fun h => (by cases h)⟩, fun y hy => (by cases hy)⟩
theorem ex_isvL : IsV 2 exL := ⟨⟨(show (1 : Int) ≤ 7 by decide), (show (7 : Int) ≤ 9 by decide), rfl, Or.inl (show (7 : Int) ≤ 7 by decide)⟩, ⟨fun h => (by cases h), fun h => (by cases h), fun h => (by cases h), fun h => (by cases h)⟩, ex_one isv_null1⟩
theorem ex_isv : IsV 3 exT := ⟨⟨(show (1 : Int) ≤ 8 by decide), (show (8 : Int) ≤ 9 by decide), rfl, Or.inl (show (7 : Int) ≤ 8 by decide)⟩, ⟨fun h => (by cases h), fun h => (by cases h), fun _ => ⟨rfl, ex_mem (by decide) (by decide), by decide⟩, fun h => (by cases h)⟩, ex_mem ex_isvN ex_isvL⟩
theorem ex_shtN : Sht 2 ((exN, []) : VT 2) := ⟨(show (0 : Int) ≤ 4096 by decide), (show 0 ≤ 256 by decide), fun s hs => (by cases hs), fun y hy => (by cases hy)⟩
theorem ex_sht1 : Sht 1 null1 := ⟨(show (0 : Int) ≤ 4096 by decide), (show 0 ≤ 256 by decide), fun s hs => (by cases hs), fun y hy => (by cases hy)⟩
theorem ex_shtL : Sht 2 exL := ⟨(show (0 : Int) ≤ 4096 by decide), (show 1 ≤ 256 by decide), fun s hs => (by cases hs), ex_one ex_sht1⟩
theorem ex_sht : Sht 3 exT := ⟨(show (0 : Int) ≤ 4096 by decide), (show 2 ≤ 256 by decide), ex_mem (show 1 ≤ 64 by decide) (show 1 ≤ 64 by decide), ex_mem ex_shtN ex_shtL⟩
theorem ex_siz : siz 3 exT = 4 := rfl
theorem ex_dep : dep 3 exT = 3 := rfl
theorem ex_win : Win 3 exT := ⟨ex_sht, by rw [ex_dep]; decide, by rw [ex_siz]; decide⟩
theorem ex_chk : Chk 3 exT 0 := Or.inr (Or.inr ⟨rfl, ex_isv, ex_win⟩)
theorem ex_sz1 : Sz 1 null1 := ⟨by decide, by decide, by decide, fun s hs => (by cases hs), fun y hy => (by cases hy)⟩
theorem ex_szN : Sz 2 ((exN, []) : VT 2) := ⟨by decide, by decide, by decide, fun s hs => (by cases hs), fun y hy => (by cases hy)⟩
theorem ex_szL : Sz 2 exL := ⟨by decide, by decide, by decide, fun s hs => (by cases hs), ex_one ex_sz1⟩
theorem ex_sz : Sz 3 exT := ⟨by decide, by decide, by decide, ex_mem (by decide) (by decide), ex_mem ex_szN ex_szL⟩
theorem range_block {W : World} {b : Nat} {cs : Array Value} {T : TypeId} {fr : Nat × Nat} (h : W.heap[b]? = some (.cells cs T fr)) (pre mid post : List Value) (hc : cs.toList = pre ++ (mid ++ post)) : W.rangeAt b pre.length mid := by
  intro j v hj
  have hlt := (List.getElem?_eq_some_iff.1 hj).1
  unfold World.cell?
  rw [h]
  show cs[pre.length + j]? = some v
  rw [← Array.getElem?_toList, hc, List.getElem?_append_right (by omega), Nat.add_sub_cancel_left, List.getElem?_append_left hlt, hj]
theorem new_at (W : World) (o : Obj) (k : Nat) (hk : k = W.heap.size) : (W.alloc o).heap[k]? = some o := by subst hk; exact heap_alloc_last _ _
theorem rd_ex {W : World} {a b c : Nat} (ha : W.heap[a]? = some (.cells #[.string ⟨#[97]⟩, .string ⟨#[98]⟩] 9 (0, 0))) (hb : W.heap[b]? = some (.cells (vals (zr 1) (.slice none 0 0) (.slice none 0 0)) 29 (0, 0)))
    (hc : W.heap[c]? = some (.cells #[.int .i64 3, .bool false, .bool false, .string ⟨#[49]⟩, .int .i64 0, .int .u64 0, .string ⟨#[]⟩, .slice none 0 0, .slice none 0 0, .int .i64 7, .bool false, .bool false, .string ⟨#[]⟩, .int .i64 0, .int .u64 0, .string ⟨#[]⟩, .slice none 0 0, .slice (some ⟨b, 0, none⟩) 1 1] 29 (0, 0))) : RD 3 W exT (.slice (some ⟨a, 0, none⟩) 2 2) (.slice (some ⟨c, 0, none⟩) 2 2) := by
  have la := (Array.getElem?_eq_some_iff.1 ha).1
  have lb := (Array.getElem?_eq_some_iff.1 hb).1
  have lc := (Array.getElem?_eq_some_iff.1 hc).1
  have hL : RD 2 W exL (.slice none 0 0) (.slice (some ⟨b, 0, none⟩) 1 1) := by
    refine ⟨Or.inl ⟨rfl, rfl⟩, Or.inr ⟨b, 0, 1, none, rfl, Nat.le_refl _, by decide, fun _ => ⟨rfl, lb⟩, fun i hi => ?_⟩⟩
    have hi0 : i = 0 := by have : i < 1 := hi; omega
    subst hi0
    exact ⟨.slice none 0 0, .slice none 0 0, range_block hb [] _ [] rfl, ⟨Or.inl ⟨rfl, rfl⟩, Or.inl ⟨rfl, rfl⟩⟩⟩
  refine ⟨Or.inr ⟨a, 0, 2, none, rfl, Nat.le_refl _, by decide, fun _ => ⟨rfl, la⟩, fun i hi => ?_⟩, Or.inr ⟨c, 0, 2, none, rfl, Nat.le_refl _, by decide, fun _ => ⟨rfl, lc⟩, fun i hi => ?_⟩⟩
  · have hi2 : i = 0 ∨ i = 1 := by have : i < 2 := hi; omega
    rcases hi2 with rfl | rfl
    · unfold World.cell?; rw [ha]; rfl
    · unfold World.cell?; rw [ha]; rfl
  · have hi2 : i = 0 ∨ i = 1 := by have : i < 2 := hi; omega
    rcases hi2 with rfl | rfl
    · exact ⟨.slice none 0 0, .slice none 0 0, range_block hc [] _ (vals (zr 7) (.slice none 0 0) (.slice (some ⟨b, 0, none⟩) 1 1)).toList rfl, ⟨Or.inl ⟨rfl, rfl⟩, Or.inl ⟨rfl, rfl⟩⟩⟩
    · exact ⟨.slice none 0 0, .slice (some ⟨b, 0, none⟩) 1 1, range_block hc (vals exN (.slice none 0 0) (.slice none 0 0)).toList _ [] rfl, hL⟩
set_option maxHeartbeats 1000000 in
set_option maxRecDepth 100000 in
theorem ex_any (w : World) : Calls Tryd.prog 31 #[] w fun e w' => ∃ ns ls, e = .returned (.agg (vals exH ns ls)) ∧ Hid (RD 3 w' exT ns ls) ∧ Below w.heap.size w w' := by
  go_enter Tryd.func31, Tryd.ntmps31
  go_wp2
  refine bodyPost_ret (v := .agg #[.int .i64 8, .bool false, .bool false, .string ⟨#[]⟩, .int .i64 0, .int .u64 0, .string ⟨#[]⟩, .slice (some ⟨w.heap.size + 1 + 1 + 1, 0, none⟩) 2 2, .slice (some ⟨w.heap.size + 1 + 1 + 1 + 1 + 1, 0, none⟩) 2 2]) (by simp [results, Tryd.results31, go_sem]) rfl ⟨_, _, rfl, ?_, by repeat (first | exact Below.refl _ _ | refine below_al ?_)⟩
  have P : ∀ (W : World) (o : Obj) (i : Nat) (x : Obj), W.heap[i]? = some x → (W.alloc o).heap[i]? = some x := fun W o i x h => ((below_al (o := o) (Below.refl W.heap.size W)).block i (Array.getElem?_eq_some_iff.1 h).1).trans h
  refine hide (rd_ex (b := w.heap.size + 1 + 1 + 1 + 1) ?_ ?_ ?_)
  · exact P _ _ _ _ (P _ _ _ _ (new_at _ _ _ (by simp)))
  · exact P _ _ _ _ (new_at _ _ _ (by simp))
  · exact new_at _ _ _ (by simp)
end Go.Proofs.YthbfopdeaknbkaaDoor
