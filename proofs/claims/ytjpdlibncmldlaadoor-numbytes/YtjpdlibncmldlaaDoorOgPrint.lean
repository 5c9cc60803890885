/- num.Print: walked, as far as the powers of ten below 100 go. -/
import Derived.Test.YtjpdlibncmldlaaDoorOcPower
import Derived.Test.YtjpdlibncmldlaaDoorNqAdd
import Derived.Test.YtjpdlibncmldlaaDoorNrSum
import Derived.Outline
namespace Go.Proofs.YtjpdlibncmldlaaDoor
open Go.RowKit
set_option linter.unusedSimpArgs false
set_option linter.unusedVariables false
theorem own_conv {W : World} {B : Nat} {v : Value} {l : List UInt8} (h : Own W B v l) : (convert 37 9 v).run Tryd.prog W = .ok (.string (mkB l)) W := by
  have hc := h
  obtain ⟨h0, h⟩ := h
  rcases h with ⟨rfl, hn⟩ | ⟨g, cap, cur, rfl, hg, hh, h1, h2, h3, h4⟩
  · have : l = [] := List.eq_nil_of_length_eq_zero hn
    subst this
    exact run_convert_bytes_nil W 37 5 Tryd.underlying37 Tryd.underlying5 0 0 9 Tryd.underlying9
  · refine run_convert_bytes_back W 37 9 5 ⟨g, 0, none⟩ cap l Tryd.underlying37 Tryd.underlying5 Tryd.underlying9 (fun j hj => ?_)
    have hcells : ∀ j u, (bcs l)[j]? = some u → W.cell? ((⟨g, 0, none⟩ : Addr).add j) = some u := World.ownsRow.cells hc (g := g) rfl
    exact hcells j _ (by simp [bcs, List.getElem?_eq_getElem hj])
/-- A sign's byte. -/
def sgnB (n : Bool) : List UInt8 := if n then [45] else []
theorem own_sgn (w : World) (B : Nat) : Own w B (.slice none 0 0) (sgnB false) := own_nil w B
set_option maxHeartbeats 1000000 in
theorem print_le (s : ByteArray) (x : Int) (w : World) (h : isN false s x = true) (hx : x < 0) (hx21 : -21 ≤ x) (hs : (s.size : Int) ≤ -x) :
    Calls Tryd.prog 12 #[.agg #[.bool false, .string s, .int .i64 x]] w fun e w' => e = .returned (.tuple #[.string (mkB (pointed (bl s) (-x).toNat)), .int .i64 0]) ∧ Below w.heap.size w w' := by
  have ml : maxLen = 2 ^ 63 - 1 := rfl
  obtain ⟨had, hl1, hl40, hx1, hx2, hdg⟩ := isN_all h
  clear had hdg
  have hB := hide (box_new w false s x)
  obtain ⟨bh, hbh⟩ : ∃ bh : Nat, x = -(bh : Int) := ⟨(-x).toNat, by omega⟩
  subst hbh
  have hbn : (- -(bh : Int)) = (bh : Int) := by omega
  have hg0 : decide ((0 : Int) ≤ -(bh : Int)) = false := decide_eq_false (by omega)
  rw [hbn, Int.toNat_natCast]
  go_enter Tryd.func12, Tryd.ntmps12
  go_wp2_with fail
  refine (check_ok false s _ _ (by omega) h).mono ?_
  rintro e w1 ⟨rfl, hb1⟩
  have hB1 := hide (hB.out.below hb1 (by simp))
  have hlw := hB1.out.lt
  obtain ⟨c0, c1, c2, f0, f1, f2⟩ := hB1.out.cells
  have hb := hide (below_alloc hb1)
  clear hb1 hB
  go_wp2_with fail
  go_fit (appendPointed_le w1.heap.size (.slice none 0 0) [] s bh w1 (own_nil _ _) (Nat.le_refl _) (by simp) (by omega) (by omega))
  rintro e w2 ⟨v2, rfl, h2, h3⟩
  have hcv := own_conv h2.out
  rw [List.nil_append] at hcv
  go_wp2
  go_ret2
  exact ⟨rfl, hb.out.trans (h3.out.mono hb.out.size)⟩
set_option maxHeartbeats 1000000 in
theorem print_pw (s : ByteArray) (x : Nat) (w : World) (h : isN false s x = true) (hx21 : 21 < s.size + x) (hs : 1 < s.size) (hp : s.size + x ≤ 100) :
    Calls Tryd.prog 12 #[.agg #[.bool false, .string s, .int .i64 x]] w fun e w' => e = .returned (.tuple #[.string (mkB (powered (bl s) (dec3 (x + s.size - 1)))), .int .i64 0]) ∧ Below w.heap.size w w' := by
  have ml : maxLen = 2 ^ 63 - 1 := rfl
  obtain ⟨had, hl1, hl40, hx1, hx2, hdg⟩ := isN_all h
  clear had hdg
  have hB := hide (box_new w false s x)
  have hg1 : decide ((s.size : Int) + (x : Int) ≤ 21) = false := decide_eq_false (by omega)
  have hg2 : decide ((x : Int) < 0) = false := decide_eq_false (by omega)
  have hpi : (x : Int) + (s.size : Int) - 1 = ((x + s.size - 1 : Nat) : Int) := by omega
  have hp100 : x + s.size - 1 < 100 := by omega
  go_enter Tryd.func12, Tryd.ntmps12
  go_wp2_with fail
  refine (check_ok false s _ _ (by omega) h).mono ?_
  rintro e w1 ⟨rfl, hb1⟩
  have hB1 := hide (hB.out.below hb1 (by simp))
  have hlw := hB1.out.lt
  obtain ⟨c0, c1, c2, f0, f1, f2⟩ := hB1.out.cells
  have hb := hide (below_alloc hb1)
  clear hb1 hB
  go_wp2_with fail
  go_fit (appendPower_small w1.heap.size (.slice none 0 0) [] s (x + s.size - 1) w1 (own_nil _ _) (Nat.le_refl _) (by simp) hs (by omega) hp100)
  rintro e w2 ⟨v2, rfl, h2, h3⟩
  have hcv := own_conv h2.out
  rw [List.nil_append] at hcv
  go_wp2
  go_ret2
  exact ⟨rfl, hb.out.trans (h3.out.mono hb.out.size)⟩
end Go.Proofs.YtjpdlibncmldlaaDoor
