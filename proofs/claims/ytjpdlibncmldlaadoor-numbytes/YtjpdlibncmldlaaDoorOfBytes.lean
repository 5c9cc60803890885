/- num.Bytes: walked. -/
import Derived.Test.YtjpdlibncmldlaaDoorOeBytes
import Derived.Test.YtjpdlibncmldlaaDoorNpFormF
namespace Go.Proofs.YtjpdlibncmldlaaDoor
open Go.RowKit
set_option linter.unusedSimpArgs false
set_option linter.unusedVariables false
theorem arr17 (w : World) (T : TypeId) : Arr (w.alloc (.cells #[Value.int IntKind.u8 0, Value.int IntKind.u8 0, Value.int IntKind.u8 0, Value.int IntKind.u8 0, Value.int IntKind.u8 0, Value.int IntKind.u8 0, Value.int IntKind.u8 0, Value.int IntKind.u8 0, Value.int IntKind.u8 0, Value.int IntKind.u8 0, Value.int IntKind.u8 0, Value.int IntKind.u8 0, Value.int IntKind.u8 0, Value.int IntKind.u8 0, Value.int IntKind.u8 0, Value.int IntKind.u8 0, Value.int IntKind.u8 0] T)) w.heap.size T (List.replicate 17 0) := arr_new w T 17 _ rfl
/-- Where Bytes stands. -/
structure BSt (w : World) (b : Nat) (n : Bool) (s : ByteArray) (x : Int) (v : Nat) (W : World) : Prop where
  below : Below w.heap.size w W
  hb : Box W w.heap.size n s x
  row : ∃ P, P.length = 17 ∧ Bts P ∧ v256 P = v ∧ Arr W b 75 P
theorem BSt.turn {w : World} {b : Nat} {n : Bool} {s : ByteArray} {x : Int} {v v' : Nat} {W W' : World} (h : BSt w b n s x v W) (hO : Only b W W') (hb : w.heap.size < b) (P : List Nat) (h1 : P.length = 17) (h2 : Bts P) (h3 : v256 P = v') (h4 : Arr W' b 75 P) : BSt w b n s x v' W' :=
  ⟨h.below.trans (hO.below (by omega)), h.hb.only hO (by omega), P, h1, h2, h3, h4⟩
theorem val_take_succ (l : List Nat) (k : Nat) (h : k < l.length) : val (l.take (k + 1)) = val (l.take k) * 10 + l[k] := by
  rw [List.take_succ_eq_append_getElem h, val_append]; simp [val]
theorem own_base {W : World} {B B' : Nat} {v : Value} {l : List UInt8} (h : Own W B v l) (hB : B' ≤ B) : Own W B' v l := by
  obtain ⟨h0, h⟩ := h
  refine ⟨h0, ?_⟩
  rcases h with h | ⟨g, cap, cur, h1, h2, h3⟩
  · exact Or.inl h
  · exact Or.inr ⟨g, cap, cur, h1, by omega, h3⟩
/-- The bytes of a row, from the first that is no nought on. -/
def trimB (P : List Nat) : List UInt8 := (P.drop (lz P)).map UInt8.ofNat
set_option maxHeartbeats 2000000 in
theorem bytes_ok (n : Bool) (s : ByteArray) (x : Int) (w : World) (h : isN n s x = true) (hx : 0 ≤ x) (hsx : s.size + x ≤ 40) :
    Calls Tryd.prog 24 #[.agg #[.bool n, .string s, .int .i64 x]] w fun e w' => ∃ v' P, e = .returned (.tuple #[v', .int .i64 0]) ∧ Hid (P.length = 17 ∧ Bts P ∧ v256 P = val (dg s) * 10 ^ x.toNat) ∧ Hid (Own w' w.heap.size v' (trimB P)) ∧ Hid (Below w.heap.size w w') := by
  have ml : maxLen = 2 ^ 63 - 1 := rfl
  obtain ⟨had, hl1, hl40, hx1, hx2, hdg⟩ := isN_all h
  have had := hide had
  have hdg := hide hdg
  have hx0 : decide (x < 0) = false := decide_eq_false (by omega)
  have hx40 : decide (40 < (s.size : Int) + x) = false := decide_eq_false (by omega)
  have hB := hide (box_new w n s x)
  go_enter Tryd.func24, Tryd.ntmps24
  go_wp2_with fail
  refine (check_ok n s x _ (by omega) h).mono ?_
  rintro e w1 ⟨rfl, hb1⟩
  have hB1 := hide (hB.out.below hb1 (by simp))
  have hlw := hB1.out.lt
  obtain ⟨c0, c1, c2, f0, f1, f2⟩ := hB1.out.cells
  have S1 : Hid (BSt w w1.heap.size n s x 0 (w1.alloc (.cells #[Value.int IntKind.u8 0, Value.int IntKind.u8 0, Value.int IntKind.u8 0, Value.int IntKind.u8 0, Value.int IntKind.u8 0, Value.int IntKind.u8 0, Value.int IntKind.u8 0, Value.int IntKind.u8 0, Value.int IntKind.u8 0, Value.int IntKind.u8 0, Value.int IntKind.u8 0, Value.int IntKind.u8 0, Value.int IntKind.u8 0, Value.int IntKind.u8 0, Value.int IntKind.u8 0, Value.int IntKind.u8 0, Value.int IntKind.u8 0] 75))) :=
    ⟨below_al (below_alloc hb1), hB1.out.alloc _, List.replicate 17 0, by simp, fun d hd => by rw [List.eq_of_mem_replicate hd]; omega, v256_zeros 17, arr17 w1 _⟩
  clear hb1 hB hB1
  go_wp2_with fail
  clear c0 c1 c2 f0 f1 f2
  go_loopw [5, 25] (fun _ i wr => ∃ k : Nat, k ≤ s.size ∧ i = .int .i64 k ∧ Hid (BSt w w1.heap.size n s x (val ((dg s).take k)) wr)) (fun _ i _ => s.size - (intOf i).toNat)
  case atStart => exact ⟨0, Nat.zero_le _, rfl, S1.out⟩
  case round =>
    obtain ⟨k, hk, rfl, S⟩ := hrel
    obtain ⟨c0, c1, c2, f0, f1, f2⟩ := S.out.hb.cells
    by_cases hlt : k < s.size
    · have hd9 := allD_get s had.out k hlt
      obtain ⟨P, hP1, hP2, hP3, hP4⟩ := S.out.row
      have hP1 := hide hP1
      have hP2 := hide hP2
      have hP3 := hide hP3
      have hP4 := hide hP4
      have hvs := hide (val_take_succ (dg s) k (by rw [dg_length]; exact hlt))
      have hdk := hide (dg_get s k hlt)
      have hbd : Hid (v256 P * 10 + (s[k].toNat - 48) < 256 ^ 17) := by
        show _ < _
        rw [hP3.out, ← hdk.out, ← hvs.out]
        have h1 := val_lt ((dg s).take (k + 1)) (fun d hd => hdg.out d (List.mem_of_mem_take hd))
        have h2 : ((dg s).take (k + 1)).length ≤ 40 := by rw [List.length_take, dg_length]; omega
        have h3 : (10 : Nat) ^ ((dg s).take (k + 1)).length ≤ 10 ^ 40 := Nat.pow_le_pow_right (by decide) h2
        have h4 : (10 : Nat) ^ 40 < 256 ^ 17 := by decide
        omega
      go_wp2_with fail
      refine (tenfold_any w1.heap.size 75 P _ wr hP4.out hP1.out hP2.out ?_ ?_ ?_).mono ?_
      · omega
      · omega
      · rw [show ((s[k].toNat : Int) - 48).toNat = s[k].toNat - 48 by omega]; exact hbd.out
      rintro e w2 ⟨rfl, P', g1, g2, g3, g4, g5⟩
      have S2 : Hid (BSt w w1.heap.size n s x (val ((dg s).take (k + 1))) w2) := S.out.turn g5 hlw P' g1 g2 (by
        rw [g3, hP3.out, hvs.out, hdk.out, show ((s[k].toNat : Int) - 48).toNat = s[k].toNat - 48 by omega]) g4
      clear g1 g2 g3 g4 g5
      go_wp2
      refine ⟨⟨k + 1, by omega, by go_num, S2.out⟩, by simp [intOf]; omega⟩
    · have htk : (dg s).take k = dg s := List.take_of_length_le (by rw [dg_length]; omega)
      rw [htk] at S
      clear htk
      go_wp2
      go_loopw [38] (fun i wr => ∃ j : Nat, j ≤ x.toNat ∧ i = .int .i64 j ∧ Hid (BSt w w1.heap.size n s x (val (dg s) * 10 ^ j) wr)) (fun i _ => x.toNat - (intOf i).toNat)
      case atStart => exact ⟨0, Nat.zero_le _, rfl, by show BSt _ _ _ _ _ _ _; rw [Nat.pow_zero, Nat.mul_one]; exact S.out⟩
      case round =>
        obtain ⟨j, hj, rfl, S'⟩ := hrel
        clear c0 c1 c2 f0 f1 f2
        obtain ⟨P, hP1, hP2, hP3, hP4⟩ := S'.out.row
        have hP1 := hide hP1
        have hP2 := hide hP2
        have hP3 := hide hP3
        have hP4 := hide hP4
        by_cases hlj : (j : Int) < x
        · have hbd : Hid (v256 P * 10 + (0 : Int).toNat < 256 ^ 17) := by
            show _ < _
            rw [hP3.out]
            have h1 := val_lt (dg s) hdg.out
            rw [dg_length] at h1
            have h2 : val (dg s) * 10 ^ j * 10 < 10 ^ 40 := by
              rw [Nat.mul_assoc, ← Nat.pow_succ]
              exact lt_pow hdg.out (by rw [dg_length]; omega)
            have h4 : (10 : Nat) ^ 40 < 256 ^ 17 := by decide
            simp
            omega
          go_wp2_with fail
          refine (tenfold_any w1.heap.size 75 P 0 _ hP4.out hP1.out hP2.out (by omega) (by omega) hbd.out).mono ?_
          rintro e w2 ⟨rfl, P', g1, g2, g3, g4, g5⟩
          have S2 : Hid (BSt w w1.heap.size n s x (val (dg s) * 10 ^ (j + 1)) w2) := S'.out.turn g5 hlw P' g1 g2 (by
            rw [g3, hP3.out, Nat.pow_succ]; simp [Nat.mul_assoc]) g4
          clear g1 g2 g3 g4 g5
          go_wp2
          go_roundw
          case rel => exact ⟨j + 1, by omega, by go_num, S2.out⟩
          case measure => simp [intOf]; omega
        · have hjx : j = x.toNat := by omega
          subst hjx
          have hl17 := hP1.out
          have hcl := hide (show ∀ i (h : i < P.length), wr.cell? ⟨w1.heap.size, 0 + i, none⟩ = some (.int .u8 (P[i] : Nat)) from fun i h => by rw [Nat.zero_add]; exact hP4.out.cell i h)
          have hzr := hP4.out.lt
          clear hl17
          by_cases hz : lz P < 17
          · go_wp2_with fail
            go_fit (trimLeft_any w1.heap.size 0 17 17 P wr hP1.out (by omega) (by omega) (by omega) (by omega) hcl.out)
            rintro e w2 ⟨h1, _, hw2⟩
            have hw2' := hw2.symm
            clear hw2
            subst hw2'
            obtain rfl := h1 hz
            have htl := hide (show (trimB P).length = 17 - lz P by unfold trimB; rw [List.length_map, List.length_drop, hP1.out])
            have htc := hide (show ∀ i (h : i < (trimB P).length), wr.cell? ⟨w1.heap.size, lz P + i, none⟩ = some (.int .u8 ((trimB P)[i].toNat : Int)) from fun i h => by
              rw [htl.out] at h
              have h17 := hP1.out
              have := hP4.out.cell (lz P + i) (by omega)
              rw [this]
              congr 2
              have h255 := hP2.out _ (List.getElem_mem (show lz P + i < P.length by omega))
              simp only [trimB, List.getElem_map, List.getElem_drop]
              rw [UInt8.toNat_ofNat']
              omega)
            go_wp2_with fail
            go_fit (clone_some w1.heap.size (lz P) (17 - lz P) (17 - lz P) (trimB P) wr htl.out (by omega) hzr htc.out)
            rintro e w3 ⟨v3, rfl, h2, h3⟩
            go_wp2
            go_ret2
            exact ⟨_, P, rfl, ⟨hP1.out, hP2.out, hP3.out⟩, own_base h2.out S'.out.below.size, S'.out.below.trans (h3.out.mono S'.out.below.size)⟩
          · have hz17 : lz P = 17 := by have := lz_le P; have := hP1.out; omega
            have htn := hide (show trimB P = [] by unfold trimB; rw [List.drop_of_length_le (by have := hP1.out; omega)]; rfl)
            have hz17 := hide hz17
            go_wp2_with fail
            go_fit (trimLeft_any w1.heap.size 0 17 17 P wr hP1.out (by omega) (by omega) (by omega) (by omega) hcl.out)
            rintro e w2 ⟨_, h1, hw2⟩
            have hw2' := hw2.symm
            clear hw2
            subst hw2'
            obtain rfl := h1 hz17.out
            go_wp2_with fail
            go_fit (clone_nil wr)
            rintro e w3 ⟨rfl, hw3⟩
            have hw3' := hw3.symm
            clear hw3
            subst hw3'
            go_wp2
            go_ret2
            exact ⟨_, P, rfl, ⟨hP1.out, hP2.out, hP3.out⟩, by show Own _ _ _ _; rw [htn.out]; exact own_nil _ _, S'.out.below⟩
end Go.Proofs.YtjpdlibncmldlaaDoor
