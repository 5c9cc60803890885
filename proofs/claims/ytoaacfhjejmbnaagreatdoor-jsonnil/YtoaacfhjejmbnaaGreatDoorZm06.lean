/- Merged by program: JdText, JeFhex, KgUnhex. -/
import Derived.Test.YtoaacfhjejmbnaaGreatDoorZm05
import Derived.Laws.BytesArg
/- json's writer: text: walked. -/
namespace Go.Proofs.YtoaacfhjejmbnaaGreatDoor
open Go.RowKit
set_option linter.unusedSimpArgs false
set_option linter.unusedVariables false
/-- How a byte of a text is written. -/
def escB (c : UInt8) : List UInt8 := if c = 34 ∨ c = 92 then [92, c] else if c.toNat < 32 then [92, 117, 48, 48, hx (c.toNat / 16), hx (c.toNat % 16)] else [c]
def escL (l : List UInt8) : List UInt8 := l.flatMap escB
/-- A text in quotes. -/
def quo (l : List UInt8) : List UInt8 := 34 :: (escL l ++ [34])
theorem escL_snoc (l : List UInt8) (c : UInt8) : escL (l ++ [c]) = escL l ++ escB c := by simp [escL]
theorem escL_app (a b : List UInt8) : escL (a ++ b) = escL a ++ escL b := by simp [escL]
theorem bless (c : UInt8) : Op.bytesLess [c] [32] = decide (c.toNat < 32) := by
  simp [Op.bytesLess, UInt8.lt_iff_toNat_lt]
theorem WO.trans {i : Nat} {A T U : List UInt8} {W w1 w2 : World} {e : Ending} (h1 : FW i W w1) (hA : A.length + T.length ≤ 65536) (h2 : WO i (A ++ T) U w1 e w2) : WO i A (T ++ U) W e w2 := by
  obtain ⟨hb, h⟩ := h2
  refine ⟨h1.trans hb, ?_⟩
  rcases h with ⟨q1, q2, q3⟩ | ⟨q1, q2⟩
  · exact Or.inl ⟨by simp at q1 ⊢; omega, q2, by simpa using q3⟩
  · exact Or.inr ⟨by simp at q1 ⊢; omega, q2⟩
/-- What has failed has failed, whatever would come. -/
theorem WO.fail {i : Nat} {A T U : List UInt8} {W w1 : World} (h1 : FW i W w1) (h : 65536 < A.length + T.length) : WO i A (T ++ U) W (.panicked (pan 2)) w1 := ⟨h1, Or.inr ⟨by simp; omega, rfl⟩⟩
theorem byte_str (s : ByteArray) (k : Nat) (h : k < s.size) : s.extract k (k + 1) = mkB [s[k]] := by
  apply ByteArray.ext
  simp [mkB, ByteArray.data_extract]
  apply Array.ext
  · simp; omega
  · intro i h1 h2
    simp at h1 h2
    have : i = 0 := by omega
    subst this
    simp
    rfl
theorem jcat_run (a b c : ByteArray) (w : World) (h : a ++ b = c) (hs : a.size + b.size ≤ 100000) : (Op.stringOp .add a b).run Tryz.prog w = .ok (.string c) w := by
  rw [← h]; exact run_string_add_sum w a b (by omega)
theorem WB.below {W W1 : World} {i : Nat} {A : List UInt8} (h : WB W i A) (hb : Below W.heap.size W W1) : WB W1 i A := by
  have hlt := h.lt
  obtain ⟨v, h1, h2⟩ := h
  exact ⟨v, (hb.block i hlt).trans h1, ownsRow_of h2 fun g _ hg => hb.block g hg⟩
set_option maxHeartbeats 2000000 in
set_option maxRecDepth 100000 in
theorem text_any (s : ByteArray) (A : List UInt8) (W : World) (i : Nat) (h : WB W i A) (hA : A.length ≤ 65536) (hs : s.size ≤ 281474976710656) :
    Calls Tryz.prog 57 #[.pointer (some ⟨i, 0, none⟩), .string s] W fun e w' => WO i A (quo (bl s)) W e w' := by
  have hp := hide (fun s A W (h : WB W i A) (hA : A.length ≤ 65536) (hs : s.size ≤ 281474976710656) => put_any s A W i h hA hs)
  have hq := hide (show quo (bl s) = [34] ++ (escL (bl s) ++ [34]) from rfl)
  have h' := hide h
  have hA' := hide hA
  clear h hA
  go_enter Tryz.func57, Tryz.ntmps57
  go_wp2_with (go_at_call 52; refine Sto.out ?_)
  refine Sto.mk ((hp.out _ A W h'.out hA'.out (by decide)).mono ?_)
  rintro e w1 ⟨hb1, ⟨q1, rfl, hW1⟩ | ⟨q1, rfl⟩⟩
  · have B1 := hide hb1
    have W1 : Hid (WB w1 i (A ++ [34])) := hW1
    have Q1 : Hid (A.length + 1 ≤ 65536) := q1
    clear hb1 hW1 q1
    go_wp2_with fail
    go_loopw [10] (fun j wr => ∃ k : Nat, j = .int .i64 k ∧ k ≤ s.size ∧ Hid (FW i W wr ∧ WB wr i (A ++ [34] ++ escL ((bl s).take k)) ∧ (A ++ [34] ++ escL ((bl s).take k)).length ≤ 65536)) (fun j _ => s.size - (intOf j).toNat)
    case atStart => exact ⟨0, rfl, Nat.zero_le _, hide ⟨B1.out, by simpa [escL] using W1.out, by simpa [escL] using Q1.out⟩⟩
    case round =>
      obtain ⟨k, rfl, hk, HH⟩ := hrel
      obtain ⟨hB, hW, hL⟩ := HH.out
      have BR := hide hB
      have WR := hide hW
      have LR := hide hL
      clear HH hB hW hL B1 W1 Q1
      by_cases hkl : k < s.size
      · have hki : (k : Int) < (s.size : Int) := by omega
        have hk63 : (k : Int) < 9223372036854775807 := by omega
        have hk1 : (k : Int) + 1 ≤ (s.size : Int) := by omega
        obtain ⟨c, hc⟩ : ∃ c, s[k] = c := ⟨_, rfl⟩
        have hex := byte_str s k hkl
        rw [hc] at hex
        obtain ⟨S1, hS1⟩ : ∃ S1, mkB [c] = S1 := ⟨_, rfl⟩
        rw [hS1] at hex
        have hS1' := hide hS1
        have hst := hide (show escL ((bl s).take (k + 1)) = escL ((bl s).take k) ++ escB c by rw [List.take_succ_eq_append_getElem (by rw [bl_length]; exact hkl), escL_snoc, bl_get s k hkl, hc])
        clear hS1
        have hT : S1.toList = [c] := by rw [← hS1'.out, ByteArray.toList_eq]; rfl
        have hfin : Hid (∀ (w1 : World) (e : Ending) (w2 : World) (T : List UInt8), escB c = T → FW i wr w1 → WO i (A ++ [34] ++ escL ((bl s).take k)) T w1 e w2 → (e = .returned (.tuple #[]) ∧ FW i W w2 ∧ WB w2 i (A ++ [34] ++ escL ((bl s).take (k + 1))) ∧ (A ++ [34] ++ escL ((bl s).take (k + 1))).length ≤ 65536) ∨ (e = .panicked (pan 2) ∧ WO i A (quo (bl s)) W (.panicked (pan 2)) w2)) := by
          intro w1 e w2 T hT hb1 hw
          obtain ⟨hb2, hh⟩ := hw
          have hb3 := (BR.out.trans hb1).trans hb2
          rcases hh with ⟨q1, q2, q3⟩ | ⟨q1, q2⟩
          · refine Or.inl ⟨q2, hb3, ?_, ?_⟩
            · rw [hst.out, hT, ← List.append_assoc]; exact q3
            · rw [hst.out, hT, ← List.append_assoc, List.length_append]; exact q1
          · refine Or.inr ⟨q2, hb3, Or.inr ⟨?_, rfl⟩⟩
            have hpre : (escL ((bl s).take (k + 1))).length ≤ (escL (bl s)).length := by
              have h1 := List.take_append_drop (k + 1) (bl s)
              have h2 : escL (bl s) = escL ((bl s).take (k + 1)) ++ escL ((bl s).drop (k + 1)) := by rw [← escL_app, h1]
              rw [h2, List.length_append]; omega
            rw [hst.out, hT, List.length_append] at hpre
            unfold quo
            simp at q1 ⊢
            omega
        by_cases h34 : c = 34 ∨ c = 92
        · have hE := hide (show escB c = [92, c] from if_pos h34)
          obtain ⟨S2, hS2⟩ : ∃ S2, mkB [92, c] = S2 := ⟨_, rfl⟩
          have hb2 := hide (show bl S2 = [92, c] by rw [← hS2]; rfl)
          have hz2 := hide (show S2.size ≤ 281474976710656 by rw [← bl_length, hb2.out]; simp)
          have hadd : ∀ w, (Op.stringOp .add ⟨#[92]⟩ S1).run Tryz.prog w = .ok (.string S2) w := fun w => by
            have : (⟨#[92]⟩ : ByteArray) ++ S1 = S2 := by rw [← hS1'.out, ← hS2]; apply ByteArray.ext; simp [mkB]
            exact jcat_run _ _ _ w this (by rw [← hS1'.out]; show 1 + 1 ≤ _; omega)
          clear hS2
          rcases h34 with e34 | e92
          · have d34 : (c == 34) = true := by simpa using e34
            have hc' := hide e34
            subst e34
            go_wp2_with (go_at_call 52; refine Sto.out ?_)
            refine Sto.mk ((hp.out S2 _ wr WR.out LR.out hz2.out).mono ?_)
            rintro e w2 hw2
            rw [hb2.out] at hw2
            rcases hfin.out wr e w2 _ hE.out (FW.refl _ _) hw2 with ⟨rfl, g1, g2, g3⟩ | ⟨rfl, g1⟩
            · have G := hide (And.intro g1 (And.intro g2 g3))
              clear g1 g2 g3 hw2
              go_wp2_with fail
              exact ⟨⟨k + 1, by go_num, hkl, G⟩, by simp [intOf]; omega⟩
            · have G := hide g1
              clear g1 hw2
              go_wp2_with fail
              exact ⟨rfl, G.out⟩
          · have n34 : ¬ c = 34 := by rw [e92]; decide
            have hc' := hide e92
            subst e92
            go_wp2_with (go_at_call 52; refine Sto.out ?_)
            refine Sto.mk ((hp.out S2 _ wr WR.out LR.out hz2.out).mono ?_)
            rintro e w2 hw2
            rw [hb2.out] at hw2
            rcases hfin.out wr e w2 _ hE.out (FW.refl _ _) hw2 with ⟨rfl, g1, g2, g3⟩ | ⟨rfl, g1⟩
            · have G := hide (And.intro g1 (And.intro g2 g3))
              clear g1 g2 g3 hw2
              go_wp2_with fail
              exact ⟨⟨k + 1, by go_num, hkl, G⟩, by simp [intOf]; omega⟩
            · have G := hide g1
              clear g1 hw2
              go_wp2_with fail
              exact ⟨rfl, G.out⟩
        · have n34 : ¬ c = 34 := fun q => h34 (Or.inl q)
          have n92 : ¬ c = 92 := fun q => h34 (Or.inr q)
          have m34 : (c == 34) = false := by simpa using n34
          have m92 : (c == 92) = false := by simpa using n92
          have o34 : ([c] == ([34] : List UInt8)) = false := by simpa using n34
          have o92 : ([c] == ([92] : List UInt8)) = false := by simpa using n92
          by_cases h32 : c.toNat < 32
          · have hE := hide (show escB c = [92, 117, 48, 48, hx (c.toNat / 16), hx (c.toNat % 16)] by unfold escB; rw [if_neg h34, if_pos h32])
            have hlt : Op.bytesLess [c] [32] = true := by rw [bless]; exact decide_eq_true h32
            have h32' := hide h32
            clear h32
            have jh := hide (fun w => jhex_any S1 w (by rw [← hS1'.out]; show 1 ≤ _; omega))
            have hb1 := hide (show hexL (bl S1) = [hx (c.toNat / 16), hx (c.toNat % 16)] by rw [← hS1'.out]; rfl)
            rw [hb1.out] at jh
            obtain ⟨S3, hS3⟩ : ∃ S3, mkB [hx (c.toNat / 16), hx (c.toNat % 16)] = S3 := ⟨_, rfl⟩
            rw [hS3] at jh
            obtain ⟨S2, hS2⟩ : ∃ S2, mkB [92, 117, 48, 48, hx (c.toNat / 16), hx (c.toNat % 16)] = S2 := ⟨_, rfl⟩
            have hb2 := hide (show bl S2 = [92, 117, 48, 48, hx (c.toNat / 16), hx (c.toNat % 16)] by rw [← hS2]; rfl)
            have hz2 := hide (show S2.size ≤ 281474976710656 by rw [← bl_length, hb2.out]; simp)
            have hadd : ∀ w, (Op.stringOp .add ⟨#[92, 117, 48, 48]⟩ S3).run Tryz.prog w = .ok (.string S2) w := fun w => by
              have : (⟨#[92, 117, 48, 48]⟩ : ByteArray) ++ S3 = S2 := by rw [← hS3, ← hS2]; apply ByteArray.ext; simp [mkB]
              exact jcat_run _ _ _ w this (by rw [← hS3]; show 4 + 2 ≤ _; omega)
            clear hS2 hS3 h34
            go_wp2_with (go_at_call 58; refine Sto.out ?_)
            refine Sto.mk ((jh.out _).mono ?_)
            rintro e w5 ⟨rfl, hb5⟩
            have B5 : Hid (FW i wr w5) := FW.of hb5 WR.out.lt
            have W5 : Hid (WB w5 i (A ++ [34] ++ escL ((bl s).take k))) := WR.out.below hb5
            clear hb5
            go_wp2_with (go_at_call 52; refine Sto.out ?_)
            refine Sto.mk ((hp.out S2 _ w5 W5.out LR.out hz2.out).mono ?_)
            rintro e w2 hw2
            rw [hb2.out] at hw2
            rcases hfin.out w5 e w2 _ hE.out B5.out hw2 with ⟨rfl, g1, g2, g3⟩ | ⟨rfl, g1⟩
            · have G := hide (And.intro g1 (And.intro g2 g3))
              clear g1 g2 g3 hw2
              go_wp2_with fail
              exact ⟨⟨k + 1, by go_num, hkl, G⟩, by simp [intOf]; omega⟩
            · have G := hide g1
              clear g1 hw2
              go_wp2_with fail
              exact ⟨rfl, G.out⟩
          · have hE := hide (show escB c = [c] by unfold escB; rw [if_neg h34, if_neg h32])
            have hlt : Op.bytesLess [c] [32] = false := by rw [bless]; exact decide_eq_false h32
            have h32' := hide h32
            clear h32
            have hb2 := hide (show bl S1 = [c] by rw [← hS1'.out]; rfl)
            have hz2 := hide (show S1.size ≤ 281474976710656 by rw [← bl_length, hb2.out]; simp)
            clear h34
            go_wp2_with (go_at_call 52; refine Sto.out ?_)
            refine Sto.mk ((hp.out S1 _ wr WR.out LR.out hz2.out).mono ?_)
            rintro e w2 hw2
            rw [hb2.out] at hw2
            rcases hfin.out wr e w2 _ hE.out (FW.refl _ _) hw2 with ⟨rfl, g1, g2, g3⟩ | ⟨rfl, g1⟩
            · have G := hide (And.intro g1 (And.intro g2 g3))
              clear g1 g2 g3 hw2
              go_wp2_with fail
              exact ⟨⟨k + 1, by go_num, hkl, G⟩, by simp [intOf]; omega⟩
            · have G := hide g1
              clear g1 hw2
              go_wp2_with fail
              exact ⟨rfl, G.out⟩
      · have hki : ¬ ((k : Int) < (s.size : Int)) := by omega
        have hfull := hide (show (bl s).take k = bl s from List.take_of_length_le (by rw [bl_length]; omega))
        go_wp2_with (go_at_call 52; refine Sto.out ?_)
        refine Sto.mk ((hp.out _ _ wr WR.out LR.out (by decide)).mono ?_)
        rw [hfull.out] at WR LR ⊢
        rintro e w2 hw2'
        have hw2 : WO i (A ++ [34] ++ escL (bl s)) [34] wr e w2 := hw2'
        clear hw2'
        have hw3 := WO.trans (T := [34] ++ escL (bl s)) BR.out (by have := LR.out; simp at this ⊢; omega) (by simpa using hw2)
        rcases hw2 with ⟨hb2, ⟨q2, rfl, hW2⟩ | ⟨q2, rfl⟩⟩
        · have H3 := hide hw3
          clear hw3 hb2 q2 hW2
          go_wp2_with fail
          go_end0
          have := H3.out
          rw [hq.out]
          simpa using this
        · have H3 := hide hw3
          clear hw3 hb2 q2
          go_wp2_with fail
          refine ⟨rfl, ?_⟩
          have := H3.out
          rw [hq.out]
          simpa using this
  · have H1 := hide (WO.fail (U := escL (bl s) ++ [34]) hb1 q1)
    clear hb1 q1
    go_wp2_with fail
    refine ⟨rfl, ?_⟩
    rw [hq.out]
    exact H1.out
end Go.Proofs.YtoaacfhjejmbnaaGreatDoor
/- fbits.Hex: walked (FmHex's text, beside num's). -/
namespace Go.Proofs.YtoaacfhjejmbnaaGreatDoor
open Go.RowKit
set_option linter.unusedSimpArgs false
set_option linter.unusedVariables false
/-- A digit's byte. -/
def fhd (d : Nat) : Nat := if d < 10 then 48 + d else 87 + d
/-- The lowest k digits of a pattern, the highest first. -/
def flowL (b : Nat) : Nat → List Nat
  | 0 => []
  | k + 1 => fhd (b / 16 ^ k % 16) :: flowL b k
theorem flowL_len (b k : Nat) : (flowL b k).length = k := by
  induction k with
  | zero => rfl
  | succ k ih => simp [flowL, ih]
/-- A pattern's text. -/
def fhexS (b : Nat) : ByteArray := strOfNums ((flowL b 16).map fun v : Nat => (v : Int))
theorem fhexd_get (d : Nat) (h : d < 16) (h' : d < (⟨#[48, 49, 50, 51, 52, 53, 54, 55, 56, 57, 97, 98, 99, 100, 101, 102]⟩ : ByteArray).size) : ((⟨#[48, 49, 50, 51, 52, 53, 54, 55, 56, 57, 97, 98, 99, 100, 101, 102]⟩ : ByteArray)[d]).toNat = fhd d := by
  have : d = 0 ∨ d = 1 ∨ d = 2 ∨ d = 3 ∨ d = 4 ∨ d = 5 ∨ d = 6 ∨ d = 7 ∨ d = 8 ∨ d = 9 ∨ d = 10 ∨ d = 11 ∨ d = 12 ∨ d = 13 ∨ d = 14 ∨ d = 15 := by omega
  rcases this with rfl | rfl | rfl | rfl | rfl | rfl | rfl | rfl | rfl | rfl | rfl | rfl | rfl | rfl | rfl | rfl <;> rfl
set_option maxHeartbeats 1000000 in
theorem fhex_any (b : Nat) (w : World) (hb : b < 18446744073709551616) :
    Calls Tryz.prog 56 #[.int .u64 b] w fun e w' => e = .returned (.string (fhexS b)) ∧ Below w.heap.size w w' := by
  go_enter Tryz.func56, Tryz.ntmps56
  go_wp2
  go_loopw [0, 5] (fun x i wr => ∃ k : Nat, k ≤ 16 ∧ i = .int .i64 k ∧ x = .int .u64 (b / 16 ^ k : Nat) ∧ Hid (Arr wr w.heap.size 120 (List.replicate (16 - k) 0 ++ flowL b k)) ∧ Hid (Below w.heap.size w wr)) (fun x i _ => 16 - (intOf i).toNat)
  case atStart =>
    refine ⟨0, by omega, rfl, by simp, ?_, ?_⟩
    · exact arr_new _ _ 16 _ rfl
    · exact below_al (Below.refl _ _)
  case round =>
    obtain ⟨k, hk, rfl, rfl, hAr, hB⟩ := hrel
    obtain ⟨y, hy⟩ : ∃ y, b / 16 ^ k = y := ⟨_, rfl⟩
    have hyb : y < 18446744073709551616 := by rw [← hy]; exact Nat.lt_of_le_of_lt (Nat.div_le_self _ _) hb
    have hy1 := hide (show b / 16 ^ (k + 1) = y / 16 by rw [Nat.pow_succ, ← Nat.div_div_eq_div_mul, hy])
    rw [hy]
    by_cases hlt : k < 16
    · obtain ⟨d, hdd⟩ : ∃ d, y % 16 = d := ⟨_, rfl⟩
      have hd16 : d < 16 := by omega
      have hm : bits .and .u64 (y : Int) 15 = (d : Int) := by
        have := u64_and_nat y 15 hyb (by omega)
        rw [nat_mask4, hdd] at this
        exact this
      have hds : d < (⟨#[48, 49, 50, 51, 52, 53, 54, 55, 56, 57, 97, 98, 99, 100, 101, 102]⟩ : ByteArray).size := hd16
      have hg := fhexd_get d hd16 hds
      have hcs := hAr.out.cell (15 - k) (by simp; omega)
      have hfz := hAr.out.frozen (15 - k)
      have hlow := hide (show flowL b (k + 1) = fhd d :: flowL b k by simp only [flowL]; rw [hy, hdd])
      have hy := hide hy
      have hi1 : (0 : Int) ≤ 15 - (k : Int) := by omega
      have hi2 : (15 : Int) - (k : Int) < 16 := by omega
      have hi3 : ((15 : Int) - (k : Int)).toNat = 15 - k := by omega
      have hset : Hid ((List.replicate (16 - k) 0 ++ flowL b k).set (15 - k) (fhd d) = List.replicate (16 - (k + 1)) 0 ++ flowL b (k + 1)) := by
        show _ = _
        rw [hlow.out, show 16 - k = (16 - (k + 1)) + 1 by omega, List.replicate_succ', List.append_assoc, List.set_append_right _ _ (by simp <;> omega), List.length_replicate, show 15 - k - (16 - (k + 1)) = 0 by omega]
        rfl
      go_wp2
      refine ⟨⟨k + 1, by omega, by go_num, by rw [hy1.out]; rfl, ?_, ?_⟩, by simp [intOf]; omega⟩
      · show Arr _ _ _ _
        rw [← hset.out]
        exact hAr.out.set (15 - k) (fhd d)
      · exact hB.out.setCell (Nat.le_refl _) _
    · have hke : k = 16 := by omega
      subst hke
      have hAr' : Hid (Arr wr w.heap.size 120 (flowL b 16)) := by
        have := hAr.out
        show Arr _ _ _ _
        simpa using this
      have hl := flowL_len b 16
      have hconv : (convert 32 9 (.slice (some ⟨w.heap.size, 0, none⟩) 16 16)).run Tryz.prog wr = .ok (.string (fhexS b)) wr := by
        refine run_convert_bytes_arg (P := Tryz.prog) wr 32 5 Tryz.underlying32 Tryz.underlying5 w.heap.size 0 16 16 ((flowL b 16).map fun v : Nat => (v : Int)) (by simp [hl]) (fun i hi => ?_) 9 Tryz.underlying9
        rw [Nat.zero_add, hAr'.out.cell i (by omega)]
        congr 2
        rw [List.getD_eq_getElem?_getD, List.getElem?_map, List.getElem?_eq_getElem (by omega)]
        rfl
      clear hl
      go_wp2
      go_ret
      exact ⟨rfl, hB.out⟩
end Go.Proofs.YtoaacfhjejmbnaaGreatDoor
/- fbits.Unhex: walked (FkClass's and FlHex's text, beside num's). -/
namespace Go.Proofs.YtoaacfhjejmbnaaGreatDoor
open Go.RowKit
set_option linter.unusedSimpArgs false
set_option linter.unusedVariables false
/-- A byte's value as a digit. -/
def fhv (c : UInt8) : Option Nat := if 48 ≤ c.toNat ∧ c.toNat ≤ 57 then some (c.toNat - 48) else if 97 ≤ c.toNat ∧ c.toNat ≤ 102 then some (c.toNat - 87) else none
theorem fhv_lt {c : UInt8} {d : Nat} (h : fhv c = some d) : d < 16 := by
  unfold fhv at h
  split at h
  · have := Option.some.inj h; omega
  · split at h
    · have := Option.some.inj h; omega
    · cases h
theorem fhexDigit_some (c : UInt8) (d : Nat) (w : World) (h : fhv c = some d) :
    Calls Tryz.prog 177 #[.int .u8 c.toNat] w fun e w' => e = .returned (.tuple #[.int .u64 d, .bool true]) ∧ w' = w := by
  unfold fhv at h
  by_cases c1 : 48 ≤ c.toNat ∧ c.toNat ≤ 57
  · rw [if_pos c1] at h
    have hd := hide (Option.some.inj h)
    obtain ⟨c1, c2⟩ := c1
    have c1' : (48 : Int) ≤ c.toNat := by omega
    have c2' : (c.toNat : Int) ≤ 57 := by omega
    clear h
    go_enter Tryz.func177, Tryz.ntmps177
    go_wp2
    exact bodyPost_ret (v := .tuple #[.int .u64 ((c.toNat : Int) - 48), .bool true]) (by simp [results, Tryz.results177, go_sem]) rfl ⟨by rw [← hd.out, show (c.toNat : Int) - 48 = ((c.toNat - 48 : Nat) : Int) by omega], rfl⟩
  · rw [if_neg c1] at h
    by_cases c3 : 97 ≤ c.toNat ∧ c.toNat ≤ 102
    · rw [if_pos c3] at h
      have hd := hide (Option.some.inj h)
      obtain ⟨c3, c4⟩ := c3
      have c3' : (97 : Int) ≤ c.toNat := by omega
      have c4' : (c.toNat : Int) ≤ 102 := by omega
      clear h
      go_enter Tryz.func177, Tryz.ntmps177
      go_wp2
      exact bodyPost_ret (v := .tuple #[.int .u64 ((c.toNat : Int) - 97 + 10), .bool true]) (by simp [results, Tryz.results177, go_sem]) rfl ⟨by rw [← hd.out, show (c.toNat : Int) - 97 + 10 = ((c.toNat - 87 : Nat) : Int) by omega], rfl⟩
    · rw [if_neg c3] at h; cases h
theorem fhexDigit_none (c : UInt8) (w : World) (h : fhv c = none) :
    Calls Tryz.prog 177 #[.int .u8 c.toNat] w fun e w' => e = .returned (.tuple #[.int .u64 0, .bool false]) ∧ w' = w := by
  unfold fhv at h
  have c1 : ¬ (48 ≤ c.toNat ∧ c.toNat ≤ 57) := by intro q; rw [if_pos q] at h; cases h
  rw [if_neg c1] at h
  have c3 : ¬ (97 ≤ c.toNat ∧ c.toNat ≤ 102) := by intro q; rw [if_pos q] at h; cases h
  clear h
  by_cases a1 : c.toNat < 48
  · go_enter Tryz.func177, Tryz.ntmps177
    go_wp2
    exact bodyPost_ret (v := .tuple #[.int .u64 0, .bool false]) (by simp [results, Tryz.results177, go_sem]) rfl ⟨rfl, rfl⟩
  · by_cases a2 : c.toNat < 97
    · have a1' : (48 : Int) ≤ c.toNat := by omega
      have a3 : ¬ ((c.toNat : Int) ≤ 57) := by omega
      have a2' : ¬ (97 : Int) ≤ c.toNat := by omega
      go_enter Tryz.func177, Tryz.ntmps177
      go_wp2
      exact bodyPost_ret (v := .tuple #[.int .u64 0, .bool false]) (by simp [results, Tryz.results177, go_sem]) rfl ⟨rfl, rfl⟩
    · have a3 : ¬ ((c.toNat : Int) ≤ 57) := by omega
      have a2' : (97 : Int) ≤ c.toNat := by omega
      have a4 : ¬ ((c.toNat : Int) ≤ 102) := by omega
      go_enter Tryz.func177, Tryz.ntmps177
      go_wp2
      exact bodyPost_ret (v := .tuple #[.int .u64 0, .bool false]) (by simp [results, Tryz.results177, go_sem]) rfl ⟨rfl, rfl⟩
/-- One digit more. -/
def fuhS (o : Option Nat) (c : UInt8) : Option Nat := match o, fhv c with
  | some a, some d => some (a * 16 + d)
  | _, _ => none
/-- What a row of digits is worth, if it is one. -/
def fuh (l : List UInt8) : Option Nat := l.foldl fuhS (some 0)
theorem fuh_snoc (l : List UInt8) (c : UInt8) : fuh (l ++ [c]) = fuhS (fuh l) c := by simp [fuh]
theorem fuh_none (l m : List UInt8) (h : fuh l = none) : fuh (l ++ m) = none := by
  unfold fuh at h ⊢
  rw [List.foldl_append, h]
  induction m with
  | nil => rfl
  | cons a m ih => exact ih
theorem fuh_take (s : ByteArray) (k : Nat) (h : k < s.size) : fuh ((bl s).take (k + 1)) = fuhS (fuh ((bl s).take k)) s[k] := by
  rw [List.take_succ_eq_append_getElem (by rw [bl_length]; exact h), fuh_snoc, bl_get s k h]
/-- Unhex's answer. -/
def funh (s : ByteArray) : Nat × Nat := if s.size = 16 then (match fuh (bl s) with | some b => (b, 0) | none => (0, 20)) else (0, 20)
theorem funh_len (s : ByteArray) (h : s.size ≠ 16) : funh s = (0, 20) := by unfold funh; rw [if_neg h]
theorem funh_some (s : ByteArray) (h : s.size = 16) (b : Nat) (hb : fuh (bl s) = some b) : funh s = (b, 0) := by unfold funh; rw [if_pos h, hb]
theorem funh_none (s : ByteArray) (h : s.size = 16) (hb : fuh (bl s) = none) : funh s = (0, 20) := by unfold funh; rw [if_pos h, hb]
set_option maxHeartbeats 1000000 in
theorem funhex_any (s : ByteArray) (w : World) (hs : s.size ≤ maxLen) :
    Calls Tryz.prog 154 #[.string s] w fun e w' => e = .returned (.tuple #[.int .u64 (funh s).1, .int .i64 (funh s).2]) ∧ w' = w := by
  unfold maxLen at hs
  by_cases h16 : s.size = 16
  · have H16 := hide h16
    go_enter Tryz.func154, Tryz.ntmps154
    go_wp2
    go_loop [4, 13] (fun b i => ∃ k a : Nat, k ≤ 16 ∧ a < 16 ^ k ∧ i = .int .i64 k ∧ b = .int .u64 a ∧ Hid (fuh ((bl s).take k) = some a)) (fun b i => 16 - (intOf i).toNat)
    case atStart => exact ⟨0, 0, by omega, by omega, rfl, rfl, rfl⟩
    case round =>
      obtain ⟨k, a, hk, ha, rfl, rfl, hu⟩ := hrel
      by_cases hlt : k < 16
      · have hks : k < s.size := by omega
        have hks' : (k : Int) < s.size := by omega
        have ht := hide (fuh_take s k hks)
        rw [hu.out] at ht
        cases hc : fhv s[k] with
        | none =>
          have hr := hide (show funh s = (0, 20) by
            refine funh_none s h16 ?_
            have := fuh_none ((bl s).take (k + 1)) ((bl s).drop (k + 1)) (by rw [ht.out]; unfold fuhS; rw [hc])
            rw [List.take_append_drop] at this
            exact this)
          go_wp2_with (go_at_call 177; refine (fhexDigit_none s[k] _ hc).mono ?_; rintro e w' ⟨rfl, rfl⟩)
          exact bodyPost_ret (v := .tuple #[.int .u64 0, .int .i64 20]) (by simp [results, Tryz.results154, go_sem]) rfl ⟨by rw [hr.out]; rfl, rfl⟩
        | some d =>
          have hd := fhv_lt hc
          have hp : 16 ^ k ≤ 16 ^ 15 := Nat.pow_le_pow_right (by decide) (by omega)
          have hp2 := hide (show 16 ^ (k + 1) = 16 ^ k * 16 from Nat.pow_succ ..)
          have hv16 : (16 : Nat) ^ 15 = 1152921504606846976 := rfl
          rw [hv16] at hp
          have ha' : a < 1152921504606846976 := by omega
          have hor : bits .or .u64 ((a : Int) * 16) (d : Int) = ((a * 16 + d : Nat) : Int) := by
            have := u64_or_nat (a * 16) d (by omega) (by omega)
            rw [nat_join 4 (a * 16) d (by show _ % 16 = 0; omega) (by show _ < 16; omega)] at this
            rw [← this]; rfl
          have hn := hide (show fuh ((bl s).take (k + 1)) = some (a * 16 + d) by rw [ht.out]; unfold fuhS; rw [hc])
          have hA := hide ha
          clear hp hv16 ha
          go_wp2_with (go_at_call 177; refine (fhexDigit_some s[k] d _ hc).mono ?_; rintro e w' ⟨rfl, rfl⟩)
          refine ⟨⟨k + 1, a * 16 + d, by omega, ?_, by go_num, rfl, hn.out⟩, by simp [intOf]; omega⟩
          rw [hp2.out]
          have := hA.out
          omega
      · have hke : k = 16 := by omega
        subst hke
        have hr := hide (show funh s = (a, 0) by
          refine funh_some s h16 a ?_
          have := hu.out
          rw [List.take_of_length_le (by rw [bl_length, h16]; exact Nat.le_refl _)] at this
          exact this)
        go_wp2
        exact bodyPost_ret (v := .tuple #[.int .u64 a, .int .i64 0]) (by simp [results, Tryz.results154, go_sem]) rfl ⟨by rw [hr.out]; rfl, rfl⟩
  · have hr := hide (funh_len s h16)
    have h16' : ¬ ((s.size : Int) = 16) := by omega
    go_enter Tryz.func154, Tryz.ntmps154
    go_wp2
    exact bodyPost_ret (v := .tuple #[.int .u64 0, .int .i64 20]) (by simp [results, Tryz.results154, go_sem]) rfl ⟨by rw [hr.out]; rfl, rfl⟩
end Go.Proofs.YtoaacfhjejmbnaaGreatDoor
