/- Merged by program: QdMath, QePlus, QfMade, QlCut, ReText, RfInt, RgPower, RhPrint. -/
import Derived.Test.YtoaacfhjejmbnaaGreatDoorZm10
import Derived.Deep.RegionHeld3
import Derived.Test.YtoaacfhjejmbnaaGreatDoorZm05
import Derived.Shelf.Strconv.AppendIntPublic10
import Derived.Test.YtoaacfhjejmbnaaGreatDoorRfShelf
import Derived.Lib.AppendIntMem
import Derived.Lib.ItoaLen
import Derived.Outline
/- Sums and differences of rows of digits, one by one: no program in sight. -/
namespace Go.Proofs.YtoaacfhjejmbnaaGreatDoor
open Go.RowKit
set_option linter.unusedSimpArgs false
set_option linter.unusedVariables false
/-- What plus knows behind k digits. -/
structure PInv (a b : List Nat) (n k : Nat) (l : List Nat) (c : Nat) : Prop where
  len : l.length = k
  dgs : Dgs l
  le : c ≤ 1
  eq : val l + c * 10 ^ k = val (a.drop (n - k)) + val (b.drop (n - k))
theorem Dgs.put {d : Nat} {l : List Nat} (h : d ≤ 9) (hl : Dgs l) : Dgs (d :: l) := by
  intro x hx
  rcases List.mem_cons.1 hx with e | e
  · rw [e]; exact h
  · exact hl x e
theorem PInv.start (a b : List Nat) (n : Nat) (ha : a.length = n) (hb : b.length = n) : PInv a b n 0 [] 0 := by
  refine ⟨rfl, fun x hx => by simp at hx, by omega, ?_⟩
  rw [List.drop_of_length_le (by omega), List.drop_of_length_le (by omega)]
  simp [val]
theorem PInv.step {a b : List Nat} {n k : Nat} {l : List Nat} {c : Nat} (h : PInv a b n k l c) (hda : Dgs a) (hdb : Dgs b) (ha : a.length = n) (hb : b.length = n) (hk : k < n) (x y : Nat) (hx : a[n - 1 - k]'(by omega) = x) (hy : b[n - 1 - k]'(by omega) = y) (v : Nat) (hv : v = x + y + c) :
    PInv a b n (k + 1) ((v % 10) :: l) (v / 10) := by
  have h1 := val_drop_succ a n k ha hk
  have h2 := val_drop_succ b n k hb hk
  rw [hx] at h1
  rw [hy] at h2
  have hx9 : x ≤ 9 := by rw [← hx]; exact hda _ (List.getElem_mem _)
  have hy9 : y ≤ 9 := by rw [← hy]; exact hdb _ (List.getElem_mem _)
  have hc := h.le
  refine ⟨by simp [h.len], h.dgs.put (by omega), by omega, ?_⟩
  have e := h.eq
  rw [h1, h2]
  show (v % 10) * 10 ^ l.length + val l + _ = _
  rw [h.len]
  have e3 : (10 * (v / 10) + v % 10) * 10 ^ k = (x + y + c) * 10 ^ k := by rw [Nat.div_add_mod, hv]
  rw [Nat.add_mul, Nat.add_mul, Nat.add_mul, Nat.mul_right_comm] at e3
  have e4 : v / 10 * 10 ^ (k + 1) = 10 * 10 ^ k * (v / 10) := by rw [Nat.pow_succ, Nat.mul_comm, Nat.mul_comm (10 ^ k)]
  rw [e4]
  omega
theorem PInv.done {a b : List Nat} {n : Nat} {l : List Nat} {c : Nat} (h : PInv a b n n l c) : val (if 0 < c then 1 :: l else l) = val a + val b ∧ Dgs (if 0 < c then 1 :: l else l) ∧ (if 0 < c then 1 :: l else l).length ≤ n + 1 := by
  have e := h.eq
  rw [Nat.sub_self, List.drop_zero, List.drop_zero] at e
  have hc := h.le
  by_cases h0 : 0 < c
  · rw [if_pos h0]
    have : c = 1 := by omega
    subst this
    refine ⟨?_, h.dgs.put (by omega), by simp [h.len]⟩
    show 1 * 10 ^ l.length + val l = _
    rw [h.len]; omega
  · rw [if_neg h0]
    have : c = 0 := by omega
    subst this
    exact ⟨by omega, h.dgs, by rw [h.len]; omega⟩
/-- What minus knows behind k digits. -/
structure SInv (a b : List Nat) (n k : Nat) (l : List Nat) (o : Nat) : Prop where
  len : l.length = k
  dgs : Dgs l
  le : o ≤ 1
  eq : val l + val (b.drop (n - k)) = val (a.drop (n - k)) + o * 10 ^ k
theorem SInv.start (a b : List Nat) (n : Nat) (ha : a.length = n) (hb : b.length = n) : SInv a b n 0 [] 0 := by
  refine ⟨rfl, fun x hx => by simp at hx, by omega, ?_⟩
  rw [List.drop_of_length_le (by omega), List.drop_of_length_le (by omega)]
  simp [val]
theorem SInv.step {a b : List Nat} {n k : Nat} {l : List Nat} {o : Nat} (h : SInv a b n k l o) (hda : Dgs a) (hdb : Dgs b) (ha : a.length = n) (hb : b.length = n) (hk : k < n) (x y : Nat) (hx : a[n - 1 - k]'(by omega) = x) (hy : b[n - 1 - k]'(by omega) = y) (v : Nat) (hv : v + y + o = x + 10) :
    SInv a b n (k + 1) ((v % 10) :: l) (1 - v / 10) := by
  have h1 := val_drop_succ a n k ha hk
  have h2 := val_drop_succ b n k hb hk
  rw [hx] at h1
  rw [hy] at h2
  have hx9 : x ≤ 9 := by rw [← hx]; exact hda _ (List.getElem_mem _)
  have hy9 : y ≤ 9 := by rw [← hy]; exact hdb _ (List.getElem_mem _)
  have hc := h.le
  refine ⟨by simp [h.len], h.dgs.put (by omega), by omega, ?_⟩
  have e := h.eq
  rw [h1, h2]
  show (v % 10) * 10 ^ l.length + val l + _ = _
  rw [h.len]
  have e3 : (10 * (v / 10) + v % 10) * 10 ^ k + y * 10 ^ k + o * 10 ^ k = (x + 10) * 10 ^ k := by rw [Nat.div_add_mod, ← Nat.add_mul, ← Nat.add_mul, hv]
  rw [Nat.add_mul, Nat.add_mul] at e3
  have e4 : (1 - v / 10) * 10 ^ (k + 1) + 10 * (v / 10) * 10 ^ k = 10 * 10 ^ k := by
    have : 10 ^ (k + 1) = 10 * 10 ^ k := by rw [Nat.pow_succ, Nat.mul_comm]
    rw [this, ← Nat.mul_assoc, ← Nat.add_mul]
    congr 1
    omega
  omega
theorem SInv.done {a b : List Nat} {n : Nat} {l : List Nat} {o : Nat} (h : SInv a b n n l o) (hle : val b ≤ val a) : val l + val b = val a := by
  have e := h.eq
  rw [Nat.sub_self, List.drop_zero, List.drop_zero] at e
  have hc := h.le
  have hlt := val_lt l h.dgs
  rw [h.len] at hlt
  by_cases h0 : o = 0
  · subst h0; omega
  · have : o = 1 := by omega
    subst this; omega
end Go.Proofs.YtoaacfhjejmbnaaGreatDoor
/- calamusref01's plus and minus: walked. -/
namespace Go.Proofs.YtoaacfhjejmbnaaGreatDoor
open Go.RowKit
set_option linter.unusedSimpArgs false
set_option linter.unusedVariables false
end Go.Proofs.YtoaacfhjejmbnaaGreatDoor
/- calamusref01's Made: walked. -/
namespace Go.Proofs.YtoaacfhjejmbnaaGreatDoor
open Go.RowKit
set_option linter.unusedSimpArgs false
set_option linter.unusedVariables false
end Go.Proofs.YtoaacfhjejmbnaaGreatDoor
/- calamusref01's cut, exponent: walked. -/
namespace Go.Proofs.YtoaacfhjejmbnaaGreatDoor
open Go.RowKit
set_option linter.unusedSimpArgs false
set_option linter.unusedVariables false
end Go.Proofs.YtoaacfhjejmbnaaGreatDoor
/- num's appendPointed with a point inside; Print where there is no power. -/
namespace Go.Proofs.YtoaacfhjejmbnaaGreatDoor
open Go.RowKit
set_option linter.unusedSimpArgs false
set_option linter.unusedVariables false
set_option maxRecDepth 100000 in
set_option maxHeartbeats 1000000 in
theorem appendPointed_gt (B : Nat) (v : Value) (l : List UInt8) (s : ByteArray) (bh : Nat) (w : World) (hown : Own w B v l) (hB : B ≤ w.heap.size) (hl : l.length ≤ 100) (hs : bh < s.size) (hs1 : s.size ≤ 100) :
    Calls Tryz.prog 91 #[v, .string s, .int .i64 bh] w fun e w' => ∃ v', e = .returned v' ∧ Hid (Own w' B v' (l ++ pointed (bl s) bh)) ∧ Hid (Below B w w') := by
  have hown := hide hown
  obtain ⟨k, hk⟩ : ∃ k : Nat, s.size = bh + k := ⟨s.size - bh, by omega⟩
  have hfin := hide (show l ++ pointed (bl s) bh = l ++ bl (s.extract 0 k) ++ [46] ++ bl (s.extract k s.size) by
    unfold pointed; rw [bl_length, if_neg (by omega), drop_mkB, extract_mkB, bl_mkB, bl_mkB, show s.size - bh = k by omega]; simp)
  have hx1 := hide (show (s.extract 0 k).size = k by rw [extract_mkB, mkB_size]; simp [bl_length]; omega)
  have hx2 := hide (show (s.extract k s.size).size = bh by rw [drop_mkB, mkB_size]; simp [bl_length]; omega)
  have hx1b := hide (show (bl (s.extract 0 k)).length = k by rw [bl_length]; exact hx1.out)
  have hki : (s.size : Int) - (bh : Int) = (k : Int) := by omega
  have hkk := hide hk
  clear hk
  have hkp : (0 : Int) < (k : Int) := by have := hkk.out; omega
  have hc : ¬ ((k : Int) ≤ 0) := by omega
  have hkl : (k : Int) ≤ s.size := by have := hkk.out; omega
  go_enter Tryz.func91, Tryz.ntmps91
  go_wp2_with (first | (at_builtin; refine app_str rfl (.tmp 24) (.tmp 27) rfl B _ l rfl hown.out (s.extract 0 k) rfl (by rw [hx1.out]; omega) hB ?_; intro v1 w1 h1 h2 h3; have hn1 := hide (news_one w1 46 5); have hB1 : B ≤ w1.heap.size := (by omega)) | (at_builtin; refine app_bytes rfl (.tmp 29) (.tmp 30) rfl B _ _ rfl (h1.out.alloc _) ⟨w1.heap.size, 0, none⟩ 1 1 [46] rfl rfl hn1.out (by rw [List.length_append, hx1b.out]; omega) (by simp; omega) ?_; intro v2 w2 h4 h5 h6; simp at h6; have hB2 : B ≤ w2.heap.size := (by omega)) | (at_builtin; refine app_str rfl (.tmp 32) (.tmp 35) rfl B _ _ rfl h4.out (s.extract k s.size) rfl (by rw [hx2.out, List.length_append, List.length_append, hx1b.out, List.length_singleton]; omega) hB2 ?_; intro v3 w3 h7 h8 h9))
  go_ret
  refine ⟨_, rfl, ?_, ?_⟩
  · show Own _ _ _ _
    rw [hfin.out]; exact h7.out
  · exact (((((Below.refl B w).trans h2.out).alloc hB1 _).trans h5.out).trans h8.out)
/-- appendPointed, wherever the point stands. -/
theorem appendPointed_any (B : Nat) (v : Value) (l : List UInt8) (s : ByteArray) (bh : Nat) (w : World) (hown : Own w B v l) (hB : B ≤ w.heap.size) (hl : l.length ≤ 100) (hs1 : s.size ≤ 100) (hbh : bh ≤ 100) :
    Calls Tryz.prog 91 #[v, .string s, .int .i64 bh] w fun e w' => ∃ v', e = .returned v' ∧ Hid (Own w' B v' (l ++ pointed (bl s) bh)) ∧ Hid (Below B w w') := by
  by_cases h : s.size ≤ bh
  · exact appendPointed_le B v l s bh w hown hB hl h hbh
  · exact appendPointed_gt B v l s bh w hown hB hl (by omega) hs1
end Go.Proofs.YtoaacfhjejmbnaaGreatDoor
/- strconv.AppendInt at this program: the library's contract, laid. -/
namespace Go.Proofs.YtoaacfhjejmbnaaGreatDoor
open Go.Shelf Go.RowKit
set_option linter.unusedSimpArgs false
set_option linter.unusedVariables false
/-- The table that AppendInt reads, whatever is done from block B on. -/
abbrev Tab (B : Nat) (w : World) : Prop := Lib.TabBelow Tryz.prog B w "internal/strconv.uint64pow10" .u64 Lib.pow10Tab
theorem appendInt_any (B : Nat) (v : Value) (l : List UInt8) (n : Int) (w : World) (hown : Own w B v l) (hB : B ≤ w.heap.size) (hl : l.length ≤ 1000) (h0 : -100000 ≤ n) (h1 : n ≤ 100000) (ht : Tab B w) :
    Calls Tryz.prog 136 #[v, .int .i64 n, .int .i64 10] w fun e w' => ∃ v', e = .returned v' ∧ Hid (Own w' B v' (l ++ Lib.itoa n)) ∧ Hid (Below B w w') := by
  refine (Any.strconv_AppendInt_10 laysAI B l.length n (by omega) (by omega) v (bcs l) w hown hB (by omega) ht).mono ?_
  rintro e w' ⟨v', rfl, h2, h3, _⟩
  refine ⟨v', rfl, ?_, h3⟩
  show Own _ _ _ _
  unfold Own
  rw [bcs_append, List.length_append]
  exact h2
end Go.Proofs.YtoaacfhjejmbnaaGreatDoor
/- num's appendPower, at every power. -/
namespace Go.Proofs.YtoaacfhjejmbnaaGreatDoor
open Go.RowKit
set_option linter.unusedSimpArgs false
set_option linter.unusedVariables false
set_option maxHeartbeats 1000000 in
theorem appendPower_more (B : Nat) (v : Value) (l : List UInt8) (s : ByteArray) (p : Int) (w : World) (hown : Own w B v l) (hB : B ≤ w.heap.size) (hl : l.length ≤ 100) (hs : 1 < s.size) (hs' : s.size ≤ 100) (hp0 : -100000 ≤ p) (hp1 : p ≤ 100000) (ht : Tab B w) :
    Calls Tryz.prog 92 #[v, .string s, .int .i64 p] w fun e w' => ∃ v', e = .returned v' ∧ Hid (Own w' B v' (l ++ powered (bl s) (Lib.itoa p))) ∧ Hid (Below B w w') := by
  have hown := hide hown
  have ht := hide ht
  have hn := hide (news_one w s[0] 5)
  have hsi : (1 : Int) < s.size := by omega
  have hfin := hide (show l ++ powered (bl s) (Lib.itoa p) = l ++ [s[0]] ++ [46] ++ bl (s.extract 1 s.size) ++ [101] ++ Lib.itoa p by
    unfold powered; rw [bl_length, if_pos hs, drop_mkB, bl_mkB]
    have e : (bl s).take 1 = [s[0]] := by
      rw [List.take_one, head_bl s (by omega)]; rfl
    rw [e]; simp)
  have hx2 := hide (show (s.extract 1 s.size).size = s.size - 1 by rw [drop_mkB, mkB_size]; simp [bl_length])
  have hx2b := hide (show (bl (s.extract 1 s.size)).length = s.size - 1 by rw [bl_length]; exact hx2.out)
  go_enter Tryz.func92, Tryz.ntmps92
  go_wp2_with (first | (at_builtin; refine app_bytes rfl (.tmp 7) (.tmp 10) rfl B _ l rfl (hown.out.alloc _) ⟨w.heap.size, 0, none⟩ 1 1 [s[0]] rfl rfl hn.out (by omega) (by simp; omega) ?_; intro v1 w1 h1 h2 h3; simp at h3; have hn1 := hide (news_one w1 46 5); have hB1 : B ≤ w1.heap.size := (by omega)) | (at_builtin; refine app_bytes rfl (.tmp 15) (.tmp 16) rfl B _ _ rfl (h1.out.alloc _) ⟨w1.heap.size, 0, none⟩ 1 1 [46] rfl rfl hn1.out (by simp; omega) (by simp; omega) ?_; intro v2 w2 h4 h5 h6; simp at h6; have hB2 : B ≤ w2.heap.size := (by omega)) | (at_builtin; refine app_str rfl (.tmp 18) (.tmp 20) rfl B _ _ rfl h4.out (s.extract 1 s.size) rfl (by rw [hx2.out]; simp; omega) hB2 ?_; intro v3 w3 h7 h8 h9; have hn3 := hide (news_one w3 101 5); have hB3 : B ≤ w3.heap.size := (by omega)) | (at_builtin; refine app_bytes rfl (.tmp 22) (.tmp 23) rfl B _ _ rfl (h7.out.alloc _) ⟨w3.heap.size, 0, none⟩ 1 1 [101] rfl rfl hn3.out (by have := hx2b.out; simp; omega) (by simp; omega) ?_; intro v4 w4 h10 h11 h12; simp at h12; have hB4 : B ≤ w4.heap.size := (by omega)))
  go_wp2_with fail
  have hb4 := hide (((((((Below.refl B w).alloc hB _).trans h2.out).alloc hB1 _).trans h5.out).trans h8.out).alloc hB3 _ |>.trans h11.out)
  go_fit (appendInt_any B v4 _ p w4 h10.out hB4 (by have := hx2b.out; simp; omega) hp0 hp1 (ht.out.on hb4.out))
  rintro e w5 ⟨v5, rfl, h13, h14⟩
  go_wp2
  go_ret
  refine ⟨_, rfl, ?_, ?_⟩
  · show Own _ _ _ _
    rw [hfin.out]; exact h13.out
  · exact (((((((Below.refl B w).alloc hB _).trans h2.out).alloc hB1 _).trans h5.out).trans h8.out).alloc hB3 _).trans (h11.out.trans h14.out)
set_option maxHeartbeats 1000000 in
theorem appendPower_one (B : Nat) (v : Value) (l : List UInt8) (s : ByteArray) (p : Int) (w : World) (hown : Own w B v l) (hB : B ≤ w.heap.size) (hl : l.length ≤ 100) (hs : s.size = 1) (hp0 : -100000 ≤ p) (hp1 : p ≤ 100000) (ht : Tab B w) :
    Calls Tryz.prog 92 #[v, .string s, .int .i64 p] w fun e w' => ∃ v', e = .returned v' ∧ Hid (Own w' B v' (l ++ powered (bl s) (Lib.itoa p))) ∧ Hid (Below B w w') := by
  have hown := hide hown
  have ht := hide ht
  have hs0 : 0 < s.size := by omega
  have hn := hide (news_one w s[0] 5)
  have hfin := hide (show l ++ powered (bl s) (Lib.itoa p) = l ++ [s[0]] ++ [101] ++ Lib.itoa p by
    unfold powered; rw [bl_length, if_neg (by omega)]
    have e : (bl s).take 1 = [s[0]] := by
      rw [List.take_one, head_bl s (by omega)]; rfl
    rw [e]; simp)
  go_enter Tryz.func92, Tryz.ntmps92
  go_wp2_with (first | (at_builtin; refine app_bytes rfl (.tmp 7) (.tmp 10) rfl B _ l rfl (hown.out.alloc _) ⟨w.heap.size, 0, none⟩ 1 1 [s[0]] rfl rfl hn.out (by omega) (by simp; omega) ?_; intro v1 w1 h1 h2 h3; simp at h3; have hn1 := hide (news_one w1 101 5); have hB1 : B ≤ w1.heap.size := (by omega)) | (at_builtin; refine app_bytes rfl (.tmp 22) (.tmp 23) rfl B _ _ rfl (h1.out.alloc _) ⟨w1.heap.size, 0, none⟩ 1 1 [101] rfl rfl hn1.out (by simp; omega) (by simp; omega) ?_; intro v4 w4 h10 h11 h12; simp at h12; have hB4 : B ≤ w4.heap.size := (by omega)))
  go_wp2_with fail
  have hb4 := hide (((((Below.refl B w).alloc hB _).trans h2.out).alloc hB1 _).trans h11.out)
  go_fit (appendInt_any B v4 _ p w4 h10.out hB4 (by simp; omega) hp0 hp1 (ht.out.on hb4.out))
  rintro e w5 ⟨v5, rfl, h13, h14⟩
  go_wp2
  go_ret
  refine ⟨_, rfl, ?_, ?_⟩
  · show Own _ _ _ _
    rw [hfin.out]; exact h13.out
  · exact hb4.out.trans h14.out
theorem appendPower_any (B : Nat) (v : Value) (l : List UInt8) (s : ByteArray) (p : Int) (w : World) (hown : Own w B v l) (hB : B ≤ w.heap.size) (hl : l.length ≤ 100) (hs : 0 < s.size) (hs' : s.size ≤ 100) (hp0 : -100000 ≤ p) (hp1 : p ≤ 100000) (ht : Tab B w) :
    Calls Tryz.prog 92 #[v, .string s, .int .i64 p] w fun e w' => ∃ v', e = .returned v' ∧ Hid (Own w' B v' (l ++ powered (bl s) (Lib.itoa p))) ∧ Hid (Below B w w') := by
  by_cases h : 1 < s.size
  · exact appendPower_more B v l s p w hown hB hl h hs' hp0 hp1 ht
  · exact appendPower_one B v l s p w hown hB hl (by omega) hp0 hp1 ht
end Go.Proofs.YtoaacfhjejmbnaaGreatDoor
/- num.Print: walked at every number. -/
namespace Go.Proofs.YtoaacfhjejmbnaaGreatDoor
open Go.RowKit
set_option linter.unusedSimpArgs false
set_option linter.unusedVariables false
/-- A number's text. -/
def printL (n : Bool) (l : List UInt8) (x : Int) : List UInt8 :=
  sgnB n ++ (if 0 ≤ x ∧ (l.length : Int) + x ≤ 21 then l ++ List.replicate x.toNat 48 else if x < 0 ∧ -21 ≤ x then pointed l (-x).toNat else powered l (Lib.itoa (x + l.length - 1)))
theorem Tab.up {B B' : Nat} {w : World} (h : Tab B w) (hb : B ≤ B') : Tab B' w := fun W hW => h W (hW.mono hb)
set_option maxHeartbeats 1000000 in
theorem print_plain_false (s : ByteArray) (x : Int) (w : World) (h : isN false s x = true) (hx0 : 0 ≤ x) (hx21 : (s.size : Int) + x ≤ 21) (ht : Tab w.heap.size w) :
    Calls Tryz.prog 54 #[.agg #[.bool false, .string s, .int .i64 x]] w fun e w' => e = .returned (.tuple #[.string (mkB ((bl s ++ List.replicate x.toNat 48))), .int .i64 0]) ∧ Below w.heap.size w w' := by
  have ml : maxLen = 2 ^ 63 - 1 := rfl
  have ht := hide ht
  obtain ⟨had, hl1, hl40, hx1, hx2, hdg⟩ := isN_all h
  clear had hdg
  have hB := hide (box_new w false s x)
  have hg0 : decide ((0 : Int) ≤ x) = true := decide_eq_true hx0
  have hg1 : decide ((s.size : Int) + x ≤ 21) = true := decide_eq_true hx21
  go_enter Tryz.func54, Tryz.ntmps54
  go_wp2_with fail
  refine (check_ok false s _ _ (by omega) h).mono ?_
  rintro e w1 ⟨rfl, hb1⟩
  have hB1 := hide (hB.out.below hb1 (by simp))
  have hlw := hB1.out.lt
  obtain ⟨c0, c1, c2, f0, f1, f2⟩ := hB1.out.cells
  have hb := hide (below_alloc hb1)
  clear hb1 hB
  have ht1 : Hid (Tab w1.heap.size w1) := Tab.up (ht.out.on hb.out) hb.out.size
  go_wp2_with (first | (at_builtin; refine app_str rfl _ _ rfl w1.heap.size _ [] rfl (own_nil _ _) s rfl (by simp; omega) (by have := (Below.refl w1.heap.size w1).size; omega) ?_; intro v3 w3 h5 h6 h7; have hb3 := hide ((Below.refl w1.heap.size w1).trans h6.out); have hB3 := hide (hB1.out.below hb3.out hlw); have hl3 := hB3.out.lt; obtain ⟨k0, k1, k2, m0, m1, m2⟩ := hB3.out.cells))
  go_wp2_with fail
  go_fit (appendNoughts_any w1.heap.size v3 ([] ++ bl s) x w3 h5.out (by have := hb3.out.size; omega) (by simp [bl_length]; omega) (by omega))
  rintro e w4 ⟨v4, rfl, h8, h9⟩
  have hcv := own_conv h8.out
  have hbz := hide (hb3.out.trans h9.out)
  rw [List.nil_append] at hcv
  go_wp2
  go_ret2
  exact ⟨rfl, hb.out.trans (hbz.out.mono hb.out.size)⟩
set_option maxHeartbeats 1000000 in
theorem print_point_false (s : ByteArray) (x : Int) (w : World) (h : isN false s x = true) (hx0 : x < 0) (hx21 : -21 ≤ x) (ht : Tab w.heap.size w) :
    Calls Tryz.prog 54 #[.agg #[.bool false, .string s, .int .i64 x]] w fun e w' => e = .returned (.tuple #[.string (mkB ((pointed (bl s) (-x).toNat))), .int .i64 0]) ∧ Below w.heap.size w w' := by
  have ml : maxLen = 2 ^ 63 - 1 := rfl
  have ht := hide ht
  obtain ⟨had, hl1, hl40, hx1, hx2, hdg⟩ := isN_all h
  clear had hdg
  have hB := hide (box_new w false s x)
  obtain ⟨bh, hbh⟩ : ∃ bh : Nat, x = -(bh : Int) := ⟨(-x).toNat, by omega⟩
  subst hbh
  have hbn : (- -(bh : Int)) = (bh : Int) := by omega
  have hg0 : decide ((0 : Int) ≤ -(bh : Int)) = false := decide_eq_false (by omega)
  rw [hbn, Int.toNat_natCast]
  go_enter Tryz.func54, Tryz.ntmps54
  go_wp2_with fail
  refine (check_ok false s _ _ (by omega) h).mono ?_
  rintro e w1 ⟨rfl, hb1⟩
  have hB1 := hide (hB.out.below hb1 (by simp))
  have hlw := hB1.out.lt
  obtain ⟨c0, c1, c2, f0, f1, f2⟩ := hB1.out.cells
  have hb := hide (below_alloc hb1)
  clear hb1 hB
  have ht1 : Hid (Tab w1.heap.size w1) := Tab.up (ht.out.on hb.out) hb.out.size
  go_wp2_with fail
  go_fit (appendPointed_any w1.heap.size (.slice none 0 0) [] s bh w1 (own_nil _ _) (by have := (Below.refl w1.heap.size w1).size; omega) (by simp) (by omega) (by omega))
  rintro e w4 ⟨v4, rfl, h8, h9⟩
  have hcv := own_conv h8.out
  have hbz := hide ((Below.refl w1.heap.size w1).trans h9.out)
  rw [List.nil_append] at hcv
  go_wp2
  go_ret2
  exact ⟨rfl, hb.out.trans (hbz.out.mono hb.out.size)⟩
set_option maxHeartbeats 1000000 in
theorem print_up_false (s : ByteArray) (x : Int) (w : World) (h : isN false s x = true) (hx0 : 0 ≤ x) (hx21 : 21 < (s.size : Int) + x) (ht : Tab w.heap.size w) :
    Calls Tryz.prog 54 #[.agg #[.bool false, .string s, .int .i64 x]] w fun e w' => e = .returned (.tuple #[.string (mkB ((powered (bl s) (Lib.itoa (x + s.size - 1))))), .int .i64 0]) ∧ Below w.heap.size w w' := by
  have ml : maxLen = 2 ^ 63 - 1 := rfl
  have ht := hide ht
  obtain ⟨had, hl1, hl40, hx1, hx2, hdg⟩ := isN_all h
  clear had hdg
  have hB := hide (box_new w false s x)
  have hg0 : decide ((0 : Int) ≤ x) = true := decide_eq_true hx0
  have hg1 : decide ((s.size : Int) + x ≤ 21) = false := decide_eq_false (by omega)
  have hg2 : decide (x < 0) = false := decide_eq_false (by omega)
  go_enter Tryz.func54, Tryz.ntmps54
  go_wp2_with fail
  refine (check_ok false s _ _ (by omega) h).mono ?_
  rintro e w1 ⟨rfl, hb1⟩
  have hB1 := hide (hB.out.below hb1 (by simp))
  have hlw := hB1.out.lt
  obtain ⟨c0, c1, c2, f0, f1, f2⟩ := hB1.out.cells
  have hb := hide (below_alloc hb1)
  clear hb1 hB
  have ht1 : Hid (Tab w1.heap.size w1) := Tab.up (ht.out.on hb.out) hb.out.size
  go_wp2_with fail
  go_fit (appendPower_any w1.heap.size (.slice none 0 0) [] s (x + s.size - 1) w1 (own_nil _ _) (by have := (Below.refl w1.heap.size w1).size; omega) (by simp) (by omega) (by omega) (by omega) (by omega) (Lib.TabBelow.on ht1.out (Below.refl w1.heap.size w1)))
  rintro e w4 ⟨v4, rfl, h8, h9⟩
  have hcv := own_conv h8.out
  have hbz := hide ((Below.refl w1.heap.size w1).trans h9.out)
  rw [List.nil_append] at hcv
  go_wp2
  go_ret2
  exact ⟨rfl, hb.out.trans (hbz.out.mono hb.out.size)⟩
set_option maxHeartbeats 1000000 in
theorem print_down_false (s : ByteArray) (x : Int) (w : World) (h : isN false s x = true) (hx0 : x < 0) (hx21 : x < -21) (ht : Tab w.heap.size w) :
    Calls Tryz.prog 54 #[.agg #[.bool false, .string s, .int .i64 x]] w fun e w' => e = .returned (.tuple #[.string (mkB ((powered (bl s) (Lib.itoa (x + s.size - 1))))), .int .i64 0]) ∧ Below w.heap.size w w' := by
  have ml : maxLen = 2 ^ 63 - 1 := rfl
  have ht := hide ht
  obtain ⟨had, hl1, hl40, hx1, hx2, hdg⟩ := isN_all h
  clear had hdg
  have hB := hide (box_new w false s x)
  have hg0 : decide ((0 : Int) ≤ x) = false := decide_eq_false (by omega)
  have hg1 : decide (x < 0) = true := decide_eq_true hx0
  have hg2 : decide (-x ≤ 21) = false := decide_eq_false (by omega)
  go_enter Tryz.func54, Tryz.ntmps54
  go_wp2_with fail
  refine (check_ok false s _ _ (by omega) h).mono ?_
  rintro e w1 ⟨rfl, hb1⟩
  have hB1 := hide (hB.out.below hb1 (by simp))
  have hlw := hB1.out.lt
  obtain ⟨c0, c1, c2, f0, f1, f2⟩ := hB1.out.cells
  have hb := hide (below_alloc hb1)
  clear hb1 hB
  have ht1 : Hid (Tab w1.heap.size w1) := Tab.up (ht.out.on hb.out) hb.out.size
  go_wp2_with fail
  go_fit (appendPower_any w1.heap.size (.slice none 0 0) [] s (x + s.size - 1) w1 (own_nil _ _) (by have := (Below.refl w1.heap.size w1).size; omega) (by simp) (by omega) (by omega) (by omega) (by omega) (Lib.TabBelow.on ht1.out (Below.refl w1.heap.size w1)))
  rintro e w4 ⟨v4, rfl, h8, h9⟩
  have hcv := own_conv h8.out
  have hbz := hide ((Below.refl w1.heap.size w1).trans h9.out)
  rw [List.nil_append] at hcv
  go_wp2
  go_ret2
  exact ⟨rfl, hb.out.trans (hbz.out.mono hb.out.size)⟩
set_option maxHeartbeats 1000000 in
theorem print_plain_true (s : ByteArray) (x : Int) (w : World) (h : isN true s x = true) (hx0 : 0 ≤ x) (hx21 : (s.size : Int) + x ≤ 21) (ht : Tab w.heap.size w) :
    Calls Tryz.prog 54 #[.agg #[.bool true, .string s, .int .i64 x]] w fun e w' => e = .returned (.tuple #[.string (mkB ([45] ++ (bl s ++ List.replicate x.toNat 48))), .int .i64 0]) ∧ Below w.heap.size w w' := by
  have ml : maxLen = 2 ^ 63 - 1 := rfl
  have ht := hide ht
  obtain ⟨had, hl1, hl40, hx1, hx2, hdg⟩ := isN_all h
  clear had hdg
  have hB := hide (box_new w true s x)
  have hg0 : decide ((0 : Int) ≤ x) = true := decide_eq_true hx0
  have hg1 : decide ((s.size : Int) + x ≤ 21) = true := decide_eq_true hx21
  go_enter Tryz.func54, Tryz.ntmps54
  go_wp2_with fail
  refine (check_ok true s _ _ (by omega) h).mono ?_
  rintro e w1 ⟨rfl, hb1⟩
  have hB1 := hide (hB.out.below hb1 (by simp))
  have hlw := hB1.out.lt
  obtain ⟨c0, c1, c2, f0, f1, f2⟩ := hB1.out.cells
  have hb := hide (below_alloc hb1)
  clear hb1 hB
  have ht1 : Hid (Tab w1.heap.size w1) := Tab.up (ht.out.on hb.out) hb.out.size
  have hn1 := hide (news_one w1 45 5)
  go_wp2_with (first | (at_builtin; refine app_bytes rfl _ _ rfl w1.heap.size _ [] rfl ((own_nil _ _).alloc _) ⟨w1.heap.size, 0, none⟩ 1 1 [45] rfl rfl hn1.out (by simp) (by simp) ?_; intro v2 w2 h2 h3 h4; simp at h4; have hb2 := hide (((Below.refl w1.heap.size w1).alloc (Nat.le_refl _) _).trans h3.out); have hB2 := hide (hB1.out.below hb2.out hlw); have hl2 := hB2.out.lt; obtain ⟨d0, d1, d2, g0, g1, g2⟩ := hB2.out.cells) | (at_builtin; refine app_str rfl _ _ rfl w1.heap.size _ [45] rfl h2.out s rfl (by simp; omega) (by have := hb2.out.size; omega) ?_; intro v3 w3 h5 h6 h7; have hb3 := hide (hb2.out.trans h6.out); have hB3 := hide (hB1.out.below hb3.out hlw); have hl3 := hB3.out.lt; obtain ⟨k0, k1, k2, m0, m1, m2⟩ := hB3.out.cells))
  go_wp2_with fail
  go_fit (appendNoughts_any w1.heap.size v3 ([45] ++ bl s) x w3 h5.out (by have := hb3.out.size; omega) (by simp [bl_length]; omega) (by omega))
  rintro e w4 ⟨v4, rfl, h8, h9⟩
  have hcv := own_conv h8.out
  have hbz := hide (hb3.out.trans h9.out)
  rw [List.append_assoc] at hcv
  go_wp2
  go_ret2
  exact ⟨rfl, hb.out.trans (hbz.out.mono hb.out.size)⟩
set_option maxHeartbeats 1000000 in
theorem print_point_true (s : ByteArray) (x : Int) (w : World) (h : isN true s x = true) (hx0 : x < 0) (hx21 : -21 ≤ x) (ht : Tab w.heap.size w) :
    Calls Tryz.prog 54 #[.agg #[.bool true, .string s, .int .i64 x]] w fun e w' => e = .returned (.tuple #[.string (mkB ([45] ++ (pointed (bl s) (-x).toNat))), .int .i64 0]) ∧ Below w.heap.size w w' := by
  have ml : maxLen = 2 ^ 63 - 1 := rfl
  have ht := hide ht
  obtain ⟨had, hl1, hl40, hx1, hx2, hdg⟩ := isN_all h
  clear had hdg
  have hB := hide (box_new w true s x)
  obtain ⟨bh, hbh⟩ : ∃ bh : Nat, x = -(bh : Int) := ⟨(-x).toNat, by omega⟩
  subst hbh
  have hbn : (- -(bh : Int)) = (bh : Int) := by omega
  have hg0 : decide ((0 : Int) ≤ -(bh : Int)) = false := decide_eq_false (by omega)
  rw [hbn, Int.toNat_natCast]
  go_enter Tryz.func54, Tryz.ntmps54
  go_wp2_with fail
  refine (check_ok true s _ _ (by omega) h).mono ?_
  rintro e w1 ⟨rfl, hb1⟩
  have hB1 := hide (hB.out.below hb1 (by simp))
  have hlw := hB1.out.lt
  obtain ⟨c0, c1, c2, f0, f1, f2⟩ := hB1.out.cells
  have hb := hide (below_alloc hb1)
  clear hb1 hB
  have ht1 : Hid (Tab w1.heap.size w1) := Tab.up (ht.out.on hb.out) hb.out.size
  have hn1 := hide (news_one w1 45 5)
  go_wp2_with (first | (at_builtin; refine app_bytes rfl _ _ rfl w1.heap.size _ [] rfl ((own_nil _ _).alloc _) ⟨w1.heap.size, 0, none⟩ 1 1 [45] rfl rfl hn1.out (by simp) (by simp) ?_; intro v2 w2 h2 h3 h4; simp at h4; have hb2 := hide (((Below.refl w1.heap.size w1).alloc (Nat.le_refl _) _).trans h3.out); have hB2 := hide (hB1.out.below hb2.out hlw); have hl2 := hB2.out.lt; obtain ⟨d0, d1, d2, g0, g1, g2⟩ := hB2.out.cells))
  go_wp2_with fail
  go_fit (appendPointed_any w1.heap.size v2 [45] s bh w2 h2.out (by have := hb2.out.size; omega) (by simp) (by omega) (by omega))
  rintro e w4 ⟨v4, rfl, h8, h9⟩
  have hcv := own_conv h8.out
  have hbz := hide (hb2.out.trans h9.out)
  go_wp2
  go_ret2
  exact ⟨rfl, hb.out.trans (hbz.out.mono hb.out.size)⟩
set_option maxHeartbeats 1000000 in
theorem print_up_true (s : ByteArray) (x : Int) (w : World) (h : isN true s x = true) (hx0 : 0 ≤ x) (hx21 : 21 < (s.size : Int) + x) (ht : Tab w.heap.size w) :
    Calls Tryz.prog 54 #[.agg #[.bool true, .string s, .int .i64 x]] w fun e w' => e = .returned (.tuple #[.string (mkB ([45] ++ (powered (bl s) (Lib.itoa (x + s.size - 1))))), .int .i64 0]) ∧ Below w.heap.size w w' := by
  have ml : maxLen = 2 ^ 63 - 1 := rfl
  have ht := hide ht
  obtain ⟨had, hl1, hl40, hx1, hx2, hdg⟩ := isN_all h
  clear had hdg
  have hB := hide (box_new w true s x)
  have hg0 : decide ((0 : Int) ≤ x) = true := decide_eq_true hx0
  have hg1 : decide ((s.size : Int) + x ≤ 21) = false := decide_eq_false (by omega)
  have hg2 : decide (x < 0) = false := decide_eq_false (by omega)
  go_enter Tryz.func54, Tryz.ntmps54
  go_wp2_with fail
  refine (check_ok true s _ _ (by omega) h).mono ?_
  rintro e w1 ⟨rfl, hb1⟩
  have hB1 := hide (hB.out.below hb1 (by simp))
  have hlw := hB1.out.lt
  obtain ⟨c0, c1, c2, f0, f1, f2⟩ := hB1.out.cells
  have hb := hide (below_alloc hb1)
  clear hb1 hB
  have ht1 : Hid (Tab w1.heap.size w1) := Tab.up (ht.out.on hb.out) hb.out.size
  have hn1 := hide (news_one w1 45 5)
  go_wp2_with (first | (at_builtin; refine app_bytes rfl _ _ rfl w1.heap.size _ [] rfl ((own_nil _ _).alloc _) ⟨w1.heap.size, 0, none⟩ 1 1 [45] rfl rfl hn1.out (by simp) (by simp) ?_; intro v2 w2 h2 h3 h4; simp at h4; have hb2 := hide (((Below.refl w1.heap.size w1).alloc (Nat.le_refl _) _).trans h3.out); have hB2 := hide (hB1.out.below hb2.out hlw); have hl2 := hB2.out.lt; obtain ⟨d0, d1, d2, g0, g1, g2⟩ := hB2.out.cells))
  go_wp2_with fail
  go_fit (appendPower_any w1.heap.size v2 [45] s (x + s.size - 1) w2 h2.out (by have := hb2.out.size; omega) (by simp) (by omega) (by omega) (by omega) (by omega) (Lib.TabBelow.on ht1.out hb2.out))
  rintro e w4 ⟨v4, rfl, h8, h9⟩
  have hcv := own_conv h8.out
  have hbz := hide (hb2.out.trans h9.out)
  go_wp2
  go_ret2
  exact ⟨rfl, hb.out.trans (hbz.out.mono hb.out.size)⟩
set_option maxHeartbeats 1000000 in
theorem print_down_true (s : ByteArray) (x : Int) (w : World) (h : isN true s x = true) (hx0 : x < 0) (hx21 : x < -21) (ht : Tab w.heap.size w) :
    Calls Tryz.prog 54 #[.agg #[.bool true, .string s, .int .i64 x]] w fun e w' => e = .returned (.tuple #[.string (mkB ([45] ++ (powered (bl s) (Lib.itoa (x + s.size - 1))))), .int .i64 0]) ∧ Below w.heap.size w w' := by
  have ml : maxLen = 2 ^ 63 - 1 := rfl
  have ht := hide ht
  obtain ⟨had, hl1, hl40, hx1, hx2, hdg⟩ := isN_all h
  clear had hdg
  have hB := hide (box_new w true s x)
  have hg0 : decide ((0 : Int) ≤ x) = false := decide_eq_false (by omega)
  have hg1 : decide (x < 0) = true := decide_eq_true hx0
  have hg2 : decide (-x ≤ 21) = false := decide_eq_false (by omega)
  go_enter Tryz.func54, Tryz.ntmps54
  go_wp2_with fail
  refine (check_ok true s _ _ (by omega) h).mono ?_
  rintro e w1 ⟨rfl, hb1⟩
  have hB1 := hide (hB.out.below hb1 (by simp))
  have hlw := hB1.out.lt
  obtain ⟨c0, c1, c2, f0, f1, f2⟩ := hB1.out.cells
  have hb := hide (below_alloc hb1)
  clear hb1 hB
  have ht1 : Hid (Tab w1.heap.size w1) := Tab.up (ht.out.on hb.out) hb.out.size
  have hn1 := hide (news_one w1 45 5)
  go_wp2_with (first | (at_builtin; refine app_bytes rfl _ _ rfl w1.heap.size _ [] rfl ((own_nil _ _).alloc _) ⟨w1.heap.size, 0, none⟩ 1 1 [45] rfl rfl hn1.out (by simp) (by simp) ?_; intro v2 w2 h2 h3 h4; simp at h4; have hb2 := hide (((Below.refl w1.heap.size w1).alloc (Nat.le_refl _) _).trans h3.out); have hB2 := hide (hB1.out.below hb2.out hlw); have hl2 := hB2.out.lt; obtain ⟨d0, d1, d2, g0, g1, g2⟩ := hB2.out.cells))
  go_wp2_with fail
  go_fit (appendPower_any w1.heap.size v2 [45] s (x + s.size - 1) w2 h2.out (by have := hb2.out.size; omega) (by simp) (by omega) (by omega) (by omega) (by omega) (Lib.TabBelow.on ht1.out hb2.out))
  rintro e w4 ⟨v4, rfl, h8, h9⟩
  have hcv := own_conv h8.out
  have hbz := hide (hb2.out.trans h9.out)
  go_wp2
  go_ret2
  exact ⟨rfl, hb.out.trans (hbz.out.mono hb.out.size)⟩
/-- num.Print, at every number. -/
theorem print_any (n : Bool) (s : ByteArray) (x : Int) (w : World) (h : isN n s x = true) (ht : Tab w.heap.size w) :
    Calls Tryz.prog 54 #[.agg #[.bool n, .string s, .int .i64 x]] w fun e w' => e = .returned (.tuple #[.string (mkB (printL n (bl s) x)), .int .i64 0]) ∧ Below w.heap.size w w' := by
  unfold printL
  rw [bl_length]
  by_cases h1 : 0 ≤ x ∧ (s.size : Int) + x ≤ 21
  · rw [if_pos h1]
    cases n
    · exact print_plain_false s x w h h1.1 h1.2 ht
    · exact print_plain_true s x w h h1.1 h1.2 ht
  · rw [if_neg h1]
    by_cases h2 : x < 0 ∧ -21 ≤ x
    · rw [if_pos h2]
      cases n
      · exact print_point_false s x w h h2.1 h2.2 ht
      · exact print_point_true s x w h h2.1 h2.2 ht
    · rw [if_neg h2]
      by_cases h3 : x < 0
      · cases n
        · exact print_down_false s x w h h3 (by omega) ht
        · exact print_down_true s x w h h3 (by omega) ht
      · cases n
        · exact print_up_false s x w h (by omega) (by omega) ht
        · exact print_up_true s x w h (by omega) (by omega) ht
end Go.Proofs.YtoaacfhjejmbnaaGreatDoor
