/- calamuslaw01.NumRound: walked. -/
import Derived.Test.YtjpdlibncmldlaaDoorRrBytes
import Derived.Test.YtjpdlibncmldlaaDoorOjAdds
import Derived.Test.YtjpdlibncmldlaaDoorOiAwake
namespace Go.Proofs.YtjpdlibncmldlaaDoor
open Go.RowKit
set_option linter.unusedSimpArgs false
set_option linter.unusedVariables false
/-- The struct of the call's own. -/
structure Un1 (w : World) (n : Bool) (s : ByteArray) (x : Int) (W : World) : Prop where
  below : Below w.heap.size w W
  box : Box W w.heap.size n s x
theorem Un1.then {w : World} {n : Bool} {s : ByteArray} {x : Int} {W W1 : World} (h : Un1 w n s x W) (hb : Below W.heap.size W W1) : Un1 w n s x W1 := ⟨below_then h.below hb, h.box.below hb h.box.lt⟩
theorem un1_new (w : World) (n : Bool) (s : ByteArray) (x : Int) : Un1 w n s x (w.alloc (.cells #[.bool n, .string s, .int .i64 x] 23)) := ⟨below_al (Below.refl _ _), box_new w n s x⟩
/-- Bytes of the call's own, as Of wants them. -/
theorem Own.sb8 {W : World} {B : Nat} {v : Value} {P : List Nat} (h : Own W B v (trimB P)) (hP : Bts P) : SB8 W v (P.drop (lz P)) := by
  have htl : (trimB P).length = (P.drop (lz P)).length := by unfold trimB; rw [List.length_map]
  have hc := h
  obtain ⟨h0, h⟩ := h
  rcases h with ⟨rfl, hn⟩ | ⟨g, cap, cur, rfl, hg, hh, h1, h2, h3, h4⟩
  · exact Or.inl ⟨none, 0, rfl, List.eq_nil_of_length_eq_zero (by rw [← htl]; exact hn)⟩
  · rcases Nat.eq_zero_or_pos (P.drop (lz P)).length with e | e
    · exact Or.inl ⟨some ⟨g, 0, none⟩, cap, by rw [htl, e], List.eq_nil_of_length_eq_zero e⟩
    · have hgl : g < W.heap.size := (Array.getElem?_eq_some_iff.1 hh).1
      have hcells : ∀ j u, (bcs (trimB P))[j]? = some u → W.cell? ((⟨g, 0, none⟩ : Addr).add j) = some u := World.ownsRow.cells hc (g := g) rfl
      refine Or.inr ⟨g, 0, cap, by rw [htl], e, by omega, h2, hgl, fun i hi => ?_⟩
      have e1 : (⟨g, 0, none⟩ : Addr).add i = ⟨g, 0 + i, none⟩ := by unfold Addr.add; split <;> simp_all
      have := hcells i (.int .u8 ((trimB P)[i]'(by rw [htl]; exact hi)).toNat) (by simp [bcs, List.getElem?_eq_getElem (show i < (trimB P).length by rw [htl]; exact hi)])
      rw [e1] at this
      rw [this]
      congr 2
      have h255 := hP _ (List.mem_of_mem_drop (List.getElem_mem hi))
      simp only [trimB, List.getElem_map]
      rw [UInt8.toNat_ofNat']
      omega
theorem Bts.drop {P : List Nat} (h : Bts P) (k : Nat) : Bts (P.drop k) := fun d hd => h d (List.mem_of_mem_drop hd)
/-- What the bytes of a number are worth is that number alone. -/
theorem back_is {n : Bool} {s : ByteArray} {x : Int} (h : isN n s x = true) (hx : 0 ≤ x) {V : Nat} (hV : V = val (dg s) * 10 ^ x.toNat) {r : Bool × ByteArray × Int × Int} (hr : ∀ m, m = 400 → IsSum (Zof n V m) r) : r = (n, s, x, 0) := by
  obtain ⟨m, hm⟩ : ∃ m, m = 400 := ⟨_, rfl⟩
  refine isSum_unique (hr m hm) (Or.inl ⟨rfl, h, ?_⟩)
  show Zv n s x = Zof n V m
  have e : mag s x = V * 10 ^ m := by
    unfold mag
    rw [hV, Nat.mul_assoc, ← Nat.pow_add]
    congr 2
    omega
  unfold Zv Zof
  rw [e]
theorem trimB_head (P : List Nat) (hB : Bts P) (hl : 0 < (trimB P).length) : ((trimB P)[0]).toNat ≠ 0 := by
  have htl : (trimB P).length = (P.drop (lz P)).length := by unfold trimB; rw [List.length_map]
  have hlz : lz P < P.length := by rw [htl, List.length_drop] at hl; omega
  have := lz_ne P hlz
  have h255 := hB _ (List.getElem_mem hlz)
  simp only [trimB, List.getElem_map, List.getElem_drop, Nat.add_zero]
  rw [UInt8.toNat_ofNat']
  omega
theorem parse_len (n : Bool) (s : ByteArray) (x : Int) (h : isN n s x = true) : (printL n (bl s) x).length ≤ 512 := by
  rcases Nat.lt_or_ge 512 (printL n (bl s) x).length with hl | hl
  · have e := parse_print n s x h
    unfold parseF at e
    cases hs : splitL (printL n (bl s) x) with
    | none => rw [hs] at e; simp only [Prod.mk.injEq] at e; exact absurd e.2.2.2 (by decide)
    | some r =>
      obtain ⟨a, b, c, d, f⟩ := r
      rw [hs] at e
      simp only at e
      rw [if_pos hl] at e
      simp only [Prod.mk.injEq] at e
      exact absurd e.2.2.2 (by decide)
  · exact hl
set_option maxHeartbeats 2000000 in
set_option maxRecDepth 100000 in
theorem round_aok (t : ByteArray) (n : Bool) (s : ByteArray) (x : Int) (w : World) (hT : Tab w.heap.size w) (hA : decide (4096 < s.size) = false) (hs : s.size ≤ maxLen) (st : t.size ≤ 4096) (pb : Bool) (ps : ByteArray) (px pe : Int) (hPt : parseF (bl t) = (pb, ps, px, pe)) (hN : isN n s x = false) (hbe : bytesE n s x ≠ 0) (hpe : pe = 0) :
    Calls Tryd.prog 6 #[.agg #[.bool n, .string s, .int .i64 x], .string t] w fun e w' => e = .returned (.bool true) ∧ Below w.heap.size w w' := by
  have ml : maxLen = 2 ^ 63 - 1 := rfl
  have hT := hide hT
  have hPt := hide hPt
  have sa : s.size ≤ 4096 := by have := of_decide_eq_false hA; omega
  have U0 := hide (un1_new w n s x)
  subst hpe
  have hpN := hide (parseF_isN hPt.out)
  go_enter Tryd.func6, Tryd.ntmps6
  go_wp2_with fail
  refine (big_any n s x _ _ hA hs).mono ?_
  rintro e w1 ⟨rfl, hb1⟩
  have U1 := hide (U0.out.then hb1)
  clear hb1
  obtain ⟨c0, c1, c2, f0, f1, f2⟩ := U1.out.box.cells
  have hT1 : Hid (Tab _ _) := Tab.up (Lib.TabBelow.on hT.out U1.out.below) U1.out.below.size
  go_wp2_with fail
  refine (print_no n s x _ (by omega) hN).mono ?_
  rintro e w2 ⟨rfl, hb2⟩
  have U2 := hide (U1.out.then hb2)
  clear hb2 c0 c1 c2 f0 f1 f2
  obtain ⟨c0, c1, c2, f0, f1, f2⟩ := U2.out.box.cells
  go_wp2_with fail
  refine (bytes_no n s x _ (by omega) hbe).mono ?_
  rintro e w5 ⟨rfl, hb5⟩
  have U5 := hide (U2.out.then hb5)
  clear hb5 c0 c1 c2 f0 f1 f2
  have hbe' : decide (bytesE n s x = 0) = false := decide_eq_false hbe
  have hbe2 : (bytesE n s x == 0) = false := by rw [beq_eq_false_iff_ne]; exact hbe
  obtain ⟨bE, hbE⟩ : ∃ bE, bytesE n s x = bE := ⟨_, rfl⟩
  rw [hbE] at hbe' hbe2 ⊢
  clear hbE hbe
  go_wp2_with fail
  refine (parse_any t _ (by omega)).mono ?_
  rintro e w8 ⟨rfl, hb8⟩
  rw [hPt.out]
  simp only [retF]
  have U8 := hide (U5.out.then hb8)
  clear hb8
  have U9 := hide (U8.out.then (below_al (o := .cells #[.bool pb, .string ps, .int .i64 px] 23) (Below.refl w8.heap.size w8)))
  have X9 := hide (box_new w8 pb ps px)
  go_wp2_with fail
  refine (awake_any _).mono ?_
  rintro e v0 ⟨rfl, hb0⟩
  have U10 := hide (U9.out.then hb0)
  have X10 := hide (X9.out.below hb0 X9.out.lt)
  clear hb0
  obtain ⟨k0, k1, k2, _, _, _⟩ := X10.out.cells
  go_wp2_with fail
  refine (check_ok pb ps px _ (by have := (isN_all hpN.out).2.2.1; omega) hpN.out).mono ?_
  rintro e v1 ⟨rfl, hb11⟩
  have U11 := hide (U10.out.then hb11)
  clear hb11
  go_wp2
  go_ret
  exact ⟨rfl, U11.out.below⟩
set_option maxHeartbeats 2000000 in
set_option maxRecDepth 100000 in
theorem round_bok (t : ByteArray) (n : Bool) (s : ByteArray) (x : Int) (w : World) (hT : Tab w.heap.size w) (hA : decide (4096 < s.size) = false) (hs : s.size ≤ maxLen) (st : t.size ≤ 4096) (pb : Bool) (ps : ByteArray) (px pe : Int) (hPt : parseF (bl t) = (pb, ps, px, pe)) (hN : isN n s x = true) (hbe : bytesE n s x ≠ 0) (hpe : pe = 0) :
    Calls Tryd.prog 6 #[.agg #[.bool n, .string s, .int .i64 x], .string t] w fun e w' => e = .returned (.bool true) ∧ Below w.heap.size w w' := by
  have ml : maxLen = 2 ^ 63 - 1 := rfl
  have hT := hide hT
  have hPt := hide hPt
  have sa : s.size ≤ 4096 := by have := of_decide_eq_false hA; omega
  have U0 := hide (un1_new w n s x)
  subst hpe
  have hpN := hide (parseF_isN hPt.out)
  have hPP := hide (parse_print n s x hN)
  have hpl : (printL n (bl s) x).length ≤ 100000 := by
    obtain ⟨_, h1, h2, h3, h4, _⟩ := isN_all hN
    have := parse_len n s x hN
    omega
  go_enter Tryd.func6, Tryd.ntmps6
  go_wp2_with fail
  refine (big_any n s x _ _ hA hs).mono ?_
  rintro e w1 ⟨rfl, hb1⟩
  have U1 := hide (U0.out.then hb1)
  clear hb1
  obtain ⟨c0, c1, c2, f0, f1, f2⟩ := U1.out.box.cells
  have hT1 : Hid (Tab _ _) := Tab.up (Lib.TabBelow.on hT.out U1.out.below) U1.out.below.size
  go_wp2_with fail
  refine (print_any n s x _ hN hT1.out).mono ?_
  rintro e w2 ⟨rfl, hb2⟩
  have U2a := hide (U1.out.then hb2)
  clear hb2 c0 c1 c2 f0 f1 f2
  go_wp2_with fail
  refine (parse_any _ _ (by rw [mkB_size]; exact hpl)).mono ?_
  rintro e w3 ⟨rfl, hb3⟩
  rw [bl_mkB, hPP.out]
  have U3 := hide (U2a.out.then hb3)
  clear hb3
  simp only [retF]
  have U4 := hide (U3.out.then (below_al (o := .cells #[.bool n, .string s, .int .i64 x] 23) (Below.refl w3.heap.size w3)))
  have X4 := hide (box_new w3 n s x)
  obtain ⟨c0, c1, c2, f0, f1, f2⟩ := U4.out.box.cells
  obtain ⟨q0, q1, q2, _, _, _⟩ := X4.out.cells
  go_wp2_with fail
  refine (bytes_no n s x _ (by omega) hbe).mono ?_
  rintro e w5 ⟨rfl, hb5⟩
  have U5 := hide (U4.out.then hb5)
  clear hb5 c0 c1 c2 f0 f1 f2
  have hbe' : decide (bytesE n s x = 0) = false := decide_eq_false hbe
  have hbe2 : (bytesE n s x == 0) = false := by rw [beq_eq_false_iff_ne]; exact hbe
  obtain ⟨bE, hbE⟩ : ∃ bE, bytesE n s x = bE := ⟨_, rfl⟩
  rw [hbE] at hbe' hbe2 ⊢
  clear hbE hbe
  go_wp2_with fail
  refine (parse_any t _ (by omega)).mono ?_
  rintro e w8 ⟨rfl, hb8⟩
  rw [hPt.out]
  simp only [retF]
  have U8 := hide (U5.out.then hb8)
  clear hb8
  have U9 := hide (U8.out.then (below_al (o := .cells #[.bool pb, .string ps, .int .i64 px] 23) (Below.refl w8.heap.size w8)))
  have X9 := hide (box_new w8 pb ps px)
  go_wp2_with fail
  refine (awake_any _).mono ?_
  rintro e v0 ⟨rfl, hb0⟩
  have U10 := hide (U9.out.then hb0)
  have X10 := hide (X9.out.below hb0 X9.out.lt)
  clear hb0
  obtain ⟨k0, k1, k2, _, _, _⟩ := X10.out.cells
  go_wp2_with fail
  refine (check_ok pb ps px _ (by have := (isN_all hpN.out).2.2.1; omega) hpN.out).mono ?_
  rintro e v1 ⟨rfl, hb11⟩
  have U11 := hide (U10.out.then hb11)
  clear hb11
  go_wp2
  go_ret
  exact ⟨rfl, U11.out.below⟩
set_option maxHeartbeats 2000000 in
set_option maxRecDepth 100000 in
theorem round_cok (t : ByteArray) (n : Bool) (s : ByteArray) (x : Int) (w : World) (hT : Tab w.heap.size w) (hA : decide (4096 < s.size) = false) (hs : s.size ≤ maxLen) (st : t.size ≤ 4096) (pb : Bool) (ps : ByteArray) (px pe : Int) (hPt : parseF (bl t) = (pb, ps, px, pe)) (hN : isN n s x = true) (hx0 : 0 ≤ x) (hsx : (s.size : Int) + x ≤ 40) (hpe : pe = 0) :
    Calls Tryd.prog 6 #[.agg #[.bool n, .string s, .int .i64 x], .string t] w fun e w' => e = .returned (.bool true) ∧ Below w.heap.size w w' := by
  have ml : maxLen = 2 ^ 63 - 1 := rfl
  have hT := hide hT
  have hPt := hide hPt
  have sa : s.size ≤ 4096 := by have := of_decide_eq_false hA; omega
  have U0 := hide (un1_new w n s x)
  subst hpe
  have hpN := hide (parseF_isN hPt.out)
  have hPP := hide (parse_print n s x hN)
  have hpl : (printL n (bl s) x).length ≤ 100000 := by
    obtain ⟨_, h1, h2, h3, h4, _⟩ := isN_all hN
    have := parse_len n s x hN
    omega
  go_enter Tryd.func6, Tryd.ntmps6
  go_wp2_with fail
  refine (big_any n s x _ _ hA hs).mono ?_
  rintro e w1 ⟨rfl, hb1⟩
  have U1 := hide (U0.out.then hb1)
  clear hb1
  obtain ⟨c0, c1, c2, f0, f1, f2⟩ := U1.out.box.cells
  have hT1 : Hid (Tab _ _) := Tab.up (Lib.TabBelow.on hT.out U1.out.below) U1.out.below.size
  go_wp2_with fail
  refine (print_any n s x _ hN hT1.out).mono ?_
  rintro e w2 ⟨rfl, hb2⟩
  have U2a := hide (U1.out.then hb2)
  clear hb2 c0 c1 c2 f0 f1 f2
  go_wp2_with fail
  refine (parse_any _ _ (by rw [mkB_size]; exact hpl)).mono ?_
  rintro e w3 ⟨rfl, hb3⟩
  rw [bl_mkB, hPP.out]
  have U3 := hide (U2a.out.then hb3)
  clear hb3
  simp only [retF]
  have U4 := hide (U3.out.then (below_al (o := .cells #[.bool n, .string s, .int .i64 x] 23) (Below.refl w3.heap.size w3)))
  have X4 := hide (box_new w3 n s x)
  obtain ⟨c0, c1, c2, f0, f1, f2⟩ := U4.out.box.cells
  obtain ⟨q0, q1, q2, _, _, _⟩ := X4.out.cells
  go_wp2_with fail
  refine (bytes_ok n s x _ hN hx0 (by omega)).mono ?_
  rintro e w5 ⟨v5, P, rfl, hP, hO5, hb5⟩
  have U5a := hide (U4.out.then hb5.out)
  clear hb5 c0 c1 c2 f0 f1 f2
  have S5 := hide (hO5.out.sb8 hP.out.2.1)
  obtain ⟨c0, c1, c2, f0, f1, f2⟩ := U5a.out.box.cells
  have hlen : ∃ aa cc, v5 = .slice aa (trimB P).length cc := by
    obtain ⟨_, h⟩ := hO5.out
    rcases h with ⟨rfl, hn⟩ | ⟨g, cap, cur, rfl, _⟩
    · exact ⟨none, 0, by rw [hn]⟩
    · exact ⟨some ⟨g, 0, none⟩, cap, rfl⟩
  go_wp2_with fail
  refine (of_any n v5 (P.drop (lz P)) _ S5.out (hP.out.2.1.drop _)).mono ?_
  rintro e w6 ⟨r, rfl, hr, hb6⟩
  obtain rfl := back_is hN hx0 (by rw [← v256_lz]; exact hP.out.2.2) hr.out
  clear hr
  simp only [retF]
  have U6 := hide (U5a.out.then hb6)
  have O6 := hide (hO5.out.sb8 hP.out.2.1)
  have hcell0 : ∀ h : 0 < (trimB P).length, ∃ g cc, v5 = .slice (some ⟨g, 0, none⟩) (trimB P).length cc ∧ g < w5.heap.size ∧ w5.cell? ⟨g, 0, none⟩ = some (.int .u8 ((trimB P)[0]).toNat) := by
    intro h
    have hc := hO5.out
    obtain ⟨_, h'⟩ := hO5.out
    rcases h' with ⟨rfl, hn⟩ | ⟨g, cap, cur, rfl, hg, hh, h1, h2, h3, h4⟩
    · omega
    · refine ⟨g, cap, rfl, (Array.getElem?_eq_some_iff.1 hh).1, ?_⟩
      have hcells : ∀ j u, (bcs (trimB P))[j]? = some u → w5.cell? ((⟨g, 0, none⟩ : Addr).add j) = some u := World.ownsRow.cells hc (g := g) rfl
      have := hcells 0 (.int .u8 ((trimB P)[0]).toNat) (by simp [bcs, List.getElem?_eq_getElem h])
      simpa [Addr.add] using this
  have hhd : ∀ h : 0 < (trimB P).length, ((trimB P)[0]).toNat ≠ 0 := trimB_head P hP.out.2.1
  have U7 := hide (U6.out.then (below_al (o := .cells #[.bool n, .string s, .int .i64 x] 23) (Below.refl w6.heap.size w6)))
  have X7 := hide (box_new w6 n s x)
  clear c0 c1 c2 f0 f1 f2
  obtain ⟨c0, c1, c2, f0, f1, f2⟩ := U7.out.box.cells
  obtain ⟨q0, q1, q2, _, _, _⟩ := X7.out.cells
  have U5 := hide U7.out
  rcases Nat.eq_zero_or_pos (trimB P).length with hz | hz
  · obtain ⟨aa, cc, rfl⟩ := hlen
    rw [hz]
    clear hcell0 hhd S5 O6 hO5 hP
    go_wp2_with fail
    refine (parse_any t _ (by omega)).mono ?_
    rintro e w8 ⟨rfl, hb8⟩
    rw [hPt.out]
    simp only [retF]
    have U8 := hide (U5.out.then hb8)
    clear hb8
    have U9 := hide (U8.out.then (below_al (o := .cells #[.bool pb, .string ps, .int .i64 px] 23) (Below.refl w8.heap.size w8)))
    have X9 := hide (box_new w8 pb ps px)
    go_wp2_with fail
    refine (awake_any _).mono ?_
    rintro e v0 ⟨rfl, hb0⟩
    have U10 := hide (U9.out.then hb0)
    have X10 := hide (X9.out.below hb0 X9.out.lt)
    clear hb0
    obtain ⟨k0, k1, k2, _, _, _⟩ := X10.out.cells
    go_wp2_with fail
    refine (check_ok pb ps px _ (by have := (isN_all hpN.out).2.2.1; omega) hpN.out).mono ?_
    rintro e v1 ⟨rfl, hb11⟩
    have U11 := hide (U10.out.then hb11)
    clear hb11
    go_wp2
    go_ret
    exact ⟨rfl, U11.out.below⟩
  · obtain ⟨g, cc, hv5, hgl, hcg⟩ := hcell0 hz
    have hh0 := hhd hz
    subst hv5
    obtain ⟨c00, hc00⟩ : ∃ c00, ((trimB P)[0]).toNat = c00 := ⟨_, rfl⟩
    obtain ⟨L, hL⟩ : ∃ L, (trimB P).length = L := ⟨_, rfl⟩
    rw [hc00] at hcg hh0
    rw [hL] at hz ⊢
    have hcg7 : ∀ o, (w6.alloc o).cell? ⟨g, 0, none⟩ = some (.int .u8 c00) := fun o => ((below_al (o := o) (Below.refl w6.heap.size w6)).cell (p := ⟨g, 0, none⟩) (Nat.lt_of_lt_of_le hgl hb6.size)).trans ((hb6.cell (p := ⟨g, 0, none⟩) hgl).trans hcg)
    have hc0 : ((c00 : Int) == 0) = false := by rw [beq_eq_false_iff_ne]; omega
    have hc0' : decide ((c00 : Int) = 0) = false := decide_eq_false (by omega)
    have hzi : (0 : Int) < (L : Int) := by omega
    clear hcell0 hhd S5 O6 hO5 hP hlen hc00
    go_wp2_with fail
    refine (parse_any t _ (by omega)).mono ?_
    rintro e w8 ⟨rfl, hb8⟩
    rw [hPt.out]
    simp only [retF]
    have U8 := hide (U5.out.then hb8)
    clear hb8
    have U9 := hide (U8.out.then (below_al (o := .cells #[.bool pb, .string ps, .int .i64 px] 23) (Below.refl w8.heap.size w8)))
    have X9 := hide (box_new w8 pb ps px)
    go_wp2_with fail
    refine (awake_any _).mono ?_
    rintro e v0 ⟨rfl, hb0⟩
    have U10 := hide (U9.out.then hb0)
    have X10 := hide (X9.out.below hb0 X9.out.lt)
    clear hb0
    obtain ⟨k0, k1, k2, _, _, _⟩ := X10.out.cells
    go_wp2_with fail
    refine (check_ok pb ps px _ (by have := (isN_all hpN.out).2.2.1; omega) hpN.out).mono ?_
    rintro e v1 ⟨rfl, hb11⟩
    have U11 := hide (U10.out.then hb11)
    clear hb11
    go_wp2
    go_ret
    exact ⟨rfl, U11.out.below⟩
set_option maxHeartbeats 2000000 in
set_option maxRecDepth 100000 in
theorem round_ano (t : ByteArray) (n : Bool) (s : ByteArray) (x : Int) (w : World) (hT : Tab w.heap.size w) (hA : decide (4096 < s.size) = false) (hs : s.size ≤ maxLen) (st : t.size ≤ 4096) (pb : Bool) (ps : ByteArray) (px pe : Int) (hPt : parseF (bl t) = (pb, ps, px, pe)) (hN : isN n s x = false) (hbe : bytesE n s x ≠ 0) (hpe : pe ≠ 0) :
    Calls Tryd.prog 6 #[.agg #[.bool n, .string s, .int .i64 x], .string t] w fun e w' => e = .returned (.bool true) ∧ Below w.heap.size w w' := by
  have ml : maxLen = 2 ^ 63 - 1 := rfl
  have hT := hide hT
  have hPt := hide hPt
  have sa : s.size ≤ 4096 := by have := of_decide_eq_false hA; omega
  have U0 := hide (un1_new w n s x)
  have hpe1 : (pe == 0) = false := by rw [beq_eq_false_iff_ne]; exact hpe
  have hpe2 : decide (pe = 0) = false := decide_eq_false hpe
  go_enter Tryd.func6, Tryd.ntmps6
  go_wp2_with fail
  refine (big_any n s x _ _ hA hs).mono ?_
  rintro e w1 ⟨rfl, hb1⟩
  have U1 := hide (U0.out.then hb1)
  clear hb1
  obtain ⟨c0, c1, c2, f0, f1, f2⟩ := U1.out.box.cells
  have hT1 : Hid (Tab _ _) := Tab.up (Lib.TabBelow.on hT.out U1.out.below) U1.out.below.size
  go_wp2_with fail
  refine (print_no n s x _ (by omega) hN).mono ?_
  rintro e w2 ⟨rfl, hb2⟩
  have U2 := hide (U1.out.then hb2)
  clear hb2 c0 c1 c2 f0 f1 f2
  obtain ⟨c0, c1, c2, f0, f1, f2⟩ := U2.out.box.cells
  go_wp2_with fail
  refine (bytes_no n s x _ (by omega) hbe).mono ?_
  rintro e w5 ⟨rfl, hb5⟩
  have U5 := hide (U2.out.then hb5)
  clear hb5 c0 c1 c2 f0 f1 f2
  have hbe' : decide (bytesE n s x = 0) = false := decide_eq_false hbe
  have hbe2 : (bytesE n s x == 0) = false := by rw [beq_eq_false_iff_ne]; exact hbe
  obtain ⟨bE, hbE⟩ : ∃ bE, bytesE n s x = bE := ⟨_, rfl⟩
  rw [hbE] at hbe' hbe2 ⊢
  clear hbE hbe
  go_wp2_with fail
  refine (parse_any t _ (by omega)).mono ?_
  rintro e w8 ⟨rfl, hb8⟩
  rw [hPt.out]
  simp only [retF]
  have U8 := hide (U5.out.then hb8)
  clear hb8
  have U9 := hide (U8.out.then (below_al (o := .cells #[.bool pb, .string ps, .int .i64 px] 23) (Below.refl w8.heap.size w8)))
  have X9 := hide (box_new w8 pb ps px)
  go_wp2_with fail
  refine (awake_any _).mono ?_
  rintro e v0 ⟨rfl, hb0⟩
  have U10 := hide (U9.out.then hb0)
  have X10 := hide (X9.out.below hb0 X9.out.lt)
  clear hb0
  obtain ⟨k0, k1, k2, _, _, _⟩ := X10.out.cells
  go_wp2
  go_ret
  exact ⟨rfl, U10.out.below⟩
set_option maxHeartbeats 2000000 in
set_option maxRecDepth 100000 in
theorem round_bno (t : ByteArray) (n : Bool) (s : ByteArray) (x : Int) (w : World) (hT : Tab w.heap.size w) (hA : decide (4096 < s.size) = false) (hs : s.size ≤ maxLen) (st : t.size ≤ 4096) (pb : Bool) (ps : ByteArray) (px pe : Int) (hPt : parseF (bl t) = (pb, ps, px, pe)) (hN : isN n s x = true) (hbe : bytesE n s x ≠ 0) (hpe : pe ≠ 0) :
    Calls Tryd.prog 6 #[.agg #[.bool n, .string s, .int .i64 x], .string t] w fun e w' => e = .returned (.bool true) ∧ Below w.heap.size w w' := by
  have ml : maxLen = 2 ^ 63 - 1 := rfl
  have hT := hide hT
  have hPt := hide hPt
  have sa : s.size ≤ 4096 := by have := of_decide_eq_false hA; omega
  have U0 := hide (un1_new w n s x)
  have hpe1 : (pe == 0) = false := by rw [beq_eq_false_iff_ne]; exact hpe
  have hpe2 : decide (pe = 0) = false := decide_eq_false hpe
  have hPP := hide (parse_print n s x hN)
  have hpl : (printL n (bl s) x).length ≤ 100000 := by
    obtain ⟨_, h1, h2, h3, h4, _⟩ := isN_all hN
    have := parse_len n s x hN
    omega
  go_enter Tryd.func6, Tryd.ntmps6
  go_wp2_with fail
  refine (big_any n s x _ _ hA hs).mono ?_
  rintro e w1 ⟨rfl, hb1⟩
  have U1 := hide (U0.out.then hb1)
  clear hb1
  obtain ⟨c0, c1, c2, f0, f1, f2⟩ := U1.out.box.cells
  have hT1 : Hid (Tab _ _) := Tab.up (Lib.TabBelow.on hT.out U1.out.below) U1.out.below.size
  go_wp2_with fail
  refine (print_any n s x _ hN hT1.out).mono ?_
  rintro e w2 ⟨rfl, hb2⟩
  have U2a := hide (U1.out.then hb2)
  clear hb2 c0 c1 c2 f0 f1 f2
  go_wp2_with fail
  refine (parse_any _ _ (by rw [mkB_size]; exact hpl)).mono ?_
  rintro e w3 ⟨rfl, hb3⟩
  rw [bl_mkB, hPP.out]
  have U3 := hide (U2a.out.then hb3)
  clear hb3
  simp only [retF]
  have U4 := hide (U3.out.then (below_al (o := .cells #[.bool n, .string s, .int .i64 x] 23) (Below.refl w3.heap.size w3)))
  have X4 := hide (box_new w3 n s x)
  obtain ⟨c0, c1, c2, f0, f1, f2⟩ := U4.out.box.cells
  obtain ⟨q0, q1, q2, _, _, _⟩ := X4.out.cells
  go_wp2_with fail
  refine (bytes_no n s x _ (by omega) hbe).mono ?_
  rintro e w5 ⟨rfl, hb5⟩
  have U5 := hide (U4.out.then hb5)
  clear hb5 c0 c1 c2 f0 f1 f2
  have hbe' : decide (bytesE n s x = 0) = false := decide_eq_false hbe
  have hbe2 : (bytesE n s x == 0) = false := by rw [beq_eq_false_iff_ne]; exact hbe
  obtain ⟨bE, hbE⟩ : ∃ bE, bytesE n s x = bE := ⟨_, rfl⟩
  rw [hbE] at hbe' hbe2 ⊢
  clear hbE hbe
  go_wp2_with fail
  refine (parse_any t _ (by omega)).mono ?_
  rintro e w8 ⟨rfl, hb8⟩
  rw [hPt.out]
  simp only [retF]
  have U8 := hide (U5.out.then hb8)
  clear hb8
  have U9 := hide (U8.out.then (below_al (o := .cells #[.bool pb, .string ps, .int .i64 px] 23) (Below.refl w8.heap.size w8)))
  have X9 := hide (box_new w8 pb ps px)
  go_wp2_with fail
  refine (awake_any _).mono ?_
  rintro e v0 ⟨rfl, hb0⟩
  have U10 := hide (U9.out.then hb0)
  have X10 := hide (X9.out.below hb0 X9.out.lt)
  clear hb0
  obtain ⟨k0, k1, k2, _, _, _⟩ := X10.out.cells
  go_wp2
  go_ret
  exact ⟨rfl, U10.out.below⟩
set_option maxHeartbeats 2000000 in
set_option maxRecDepth 100000 in
theorem round_cno (t : ByteArray) (n : Bool) (s : ByteArray) (x : Int) (w : World) (hT : Tab w.heap.size w) (hA : decide (4096 < s.size) = false) (hs : s.size ≤ maxLen) (st : t.size ≤ 4096) (pb : Bool) (ps : ByteArray) (px pe : Int) (hPt : parseF (bl t) = (pb, ps, px, pe)) (hN : isN n s x = true) (hx0 : 0 ≤ x) (hsx : (s.size : Int) + x ≤ 40) (hpe : pe ≠ 0) :
    Calls Tryd.prog 6 #[.agg #[.bool n, .string s, .int .i64 x], .string t] w fun e w' => e = .returned (.bool true) ∧ Below w.heap.size w w' := by
  have ml : maxLen = 2 ^ 63 - 1 := rfl
  have hT := hide hT
  have hPt := hide hPt
  have sa : s.size ≤ 4096 := by have := of_decide_eq_false hA; omega
  have U0 := hide (un1_new w n s x)
  have hpe1 : (pe == 0) = false := by rw [beq_eq_false_iff_ne]; exact hpe
  have hpe2 : decide (pe = 0) = false := decide_eq_false hpe
  have hPP := hide (parse_print n s x hN)
  have hpl : (printL n (bl s) x).length ≤ 100000 := by
    obtain ⟨_, h1, h2, h3, h4, _⟩ := isN_all hN
    have := parse_len n s x hN
    omega
  go_enter Tryd.func6, Tryd.ntmps6
  go_wp2_with fail
  refine (big_any n s x _ _ hA hs).mono ?_
  rintro e w1 ⟨rfl, hb1⟩
  have U1 := hide (U0.out.then hb1)
  clear hb1
  obtain ⟨c0, c1, c2, f0, f1, f2⟩ := U1.out.box.cells
  have hT1 : Hid (Tab _ _) := Tab.up (Lib.TabBelow.on hT.out U1.out.below) U1.out.below.size
  go_wp2_with fail
  refine (print_any n s x _ hN hT1.out).mono ?_
  rintro e w2 ⟨rfl, hb2⟩
  have U2a := hide (U1.out.then hb2)
  clear hb2 c0 c1 c2 f0 f1 f2
  go_wp2_with fail
  refine (parse_any _ _ (by rw [mkB_size]; exact hpl)).mono ?_
  rintro e w3 ⟨rfl, hb3⟩
  rw [bl_mkB, hPP.out]
  have U3 := hide (U2a.out.then hb3)
  clear hb3
  simp only [retF]
  have U4 := hide (U3.out.then (below_al (o := .cells #[.bool n, .string s, .int .i64 x] 23) (Below.refl w3.heap.size w3)))
  have X4 := hide (box_new w3 n s x)
  obtain ⟨c0, c1, c2, f0, f1, f2⟩ := U4.out.box.cells
  obtain ⟨q0, q1, q2, _, _, _⟩ := X4.out.cells
  go_wp2_with fail
  refine (bytes_ok n s x _ hN hx0 (by omega)).mono ?_
  rintro e w5 ⟨v5, P, rfl, hP, hO5, hb5⟩
  have U5a := hide (U4.out.then hb5.out)
  clear hb5 c0 c1 c2 f0 f1 f2
  have S5 := hide (hO5.out.sb8 hP.out.2.1)
  obtain ⟨c0, c1, c2, f0, f1, f2⟩ := U5a.out.box.cells
  have hlen : ∃ aa cc, v5 = .slice aa (trimB P).length cc := by
    obtain ⟨_, h⟩ := hO5.out
    rcases h with ⟨rfl, hn⟩ | ⟨g, cap, cur, rfl, _⟩
    · exact ⟨none, 0, by rw [hn]⟩
    · exact ⟨some ⟨g, 0, none⟩, cap, rfl⟩
  go_wp2_with fail
  refine (of_any n v5 (P.drop (lz P)) _ S5.out (hP.out.2.1.drop _)).mono ?_
  rintro e w6 ⟨r, rfl, hr, hb6⟩
  obtain rfl := back_is hN hx0 (by rw [← v256_lz]; exact hP.out.2.2) hr.out
  clear hr
  simp only [retF]
  have U6 := hide (U5a.out.then hb6)
  have O6 := hide (hO5.out.sb8 hP.out.2.1)
  have hcell0 : ∀ h : 0 < (trimB P).length, ∃ g cc, v5 = .slice (some ⟨g, 0, none⟩) (trimB P).length cc ∧ g < w5.heap.size ∧ w5.cell? ⟨g, 0, none⟩ = some (.int .u8 ((trimB P)[0]).toNat) := by
    intro h
    have hc := hO5.out
    obtain ⟨_, h'⟩ := hO5.out
    rcases h' with ⟨rfl, hn⟩ | ⟨g, cap, cur, rfl, hg, hh, h1, h2, h3, h4⟩
    · omega
    · refine ⟨g, cap, rfl, (Array.getElem?_eq_some_iff.1 hh).1, ?_⟩
      have hcells : ∀ j u, (bcs (trimB P))[j]? = some u → w5.cell? ((⟨g, 0, none⟩ : Addr).add j) = some u := World.ownsRow.cells hc (g := g) rfl
      have := hcells 0 (.int .u8 ((trimB P)[0]).toNat) (by simp [bcs, List.getElem?_eq_getElem h])
      simpa [Addr.add] using this
  have hhd : ∀ h : 0 < (trimB P).length, ((trimB P)[0]).toNat ≠ 0 := trimB_head P hP.out.2.1
  have U7 := hide (U6.out.then (below_al (o := .cells #[.bool n, .string s, .int .i64 x] 23) (Below.refl w6.heap.size w6)))
  have X7 := hide (box_new w6 n s x)
  clear c0 c1 c2 f0 f1 f2
  obtain ⟨c0, c1, c2, f0, f1, f2⟩ := U7.out.box.cells
  obtain ⟨q0, q1, q2, _, _, _⟩ := X7.out.cells
  have U5 := hide U7.out
  rcases Nat.eq_zero_or_pos (trimB P).length with hz | hz
  · obtain ⟨aa, cc, rfl⟩ := hlen
    rw [hz]
    clear hcell0 hhd S5 O6 hO5 hP
    go_wp2_with fail
    refine (parse_any t _ (by omega)).mono ?_
    rintro e w8 ⟨rfl, hb8⟩
    rw [hPt.out]
    simp only [retF]
    have U8 := hide (U5.out.then hb8)
    clear hb8
    have U9 := hide (U8.out.then (below_al (o := .cells #[.bool pb, .string ps, .int .i64 px] 23) (Below.refl w8.heap.size w8)))
    have X9 := hide (box_new w8 pb ps px)
    go_wp2_with fail
    refine (awake_any _).mono ?_
    rintro e v0 ⟨rfl, hb0⟩
    have U10 := hide (U9.out.then hb0)
    have X10 := hide (X9.out.below hb0 X9.out.lt)
    clear hb0
    obtain ⟨k0, k1, k2, _, _, _⟩ := X10.out.cells
    go_wp2
    go_ret
    exact ⟨rfl, U10.out.below⟩
  · obtain ⟨g, cc, hv5, hgl, hcg⟩ := hcell0 hz
    have hh0 := hhd hz
    subst hv5
    obtain ⟨c00, hc00⟩ : ∃ c00, ((trimB P)[0]).toNat = c00 := ⟨_, rfl⟩
    obtain ⟨L, hL⟩ : ∃ L, (trimB P).length = L := ⟨_, rfl⟩
    rw [hc00] at hcg hh0
    rw [hL] at hz ⊢
    have hcg7 : ∀ o, (w6.alloc o).cell? ⟨g, 0, none⟩ = some (.int .u8 c00) := fun o => ((below_al (o := o) (Below.refl w6.heap.size w6)).cell (p := ⟨g, 0, none⟩) (Nat.lt_of_lt_of_le hgl hb6.size)).trans ((hb6.cell (p := ⟨g, 0, none⟩) hgl).trans hcg)
    have hc0 : ((c00 : Int) == 0) = false := by rw [beq_eq_false_iff_ne]; omega
    have hc0' : decide ((c00 : Int) = 0) = false := decide_eq_false (by omega)
    have hzi : (0 : Int) < (L : Int) := by omega
    clear hcell0 hhd S5 O6 hO5 hP hlen hc00
    go_wp2_with fail
    refine (parse_any t _ (by omega)).mono ?_
    rintro e w8 ⟨rfl, hb8⟩
    rw [hPt.out]
    simp only [retF]
    have U8 := hide (U5.out.then hb8)
    clear hb8
    have U9 := hide (U8.out.then (below_al (o := .cells #[.bool pb, .string ps, .int .i64 px] 23) (Below.refl w8.heap.size w8)))
    have X9 := hide (box_new w8 pb ps px)
    go_wp2_with fail
    refine (awake_any _).mono ?_
    rintro e v0 ⟨rfl, hb0⟩
    have U10 := hide (U9.out.then hb0)
    have X10 := hide (X9.out.below hb0 X9.out.lt)
    clear hb0
    obtain ⟨k0, k1, k2, _, _, _⟩ := X10.out.cells
    go_wp2
    go_ret
    exact ⟨rfl, U10.out.below⟩
theorem round_any (n : Bool) (s : ByteArray) (x : Int) (t : ByteArray) (w : World) (hs : s.size ≤ maxLen) (htl : t.size ≤ maxLen) (hT : Tab w.heap.size w) :
    Calls Tryd.prog 6 #[.agg #[.bool n, .string s, .int .i64 x], .string t] w fun e w' => e = .returned (.bool true) ∧ Below w.heap.size w w' := by
  have ml : maxLen = 2 ^ 63 - 1 := rfl
  have U0 := hide (un1_new w n s x)
  cases hA : decide (4096 < s.size)
  · by_cases hlong : (4096 : Int) < (t.size : Int)
    · go_enter Tryd.func6, Tryd.ntmps6
      go_wp2_with fail
      refine (big_any n s x _ _ hA hs).mono ?_
      rintro e w1 ⟨rfl, hb1⟩
      go_wp2
      go_ret
      exact ⟨rfl, (U0.out.then hb1).below⟩
    · obtain ⟨pb, ps, px, pe, hp⟩ : ∃ pb ps px pe, parseF (bl t) = (pb, ps, px, pe) := ⟨_, _, _, _, rfl⟩
      have st : t.size ≤ 4096 := by omega
      by_cases hpe : pe = 0
      · cases hN : isN n s x
        · exact round_aok t n s x w hT hA hs st pb ps px pe hp hN (by unfold bytesE; rw [hN]; simp) hpe
        · by_cases hbe : bytesE n s x = 0
          · obtain ⟨_, h1, h2⟩ := bytes_yes hbe
            exact round_cok t n s x w hT hA hs st pb ps px pe hp hN h1 h2 hpe
          · exact round_bok t n s x w hT hA hs st pb ps px pe hp hN hbe hpe
      · cases hN : isN n s x
        · exact round_ano t n s x w hT hA hs st pb ps px pe hp hN (by unfold bytesE; rw [hN]; simp) hpe
        · by_cases hbe : bytesE n s x = 0
          · obtain ⟨_, h1, h2⟩ := bytes_yes hbe
            exact round_cno t n s x w hT hA hs st pb ps px pe hp hN h1 h2 hpe
          · exact round_bno t n s x w hT hA hs st pb ps px pe hp hN hbe hpe
  · go_enter Tryd.func6, Tryd.ntmps6
    go_wp2_with fail
    refine (big_any n s x _ _ hA hs).mono ?_
    rintro e w1 ⟨rfl, hb1⟩
    go_wp2
    go_ret
    exact ⟨rfl, (U0.out.then hb1).below⟩
end Go.Proofs.YtjpdlibncmldlaaDoor
