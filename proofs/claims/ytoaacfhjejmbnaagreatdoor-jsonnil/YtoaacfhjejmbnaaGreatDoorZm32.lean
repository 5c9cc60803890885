/- Merged by program: JhRec, KpCut, KrText. -/
import Derived.Test.YtoaacfhjejmbnaaGreatDoorZm31
import Derived.Test.YtoaacfhjejmbnaaGreatDoorZm27
import Derived.Test.YtoaacfhjejmbnaaGreatDoorZm30
/- json's writer: record, tag: walked. -/
namespace Go.Proofs.YtoaacfhjejmbnaaGreatDoor
open Go.RowKit
set_option linter.unusedSimpArgs false
set_option linter.unusedVariables false
theorem bl_head (s : ByteArray) (h : 0 < s.size) : (bl s).head? = some s[0] := by
  rw [List.head?_eq_getElem?, List.getElem?_eq_getElem (by rw [bl_length]; exact h), bl_get s 0 h]
set_option maxHeartbeats 1000000 in
set_option maxRecDepth 100000 in
theorem hasp_1 (s : ByteArray) (w : World) (hs : s.size ≤ 281474976710656) :
    Calls Tryz.prog 137 #[.string s, .string ⟨#[36]⟩] w fun e w' => e = .returned (.bool ((bl s).head? == some 36)) ∧ w' = w := by
  by_cases h0 : 0 < s.size
  · have hx := byte_str s 0 h0
    have hh := hide (bl_head s h0)
    obtain ⟨c, hc⟩ : ∃ c, s[0] = c := ⟨_, rfl⟩
    rw [hc] at hx hh
    obtain ⟨S1, hS1⟩ : ∃ S1, mkB [c] = S1 := ⟨_, rfl⟩
    rw [hS1] at hx
    have hT : S1.toList = [c] := by rw [← hS1, ByteArray.toList_eq]; rfl
    have h1 : (1 : Int) ≤ (s.size : Int) := by omega
    have hx2 : s.extract 0 1 = S1 := hx
    clear hS1 hc hx
    go_enter Tryz.func137, Tryz.ntmps137
    go_wp2_with fail
    go_ret
    refine ⟨?_, rfl⟩
    rw [hh.out]
    first | rfl | simp
  · have hz : s.size = 0 := by omega
    have hs0 : s = ⟨#[]⟩ := by
      obtain ⟨d⟩ := s
      have : d.size = 0 := hz
      rw [Array.eq_empty_of_size_eq_zero this]
    subst hs0
    go_enter Tryz.func137, Tryz.ntmps137
    go_wp2_with fail
    go_ret
    exact ⟨rfl, rfl⟩
set_option maxHeartbeats 1000000 in
theorem hasp_any (s : ByteArray) (w : World) (hs : s.size ≤ 281474976710656) :
    Calls Tryz.prog 94 #[.string s, .string ⟨#[36]⟩] w fun e w' => e = .returned (.bool ((bl s).head? == some 36)) ∧ w' = w := by
  obtain ⟨q, hq⟩ : ∃ q, ((bl s).head? == some 36) = q := ⟨_, rfl⟩
  have h1 := hide (hasp_1 s w hs)
  rw [hq] at h1 ⊢
  clear hq
  go_enter Tryz.func94, Tryz.ntmps94
  go_wp2_with (go_at_call 137; refine Sto.out ?_)
  refine Sto.mk (h1.out.mono ?_)
  rintro e w1 ⟨rfl, rfl⟩
  go_wp2_with fail
  go_ret
  exact ⟨rfl, rfl⟩
end Go.Proofs.YtoaacfhjejmbnaaGreatDoor
/- strings.CutPrefix, as the reader calls it. -/
namespace Go.Proofs.YtoaacfhjejmbnaaGreatDoor
open Go.RowKit
set_option linter.unusedSimpArgs false
set_option linter.unusedVariables false
theorem ext1 {s : ByteArray} {t : List UInt8} (h : bl s = 36 :: t) : s.extract 1 s.size = mkB t := by
  have e : s = mkB (36 :: t) := by rw [← h]; simp [mkB, bl]
  subst e
  have hd : ((mkB (36 :: t)).extract 1 (mkB (36 :: t)).size).data = (mkB t).data := by
    rw [ByteArray.data_extract]
    simp [mkB, ByteArray.size]
  have := congrArg ByteArray.mk hd
  exact this
set_option maxHeartbeats 1000000 in
theorem slcut_any (s : ByteArray) (w : World) (hs : s.size ≤ 281474976710656) :
    Calls Tryz.prog 176 #[.string s, .string ⟨#[36]⟩] w fun e w' => e = .returned (.tuple #[.string (if (bl s).head? == some 36 then s.extract 1 s.size else s), .bool ((bl s).head? == some 36)]) ∧ w' = w := by
  have ml : maxLen = 9223372036854775807 := rfl
  have h1 := hide (hasp_1 s w hs)
  cases hq : ((bl s).head? == some 36) with
  | false =>
    rw [hq] at h1
    clear hq
    simp only [Bool.false_eq_true, if_false]
    go_enter Tryz.func176, Tryz.ntmps176
    go_wp2_with (go_at_call 137; refine h1.out.mono ?_; rintro e w1 ⟨rfl, hw⟩; have hws := hw.symm; clear hw; subst hws)
    exact bodyPost_ret (v := .tuple #[.string s, .bool false]) (by simp [results, Tryz.results176, go_sem]) rfl ⟨rfl, rfl⟩
  | true =>
    rw [hq] at h1
    have hp : 1 ≤ s.size := by
      rw [← bl_length]
      cases hb : bl s with
      | nil => rw [hb] at hq; cases hq
      | cons a t => simp
    clear hq
    simp only [if_true]
    go_enter Tryz.func176, Tryz.ntmps176
    go_wp2_with (go_at_call 137; refine h1.out.mono ?_; rintro e w1 ⟨rfl, hw⟩; have hws := hw.symm; clear hw; subst hws)
    exact bodyPost_ret (v := .tuple #[.string (s.extract 1 s.size), .bool true]) (by simp [results, Tryz.results176, go_sem]) rfl ⟨rfl, rfl⟩
theorem cutp_any (s : ByteArray) (w : World) (hs : s.size ≤ 281474976710656) :
    Calls Tryz.prog 153 #[.string s, .string ⟨#[36]⟩] w fun e w' => e = .returned (.tuple #[.string (if (bl s).head? == some 36 then s.extract 1 s.size else s), .bool ((bl s).head? == some 36)]) ∧ w' = w := by
  have h1 := hide (slcut_any s w hs)
  generalize (if (bl s).head? == some 36 then s.extract 1 s.size else s) = u at h1 ⊢
  generalize ((bl s).head? == some 36) = q at h1 ⊢
  go_enter Tryz.func153, Tryz.ntmps153
  go_wp2_with (go_at_call 176; refine h1.out.mono ?_; rintro e w1 ⟨rfl, hw⟩; have hws := hw.symm; clear hw; subst hws)
  exact bodyPost_ret (v := .tuple #[.string u, .bool q]) (by simp [results, Tryz.results153, go_sem]) rfl ⟨rfl, rfl⟩
end Go.Proofs.YtoaacfhjejmbnaaGreatDoor
/- json's Reader: name, float, bytes, firstName, takeText walked (genread2.py writes this). -/
namespace Go.Proofs.YtoaacfhjejmbnaaGreatDoor
open Go.RowKit
set_option linter.unusedSimpArgs false
set_option linter.unusedVariables false
section
variable {W W1 W2 : World} {r : Nat} {g : Gv} {m : Mv} {st : St}
theorem zN (s : ByteArray) (h : s.size ≤ 100000) : EvZ (evN s) := ⟨by show s.size ≤ _; omega, by show (ByteArray.size ⟨#[]⟩) ≤ _; decide, rfl⟩
theorem zT (s : ByteArray) (h : s.size ≤ 100000) : EvZ (evText s) := ⟨by show s.size ≤ _; omega, by show (ByteArray.size ⟨#[]⟩) ≤ _; decide, rfl⟩
theorem zB (s : ByteArray) (h : s.size ≤ 100000) : EvZ (evBytes s) := ⟨by show s.size ≤ _; omega, by show (ByteArray.size ⟨#[]⟩) ≤ _; decide, rfl⟩
theorem zG (s : ByteArray) (h : s.size ≤ 100000) : EvZ (evTag s) := ⟨by show s.size ≤ _; omega, by show (ByteArray.size ⟨#[]⟩) ≤ _; decide, rfl⟩
theorem zF (b : Nat) : EvZ (evFloat b) := ⟨by show (ByteArray.size ⟨#[]⟩) ≤ _; decide, by show (ByteArray.size ⟨#[]⟩) ≤ _; decide, rfl⟩
theorem ext1' (s : ByteArray) (hd : (bl s).head? == some 36) : s.extract 1 s.size = mkB ((bl s).drop 1) := by
  cases hb : bl s with
  | nil => rw [hb] at hd; cases hd
  | cons c t =>
    rw [hb] at hd
    have hc : c = 36 := by simpa using hd
    subst hc
    rw [ext1 hb]
    rfl
theorem firstS_eq (st : St) (s : ByteArray) : firstS st s = if s = floatN then .inr { st with wait := 5, behind := 6 } else if s = bytesN then .inr { st with wait := 5, behind := 7 } else if s = tagN then .inr { st with wait := 5, behind := 8 } else if (bl s).head? == some 36 then (if ((bl s).drop 1).head? == some 36 then recS st (mkB ((bl s).drop 1)) else .inl 70) else recS st s := by
  unfold firstS
  split
  · rfl
  split
  · rfl
  split
  · rfl
  cases bl s with
  | nil => rfl
  | cons c t =>
    by_cases hc : c = 36
    · subst hc
      cases t with
      | nil => rfl
      | cons d u =>
        by_cases hd : d = 36
        · subst hd; rfl
        · have : (some d == some (36 : UInt8)) = false := by simpa using hd
          simp only [List.head?_cons, List.drop_succ_cons, List.drop_zero, this, beq_self_eq_true, if_true, Bool.false_eq_true, if_false]
          split
          · rename_i h; exact absurd (List.cons.inj h).1 hd
          · rfl
    · have : (some c == some (36 : UInt8)) = false := by simpa using hc
      simp only [List.head?_cons, this, Bool.false_eq_true, if_false]
      split
      · rename_i h; exact absurd (List.cons.inj h).1 hc
      · rfl
theorem RM.w9 (h : RM W r g m st) (a : Nat) : RM (W.setCell ⟨r, 9, none⟩ (.int .i64 a)) r g m { st with wait := a } := h.sc (h.rd.set 9 _ _ rfl) (RdO.set9 _ 0)
theorem RF.w9 (h : RM W r g m st) (a : Nat) : RF g m W (W.setCell ⟨r, 9, none⟩ (.int .i64 a)) := RF.ofO h (RdO.set9 _ 0)
theorem funh_err (s : ByteArray) : (funh s).2 = 0 ∨ (funh s).2 = 20 := by
  unfold funh
  split
  · split
    · exact Or.inl rfl
    · exact Or.inr rfl
  · exact Or.inr rfl
theorem hx2_len : ∀ (n : Nat) (l t : List UInt8), l.length ≤ n → hx2 l = some t → t.length ≤ l.length
  | _, [], t, _, h => by cases h; exact Nat.le_refl _
  | _, [a], t, _, h => by cases h
  | 0, a :: b :: l, t, hn, h => by simp at hn
  | n + 1, a :: b :: l, t, hn, h => by
    unfold hx2 at h
    split at h
    · rename_i x y u _ _ hu
      cases h
      have := hx2_len n l u (by simp at hn; omega) hu
      simp
      omega
    · cases h
theorem hx2_size (s : ByteArray) (l : List UInt8) (h : hx2 (bl s) = some l) : (mkB l).size ≤ s.size := by
  have := hx2_len _ (bl s) l (Nat.le_refl _) h
  rw [bl_length] at this
  rw [← bl_length, bl_mkB]
  exact this
set_option maxHeartbeats 4000000 in
set_option maxRecDepth 100000 in
theorem name_r (h : RM W r g m st) (s : ByteArray) (hs : s.size ≤ 100000) (hn : st.n ≤ 199990) : Calls Tryz.prog 117 #[.pointer (some ⟨r, 0, none⟩), .string s] W fun x w' => RP W r g m (nameS st s) x w' := by
  have H := hide h
  have c9 : W.cell? ⟨r, 9, none⟩ = some (.int .i64 st.wait) := (h.rd.cell 9).trans rfl
  have f9 : W.frozen? ⟨r, 9, none⟩ = false := h.rd.frz 9
  clear h c9 f9
  unfold nameS
  have M0 := H
  have C1 := hide (fun w m (h1 : RM w r g m st) => tell_q h1 (evN s) (zN s hs) (by omega))
  cases hq1 : tellS st (evN s) with
  | inl E =>
    rw [hq1] at C1
    clear hq1 hn hs 
    try simp only [bnd]
    try simp only [evs, zr, evE, evN, evNum, evFlag, evText, evFloat, evBytes, evTag] at C1
    go_enter Tryz.func117, Tryz.ntmps117
    go_wp2_with (go_at_call 114; refine (C1.out _ _ M0.out).mono ?_; rintro q w1 ⟨hp1, rfl, hp2⟩; have F1 := hide hp1; have M1 := hide hp2; clear hp1 hp2)
    exact ⟨rfl, ⟨F1.out, rfl, M1.out⟩⟩
  | inr x1 =>
    rw [hq1] at C1
    try simp only [bnd]
    clear hq1 hn hs 
    try simp only [evs, zr, evE, evN, evNum, evFlag, evText, evFloat, evBytes, evTag] at C1
    go_enter Tryz.func117, Tryz.ntmps117
    go_wp2_with (go_at_call 114; refine (C1.out _ _ M0.out).mono ?_; rintro q w1 ⟨hp1, rfl, m1, hp2, hp3⟩; have F1 := hide hp1; have M1 := hide hp2; have O1 := hide hp3; clear hp1 hp2 hp3; have d9 := (M1.out.rd.cell 9).trans rfl; have g9 : w1.frozen? ⟨r, 9, none⟩ = false := M1.out.rd.frz 9; have d10 := (M1.out.rd.cell 10).trans rfl; have g10 : w1.frozen? ⟨r, 10, none⟩ = false := M1.out.rd.frz 10; simp only [St.rv] at d9 d10)
    go_end0
    exact RP.trans F1.out O1.out (RM.setn M1.out 5 0 0)
set_option maxHeartbeats 4000000 in
set_option maxRecDepth 100000 in
theorem float_r (h : RM W r g m st) (s : ByteArray) (hs : s.size ≤ 100000) (hn : st.n ≤ 199990) : Calls Tryz.prog 118 #[.pointer (some ⟨r, 0, none⟩), .string s] W fun x w' => RP W r g m (floatS st s) x w' := by
  have H := hide h
  have c9 : W.cell? ⟨r, 9, none⟩ = some (.int .i64 st.wait) := (h.rd.cell 9).trans rfl
  have f9 : W.frozen? ⟨r, 9, none⟩ = false := h.rd.frz 9
  have U := hide (funhex_any s W (by unfold maxLen; omega))
  clear h c9 f9
  unfold floatS
  obtain ⟨⟨b, E⟩, hb⟩ : ∃ p, funh s = p := ⟨_, rfl⟩
  rw [hb] at U ⊢
  have hE : E = 0 ∨ E = 20 := by
    have := funh_err s
    rw [hb] at this
    exact this
  clear hb
  simp only at U ⊢
  rcases hE with rfl | rfl
  · rw [if_pos rfl]
    have M0 := H
    have C1 := hide (fun w m (h1 : RM w r g m st) => tell_q h1 (evFloat b) (zF b) (by omega))
    cases hq1 : tellS st (evFloat b) with
    | inl E =>
      rw [hq1] at C1
      clear hq1 hn hs 
      try simp only [bnd]
      try simp only [evs, zr, evE, evN, evNum, evFlag, evText, evFloat, evBytes, evTag] at C1
      go_enter Tryz.func118, Tryz.ntmps118
      go_wp2_with (first
        | (go_at_call 154; refine U.out.mono ?_; rintro e w0 ⟨rfl, hw0⟩; have hws := hw0.symm; clear hw0; subst hws)
        | (go_at_call 114; refine (C1.out _ _ M0.out).mono ?_; rintro q w1 ⟨hp1, rfl, hp2⟩; have F1 := hide hp1; have M1 := hide hp2; clear hp1 hp2))
      exact ⟨rfl, ⟨F1.out, rfl, M1.out⟩⟩
    | inr x1 =>
      rw [hq1] at C1
      try simp only [bnd]
      clear hq1 hn hs 
      try simp only [evs, zr, evE, evN, evNum, evFlag, evText, evFloat, evBytes, evTag] at C1
      go_enter Tryz.func118, Tryz.ntmps118
      go_wp2_with (first
        | (go_at_call 154; refine U.out.mono ?_; rintro e w0 ⟨rfl, hw0⟩; have hws := hw0.symm; clear hw0; subst hws)
        | (go_at_call 114; refine (C1.out _ _ M0.out).mono ?_; rintro q w1 ⟨hp1, rfl, m1, hp2, hp3⟩; have F1 := hide hp1; have M1 := hide hp2; have O1 := hide hp3; clear hp1 hp2 hp3; have d9 := (M1.out.rd.cell 9).trans rfl; have g9 : w1.frozen? ⟨r, 9, none⟩ = false := M1.out.rd.frz 9; have d10 := (M1.out.rd.cell 10).trans rfl; have g10 : w1.frozen? ⟨r, 10, none⟩ = false := M1.out.rd.frz 10; simp only [St.rv] at d9 d10))
      go_end0
      exact RP.trans F1.out O1.out (RP.setw M1.out 12 0)
  · rw [if_neg (by decide)]
    clear hn hs
    go_enter Tryz.func118, Tryz.ntmps118
    go_wp2_with (go_at_call 154; refine U.out.mono ?_; rintro e w0 ⟨rfl, hw0⟩; have hws := hw0.symm; clear hw0; subst hws)
    exact ⟨rfl, RP.pan H.out 70 0⟩
set_option maxHeartbeats 4000000 in
set_option maxRecDepth 100000 in
theorem bytes_r (h : RM W r g m st) (s : ByteArray) (hs : s.size ≤ 100000) (hn : st.n ≤ 199990) : Calls Tryz.prog 119 #[.pointer (some ⟨r, 0, none⟩), .string s] W fun x w' => RP W r g m (bytesS st s) x w' := by
  have H := hide h
  have c9 : W.cell? ⟨r, 9, none⟩ = some (.int .i64 st.wait) := (h.rd.cell 9).trans rfl
  have f9 : W.frozen? ⟨r, 9, none⟩ = false := h.rd.frz 9
  have U := hide (unhex_j s W hs)
  have hsz := hx2_size s
  clear h c9 f9
  unfold bytesS
  unfold uxR at U
  cases hx : hx2 (bl s) with
  | none =>
    rw [hx] at U
    clear hx hn hs hsz
    go_enter Tryz.func119, Tryz.ntmps119
    go_wp2_with (go_at_call 155; refine U.out.mono ?_; rintro e w0 ⟨rfl, hb0⟩; have M0 := hide (H.out.then hb0); have F0 : Hid (RF g m W w0) := RF.of hb0 H.out.lo; clear hb0)
    exact ⟨rfl, RP.trans F0.out (OM.refl _ _) (RP.pan M0.out 70 0)⟩
  | some l =>
    rw [hx] at U
    have hl : (mkB l).size ≤ 100000 := Nat.le_trans (hsz l hx) hs
    simp only at U ⊢
    clear hx hs hsz
    generalize mkB l = b at U hl ⊢
    have C1 := hide (fun w m (h1 : RM w r g m st) => tell_q h1 (evBytes b) (zB b hl) (by omega))
    cases hq1 : tellS st (evBytes b) with
    | inl E =>
      rw [hq1] at C1
      clear hq1 hn hl 
      try simp only [bnd]
      try simp only [evs, zr, evE, evN, evNum, evFlag, evText, evFloat, evBytes, evTag] at C1
      go_enter Tryz.func119, Tryz.ntmps119
      go_wp2_with (first
        | (go_at_call 155; refine U.out.mono ?_; rintro e w0 ⟨rfl, hb0⟩; have M0 := hide (H.out.then hb0); have F0 : Hid (RF g m W w0) := RF.of hb0 H.out.lo; clear hb0)
        | (go_at_call 114; refine (C1.out _ _ M0.out).mono ?_; rintro q w1 ⟨hp1, rfl, hp2⟩; have F1 := hide hp1; have M1 := hide hp2; clear hp1 hp2))
      exact ⟨rfl, RP.trans F0.out (OM.refl _ _) (⟨F1.out, rfl, M1.out⟩)⟩
    | inr x1 =>
      rw [hq1] at C1
      try simp only [bnd]
      clear hq1 hn hl 
      try simp only [evs, zr, evE, evN, evNum, evFlag, evText, evFloat, evBytes, evTag] at C1
      go_enter Tryz.func119, Tryz.ntmps119
      go_wp2_with (first
        | (go_at_call 155; refine U.out.mono ?_; rintro e w0 ⟨rfl, hb0⟩; have M0 := hide (H.out.then hb0); have F0 : Hid (RF g m W w0) := RF.of hb0 H.out.lo; clear hb0)
        | (go_at_call 114; refine (C1.out _ _ M0.out).mono ?_; rintro q w1 ⟨hp1, rfl, m1, hp2, hp3⟩; have F1 := hide hp1; have M1 := hide hp2; have O1 := hide hp3; clear hp1 hp2 hp3; have d9 := (M1.out.rd.cell 9).trans rfl; have g9 : w1.frozen? ⟨r, 9, none⟩ = false := M1.out.rd.frz 9; have d10 := (M1.out.rd.cell 10).trans rfl; have g10 : w1.frozen? ⟨r, 10, none⟩ = false := M1.out.rd.frz 10; simp only [St.rv] at d9 d10))
      go_end0
      exact RP.trans F0.out (OM.refl _ _) (RP.trans F1.out O1.out (RP.setw M1.out 12 0))

end
end Go.Proofs.YtoaacfhjejmbnaaGreatDoor
