/- Merged by program: NxLay, NyParse, NzParse, JfSmall, QaRef, QbZeros, QcLess. -/
import Derived.Test.YtoaacfhjejmbnaaGreatDoorZm07
import Derived.Test.YtoaacfhjejmbnaaGreatDoorZm03
import Derived.Test.YtoaacfhjejmbnaaGreatDoorZm08
import Derived.Test.YtoaacfhjejmbnaaGreatDoorZm09
import Derived.Test.YtoaacfhjejmbnaaGreatDoorZm05
import Derived.Outline
import Derived.Test.YtoaacfhjejmbnaaGreatDoorZm04
import Derived.Deep.RegionWith
import Derived.Test.YtoaacfhjejmbnaaGreatDoorZm06
import Derived.Test.YtoaacfhjejmbnaaGreatDoorZm02
/- num's lay and powerOf: walked. -/
namespace Go.Proofs.YtoaacfhjejmbnaaGreatDoor
open Go.RowKit
set_option linter.unusedSimpArgs false
set_option linter.unusedVariables false
/-- A power of ten's digits, as a number; far beyond it is just beyond. -/
def pwA (acc : Nat) : List UInt8 → Nat
  | [] => acc
  | c :: l => if acc ≤ 912 then pwA (acc * 10 + (c.toNat - 48)) l else acc
theorem pwA_far (acc : Nat) (l : List UInt8) (h : ¬ acc ≤ 912) : pwA acc l = acc := by cases l <;> simp [pwA, h]
/-- The power that the pieces say. -/
def powF (pn : Bool) (l : List UInt8) : Int := if pn then -(pwA 0 l : Int) else pwA 0 l
theorem pwA_le : ∀ (l : List UInt8) (acc : Nat), allD l = true → acc ≤ 9129 → pwA acc l ≤ 9129
  | [], acc, _, h => h
  | c :: l, acc, hd, h => by
    simp only [allD, List.all_cons, Bool.and_eq_true] at hd
    have := (isDig_iff c).1 hd.1
    unfold pwA
    split
    · exact pwA_le l _ hd.2 (by omega)
    · exact h
set_option maxHeartbeats 1000000 in
theorem powerOf_any (n : Bool) (wh fr : ByteArray) (pn : Bool) (pw : ByteArray) (w : World) (hs : pw.size ≤ 100000) (hd : allD (bl pw) = true) :
    Calls Tryz.prog 190 #[.agg #[.bool n, .string wh, .string fr, .bool pn, .string pw]] w fun e w' => e = .returned (.int .i64 (powF pn (bl pw))) ∧ Below w.heap.size w w' := by
  have hd := hide hd
  go_enter Tryz.func190, Tryz.ntmps190
  go_wp2
  go_loop [3, 4] (fun p i => ∃ k acc : Nat, k ≤ pw.size ∧ i = .int .i64 k ∧ p = .int .i64 acc ∧ acc ≤ 9129 ∧ Hid (pwA 0 (bl pw) = pwA acc ((bl pw).drop k))) (fun _ i => pw.size - (intOf i).toNat)
  case atStart => exact ⟨0, 0, Nat.zero_le _, rfl, rfl, by omega, rfl⟩
  case round =>
    obtain ⟨k, acc, hk, rfl, rfl, hacc, hp⟩ := hrel
    by_cases hlt : k < pw.size
    · have hdrop : (bl pw).drop k = pw[k] :: (bl pw).drop (k + 1) := by
        rw [List.drop_eq_getElem_cons (by rw [bl_length]; exact hlt), bl_get pw k hlt]
      have hdg := allD_get pw hd.out k hlt
      by_cases hf : acc ≤ 912
      · have hp' : Hid (pwA 0 (bl pw) = pwA (acc * 10 + (pw[k].toNat - 48)) ((bl pw).drop (k + 1))) := by
          show _ = _
          rw [hp.out, hdrop]; simp [pwA, hf]
        clear hdrop
        go_wp2
        go_round
        case rel => exact ⟨k + 1, acc * 10 + (pw[k].toNat - 48), by omega, by go_num, by
          show Value.int _ _ = Value.int _ _
          congr 1
          omega, by omega, hp'.out⟩
        case measure => simp [intOf]; omega
      · have hp' : Hid (pwA 0 (bl pw) = acc) := by
          show _ = _
          rw [hp.out, pwA_far acc _ hf]
        have hf' : decide ((acc : Int) ≤ 912) = false := decide_eq_false (by omega)
        clear hdrop
        cases pn
        all_goals
          go_wp2
          go_ret
          refine ⟨ret_int ?_, (Below.refl _ _).alloc (Nat.le_refl _) _⟩
          simp [powF, hp'.out]
    · have hp' : Hid (pwA 0 (bl pw) = acc) := by
        show _ = _
        rw [hp.out, List.drop_of_length_le (by rw [bl_length]; omega)]; rfl
      cases pn
      all_goals
        go_wp2
        go_ret
        refine ⟨ret_int ?_, (Below.refl _ _).alloc (Nat.le_refl _) _⟩
        simp [powF, hp'.out]
/-- A row with the digits of a text laid into it from o on. -/
def layR (p : List Nat) (o : Nat) (d : List Nat) : List Nat := p.take o ++ d ++ p.drop (o + d.length)
theorem layR_len (p : List Nat) (o : Nat) (d : List Nat) (h : o + d.length ≤ p.length) : (layR p o d).length = p.length := by
  unfold layR; simp; omega
theorem layR_step (p : List Nat) (o k : Nat) (d : List Nat) (hk : k < d.length) (h : o + d.length ≤ p.length) : (layR p o (d.take k)).set (o + k) d[k] = layR p o (d.take (k + 1)) := by
  have hl : (p.take o ++ d.take k).length = o + k := by simp; omega
  unfold layR
  rw [List.set_append_right _ _ (by rw [hl]; exact Nat.le_refl _), hl, Nat.sub_self]
  have e1 : (d.take k).length = k := by simp; omega
  have e2 : (d.take (k + 1)).length = k + 1 := by simp; omega
  rw [e1, e2, List.drop_eq_getElem_cons (by omega), List.set_cons_zero, List.take_succ_eq_append_getElem hk]
  simp only [List.append_assoc, List.cons_append, List.nil_append, Nat.add_assoc]
set_option maxHeartbeats 1000000 in
theorem lay_any (b o n c : Nat) (T : TypeId) (p : List Nat) (s : ByteArray) (w : World) (hA : Arr w b T p) (hsn : s.size ≤ n) (hon : o + n ≤ p.length) (hd : allD (bl s) = true) (hn : p.length ≤ 100000) :
    Calls Tryz.prog 188 #[.slice (some ⟨b, o, none⟩) n c, .string s] w fun e w' => e = .returned (.int .i64 s.size) ∧ Arr w' b T (layR p o (dg s)) ∧ Only b w w' := by
  have hd := hide hd
  have hA := hide hA
  go_enter Tryz.func188, Tryz.ntmps188
  go_wp2
  go_loopw [8] (fun i wr => ∃ k : Nat, k ≤ s.size ∧ i = .int .i64 k ∧ Hid (Arr wr b T (layR p o ((dg s).take k))) ∧ Hid (Only b w wr)) (fun i _ => s.size - (intOf i).toNat)
  case atStart => exact ⟨0, Nat.zero_le _, rfl, by show Arr _ _ _ _; simpa [layR] using hA.out, Only.refl _ _⟩
  case round =>
    obtain ⟨k, hk, rfl, hAr, hO⟩ := hrel
    by_cases hlt : k < s.size
    · have hdg := allD_get s hd.out k hlt
      have hl : (layR p o ((dg s).take k)).length = p.length := layR_len _ _ _ (by simp [dg_length]; omega)
      have hcl := hAr.out.cell (o + k) (by omega)
      have hfz := hAr.out.frozen (o + k)
      have hst := hide (layR_step p o k (dg s) (by rw [dg_length]; exact hlt) (by rw [dg_length]; omega))
      have hdk := hide (dg_get s k hlt)
      go_wp2
      refine ⟨⟨k + 1, by omega, by go_num, ?_, ?_⟩, by simp [intOf]; omega⟩
      · show Arr _ _ _ _
        rw [← hst.out, hdk.out]
        have := hAr.out.set (o + k) (s[k].toNat - 48)
        rw [show (((s[k].toNat - 48 : Nat) : Int)) = (s[k].toNat : Int) - 48 by omega] at this
        exact this
      · exact hO.out.set _ _
    · have htk : (dg s).take k = dg s := List.take_of_length_le (by rw [dg_length]; omega)
      rw [htk] at hAr
      clear htk
      go_wp2
      go_ret
      exact ⟨rfl, hAr.out, hO.out⟩
theorem lay_none (v : Value) (s : ByteArray) (w : World) (hs : s.size = 0) :
    Calls Tryz.prog 188 #[v, .string s] w fun e w' => e = .returned (.int .i64 0) ∧ w' = w := by
  have hs' : (s.size : Int) = 0 := by omega
  go_enter Tryz.func188, Tryz.ntmps188
  go_wp2
  refine wp_loop_rounds 1 ?_
  rw [rounds_succ]
  go_wp2
  go_ret
  exact ⟨rfl, rfl⟩
end Go.Proofs.YtoaacfhjejmbnaaGreatDoor
/- num.Parse: walked. -/
namespace Go.Proofs.YtoaacfhjejmbnaaGreatDoor
open Go.RowKit
set_option linter.unusedSimpArgs false
set_option linter.unusedVariables false
theorem split_any (s : ByteArray) (w : World) (hs : s.size ≤ 100000) :
    Calls Tryz.prog 187 #[.string s] w fun e w' => e = splitE (splitL (bl s)) ∧ Below w.heap.size w w' := by
  unfold splitL
  obtain ⟨wh, hwh⟩ : ∃ wh, (tlB 45 (bl s)).takeWhile isDig = wh := ⟨_, rfl⟩
  cases hbw : badW ((tlB 45 (bl s)).takeWhile isDig)
  · simp only [Bool.false_eq_true, if_false]
    simp only [badW, Bool.or_eq_false_iff] at hbw
    have hne : 1 ≤ ((tlB 45 (bl s)).takeWhile isDig).length := by
      rcases hh : (tlB 45 (bl s)).takeWhile isDig with _ | ⟨a, l⟩
      · rw [hh] at hbw; simp at hbw
      · simp
    by_cases h1 : ((tlB 45 (bl s)).takeWhile isDig).length = 1
    · cases hpt : hdB 46 ((tlB 45 (bl s)).dropWhile isDig)
      · simp only [Bool.false_eq_true, if_false]
        cases hL : (tlB 45 (bl s)).dropWhile isDig with
        | nil => have := split_one_no_nil s w hs h1 hpt hL; rwa [hL] at this
        | cons c r =>
          by_cases hc1 : c = 101
          · cases hso : spOk r
            · have := split_one_no_e_false s w hs h1 hpt c r hL hc1 hso; rwa [hL] at this
            · have := split_one_no_e_true s w hs h1 hpt c r hL hc1 hso; rwa [hL] at this
          · by_cases hc2 : c = 69
            · cases hso : spOk r
              · have := split_one_no_E_false s w hs h1 hpt c r hL hc1 hc2 hso; rwa [hL] at this
              · have := split_one_no_E_true s w hs h1 hpt c r hL hc1 hc2 hso; rwa [hL] at this
            · have := split_one_no_bad s w hs h1 hpt c r hL hc1 hc2; rwa [hL] at this
      · simp only [if_true]
        cases hfr : ((tlB 46 ((tlB 45 (bl s)).dropWhile isDig)).takeWhile isDig).isEmpty
        · simp only [Bool.false_eq_true, if_false]
          cases hL : (tlB 46 ((tlB 45 (bl s)).dropWhile isDig)).dropWhile isDig with
          | nil => have := split_one_pt_nil s w hs h1 hpt hfr hL; rwa [hL] at this
          | cons c r =>
            by_cases hc1 : c = 101
            · cases hso : spOk r
              · have := split_one_pt_e_false s w hs h1 hpt hfr c r hL hc1 hso; rwa [hL] at this
              · have := split_one_pt_e_true s w hs h1 hpt hfr c r hL hc1 hso; rwa [hL] at this
            · by_cases hc2 : c = 69
              · cases hso : spOk r
                · have := split_one_pt_E_false s w hs h1 hpt hfr c r hL hc1 hc2 hso; rwa [hL] at this
                · have := split_one_pt_E_true s w hs h1 hpt hfr c r hL hc1 hc2 hso; rwa [hL] at this
              · have := split_one_pt_bad s w hs h1 hpt hfr c r hL hc1 hc2; rwa [hL] at this
        · exact split_one_pt_none s w hs h1 hpt hfr
    · have h1 : 1 < ((tlB 45 (bl s)).takeWhile isDig).length ∧ ((tlB 45 (bl s)).takeWhile isDig).head? ≠ some 48 := by
        have h2 : 1 < ((tlB 45 (bl s)).takeWhile isDig).length := by omega
        refine ⟨h2, ?_⟩
        have := hbw.2
        rw [decide_eq_true h2, Bool.true_and, beq_eq_false_iff_ne] at this
        exact this
      cases hpt : hdB 46 ((tlB 45 (bl s)).dropWhile isDig)
      · simp only [Bool.false_eq_true, if_false]
        cases hL : (tlB 45 (bl s)).dropWhile isDig with
        | nil => have := split_more_no_nil s w hs h1 hpt hL; rwa [hL] at this
        | cons c r =>
          by_cases hc1 : c = 101
          · cases hso : spOk r
            · have := split_more_no_e_false s w hs h1 hpt c r hL hc1 hso; rwa [hL] at this
            · have := split_more_no_e_true s w hs h1 hpt c r hL hc1 hso; rwa [hL] at this
          · by_cases hc2 : c = 69
            · cases hso : spOk r
              · have := split_more_no_E_false s w hs h1 hpt c r hL hc1 hc2 hso; rwa [hL] at this
              · have := split_more_no_E_true s w hs h1 hpt c r hL hc1 hc2 hso; rwa [hL] at this
            · have := split_more_no_bad s w hs h1 hpt c r hL hc1 hc2; rwa [hL] at this
      · simp only [if_true]
        cases hfr : ((tlB 46 ((tlB 45 (bl s)).dropWhile isDig)).takeWhile isDig).isEmpty
        · simp only [Bool.false_eq_true, if_false]
          cases hL : (tlB 46 ((tlB 45 (bl s)).dropWhile isDig)).dropWhile isDig with
          | nil => have := split_more_pt_nil s w hs h1 hpt hfr hL; rwa [hL] at this
          | cons c r =>
            by_cases hc1 : c = 101
            · cases hso : spOk r
              · have := split_more_pt_e_false s w hs h1 hpt hfr c r hL hc1 hso; rwa [hL] at this
              · have := split_more_pt_e_true s w hs h1 hpt hfr c r hL hc1 hso; rwa [hL] at this
            · by_cases hc2 : c = 69
              · cases hso : spOk r
                · have := split_more_pt_E_false s w hs h1 hpt hfr c r hL hc1 hc2 hso; rwa [hL] at this
                · have := split_more_pt_E_true s w hs h1 hpt hfr c r hL hc1 hc2 hso; rwa [hL] at this
              · have := split_more_pt_bad s w hs h1 hpt hfr c r hL hc1 hc2; rwa [hL] at this
        · exact split_more_pt_none s w hs h1 hpt hfr
  · simp only [if_true]
    simp only [badW, Bool.or_eq_true, Bool.and_eq_true, decide_eq_true_eq, beq_iff_eq] at hbw
    rcases hbw with h | h
    · exact split_empty s w hs h
    · exact split_lead s w hs h
theorem allD_tw (l : List UInt8) : allD (l.takeWhile isDig) = true := by
  unfold allD
  induction l with
  | nil => rfl
  | cons a l ih =>
    by_cases h : isDig a = true
    · simp [h]
    · simp [h]
/-- What a text that is a number's comes to. -/
theorem splitL_facts {l : List UInt8} {n : Bool} {wh fr : List UInt8} {pn : Bool} {pw : List UInt8} (h : splitL l = some (n, wh, fr, pn, pw)) :
    allD wh = true ∧ allD fr = true ∧ allD pw = true ∧ 1 ≤ wh.length ∧ wh.length + fr.length ≤ l.length ∧ pw.length ≤ l.length := by
  have key : ∀ (n : Bool) (wh fr l4 : List UInt8) (m : Nat), allD wh = true → allD fr = true → 1 ≤ wh.length → wh.length + fr.length ≤ m → l4.length ≤ m → ∀ n' wh' fr' pn' pw', splitT n wh fr l4 = some (n', wh', fr', pn', pw') → allD wh' = true ∧ allD fr' = true ∧ allD pw' = true ∧ 1 ≤ wh'.length ∧ wh'.length + fr'.length ≤ m ∧ pw'.length ≤ m := by
    intro n wh fr l4 m h1 h2 h3 h4 h5 n' wh' fr' pn' pw' h
    unfold splitT at h
    cases l4 with
    | nil =>
      simp only [Option.some.injEq, Prod.mk.injEq] at h
      obtain ⟨_, rfl, rfl, _, rfl⟩ := h
      exact ⟨h1, h2, rfl, h3, h4, Nat.zero_le _⟩
    | cons c r =>
      simp only at h
      by_cases hc : (c == 101 || c == 69) = true
      · by_cases hs : spOk r = true
        · simp only [hc, hs, if_true, Option.some.injEq, Prod.mk.injEq] at h
          obtain ⟨_, rfl, rfl, _, rfl⟩ := h
          simp only [spOk, Bool.and_eq_true] at hs
          refine ⟨h1, h2, hs.2, h3, h4, ?_⟩
          have : (spL r).length ≤ r.length := by unfold spL; split <;> exact tlB_length _ _
          simp at h5
          omega
        · simp only [hc, hs, if_true] at h
          cases h
      · simp only [hc] at h
        cases h
  unfold splitL at h
  have e0 : (tlB 45 l).takeWhile isDig ++ (tlB 45 l).dropWhile isDig = tlB 45 l := List.takeWhile_append_dropWhile
  have e1 := congrArg List.length e0
  rw [List.length_append] at e1
  have e2 := tlB_length 45 l
  cases hbw : badW ((tlB 45 l).takeWhile isDig)
  · rw [hbw] at h
    simp only [Bool.false_eq_true, if_false] at h
    have hne : 1 ≤ ((tlB 45 l).takeWhile isDig).length := by
      rcases hh : (tlB 45 l).takeWhile isDig with _ | ⟨a, l⟩
      · rw [hh] at hbw; simp [badW] at hbw
      · simp
    by_cases hpt : hdB 46 ((tlB 45 l).dropWhile isDig) = true
    · rw [if_pos hpt] at h
      by_cases hfr : ((tlB 46 ((tlB 45 l).dropWhile isDig)).takeWhile isDig).isEmpty = true
      · rw [if_pos hfr] at h; cases h
      · rw [if_neg hfr] at h
        have f0 : (tlB 46 ((tlB 45 l).dropWhile isDig)).takeWhile isDig ++ (tlB 46 ((tlB 45 l).dropWhile isDig)).dropWhile isDig = tlB 46 ((tlB 45 l).dropWhile isDig) := List.takeWhile_append_dropWhile
        have f1 := congrArg List.length f0
        rw [List.length_append] at f1
        have f2 := tlB_length 46 ((tlB 45 l).dropWhile isDig)
        exact key _ _ _ _ l.length (allD_tw _) (allD_tw _) hne (by omega) (by omega) _ _ _ _ _ h
    · rw [if_neg hpt] at h
      exact key _ _ _ _ l.length (allD_tw _) rfl hne (by simp; omega) (by omega) _ _ _ _ _ h
  · rw [hbw] at h
    simp only [if_true] at h
    cases h
end Go.Proofs.YtoaacfhjejmbnaaGreatDoor
/- num.Parse: walked. -/
namespace Go.Proofs.YtoaacfhjejmbnaaGreatDoor
open Go.RowKit
set_option linter.unusedSimpArgs false
set_option linter.unusedVariables false
/-- Bytes of digits, as digits. -/
def dlu (l : List UInt8) : List Nat := l.map fun c => c.toNat - 48
theorem dlu_mkB (l : List UInt8) : dg (mkB l) = dlu l := by unfold dg dlu; rw [bl_mkB]
/-- What Parse makes of a text. -/
def parseF (l : List UInt8) : Bool × ByteArray × Int × Int :=
  match splitL l with
  | none => (false, ⟨#[]⟩, 0, 10)
  | some (n, wh, fr, pn, pw) => if 512 < l.length then (false, ⟨#[]⟩, 0, 2) else formF n (dlu wh ++ dlu fr) (powF pn pw - fr.length)
theorem layR_nil (p : List Nat) (o : Nat) : layR p o [] = p := by unfold layR; simp
theorem layR_two (a b : List Nat) (m : Nat) (h : a.length + b.length ≤ m) (i : Nat) (hi : i < (a ++ b).length) (hi' : i < (layR (layR (List.replicate m 0) 0 a) a.length b).length) : (layR (layR (List.replicate m 0) 0 a) a.length b)[i] = (a ++ b)[i] := by
  have e : layR (layR (List.replicate m 0) 0 a) a.length b = a ++ b ++ List.replicate (m - a.length - b.length) 0 := by
    unfold layR
    simp [List.take_append, List.drop_append]
  simp only [e]
  rw [List.getElem_append_left hi]
theorem dlu_dgs (l : List UInt8) (h : allD l = true) : Dgs (dlu l) := by
  intro d hd
  simp only [dlu, List.mem_map] at hd
  obtain ⟨c, hc, rfl⟩ := hd
  have := (isDig_iff c).1 ((List.all_eq_true.1 h) c hc)
  omega
/-- Where Parse stands once the digits are laid. -/
structure PSt (w : World) (b : Nat) (n : Bool) (wh fr : ByteArray) (pn : Bool) (pw : ByteArray) (d : List Nat) (W : World) : Prop where
  below : Below w.heap.size w W
  hp : PBox W b n wh fr pn pw
  hb : Box W w.heap.size false ⟨#[]⟩ 0
  hz : b + 1 < W.heap.size
  hc : ∀ i (h : i < d.length), W.cell? ⟨b + 1, 0 + i, none⟩ = some (.int .u8 (d[i] : Nat))
theorem PSt.drew {w : World} {b : Nat} {n : Bool} {wh fr : ByteArray} {pn : Bool} {pw : ByteArray} {d : List Nat} {W : World} (h : PSt w b n wh fr pn pw d W) : PSt w b n wh fr pn pw d W.drew := ⟨h.below.drew, h.hp, h.hb, h.hz, h.hc⟩
theorem PSt.then {w : World} {b : Nat} {n : Bool} {wh fr : ByteArray} {pn : Bool} {pw : ByteArray} {d : List Nat} {W W1 : World} (h : PSt w b n wh fr pn pw d W) (hb : Below W.heap.size W W1) : PSt w b n wh fr pn pw d W1 :=
  ⟨below_then h.below hb, h.hp.below hb h.hp.lt, h.hb.below hb h.hb.lt, Nat.lt_of_lt_of_le h.hz hb.size, fun i hi => (hb.cell (p := ⟨b + 1, 0 + i, none⟩) h.hz).trans (h.hc i hi)⟩
theorem powF_bounds (pn : Bool) (l : List UInt8) (h : allD l = true) : -9129 ≤ powF pn l ∧ powF pn l ≤ 9129 := by
  have := pwA_le l 0 h (by omega)
  unfold powF
  split <;> omega
set_option maxHeartbeats 1000000 in
theorem parse_none (s : ByteArray) (w : World) (hs : s.size ≤ 100000) (h : splitL (bl s) = none) :
    Calls Tryz.prog 178 #[.string s] w fun e w' => e = retF (false, ⟨#[]⟩, 0, 10) ∧ Below w.heap.size w w' := by
  have hB := hide (box_new w false ⟨#[]⟩ 0)
  have h := hide h
  go_enter Tryz.func178, Tryz.ntmps178
  go_wp2_with fail
  refine (split_any s _ hs).mono ?_
  rw [h.out]
  rintro e w1 ⟨rfl, hb1⟩
  have hB1 := hide (hB.out.below hb1 (by simp))
  have hl := hB1.out.lt
  obtain ⟨c0, c1, c2, f0, f1, f2⟩ := hB1.out.cells
  have hb := hide (below_alloc hb1)
  clear hb1
  simp only [splitE, partsE, if_true, Bool.false_eq_true, if_false]
  go_wp2
  refine bodyPost_ret (v := .tuple #[.agg #[.bool false, .string ⟨#[]⟩, .int .i64 0], .int .i64 10]) (by simp [results, Tryz.results178, go_sem, c0, c1, c2, hl]) rfl ⟨rfl, ?_⟩
  refine below_al ?_
  iterate 3 refine below_set ?_ (by omega)
  exact hb.out
set_option maxHeartbeats 1000000 in
theorem parse_long (s : ByteArray) (w : World) (hs : s.size ≤ 100000) (n : Bool) (wh fr : List UInt8) (pn : Bool) (pw : List UInt8) (h : splitL (bl s) = some (n, wh, fr, pn, pw)) (hlong : 512 < s.size) :
    Calls Tryz.prog 178 #[.string s] w fun e w' => e = retF (false, ⟨#[]⟩, 0, 2) ∧ Below w.heap.size w w' := by
  have hB := hide (box_new w false ⟨#[]⟩ 0)
  have h := hide h
  go_enter Tryz.func178, Tryz.ntmps178
  go_wp2_with fail
  refine (split_any s _ hs).mono ?_
  rw [h.out]
  rintro e w1 ⟨rfl, hb1⟩
  have hB1 := hide (hB.out.below hb1 (by simp))
  have hl := hB1.out.lt
  obtain ⟨c0, c1, c2, f0, f1, f2⟩ := hB1.out.cells
  have hb := hide (below_alloc hb1)
  clear hb1
  simp only [splitE, partsE, if_true, Bool.false_eq_true, if_false]
  go_wp2
  refine bodyPost_ret (v := .tuple #[.agg #[.bool false, .string ⟨#[]⟩, .int .i64 0], .int .i64 2]) (by simp [results, Tryz.results178, go_sem, c0, c1, c2, hl]) rfl ⟨rfl, ?_⟩
  refine below_al ?_
  iterate 3 refine below_set ?_ (by omega)
  exact hb.out
end Go.Proofs.YtoaacfhjejmbnaaGreatDoor
/- json's writer: flag, named, commaBehind: walked. -/
namespace Go.Proofs.YtoaacfhjejmbnaaGreatDoor
open Go.RowKit
set_option linter.unusedSimpArgs false
set_option linter.unusedVariables false
/-- An object of one name and a text. -/
def nmd (a b : List UInt8) : List UInt8 := [123] ++ (quo a ++ ([58] ++ (quo b ++ [125])))
set_option maxHeartbeats 2000000 in
set_option maxRecDepth 100000 in
theorem named_any (a b : ByteArray) (A : List UInt8) (W : World) (i : Nat) (h : WB W i A) (hA : A.length ≤ 65536) (ha : a.size ≤ 281474976710656) (hb : b.size ≤ 281474976710656) :
    Calls Tryz.prog 55 #[.pointer (some ⟨i, 0, none⟩), .string a, .string b] W fun e w' => WO i A (nmd (bl a) (bl b)) W e w' := by
  have hp := hide (fun s A W (h : WB W i A) (hA : A.length ≤ 65536) (hs : s.size ≤ 281474976710656) => put_any s A W i h hA hs)
  have ht := hide (fun s A W (h : WB W i A) (hA : A.length ≤ 65536) (hs : s.size ≤ 281474976710656) => text_any s A W i h hA hs)
  have h' := hide h
  have hA' := hide hA
  clear h hA
  have hq := hide (show nmd (bl a) (bl b) = [123] ++ (quo (bl a) ++ ([58] ++ (quo (bl b) ++ [125]))) from rfl)
  have ha' := hide ha
  have hb' := hide hb
  clear ha hb
  go_enter Tryz.func55, Tryz.ntmps55
  go_wp2_with (go_at_call 52; refine Sto.out ?_)
  refine Sto.mk ((hp.out ⟨#[123]⟩ (A) W h'.out hA'.out (by decide)).mono ?_)
  rintro e w1 hw1
  replace hw1 : WO i (A) ([123]) W e w1 := hw1
  rcases hw1 with ⟨hb1, ⟨q1, rfl, hW1⟩ | ⟨q1, rfl⟩⟩
  · have B1 : Hid (FW i W w1) := hb1
    have X1 : Hid (WB w1 i (A ++ ([123]))) := hW1
    have L1 : Hid ((A ++ ([123])).length ≤ 65536) := by show _ ≤ _; rw [List.length_append]; exact q1
    clear hb1 hW1 q1
    go_wp2_with (go_at_call 57; refine Sto.out ?_)
    refine Sto.mk ((ht.out a (A ++ ([123])) w1 X1.out L1.out ha'.out).mono ?_)
    rintro e w2 hw2
    replace hw2 : WO i (A ++ ([123])) (quo (bl a)) w1 e w2 := hw2
    rcases hw2 with ⟨hb2, ⟨q2, rfl, hW2⟩ | ⟨q2, rfl⟩⟩
    · have B2 : Hid (FW i W w2) := B1.out.trans hb2
      have X2 : Hid (WB w2 i (A ++ ([123]) ++ (quo (bl a)))) := hW2
      have L2 : Hid ((A ++ ([123]) ++ (quo (bl a))).length ≤ 65536) := by show _ ≤ _; rw [List.length_append]; exact q2
      clear hb2 hW2 q2
      go_wp2_with (go_at_call 52; refine Sto.out ?_)
      refine Sto.mk ((hp.out ⟨#[58]⟩ (A ++ ([123]) ++ (quo (bl a))) w2 X2.out L2.out (by decide)).mono ?_)
      rintro e w3 hw3
      replace hw3 : WO i (A ++ ([123]) ++ (quo (bl a))) ([58]) w2 e w3 := hw3
      rcases hw3 with ⟨hb3, ⟨q3, rfl, hW3⟩ | ⟨q3, rfl⟩⟩
      · have B3 : Hid (FW i W w3) := B2.out.trans hb3
        have X3 : Hid (WB w3 i (A ++ ([123]) ++ (quo (bl a)) ++ ([58]))) := hW3
        have L3 : Hid ((A ++ ([123]) ++ (quo (bl a)) ++ ([58])).length ≤ 65536) := by show _ ≤ _; rw [List.length_append]; exact q3
        clear hb3 hW3 q3
        go_wp2_with (go_at_call 57; refine Sto.out ?_)
        refine Sto.mk ((ht.out b (A ++ ([123]) ++ (quo (bl a)) ++ ([58])) w3 X3.out L3.out hb'.out).mono ?_)
        rintro e w4 hw4
        replace hw4 : WO i (A ++ ([123]) ++ (quo (bl a)) ++ ([58])) (quo (bl b)) w3 e w4 := hw4
        rcases hw4 with ⟨hb4, ⟨q4, rfl, hW4⟩ | ⟨q4, rfl⟩⟩
        · have B4 : Hid (FW i W w4) := B3.out.trans hb4
          have X4 : Hid (WB w4 i (A ++ ([123]) ++ (quo (bl a)) ++ ([58]) ++ (quo (bl b)))) := hW4
          have L4 : Hid ((A ++ ([123]) ++ (quo (bl a)) ++ ([58]) ++ (quo (bl b))).length ≤ 65536) := by show _ ≤ _; rw [List.length_append]; exact q4
          clear hb4 hW4 q4
          go_wp2_with (go_at_call 52; refine Sto.out ?_)
          refine Sto.mk ((hp.out ⟨#[125]⟩ (A ++ ([123]) ++ (quo (bl a)) ++ ([58]) ++ (quo (bl b))) w4 X4.out L4.out (by decide)).mono ?_)
          rintro e w5 hw5
          replace hw5 : WO i (A ++ ([123]) ++ (quo (bl a)) ++ ([58]) ++ (quo (bl b))) ([125]) w4 e w5 := hw5
          have H := hide (WO.trans (A := A) (T := ([123]) ++ (quo (bl a)) ++ ([58]) ++ (quo (bl b))) B4.out (by have := L4.out; simp only [List.length_append] at this ⊢; omega) (by simpa only [List.append_assoc] using hw5))
          rcases hw5 with ⟨_, ⟨_, rfl, _⟩ | ⟨_, rfl⟩⟩
          · go_wp2_with fail
            go_end0
            rw [hq.out]
            simpa only [List.append_assoc, List.cons_append, List.nil_append] using H.out
          · go_wp2_with fail
            refine ⟨rfl, ?_⟩
            rw [hq.out]
            simpa only [List.append_assoc, List.cons_append, List.nil_append] using H.out
        · have H := hide (WO.fail (A := A) (T := ([123]) ++ (quo (bl a)) ++ ([58]) ++ (quo (bl b))) (U := ([125])) (B3.out.trans hb4) (by first | exact q4 | (simp only [List.length_append] at q4 ⊢; omega)))
          clear hb4 q4
          go_wp2_with fail
          refine ⟨rfl, ?_⟩
          rw [hq.out]
          simpa only [List.append_assoc, List.cons_append, List.nil_append] using H.out
      · have H := hide (WO.fail (A := A) (T := ([123]) ++ (quo (bl a)) ++ ([58])) (U := (quo (bl b)) ++ ([125])) (B2.out.trans hb3) (by first | exact q3 | (simp only [List.length_append] at q3 ⊢; omega)))
        clear hb3 q3
        go_wp2_with fail
        refine ⟨rfl, ?_⟩
        rw [hq.out]
        simpa only [List.append_assoc, List.cons_append, List.nil_append] using H.out
    · have H := hide (WO.fail (A := A) (T := ([123]) ++ (quo (bl a))) (U := ([58]) ++ (quo (bl b)) ++ ([125])) (B1.out.trans hb2) (by first | exact q2 | (simp only [List.length_append] at q2 ⊢; omega)))
      clear hb2 q2
      go_wp2_with fail
      refine ⟨rfl, ?_⟩
      rw [hq.out]
      simpa only [List.append_assoc, List.cons_append, List.nil_append] using H.out
  · have H := hide (WO.fail (A := A) (T := ([123])) (U := (quo (bl a)) ++ ([58]) ++ (quo (bl b)) ++ ([125])) hb1 (by first | exact q1 | (simp only [List.length_append] at q1 ⊢; omega)))
    clear hb1 q1
    go_wp2_with fail
    refine ⟨rfl, ?_⟩
    rw [hq.out]
    simpa only [List.append_assoc, List.cons_append, List.nil_append] using H.out
/-- A bool's word. -/
def flgL (b : Bool) : List UInt8 := bif b then [116, 114, 117, 101] else [102, 97, 108, 115, 101]
set_option maxHeartbeats 2000000 in
set_option maxRecDepth 100000 in
theorem flag_true (A : List UInt8) (W : World) (i : Nat) (h : WB W i A) (hA : A.length ≤ 65536) :
    Calls Tryz.prog 53 #[.pointer (some ⟨i, 0, none⟩), .bool true] W fun e w' => WO i A (flgL true) W e w' := by
  have hp := hide (fun s A W (h : WB W i A) (hA : A.length ≤ 65536) (hs : s.size ≤ 281474976710656) => put_any s A W i h hA hs)
  have ht := hide (fun s A W (h : WB W i A) (hA : A.length ≤ 65536) (hs : s.size ≤ 281474976710656) => text_any s A W i h hA hs)
  have h' := hide h
  have hA' := hide hA
  clear h hA
  have hq := hide (show flgL true = [116, 114, 117, 101] from rfl)
  go_enter Tryz.func53, Tryz.ntmps53
  go_wp2_with (go_at_call 52; refine Sto.out ?_)
  refine Sto.mk ((hp.out ⟨#[116, 114, 117, 101]⟩ (A) W h'.out hA'.out (by decide)).mono ?_)
  rintro e w1 hw1
  replace hw1 : WO i (A) ([116, 114, 117, 101]) W e w1 := hw1
  have H := hide hw1
  rcases hw1 with ⟨_, ⟨_, rfl, _⟩ | ⟨_, rfl⟩⟩
  · go_wp2_with fail
    go_end0
    rw [hq.out]
    simpa only [List.append_assoc, List.cons_append, List.nil_append] using H.out
  · go_wp2_with fail
    refine ⟨rfl, ?_⟩
    rw [hq.out]
    simpa only [List.append_assoc, List.cons_append, List.nil_append] using H.out
set_option maxHeartbeats 2000000 in
set_option maxRecDepth 100000 in
theorem flag_false (A : List UInt8) (W : World) (i : Nat) (h : WB W i A) (hA : A.length ≤ 65536) :
    Calls Tryz.prog 53 #[.pointer (some ⟨i, 0, none⟩), .bool false] W fun e w' => WO i A (flgL false) W e w' := by
  have hp := hide (fun s A W (h : WB W i A) (hA : A.length ≤ 65536) (hs : s.size ≤ 281474976710656) => put_any s A W i h hA hs)
  have ht := hide (fun s A W (h : WB W i A) (hA : A.length ≤ 65536) (hs : s.size ≤ 281474976710656) => text_any s A W i h hA hs)
  have h' := hide h
  have hA' := hide hA
  clear h hA
  have hq := hide (show flgL false = [102, 97, 108, 115, 101] from rfl)
  go_enter Tryz.func53, Tryz.ntmps53
  go_wp2_with (go_at_call 52; refine Sto.out ?_)
  refine Sto.mk ((hp.out ⟨#[102, 97, 108, 115, 101]⟩ (A) W h'.out hA'.out (by decide)).mono ?_)
  rintro e w1 hw1
  replace hw1 : WO i (A) ([102, 97, 108, 115, 101]) W e w1 := hw1
  have H := hide hw1
  rcases hw1 with ⟨_, ⟨_, rfl, _⟩ | ⟨_, rfl⟩⟩
  · go_wp2_with fail
    go_end0
    rw [hq.out]
    simpa only [List.append_assoc, List.cons_append, List.nil_append] using H.out
  · go_wp2_with fail
    refine ⟨rfl, ?_⟩
    rw [hq.out]
    simpa only [List.append_assoc, List.cons_append, List.nil_append] using H.out
theorem flag_any (b : Bool) (A : List UInt8) (W : World) (i : Nat) (h : WB W i A) (hA : A.length ≤ 65536) :
    Calls Tryz.prog 53 #[.pointer (some ⟨i, 0, none⟩), .bool b] W fun e w' => WO i A (flgL b) W e w' := by
  cases b
  · exact flag_false A W i h hA
  · exact flag_true A W i h hA
/-- What parts an element from those ahead. -/
def cmL (n : Nat) : List UInt8 := bif n == 0 then [] else [44]
set_option maxHeartbeats 2000000 in
set_option maxRecDepth 100000 in
theorem comma_any (n : Nat) (A : List UInt8) (W : World) (i : Nat) (h : WB W i A) (hA : A.length ≤ 65536) :
    Calls Tryz.prog 93 #[.pointer (some ⟨i, 0, none⟩), .int .i64 n] W fun e w' => WO i A (cmL n) W e w' := by
  have hp := hide (fun s A W (h : WB W i A) (hA : A.length ≤ 65536) (hs : s.size ≤ 281474976710656) => put_any s A W i h hA hs)
  have ht := hide (fun s A W (h : WB W i A) (hA : A.length ≤ 65536) (hs : s.size ≤ 281474976710656) => text_any s A W i h hA hs)
  have h' := hide h
  have hA' := hide hA
  clear h hA
  by_cases hn : n = 0
  · subst hn
    go_enter Tryz.func93, Tryz.ntmps93
    go_wp2_with fail
    go_end0
    exact ⟨FW.refl _ _, Or.inl ⟨by have := hA'.out; simp [cmL]; omega, rfl, by simpa [cmL] using h'.out⟩⟩
  · have hq := hide (show cmL n = [44] by unfold cmL; rw [show (n == 0) = false by simpa using hn]; rfl)
    have hn1 : (0 : Int) < (n : Int) := by omega
    have hn' := hide hn
    clear hn
    go_enter Tryz.func93, Tryz.ntmps93
    go_wp2_with (go_at_call 52; refine Sto.out ?_)
    refine Sto.mk ((hp.out ⟨#[44]⟩ (A) W h'.out hA'.out (by decide)).mono ?_)
    rintro e w1 hw1
    replace hw1 : WO i (A) ([44]) W e w1 := hw1
    have H := hide hw1
    rcases hw1 with ⟨_, ⟨_, rfl, _⟩ | ⟨_, rfl⟩⟩
    · go_wp2_with fail
      go_end0
      rw [hq.out]
      simpa only [List.append_assoc, List.cons_append, List.nil_append] using H.out
    · go_wp2_with fail
      refine ⟨rfl, ?_⟩
      rw [hq.out]
      simpa only [List.append_assoc, List.cons_append, List.nil_append] using H.out
end Go.Proofs.YtoaacfhjejmbnaaGreatDoor
/- calamusref01's all, Is, Check, Made: walked. -/
namespace Go.Proofs.YtoaacfhjejmbnaaGreatDoor
open Go.RowKit
set_option linter.unusedSimpArgs false
set_option linter.unusedVariables false
end Go.Proofs.YtoaacfhjejmbnaaGreatDoor
/- calamusref01's Zeros, less: walked. -/
namespace Go.Proofs.YtoaacfhjejmbnaaGreatDoor
open Go.RowKit
set_option linter.unusedSimpArgs false
set_option linter.unusedVariables false
end Go.Proofs.YtoaacfhjejmbnaaGreatDoor
/- calamusref01's less: walked. -/
namespace Go.Proofs.YtoaacfhjejmbnaaGreatDoor
open Go.RowKit
set_option linter.unusedSimpArgs false
set_option linter.unusedVariables false
end Go.Proofs.YtoaacfhjejmbnaaGreatDoor
