/- utf's Count, Decode: walked. -/
import Derived.Test.YtefiklklppfimaaDoorUfText
import Derived.Lib.RuneCount
namespace Go.Proofs.YtefiklklppfimaaDoor
open Go.RowKit
set_option linter.unusedSimpArgs false
set_option linter.unusedVariables false
/-- How far a range over a text goes at a time. -/
def wid (l : List UInt8) : Nat := ((chr l).getD (65533, 1)).2
/-- How many rounds a range over a text has. -/
def cnt : Nat → List UInt8 → Nat
  | 0, _ => 0
  | _ + 1, [] => 0
  | f + 1, a :: l => 1 + cnt f ((a :: l).drop (wid (a :: l)))
theorem wid_pos (l : List UInt8) : 1 ≤ wid l := by
  unfold wid
  cases h : chr l with
  | none => simp
  | some rn => obtain ⟨r, n⟩ := rn; exact (chr_some h).1
theorem wid_le {l : List UInt8} (h : l ≠ []) : wid l ≤ l.length := by
  unfold wid
  cases hc : chr l with
  | none => cases l with
    | nil => exact absurd rfl h
    | cons a l => simp
  | some rn => obtain ⟨r, n⟩ := rn; exact (chr_some hc).2.2.1
theorem cnt_le : ∀ (f : Nat) (l : List UInt8), cnt f l ≤ f
  | 0, _ => Nat.le_refl _
  | _ + 1, [] => Nat.zero_le _
  | f + 1, a :: l => by have := cnt_le f ((a :: l).drop (wid (a :: l))); simp only [cnt]; omega
/-- More rounds than bytes change nothing. -/
theorem cnt_more : ∀ (f : Nat) (l : List UInt8), l.length ≤ f → cnt f l = cnt l.length l
  | 0, l, h => by have : l = [] := List.length_eq_zero_iff.1 (by omega); subst this; rfl
  | f + 1, [], h => rfl
  | f + 1, a :: l, h => by
    have hw := wid_pos (a :: l)
    have hd : ((a :: l).drop (wid (a :: l))).length ≤ l.length := by rw [List.length_drop, List.length_cons]; omega
    simp only [List.length_cons] at h
    simp only [cnt, List.length_cons]
    rw [cnt_more f _ (by omega), cnt_more l.length _ hd]
/-- How many characters a text has. -/
def chars (l : List UInt8) : Nat := cnt l.length l
theorem chars_nil : chars [] = 0 := rfl
theorem chars_step {l : List UInt8} (h : l ≠ []) : chars l = 1 + chars (l.drop (wid l)) := by
  cases l with
  | nil => exact absurd rfl h
  | cons a l =>
    unfold chars
    have hw := wid_pos (a :: l)
    have hd : ((a :: l).drop (wid (a :: l))).length ≤ l.length := by rw [List.length_drop, List.length_cons]; omega
    simp only [List.length_cons, cnt]
    rw [cnt_more l.length _ hd]
theorem chars_le (l : List UInt8) : chars l ≤ l.length := cnt_le _ _
theorem decode_wid (s : ByteArray) (i : Nat) (h : i < s.size) : (Utf8.decode s i).2 = wid ((bl s).drop i) := by rw [decode_chr s i h]; rfl
set_option maxHeartbeats 1000000 in
theorem count_any (s : ByteArray) (w : World) (g : Gu w) (hs : s.size < 9223372036854775807) :
    Calls Tryd.prog 9 #[.string s] w fun r w' => r = .returned (.tuple (if okT (bl s) then #[.int .i64 (chars (bl s) : Nat), .int .i64 0] else #[.int .i64 0, .int .i64 30])) ∧ Below w.heap.size w w' := by
  have hv := hide (valid_any s w g hs)
  clear g
  cases hk : okT (bl s)
  · rw [hk] at hv
    go_enter Tryd.func9, Tryd.ntmps9
    go_wp2_with (go_at_call 12; refine hv.out.mono ?_; rintro r w1 ⟨rfl, hb1⟩)
    go_ret2
    exact ⟨rfl, hb1⟩
  · rw [hk] at hv
    go_enter Tryd.func9, Tryd.ntmps9
    go_wp2_with (go_at_call 12; refine hv.out.mono ?_; rintro r w1 ⟨rfl, hb1⟩; have hb1 := hide hb1)
    go_loopw [4] (fun n w' => ∃ (pos acc : Nat), w' = w1.iter s pos ∧ n = .int .i64 acc ∧ Hid (pos ≤ s.size) ∧ Hid (acc + chars ((bl s).drop pos) = chars (bl s)) ∧ acc ≤ pos) (fun _ w' => s.size - w'.iterPos w1.heap.size)
    case atStart => exact ⟨0, 0, rfl, rfl, Nat.zero_le _, by show 0 + chars (List.drop 0 _) = _; rw [List.drop_zero, Nat.zero_add], Nat.le_refl _⟩
    case round =>
      obtain ⟨pos, acc, rfl, rfl, hle, hc, ha⟩ := hrel
      by_cases hp : pos < s.size
      · have hnx : ∀ ty, (Instr.next (.pointer (some ⟨w1.heap.size, 0, none⟩)) true ty).run Tryd.prog (w1.iter s pos) = _ := fun ty => run_next_any w1 s pos ty hp
        have hwd := decode_wid s pos hp
        have hne : (bl s).drop pos ≠ [] := by intro q; have := congrArg List.length q; rw [List.length_drop, bl_length] at this; simp at this; omega
        have hw1 := wid_pos ((bl s).drop pos)
        have hw2 := wid_le hne
        rw [List.length_drop, bl_length] at hw2
        have hstep := hide (chars_step hne)
        rw [hwd] at hnx
        clear hne hwd
        go_wp2
        go_roundw
        case rel =>
          refine ⟨pos + wid ((bl s).drop pos), acc + 1, rfl, by go_num, show _ ≤ _ by omega, ?_, by omega⟩
          show acc + 1 + chars ((bl s).drop (pos + wid ((bl s).drop pos))) = chars (bl s)
          rw [← hc.out, hstep.out, List.drop_drop]
          omega
        case measure =>
          simp
          omega
      · have hnx : ∀ ty, (Instr.next (.pointer (some ⟨w1.heap.size, 0, none⟩)) true ty).run Tryd.prog (w1.iter s pos) = _ := fun ty => run_next_end w1 s pos ty hp
        go_wp2
        go_ret2
        refine ⟨?_, below_al hb1.out⟩
        have hpe : (bl s).drop pos = [] := List.drop_of_length_le (by rw [bl_length]; omega)
        have := hc.out
        rw [hpe, chars_nil, Nat.add_zero] at this
        subst this
        rfl
/-- What stands at the front: a character and its length, or an error. -/
def decF (l : List UInt8) : Nat × Nat × Nat := match chr l with
  | some (r, n) => (r, n, 0)
  | none => if (run .i8 l).isSome then (0, 0, 31) else (0, 0, 30)
/-- What Decode answers. -/
def decA (l : List UInt8) (at' : Int) : Nat × Nat × Nat := if 0 ≤ at' ∧ at' < l.length then decF (l.drop at'.toNat) else (0, 0, 1)
theorem extract_bl (s : ByteArray) (pos : Nat) : bl (s.extract pos s.size) = (bl s).drop pos := by
  have := Lib.extract_eq s pos s.size
  rw [this]
  show (((bl s).drop pos).take (s.size - pos)) = _
  exact List.take_of_length_le (by rw [List.length_drop, bl_length]; omega)
theorem decodeGo_chr (s : ByteArray) (h : 0 < s.size) : Lib.decodeGo s = (chr (bl s)).getD (65533, 1) := by
  unfold Lib.decodeGo
  rw [if_neg (by omega), decode_chr s 0 h, List.drop_zero]
set_option maxHeartbeats 1000000 in
theorem decode_any (s : ByteArray) (at' : Int) (w : World) (g : Gu w) (hT : Lib.Utf8Tabs 2 3 w) (hs : s.size < 9223372036854775807) :
    Calls Tryd.prog 15 #[.string s, .int .i64 at'] w fun r w' => r = .returned (.tuple #[.int .i64 (decA (bl s) at').1, .int .i64 (decA (bl s) at').2.1, .int .i64 (decA (bl s) at').2.2]) ∧ Below w.heap.size w w' := by
  unfold decA
  rw [bl_length]
  by_cases hr : 0 ≤ at' ∧ at' < (s.size : Int)
  · rw [if_pos hr]
    obtain ⟨pos, rfl⟩ := Int.eq_ofNat_of_zero_le hr.1
    rw [Int.toNat_natCast]
    have hp : pos < s.size := by omega
    obtain ⟨t, ht⟩ : ∃ t, s.extract pos s.size = t := ⟨_, rfl⟩
    have htb : bl t = (bl s).drop pos := by rw [← ht]; exact extract_bl s pos
    have hts : t.size = s.size - pos := by rw [← bl_length, htb, List.length_drop, bl_length]
    have hdg := decodeGo_chr t (by omega)
    rw [← htb]
    have hd := hide (decodeRune_any t w hT)
    have hh : (0 : Int) ≤ (pos : Int) ∧ ¬ ((pos : Int) < 0) ∧ ¬ ((s.size : Int) ≤ (pos : Int)) := by omega
    obtain ⟨g1, g2, g3⟩ := hh
    cases hc : chr (bl t) with
    | some rn =>
      obtain ⟨r, n⟩ := rn
      have hdf : decF (bl t) = (r, n, 0) := by unfold decF; rw [hc]
      rw [hdf]
      rw [hc] at hdg
      simp only [Option.getD_some] at hdg
      rw [hdg] at hd
      obtain ⟨n1, n4, nl, hrn, hv, _⟩ := chr_some hc
      have hrv := (valid_iff r).1 hv
      have hwr : IntKind.i64.wrap (r : Int) = r := by rw [IntKind.wrap_i64]; omega
      have hbig : r = 65533 → 1 < n := by
        intro e; subst e
        rcases chr_cases hc with ⟨a, t, _, rfl, h1, h2⟩ | ⟨a, b, t, _, rfl, h⟩ | ⟨a, b, c, t, _, rfl, h⟩ | ⟨a, b, c, d, t, _, rfl, h⟩ <;> omega
      clear hdg hdf hc hrn hv
      by_cases h5 : r = 65533
      · have h6 : (1 : Int) < n := by have := hbig h5; omega
        subst h5
        go_enter Tryd.func15, Tryd.ntmps15
        go_wp2_with (go_at_call 25; refine hd.out.mono ?_; rintro r w1 ⟨rfl, hb1⟩; have hb1 := hide hb1)
        go_ret3
        exact ⟨rfl, hb1.out⟩
      · have h6 : ¬ ((r : Int) = 65533) := by omega
        go_enter Tryd.func15, Tryd.ntmps15
        go_wp2_with (go_at_call 25; refine hd.out.mono ?_; rintro r w1 ⟨rfl, hb1⟩; have hb1 := hide hb1)
        go_ret3
        exact ⟨rfl, hb1.out⟩
    | none =>
      rw [hc] at hdg
      simp only [Option.getD_none] at hdg
      rw [hdg] at hd
      have g := hide g
      obtain ⟨o, ho⟩ : ∃ o, run .i8 (bl t) = o := ⟨_, rfl⟩
      have hth := hide (fun w g => thru_b0 t w g (by omega))
      have hdf : decF (bl t) = if o.isSome then (0, 0, 31) else (0, 0, 30) := by unfold decF; rw [hc, ho]
      rw [hdf]
      rw [ho] at hth
      clear hdg hdf hc ho
      cases o with
      | none =>
        simp only [stV, sp] at hth
        go_enter Tryd.func15, Tryd.ntmps15
        go_wp2_with (first | (go_at_call 25; refine hd.out.mono ?_; rintro r w1 ⟨rfl, hb1⟩; obtain ⟨d0, d1, d2, d3, d4, d5, d6, d7⟩ := (g.out.below hb1).bts; have hb1 := hide hb1) | (go_at_call 21; refine (hth.out _ (g.out.below hb1.out)).mono ?_; rintro r w2 ⟨rfl, hb2⟩; have hb2 := hide (below_then hb1.out hb2)))
        go_ret3
        exact ⟨rfl, by first | exact hb2.out | exact below_al hb2.out⟩
      | some q =>
        obtain ⟨a, b, c, d, e, f, g2', h, e1, heq⟩ := spV_ex q
        simp only [stV, e1, sp] at hth
        clear e1 heq
        go_enter Tryd.func15, Tryd.ntmps15
        go_wp2_with (first | (go_at_call 25; refine hd.out.mono ?_; rintro r w1 ⟨rfl, hb1⟩; obtain ⟨d0, d1, d2, d3, d4, d5, d6, d7⟩ := (g.out.below hb1).bts; have hb1 := hide hb1) | (go_at_call 21; refine (hth.out _ (g.out.below hb1.out)).mono ?_; rintro r w2 ⟨rfl, hb2⟩; have hb2 := hide (below_then hb1.out hb2)))
        go_ret3
        exact ⟨rfl, by first | exact hb2.out | exact below_al hb2.out⟩
  · rw [if_neg hr]
    by_cases h1 : at' < 0
    · go_enter Tryd.func15, Tryd.ntmps15
      go_wp2
      go_ret3
      exact ⟨rfl, Below.refl _ _⟩
    · have h2 : (s.size : Int) ≤ at' := by omega
      have h3 : (0 : Int) ≤ at' := by omega
      clear hr
      go_enter Tryd.func15, Tryd.ntmps15
      go_wp2
      go_ret3
      exact ⟨rfl, Below.refl _ _⟩
end Go.Proofs.YtefiklklppfimaaDoor
