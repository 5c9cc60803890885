/- calamuslaw03.UtfParts: walked. -/
import Derived.Test.YtefiklklppfimaaDoorUjLaw
import Derived.Deep.RegionWith
namespace Go.Proofs.YtefiklklppfimaaDoor
open Go.RowKit
set_option linter.unusedSimpArgs false
set_option linter.unusedVariables false
/-- A slice of ints reads as z. -/
def SI (w : World) (v : Value) (z : List Int) : Prop :=
  (v = .slice none 0 0 ∧ z = []) ∨ ∃ (a : Addr) (c : Nat), v = .slice (some a) z.length c ∧ z.length ≤ c ∧ c ≤ maxLen ∧ ∀ i (h : i < z.length), a.block < w.heap.size ∧ w.cell? (a.add i) = some (.int .i64 z[i]) ∧ -9223372036854775808 ≤ z[i] ∧ z[i] ≤ 9223372036854775807
theorem SI.below {w W : World} {v : Value} {z : List Int} (h : SI w v z) (hb : Below w.heap.size w W) : SI W v z := by
  rcases h with ⟨rfl, rfl⟩ | ⟨a, c, rfl, h1, h2, hc⟩
  · exact Or.inl ⟨rfl, rfl⟩
  · exact Or.inr ⟨a, c, rfl, h1, h2, fun i hi => ⟨Nat.lt_of_lt_of_le (hc i hi).1 hb.size, (hb.cell (p := a.add i) (by rw [add_block]; exact (hc i hi).1)).trans (hc i hi).2.1, (hc i hi).2.2⟩⟩
theorem SI.len {w : World} {v : Value} {z : List Int} (h : SI w v z) : ∃ a c, v = .slice a z.length c ∧ z.length ≤ c ∧ c ≤ maxLen := by
  rcases h with ⟨rfl, rfl⟩ | ⟨a, c, rfl, h1, h2, _⟩
  · exact ⟨none, 0, rfl, Nat.le_refl _, by decide⟩
  · exact ⟨some a, c, rfl, h1, h2⟩
/-- A piece of a slice of bytes. -/
theorem SL.piece {w : World} {a : Addr} {c : Nat} {l : List UInt8} (h : SL w (.slice (some a) l.length c) l) (lo hi : Nat) (h1 : lo ≤ hi) (h2 : hi ≤ l.length) : SL w (.slice (some (a.add lo)) (hi - lo) (c - lo)) ((l.drop lo).take (hi - lo)) := by
  have hl : ((l.drop lo).take (hi - lo)).length = hi - lo := by rw [List.length_take, List.length_drop]; omega
  rcases h with ⟨e, _⟩ | ⟨a', c', e, h3, h4, hc⟩
  · cases e
  · simp only [Value.slice.injEq, Option.some.injEq] at e
    obtain ⟨rfl, _, rfl⟩ := e
    refine Or.inr ⟨a.add lo, c - lo, by rw [hl], by rw [hl]; omega, by omega, fun i hi' => ?_⟩
    rw [hl] at hi'
    obtain ⟨k1, k2⟩ := hc (lo + i) (by omega)
    refine ⟨by rw [add_block]; exact k1, ?_⟩
    rw [add_add, k2]
    simp
theorem SL.empty (w : World) (a : Addr) (c : Nat) (hc : c ≤ maxLen) : SL w (.slice (some a) 0 c) [] := Or.inr ⟨a, c, rfl, Nat.zero_le _, hc, fun i hi => by simp at hi⟩
/-- Where UtfParts stands: a checker that was fed so many bytes. -/
structure Pt (w : World) (i : Nat) (l : List UInt8) (pos : Nat) (W : World) : Prop where
  ck : Ck w i (run .i8 (l.take pos)) W
  le : pos ≤ l.length
theorem run_more (l : List UInt8) (pos e : Nat) (h : pos ≤ e) : ((run .i8 (l.take pos)).bind fun q => run q ((l.drop pos).take (e - pos))) = run .i8 (l.take e) := by
  have hs : l.take e = l.take pos ++ (l.drop pos).take (e - pos) := by
    rw [← List.take_add, show pos + (e - pos) = e by omega]
  rw [hs]
  cases hr : run .i8 (l.take pos) with
  | none => rw [run_app_no hr]; rfl
  | some q => rw [run_app hr]; rfl
theorem end_ok (l : List UInt8) : (((endE (run .i8 (l.take l.length)) : Nat) : Int) == 0) = okT l := by
  rw [List.take_length]
  unfold okT endE
  cases run .i8 l with
  | none => rfl
  | some q => cases q <;> rfl
set_option maxHeartbeats 2000000 in
set_option maxRecDepth 100000 in
theorem parts_some (a : Addr) (c : Nat) (l : List UInt8) (vc : Value) (z : List Int) (w : World) (g : Gx w) (sl : SL w (.slice (some a) l.length c) l) (si : SI w vc z) :
    Calls Tryd.prog 6 #[.slice (some a) l.length c, vc] w fun r w' => r = .returned (.bool true) ∧ Below w.heap.size w w' := by
  have ml : maxLen = 2 ^ 63 - 1 := rfl
  have g0 := hide g
  have hsz := g.sz
  clear g
  obtain ⟨a0, c0, hc1, hc2⟩ := sl.len
  obtain ⟨ac, cc, rfl, hz1, hz2⟩ := si.len
  have hlc : l.length ≤ c ∧ c ≤ maxLen := by simp only [Value.slice.injEq] at hc1; obtain ⟨_, _, rfl⟩ := hc1; exact hc2
  clear hc1 hc2
  have hlc1 := hlc.1
  have hlc2 := hlc.2
  clear hlc
  have sl := hide sl
  have si := hide si
  by_cases hl1 : (16384 : Int) < (l.length : Int)
  · go_enter Tryd.func6, Tryd.ntmps6
    go_wp2
    go_ret
    exact ⟨rfl, Below.refl _ _⟩
  · by_cases hl2 : (200 : Int) < (z.length : Int)
    · go_enter Tryd.func6, Tryd.ntmps6
      go_wp2
      go_ret
      exact ⟨rfl, Below.refl _ _⟩
    · go_enter Tryd.func6, Tryd.ntmps6
      go_wp2_with (go_at_call 17; refine (new_any _).mono ?_; rintro e w1 ⟨rfl, hk1, hb1⟩; have P0 : Hid (Pt w w.heap.size l 0 w1) := ⟨⟨hb1, hk1, Nat.le_refl _, g0.out.below hb1⟩, Nat.zero_le _⟩; clear hk1 hb1)
      go_loopw [6, 7] (fun at' i w' => ∃ (pos k : Nat), at' = .int .i64 pos ∧ i = .int .i64 k ∧ k ≤ z.length + 1 ∧ pos ≤ l.length ∧ (k = z.length + 1 → pos = l.length) ∧ Hid (Pt w w.heap.size l pos w')) (fun _ i _ => z.length + 1 - (intOf i).toNat)
      case atStart => exact ⟨0, 0, rfl, rfl, by omega, by omega, by omega, P0.out⟩
      case round =>
        obtain ⟨pos, k, rfl, rfl, hk, hpl, hlast, P⟩ := hrel
        have sl1 := hide (sl.out.below P.out.ck.below)
        have si1 := hide (si.out.below P.out.ck.below)
        by_cases hk1 : k < z.length
        · have hze : ∃ a1, ac = some a1 := by
            rcases si1.out with ⟨e, hz⟩ | ⟨a1, c1, e, _⟩
            · subst hz; simp at hk1
            · simp only [Value.slice.injEq] at e; exact ⟨a1, e.1⟩
          obtain ⟨a1, rfl⟩ := hze
          have hzc : wr.cell? (a1.add k) = some (.int .i64 z[k]) ∧ -9223372036854775808 ≤ z[k] ∧ z[k] ≤ 9223372036854775807 := by
            rcases si1.out with ⟨e, _⟩ | ⟨a2, c2, e, _, _, hc⟩
            · cases e
            · simp only [Value.slice.injEq, Option.some.injEq] at e
              obtain ⟨rfl, _, _⟩ := e
              exact ⟨(hc k hk1).2.1, (hc k hk1).2.2⟩
          obtain ⟨zk, hzk⟩ : ∃ zk, z[k] = zk := ⟨_, rfl⟩
          rw [hzk] at hzc
          obtain ⟨hzc, hzl, hzh⟩ := hzc
          clear hzk
          by_cases hcut : 0 ≤ zk ∧ zk < (l.length : Int) - (pos : Int)
          · obtain ⟨zn, rfl⟩ := Int.eq_ofNat_of_zero_le hcut.1
            have hz3 := hcut.2
            clear hcut
            have hpc := hide (sl1.out.piece pos (pos + zn) (by omega) (by omega))
            rw [show pos + zn - pos = zn by omega] at hpc
            have hrm := run_more l pos (pos + zn) (by omega)
            rw [show pos + zn - pos = zn by omega] at hrm
            have hrm := hide hrm
            go_wp2_with fail
            refine (feed_any w.heap.size _ _ _ _ P.out.ck.gx.gu P.out.ck.kb hpc.out (by rw [List.length_take]; omega)).mono ?_
            rintro e w2 ⟨rfl, hk2, hb2⟩
            rw [hrm.out] at hk2
            have P2 : Hid (Pt w w.heap.size l (pos + zn) w2) := ⟨P.out.ck.fed hsz hb2 hk2, by omega⟩
            clear hk2 hb2
            go_wp2
            refine ⟨⟨pos + zn, k + 1, ?_, by go_num, by omega, by omega, by omega, P2.out⟩, by simp [intOf]; omega⟩
            show Value.int _ _ = Value.int _ _
            congr 1
          · have hnc : ¬ (0 ≤ zk) ∨ ¬ (zk < (l.length : Int) - (pos : Int)) := by omega
            have hpc := hide (sl1.out.piece pos l.length hpl (Nat.le_refl _))
            have hrm := hide (run_more l pos l.length hpl)
            clear hcut
            rcases hnc with hnc | hnc
            · have hnc1 : ¬ (0 ≤ zk) := hnc
              rcases Nat.lt_or_ge pos c with hpc1 | hpc1
              · have hpc2 : ¬ (c - pos = 0) := by omega
                have hpc3 : ¬ ((c : Int) - (pos : Int) = 0) := by omega
                go_wp2_with fail
                refine (feed_any w.heap.size _ _ _ _ P.out.ck.gx.gu P.out.ck.kb hpc.out (by rw [List.length_take]; omega)).mono ?_
                rintro e w2 ⟨rfl, hk2, hb2⟩
                rw [hrm.out] at hk2
                have P2 : Hid (Pt w w.heap.size l l.length w2) := ⟨P.out.ck.fed hsz hb2 hk2, Nat.le_refl _⟩
                clear hk2 hb2
                go_wp2
                exact ⟨⟨l.length, k + 1, rfl, by go_num, by omega, by omega, by omega, P2.out⟩, by simp [intOf]; omega⟩
              · have e1 : c = l.length := by omega
                have e2 : pos = l.length := by omega
                clear hpc hrm hpc1
                subst e2
                subst e1
                have hrm0 : ((run .i8 (l.take l.length)).bind fun q => run q []) = run .i8 (l.take l.length) := by cases run .i8 (l.take l.length) <;> rfl
                have hrm0 := hide hrm0
                have hem := hide (SL.empty wr a 0 (by decide))
                go_wp2_with fail
                refine (feed_any w.heap.size _ _ _ _ P.out.ck.gx.gu P.out.ck.kb hem.out (by simp)).mono ?_
                rintro e w2 ⟨rfl, hk2, hb2⟩
                rw [hrm0.out] at hk2
                have P2 : Hid (Pt w w.heap.size l l.length w2) := ⟨P.out.ck.fed hsz hb2 hk2, Nat.le_refl _⟩
                clear hk2 hb2
                go_wp2
                exact ⟨⟨l.length, k + 1, rfl, by go_num, by omega, by omega, by omega, P2.out⟩, by simp [intOf]; omega⟩
            · have hz0 : 0 ≤ zk := by omega
              have hnc1 : ¬ (zk < (l.length : Int) - (pos : Int)) := hnc
              rcases Nat.lt_or_ge pos c with hpc1 | hpc1
              · have hpc2 : ¬ (c - pos = 0) := by omega
                have hpc3 : ¬ ((c : Int) - (pos : Int) = 0) := by omega
                go_wp2_with fail
                refine (feed_any w.heap.size _ _ _ _ P.out.ck.gx.gu P.out.ck.kb hpc.out (by rw [List.length_take]; omega)).mono ?_
                rintro e w2 ⟨rfl, hk2, hb2⟩
                rw [hrm.out] at hk2
                have P2 : Hid (Pt w w.heap.size l l.length w2) := ⟨P.out.ck.fed hsz hb2 hk2, Nat.le_refl _⟩
                clear hk2 hb2
                go_wp2
                exact ⟨⟨l.length, k + 1, rfl, by go_num, by omega, by omega, by omega, P2.out⟩, by simp [intOf]; omega⟩
              · have e1 : c = l.length := by omega
                have e2 : pos = l.length := by omega
                clear hpc hrm hpc1
                subst e2
                subst e1
                have hrm0 : ((run .i8 (l.take l.length)).bind fun q => run q []) = run .i8 (l.take l.length) := by cases run .i8 (l.take l.length) <;> rfl
                have hrm0 := hide hrm0
                have hem := hide (SL.empty wr a 0 (by decide))
                go_wp2_with fail
                refine (feed_any w.heap.size _ _ _ _ P.out.ck.gx.gu P.out.ck.kb hem.out (by simp)).mono ?_
                rintro e w2 ⟨rfl, hk2, hb2⟩
                rw [hrm0.out] at hk2
                have P2 : Hid (Pt w w.heap.size l l.length w2) := ⟨P.out.ck.fed hsz hb2 hk2, Nat.le_refl _⟩
                clear hk2 hb2
                go_wp2
                exact ⟨⟨l.length, k + 1, rfl, by go_num, by omega, by omega, by omega, P2.out⟩, by simp [intOf]; omega⟩
        · by_cases hk2 : k = z.length
          · have hpc := hide (sl1.out.piece pos l.length hpl (Nat.le_refl _))
            have hrm := hide (run_more l pos l.length hpl)
            have hk3 : ¬ ((k : Int) < (z.length : Int)) := by omega
            have hk4 : (k : Int) ≤ (z.length : Int) := by omega
            have hke := hide hk2
            clear hk2
            rcases Nat.lt_or_ge pos c with hpc1 | hpc1
            · have hpc2 : ¬ (c - pos = 0) := by omega
              have hpc3 : ¬ ((c : Int) - (pos : Int) = 0) := by omega
              go_wp2_with fail
              refine (feed_any w.heap.size _ _ _ _ P.out.ck.gx.gu P.out.ck.kb hpc.out (by rw [List.length_take]; omega)).mono ?_
              rintro e w2 ⟨rfl, hk2, hb2⟩
              rw [hrm.out] at hk2
              have P2 : Hid (Pt w w.heap.size l l.length w2) := ⟨P.out.ck.fed hsz hb2 hk2, Nat.le_refl _⟩
              clear hk2 hb2
              go_wp2
              exact ⟨⟨l.length, k + 1, rfl, by go_num, by have := hke.out; omega, by omega, by omega, P2.out⟩, by simp [intOf]; omega⟩
            · have e1 : c = l.length := by omega
              have e2 : pos = l.length := by omega
              clear hpc hrm hpc1
              subst e2
              subst e1
              have hrm0 : ((run .i8 (l.take l.length)).bind fun q => run q []) = run .i8 (l.take l.length) := by cases run .i8 (l.take l.length) <;> rfl
              have hrm0 := hide hrm0
              have hem := hide (SL.empty wr a 0 (by decide))
              go_wp2_with fail
              refine (feed_any w.heap.size _ _ _ _ P.out.ck.gx.gu P.out.ck.kb hem.out (by simp)).mono ?_
              rintro e w2 ⟨rfl, hk2, hb2⟩
              rw [hrm0.out] at hk2
              have P2 : Hid (Pt w w.heap.size l l.length w2) := ⟨P.out.ck.fed hsz hb2 hk2, Nat.le_refl _⟩
              clear hk2 hb2
              go_wp2
              exact ⟨⟨l.length, k + 1, rfl, by go_num, by have := hke.out; omega, by omega, by omega, P2.out⟩, by simp [intOf]; omega⟩
          · have hk3 : ¬ ((k : Int) ≤ (z.length : Int)) := by omega
            have hpe := hlast (by omega)
            subst hpe
            have hfin := end_ok l
            rw [List.take_length] at hfin
            have hbm := bl_mkB l
            go_wp2_with fail
            go_region_with (first | (go_at_call 11; refine (awake_any wr.drew (P.out.ck.then (Below.refl _ _).drew).gx).mono ?_; rintro e v1 ⟨rfl, hb1⟩; have C1 := hide ((P.out.ck.then (Below.refl _ _).drew).then hb1); have hcv1 := (sl.out.below C1.out.below).conv; clear hb1) | (go_at_call 20; refine (end_any w.heap.size _ v1 C1.out.gx.gu C1.out.kb).mono ?_; rintro e v2 ⟨rfl, hb2⟩; have C2 := hide (C1.out.then hb2); have hcv2 := (sl.out.below C2.out.below).conv; clear hb2) | (go_at_call 12; refine (valid_any (mkB l) v2 C2.out.gx.gu (by rw [mkB_size]; omega)).mono ?_; rintro e v3 ⟨rfl, hb3⟩; have C3 := hide (C2.out.then hb3); clear hb3))
            all_goals
              go_wp2
              go_ret
              refine ⟨?_, C3.out.below⟩
              refine congrArg Ending.returned (show Value.bool _ = Value.bool true from congrArg Value.bool ?_)
              first | (simp [hbm]; done) | (simp [hbm]; exact hfin)
set_option maxHeartbeats 2000000 in
set_option maxRecDepth 100000 in
theorem parts_nil (vc : Value) (z : List Int) (w : World) (g : Gx w) (si : SI w vc z) :
    Calls Tryd.prog 6 #[.slice none 0 0, vc] w fun r w' => r = .returned (.bool true) ∧ Below w.heap.size w w' := by
  have ml : maxLen = 2 ^ 63 - 1 := rfl
  have g0 := hide g
  have hsz := g.sz
  clear g
  obtain ⟨ac, cc, rfl, hz1, hz2⟩ := si.len
  have sl : Hid (SL w (.slice none 0 0) []) := Or.inl ⟨rfl, rfl⟩
  have si := hide si
  by_cases hl2 : (200 : Int) < (z.length : Int)
  · go_enter Tryd.func6, Tryd.ntmps6
    go_wp2
    go_ret
    exact ⟨rfl, Below.refl _ _⟩
  · go_enter Tryd.func6, Tryd.ntmps6
    go_wp2_with (go_at_call 17; refine (new_any _).mono ?_; rintro e w1 ⟨rfl, hk1, hb1⟩; have P0 : Hid (Ck w w.heap.size (some .i8) w1) := ⟨hb1, hk1, Nat.le_refl _, g0.out.below hb1⟩; clear hk1 hb1)
    go_loopw [6, 7] (fun at' i w' => ∃ (k : Nat), at' = .int .i64 0 ∧ i = .int .i64 k ∧ k ≤ z.length + 1 ∧ Hid (Ck w w.heap.size (some .i8) w')) (fun _ i _ => z.length + 1 - (intOf i).toNat)
    case atStart => exact ⟨0, rfl, rfl, by omega, P0.out⟩
    case round =>
      obtain ⟨k, rfl, rfl, hk, P⟩ := hrel
      have si1 := hide (si.out.below P.out.below)
      have hem : Hid (SL wr (.slice none 0 0) []) := Or.inl ⟨rfl, rfl⟩
      by_cases hk1 : k < z.length
      · have hze : ∃ a1, ac = some a1 := by
          rcases si1.out with ⟨e, hz⟩ | ⟨a1, c1, e, _⟩
          · subst hz; simp at hk1
          · simp only [Value.slice.injEq] at e; exact ⟨a1, e.1⟩
        obtain ⟨a1, rfl⟩ := hze
        have hzc : wr.cell? (a1.add k) = some (.int .i64 z[k]) ∧ -9223372036854775808 ≤ z[k] ∧ z[k] ≤ 9223372036854775807 := by
          rcases si1.out with ⟨e, _⟩ | ⟨a2, c2, e, _, _, hc⟩
          · cases e
          · simp only [Value.slice.injEq, Option.some.injEq] at e
            obtain ⟨rfl, _, _⟩ := e
            exact ⟨(hc k hk1).2.1, (hc k hk1).2.2⟩
        obtain ⟨zk, hzk⟩ : ∃ zk, z[k] = zk := ⟨_, rfl⟩
        rw [hzk] at hzc
        obtain ⟨hzc, hzl, hzh⟩ := hzc
        clear hzk
        by_cases hz0 : 0 ≤ zk
        · have hz3 : ¬ (zk < 0) := by omega
          go_wp2_with fail
          refine (feed_any w.heap.size (some .i8) _ [] _ P.out.gx.gu P.out.kb hem.out (by simp)).mono ?_
          rintro e w2 ⟨rfl, hk2, hb2⟩
          have P2 : Hid (Ck w w.heap.size (some .i8) w2) := P.out.fed hsz hb2 hk2
          clear hk2 hb2
          go_wp2
          exact ⟨⟨k + 1, rfl, by go_num, by omega, P2.out⟩, by simp [intOf]; omega⟩
        · have hz3 : zk < 0 := by omega
          go_wp2_with fail
          refine (feed_any w.heap.size (some .i8) _ [] _ P.out.gx.gu P.out.kb hem.out (by simp)).mono ?_
          rintro e w2 ⟨rfl, hk2, hb2⟩
          have P2 : Hid (Ck w w.heap.size (some .i8) w2) := P.out.fed hsz hb2 hk2
          clear hk2 hb2
          go_wp2
          exact ⟨⟨k + 1, rfl, by go_num, by omega, P2.out⟩, by simp [intOf]; omega⟩
      · by_cases hk2 : k = z.length
        · have hk3 : ¬ ((k : Int) < (z.length : Int)) := by omega
          have hk4 : (k : Int) ≤ (z.length : Int) := by omega
          have hke := hide hk2
          clear hk2
          go_wp2_with fail
          refine (feed_any w.heap.size (some .i8) _ [] _ P.out.gx.gu P.out.kb hem.out (by simp)).mono ?_
          rintro e w2 ⟨rfl, hk2, hb2⟩
          have P2 : Hid (Ck w w.heap.size (some .i8) w2) := P.out.fed hsz hb2 hk2
          clear hk2 hb2
          go_wp2
          exact ⟨⟨k + 1, rfl, by go_num, by have := hke.out; omega, P2.out⟩, by simp [intOf]; omega⟩
        · have hk3 : ¬ ((k : Int) ≤ (z.length : Int)) := by omega
          have hok : okT (bl (mkB [])) = true := rfl
          have hee : endE (some .i8) = 0 := rfl
          go_wp2_with fail
          go_region_with (first | (go_at_call 11; refine (awake_any wr.drew (P.out.then (Below.refl _ _).drew).gx).mono ?_; rintro e v1 ⟨rfl, hb1⟩; have C1 := hide ((P.out.then (Below.refl _ _).drew).then hb1); have hcv1 := (sl.out.below C1.out.below).conv; clear hb1) | (go_at_call 20; refine (end_any w.heap.size _ v1 C1.out.gx.gu C1.out.kb).mono ?_; rintro e v2 ⟨rfl, hb2⟩; have C2 := hide (C1.out.then hb2); have hcv2 := (sl.out.below C2.out.below).conv; clear hb2) | (go_at_call 12; refine (valid_any (mkB []) v2 C2.out.gx.gu (by decide)).mono ?_; rintro e v3 ⟨rfl, hb3⟩; have C3 := hide (C2.out.then hb3); clear hb3))
          all_goals
            go_wp2
            go_ret
            refine ⟨?_, C3.out.below⟩
            refine congrArg Ending.returned (show Value.bool _ = Value.bool true from congrArg Value.bool ?_)
            simp [hok, hee]
theorem parts_any (vb : Value) (l : List UInt8) (vc : Value) (z : List Int) (w : World) (g : Gx w) (sl : SL w vb l) (si : SI w vc z) :
    Calls Tryd.prog 6 #[vb, vc] w fun r w' => r = .returned (.bool true) ∧ Below w.heap.size w w' := by
  have sl' := sl
  rcases sl with ⟨rfl, rfl⟩ | ⟨a, c, rfl, _⟩
  · exact parts_nil vc z w g si
  · exact parts_some a c l vc z w g sl' si
end Go.Proofs.YtefiklklppfimaaDoor
