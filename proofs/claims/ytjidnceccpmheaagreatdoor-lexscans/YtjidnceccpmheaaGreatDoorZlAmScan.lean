/- lex.Scan: walked. -/
import Derived.Test.YtjidnceccpmheaaGreatDoorZlAlCut
import Derived.WalkMore
namespace Go.Proofs.YtjidnceccpmheaaGreatDoor
namespace Lx
open Go.RowKit
set_option linter.unusedSimpArgs false
set_option linter.unusedVariables false
/-- Tokens as cells. -/
def tcs (l : List Tk) : List Value := l.flatMap fun t => [.int .i64 t.w, .string (mkB t.s), .int .i64 t.p]
theorem tcs_app (a b : List Tk) : tcs (a ++ b) = tcs a ++ tcs b := by simp [tcs]
theorem tcs_len (l : List Tk) : (tcs l).length = 3 * l.length := by
  induction l with
  | nil => rfl
  | cons a l ih => simp only [tcs, List.flatMap_cons, List.length_append, List.length_cons, List.length_nil] at ih ⊢; omega
theorem tcs_cell (l : List Tk) : ∀ u ∈ tcs l, u.oneCell' = true := by
  intro u hu
  simp only [tcs, List.mem_flatMap, List.mem_cons, List.not_mem_nil, or_false] at hu
  obtain ⟨t, _, rfl | rfl | rfl⟩ := hu <;> rfl
theorem infoK : (Tryz.prog.info? 32).map (fun i => (i.zero, i.size, i.bytes)) = some (some (.agg #[.int .i64 0, .string ⟨#[]⟩, .int .i64 0]), 3, 32) := by kernel_rfl
/-- A row of tokens of the call's own. -/
def OT (W : World) (B : Nat) (v : Value) (l : List Tk) : Prop := W.ownsRow B 32 3 v l.length (tcs l)
theorem ownsRow_succ {W : World} {B T sz n : Nat} {v : Value} {xs : List Value} (h : W.ownsRow B T sz v (n + 1) xs) : ∃ g c, v = .slice (some ⟨g, 0, none⟩) (n + 1) c := by
  rcases h.2 with ⟨_, h0⟩ | ⟨g, cap, cur, rfl, _⟩
  · cases h0
  · exact ⟨g, cap, rfl⟩
section
variable {w : World} {ops : Array Oper} {rest : List Oper} {o : Oper} {a : Act} {Q : Exit → Act → World → Prop}
theorem app_tk (hgd : o.guard = none) (s x : Operand) (ho : o.op = .call { callee := .builtin .append, args := #[s, x], argTypes := #[22, 22] })
    (B : Nat) (v : Value) (l : List Tk) (hs : a.eval s = v) (hown : OT w B v l) (ad : Addr) (c : Nat) (hx : a.eval x = .slice (some ad) 1 c) (t : Tk)
    (hnews : ∀ j u, (tcs [t])[j]? = some u → w.cell? (ad.add j) = some u) (hk : l.length ≤ 100000) (hB : B ≤ w.heap.size)
    (h : ∀ g c' w', Hid (OT w' B (.slice (some ⟨g, 0, none⟩) (l.length + 1) c') (l ++ [t])) → Hid (Below B w w') → wpList Tryz.prog ops Q rest (a.put o.dst (.slice (some ⟨g, 0, none⟩) (l.length + 1) c')) w') : wpList Tryz.prog ops Q (o :: rest) a w := by
  obtain ⟨i0, hi, hz0, hz1, hz2⟩ := info_parts infoK
  refine wpList_append_own_at w hgd s x 22 ho B 32 i0 _ 3 32 Tryz.underlying22 hi hz0 hz1 hz2 rfl (by decide) v l.length (tcs l) hs hown ad 1 c (tcs [t]) hx (by rw [tcs_len]; rfl) hnews (tcs_cell _) (by unfold maxLen; omega) (by omega) hB ?_
  intro v' w' h1 h2 _ _
  rw [← tcs_app] at h1
  obtain ⟨g, c', rfl⟩ := ownsRow_succ h1
  refine h g c' w' ?_ ?_
  · show OT _ _ _ _
    unfold OT
    rw [List.length_append]
    exact h1
  · refine (Below.refl B w).grown h2 hB (fun k hk => (World.ownsRow.lt hown k hk).1)
end
theorem OT.keep {W W1 : World} {B : Nat} {v : Value} {l : List Tk} (h : OT W B v l) (hb : Below W.heap.size W W1) : OT W1 B v l := ownsRow_of h fun k _ hk => hb.block k hk
theorem OT.nil (W : World) (B : Nat) : OT W B (.slice none 0 0) [] := World.ownsRow_nil _ _ _ _
theorem OT.shape {W : World} {B : Nat} {v : Value} {l : List Tk} (h : OT W B v l) : ∃ a c, v = .slice a l.length c := by
  rcases h.2 with ⟨rfl, h0⟩ | ⟨g, cap, cur, rfl, _⟩
  · exact ⟨none, 0, by rw [h0]⟩
  · exact ⟨_, _, rfl⟩
/-- What Scan answers. -/
def scR (l : List UInt8) : Nat × Nat × List Tk := if 4096 < l.length then (2, 0, []) else match scnA nok l 0 [] with
  | .inl (e, p) => (e, p, [])
  | .inr ts => (0, 0, ts)
def ScP (w : World) (x : Nat × Nat × List Tk) (e : Ending) (w' : World) : Prop := ∃ v, e = .returned (.tuple #[v, .int .i64 (x.1 : Nat), .int .i64 (x.2.1 : Nat)]) ∧ OT w' w.heap.size v x.2.2 ∧ Below w.heap.size w w'
/-- What is answered from a place on. -/
def scO (o : Sum (Nat × Nat) (List Tk)) : Nat × Nat × List Tk := match o with
  | .inl (e, p) => (e, p, [])
  | .inr ts => (0, 0, ts)
theorem news_tk (W : World) (t : Tk) (T : TypeId) : ∀ j u, (tcs [t])[j]? = some u → (W.alloc (.cells #[.int .i64 t.w, .string (mkB t.s), .int .i64 t.p] T)).cell? ((⟨W.heap.size, 0, none⟩ : Addr).add j) = some u := by
  intro j u h
  simp only [tcs, List.flatMap_cons, List.flatMap_nil, List.append_nil] at h
  match j, h with
  | 0, h => simpa [Addr.add] using h
  | 1, h => simpa [Addr.add] using h
  | 2, h => simpa [Addr.add] using h
  | j + 3, h => simp at h
theorem fst_zero (l : List UInt8) (f k : Nat) (h : (cutK nok k l).2 = 0) : fstK nok l (f + 1) k = fstK nok l f (k + 1) := by simp [fstK, h]
theorem fst_some (l : List UInt8) (f k : Nat) (h : (cutK nok k l).2 ≠ 0) : fstK nok l (f + 1) k = some (k, (cutK nok k l).1, (cutK nok k l).2) := by simp [fstK, h]
set_option maxHeartbeats 4000000 in
set_option maxRecDepth 100000 in
theorem scan_any (hP : ParseOk) (s : ByteArray) (w : World) (g : Gg w) (hs : s.size ≤ 1000000) : Calls Tryz.prog 5 #[.string s] w fun e w' => ScP w (scR (bl s)) e w' := by
  unfold scR
  rw [bl_length]
  by_cases hbig : 4096 < s.size
  · have ib : (4096 : Int) < (s.size : Int) := by omega
    rw [if_pos hbig]
    go_enter Tryz.func5, Tryz.ntmps5
    go_wp2
    go_step3
    go_wp2
    rw [Exit.noGoto_ret]
    go_ret3
    exact ⟨_, rfl, OT.nil _ _, Below.refl _ _⟩
  · have ib : ¬ (4096 : Int) < (s.size : Int) := by omega
    rw [if_neg hbig]
    show Calls _ _ _ _ fun e w' => ScP w (scO (scnA nok (bl s) 0 [])) e w'
    obtain ⟨U, hU⟩ : ∃ U, scO (scnA nok (bl s) 0 []) = U := ⟨_, rfl⟩
    rw [hU]
    have HU := hide hU
    have g0 := hide g
    have hP0 := hide hP
    clear hU g hP hs
    go_enter Tryz.func5, Tryz.ntmps5
    go_wp2
    go_step3
    go_wp2
    go_step3
    go_wp2
    go_loopw [5, 6] (fun v i W => ∃ (p : Nat) (ts : List Tk), i = .int .i64 (p : Nat) ∧ p ≤ s.size ∧ Hid (OT W w.heap.size v ts ∧ ts.length ≤ 1024 ∧ U = scO (scnA nok ((bl s).drop p) p ts) ∧ Below w.heap.size w W)) (fun _ i _ => s.size - (intOf i).toNat)
    case atStart => exact ⟨0, [], rfl, Nat.zero_le _, OT.nil _ _, by simp, HU.out.symm, Below.refl _ _⟩
    case round =>
      obtain ⟨p, ts, rfl, hp, H⟩ := hrel
      by_cases hps : p < s.size
      · have hpi : (p : Int) < (s.size : Int) := by omega
        obtain ⟨a, c, hv⟩ := H.out.1.shape
        have hH := H.out
        clear H
        rw [hv] at hH ⊢
        clear hv
        have H := hide hH
        clear hH
        go_wp2
        go_hide hQ
        go_loopw [5, 6, 17] (fun v i k W => ∃ (j : Nat), v = .slice a ts.length c ∧ i = .int .i64 (p : Nat) ∧ k = .int .i64 (j : Nat) ∧ j ≤ 5 ∧ Hid (OT W w.heap.size (.slice a ts.length c) ts ∧ Below w.heap.size w W ∧ tok nok ((bl s).drop p) = fstK nok ((bl s).drop p) (5 - j) j)) (fun _ _ k _ => 5 - (intOf k).toNat)
        case atStart => exact ⟨0, rfl, rfl, rfl, by omega, H.out.1, H.out.2.2.2, rfl⟩
        case round =>
          obtain ⟨j, rfl, rfl, rfl, hj, K⟩ := hrel
          obtain ⟨ko, kb, kt⟩ := K.out
          have KO := hide ko
          have KB := hide kb
          have KT := hide kt
          have gr := hide (g0.out.below kb g0.out.sz)
          clear K ko kb kt
          by_cases hj5 : j < 5
          · have hji : (j : Int) < 5 := by omega
            have hj0 : (0 : Int) ≤ (j : Int) := by omega
            obtain ⟨t, ht⟩ : ∃ t, s.extract p s.size = t := ⟨_, rfl⟩
            have htb : bl t = (bl s).drop p := by rw [← ht, drop_mkB, bl_mkB]
            have hts : t.size = s.size - p := by rw [← bl_length, htb, List.length_drop, bl_length]
            have hcut := hide (cut_any hP0.out j hj5 t _ gr.out (by omega) (Or.inl (by omega)))
            rw [htb] at hcut
            obtain ⟨c0, l0, hl0⟩ : ∃ c0 l0, bl t = c0 :: l0 := by
              obtain ⟨l0, hl0⟩ := bl_cons t (by omega)
              exact ⟨_, l0, hl0⟩
            have hle := cutK_le nok j c0 l0
            rw [← hl0, htb, List.length_drop, bl_length] at hle
            have ef : 5 - j = (4 - j) + 1 := by omega
            have KT2 : Hid (tok nok ((bl s).drop p) = fstK nok ((bl s).drop p) ((4 - j) + 1) j) := by have := KT.out; rw [ef] at this; exact this
            have hdc : Hid ((bl s).drop p = c0 :: l0) := by show _ = _; rw [← htb]; exact hl0
            obtain ⟨xn, hxn⟩ : ∃ xn, cutK nok j ((bl s).drop p) = xn := ⟨_, rfl⟩
            have hz := fst_zero ((bl s).drop p) (4 - j) j
            have hsm := fst_some ((bl s).drop p) (4 - j) j
            rw [hxn] at hcut hle hz hsm
            obtain ⟨x, n⟩ := xn
            have hcut2 : Hid (Calls Tryz.prog 12 #[.int .i64 (j : Nat), .string t] wr fun e w' => e = .returned (.tuple #[.string (mkB x), .int .i64 (n : Nat)]) ∧ Below wr.heap.size wr w') := hcut
            have hxs : Hid ((mkB x).size = x.length) := mkB_size x
            have hxb : (mkB x).size ≤ 100000 ∨ True := Or.inr trivial
            simp only at hle hz hsm
            clear hcut htb hts hl0 ef KT hxn hxb
            by_cases hn0 : n = 0
            · have e0 : ((n : Int) == 0) = true := by simp; omega
              have KT3 : Hid (tok nok ((bl s).drop p) = fstK nok ((bl s).drop p) (5 - (j + 1)) (j + 1)) := by
                show _ = _
                rw [KT2.out, hz hn0]
                congr 1
                omega
              clear hz hsm KT2 hn0
              go_wp2_with (go_at_call 12; refine hcut2.out.mono ?_; rintro e w1 ⟨rfl, hb1⟩; have hb1 := hide hb1)
              go_roundw
              case rel => exact ⟨j + 1, rfl, rfl, by go_num, by omega, KO.out.keep hb1.out, below_then KB.out hb1.out, KT3.out⟩
              case measure => simp [intOf]; omega
            · have e0 : ((n : Int) == 0) = false := by simp; omega
              have KT3 : Hid (tok nok ((bl s).drop p) = some (j, x, n)) := by show _ = _; rw [KT2.out, hsm hn0]
              have US : Hid (U = scO (if j = 0 then scnA nok ((bl s).drop (p + n)) (p + n) ts else if lgK j < x.length ∨ ts.length = 1024 then .inl (2, p) else scnA nok ((bl s).drop (p + n)) (p + n) (ts ++ [⟨wdK j, x, p⟩]))) := by
                show _ = _
                rw [H.out.2.2.1, hdc.out, scnA_cons, ← hdc.out, KT3.out]
                simp only [List.drop_drop]
              have jp : (p : Int) + (n : Int) ≤ 9223372036854775807 := by omega
              clear hz hsm KT2
              by_cases hj00 : j = 0
              · subst hj00
                have US2 : Hid (U = scO (scnA nok ((bl s).drop (p + n)) (p + n) ts)) := by have := US.out; rw [if_pos rfl] at this; exact this
                clear US
                go_wp2_with (go_at_call 12; refine hcut2.out.mono ?_; rintro e w1 ⟨rfl, hb1⟩; have hb1 := hide hb1)
                subst hQ
                go_wp2
                go_roundw
                case rel => exact ⟨p + n, ts, by go_num, by omega, KO.out.keep hb1.out, H.out.2.1, US2.out, below_then KB.out hb1.out⟩
                case measure => simp [intOf]; omega
              · have ej : ((j : Int) == 0) = false := by simp; omega
                by_cases hlim : lgK j < x.length ∨ ts.length = 1024
                · have US2 : Hid (U = (2, p, [])) := by have := US.out; rw [if_neg hj00, if_pos hlim] at this; exact this
                  clear US
                  by_cases hl1 : lgK j < x.length
                  · have i1 : ((lgK j : Nat) : Int) < ((mkB x).size : Int) := by rw [hxs.out]; omega
                    clear hlim hl1 hj00
                    go_wp2_with (go_at_call 12; refine hcut2.out.mono ?_; rintro e w1 ⟨rfl, hb1⟩; have g1 := (g0.out.below (below_then KB.out hb1) g0.out.sz); have hlo := g1.lo j hj5; have hb1 := hide hb1; clear g1)
                    subst hQ
                    go_wp2
                    go_ret3
                    exact ⟨_, by rw [US2.out]; rfl, by rw [US2.out]; exact OT.nil _ _, below_then KB.out hb1.out⟩
                  · have i1 : ¬ ((lgK j : Nat) : Int) < ((mkB x).size : Int) := by rw [hxs.out]; omega
                    have i2 : ((ts.length : Int) == 1024) = true := by simp; omega
                    have i3 : decide ((ts.length : Int) = 1024) = true := by simp; omega
                    clear hlim hl1 hj00
                    go_wp2_with (go_at_call 12; refine hcut2.out.mono ?_; rintro e w1 ⟨rfl, hb1⟩; have g1 := (g0.out.below (below_then KB.out hb1) g0.out.sz); have hlo := g1.lo j hj5; have hb1 := hide hb1; clear g1)
                    subst hQ
                    go_wp2
                    go_ret3
                    exact ⟨_, by rw [US2.out]; rfl, by rw [US2.out]; exact OT.nil _ _, below_then KB.out hb1.out⟩
                · have US2 : Hid (U = scO (scnA nok ((bl s).drop (p + n)) (p + n) (ts ++ [⟨wdK j, x, p⟩]))) := by have := US.out; rw [if_neg hj00, if_neg hlim] at this; exact this
                  have i1 : ¬ ((lgK j : Nat) : Int) < ((mkB x).size : Int) := by rw [hxs.out]; omega
                  have i2 : ((ts.length : Int) == 1024) = false := by simp; omega
                  have i3 : decide ((ts.length : Int) = 1024) = false := by simp; omega
                  have hts3 : Hid (ts.length < 1024) := by show _ < _; have := H.out.2.1; omega
                  clear US hlim hj00
                  go_wp2_with (first | (go_at_call 12; refine hcut2.out.mono ?_; rintro e w1 ⟨rfl, hb1⟩; have g1 := (g0.out.below (below_then KB.out hb1) g0.out.sz); have hlo := g1.lo j hj5; have hwo := g1.wo j hj5; have O1 := hide (KO.out.keep hb1); have hb1 := hide hb1; clear g1) | (at_builtin; refine Sto.out ?_))
                  refine Sto.mk ?_
                  have O2 := hide (O1.out.keep (below_al (o := .cells #[.int .i64 (wdK j : Nat), .string (mkB x), .int .i64 (p : Nat)] 32) (Below.refl _ w1)))
                  refine app_tk rfl (.tmp 28) (.tmp 35) rfl w.heap.size _ ts rfl O2.out ⟨w1.heap.size, 0, none⟩ 1 rfl ⟨wdK j, x, p⟩ (news_tk w1 ⟨wdK j, x, p⟩ _) (by have := hts3.out; omega) (by have := (below_then KB.out hb1.out).size; simp; omega) ?_
                  intro g' c' w' ho hb
                  have B2 : Hid (Below w.heap.size w w') := (below_al (below_then KB.out hb1.out)).trans hb.out
                  clear hb
                  go_wp2
                  subst hQ
                  go_wp2
                  go_roundw
                  case rel => exact ⟨p + n, ts ++ [⟨wdK j, x, p⟩], by go_num, by omega, ho.out, by have := hts3.out; simp; omega, US2.out, B2.out⟩
                  case measure => simp [intOf]; omega
          · have hj5' : j = 5 := by omega
            subst hj5'
            have US : Hid (U = (130, p, [])) := by
              show _ = _
              have hne : ∃ c0 l0, (bl s).drop p = c0 :: l0 := by
                cases hd : (bl s).drop p with
                | nil => have := congrArg List.length hd; rw [List.length_drop, bl_length] at this; simp at this; omega
                | cons c0 l0 => exact ⟨c0, l0, rfl⟩
              obtain ⟨c0, l0, hdc⟩ := hne
              rw [H.out.2.2.1, hdc, scnA_cons, ← hdc, KT.out]
              rfl
            go_wp2
            subst hQ
            go_wp2
            go_ret3
            exact ⟨_, by rw [US.out]; rfl, by rw [US.out]; exact OT.nil _ _, KB.out⟩
      · have hpi : ¬ (p : Int) < (s.size : Int) := by omega
        have hU2 : Hid (U = (0, 0, ts)) := by
          show _ = _
          rw [H.out.2.2.1, List.drop_of_length_le (by rw [bl_length]; omega)]
          rfl
        go_wp2
        go_ret3
        exact ⟨_, by rw [hU2.out]; rfl, by rw [hU2.out]; exact H.out.1, H.out.2.2.2⟩
end Lx
end Go.Proofs.YtjidnceccpmheaaGreatDoor
