/- calamuslaw05.awake: walked. -/
import Derived.Test.YthbfopdeaknbkaaDoorEpFacts
namespace Go.Proofs.YthbfopdeaknbkaaDoor
open Go.RowKit
set_option linter.unusedSimpArgs false
set_option linter.unusedVariables false
/-- Where awake stands at its end. -/
structure Ez (w w3 : World) (ns ls : Value) (i n : Nat) (s : Option (List Pa × Bool)) (W : World) : Prop where
  below : Below w.heap.size w W
  low : Below (w3.heap.size + 1) (w3.alloc (.cells (vals exH ns ls) 29)) W
  ck : CkS W i (i + 1) n s
  lt : i < W.heap.size
theorem Ez.then {w w3 W W1 : World} {ns ls : Value} {i n : Nat} {s : Option (List Pa × Bool)} (h : Ez w w3 ns ls i n s W) (hb : Below W.heap.size W W1) : Ez w w3 ns ls i n s W1 :=
  ⟨below_then h.below hb, h.low.trans (hb.mono (by have := h.low.size; simpa using this)), h.ck.then hb, Nat.lt_of_lt_of_le h.lt hb.size⟩
theorem Ez.drew {w w3 W : World} {ns ls : Value} {i n : Nat} {s : Option (List Pa × Bool)} (h : Ez w w3 ns ls i n s W) : Ez w w3 ns ls i n s W.drew := h.then (Below.refl _ _).drew
theorem RD.drew {n : Nat} {W : World} {x : VT n} {ns ls : Value} (h : RD n W x ns ls) : RD n W.drew x ns ls := h.below (Below.refl _ _).drew
theorem Ez.bx {w w3 W : World} {ns ls : Value} {i n : Nat} {s : Option (List Pa × Bool)} (h : Ez w w3 ns ls i n s W) : Bx W w3.heap.size exH ns ls := ⟨(h.low.block _ (Nat.lt_succ_self _)).trans (heap_alloc_last _ _)⟩
theorem Ez.kr {w w3 W : World} {ns ls : Value} {i n s3 f3 : Nat} {s : Option (List Pa × Bool)} (h : Ez w w3 ns ls i n s W) (k : KR 3 w3 exT ns ls s3 f3) : RD 3 W exT ns ls := by
  refine KR.rd (k.move ?_ ?_)
  · have h1 := h.low.size; have h2 := k.2.1; simp at h1; omega
  · intro q p1 p2
    have h2 := k.2.1
    rw [h.low.block q (by omega), Below.heap_alloc _ _ _ (by omega)]
set_option maxHeartbeats 4000000 in
set_option maxRecDepth 100000 in
theorem awake_any (w : World) (g : Ut.Gu w) : Calls Tryd.prog 13 #[] w fun e w' => e = .returned (.bool true) ∧ Below w.heap.size w w' := by
  have g := hide g
  have hex := hide ex_any
  have hel : (fl 3 exT).length = 8 := rfl
  simp only [vals, exH, zr] at hex
  go_enter Tryd.func13, Tryd.ntmps13
  go_wp2_with (go_at_call 31; refine Stop.out ?_)
  refine Stop.mk ((hex.out _).mono ?_)
  rintro e w1 ⟨ns1, ls1, rfl, hr1, hb1⟩
  have B1 := hide hb1
  have F1 := hide (flat_any 3 exT ns1 ls1 w1 ⟨hr1.out, ex_sz, by rw [ex_siz]; decide⟩ (g.out.below hb1) 0 ex_chk)
  obtain ⟨a1, m1, d1, a2, m2, d2, rfl, rfl⟩ := hr1.out.shape
  simp only [vals, vhd, exT, exH, zr] at F1
  clear hb1 hr1
  go_wp2_with (go_at_call 11; refine Stop.out ?_)
  refine Stop.mk (F1.out.mono ?_)
  clear F1
  rintro e w2 ⟨v2, rfl, hb2, hrow, _⟩
  have hrow := hrow trivial
  have hrow : w2.ownsRow w1.heap.size 42 7 v2 (7 + 1) (ecs (fl 3 exT)) := hrow
  obtain ⟨gl, cap, rfl⟩ := ownsRow_succ hrow
  have B2 := hide (below_then B1.out hb2)
  have BD2 := hide (bd_row hrow rfl (by rw [hel]; decide) (fun e he => ex_ez e (List.mem_append_left _ he)))
  have hcap : 8 ≤ cap := BD2.out.len
  have hmax : cap ≤ maxLen := BD2.out.max
  have ml : maxLen = 9223372036854775807 := rfl
  have hgl : gl < w2.heap.size := BD2.out.lt
  have L2 := hide hrow
  have T2 := hide (Build_any (fl 3 exT) gl 0 cap w2 BD2.out (by omega) (g.out.below B2.out) 3 exT (fun _ => ⟨rfl, isv_nf 3 exT ex_isv, ex_sz, by rw [ex_siz]; decide⟩) 0 ex_chk)
  rw [hel] at T2
  clear hb2 hrow
  go_wp2_with (go_at_call 17; refine Stop.out ?_)
  refine Stop.mk (T2.out.mono ?_)
  clear T2
  rintro e w3 ⟨hb3, _, _, hbr⟩
  obtain ⟨ns3, ls3, s3, f3, rfl, hs3, hk3⟩ := (hbr (by rw [ex_run]; rfl)).2 rfl
  obtain ⟨q1, q2, q3, q4, q5, q6, rfl, rfl⟩ := hk3.out.rd.shape
  have B3 := hide (below_then B2.out hb3)
  have L3 := hide (ownsRow_of L2.out fun k _ hk => hb3.block k hk)
  have BD3 := hide (bd_row L3.out rfl (by rw [hel]; decide) (fun e he => ex_ez e (List.mem_append_left _ he)))
  have z3 := hb3.size
  obtain ⟨_, _, _, _, _, _, c13⟩ := range7 (BD3.out.at 1 (by rw [hel]; decide))
  obtain ⟨c49, _⟩ := range7 (BD3.out.at 7 (by rw [hel]; decide))
  simp only [vals, vhd, exT, exH, zr]
  have c13' : w3.cell? ⟨gl, 13, none⟩ = some (.string ⟨#[97]⟩) := c13
  have c49' : w3.cell? ⟨gl, 49, none⟩ = some (.int .i64 11) := c49
  have hgl3 : gl < w3.heap.size := by omega
  clear c13 c49 hb3 hbr
  have BV3 := hide (bx_new w3 exH (.slice q1 q2 q3) (.slice q4 q5 q6))
  simp only [vals, exH, zr] at BV3
  have T5 := hide (fun (W : World) (hb : Below w3.heap.size w3 W) => Build_any ((fl 3 exT).take 7) gl 0 cap W (bd_row (ownsRow_of L3.out fun k _ hk => hb.block k hk) rfl (by rw [hel]; decide) (fun e he => ex_ez e (List.mem_append_left _ he))).take (by omega) (g.out.below (below_then B3.out hb)) 1 null1 (fun h => by rw [ex_run7.2] at h; cases h) 0 null_chk)
  have hel7 : ((fl 3 exT).take 7).length = 7 := rfl
  rw [hel7] at T5
  go_wp2_with (go_at_call 17; refine Stop.out ?_)
  refine Stop.mk ((T5.out _ (below_al (Below.refl _ _))).mono ?_)
  clear T5
  rintro e w5 ⟨hb5, _, hbr, _⟩
  have he5 := hbr ex_run7.1 ex_run7.2
  subst he5
  have B35 := hide (below_then (below_al (Below.refl _ _)) hb5)
  have z5 := hb5.size
  simp only [World.size_alloc] at z5
  have B5 := hide (below_then B3.out B35.out)
  have L5 := hide (ownsRow_of L3.out fun k _ hk => B35.out.block k hk)
  have LB5 := hide hb5
  clear hb5 hbr c13' c49' L2 L3 BD2 BD3 B1 B2 BV3
  obtain ⟨i0, hi, hz0, hz1, hz2⟩ := info_parts infoE
  go_wp2_with (at_builtin; refine Stop.out ?_)
  refine Stop.mk ?_
  refine wpList_append_own_at _ rfl (.tmp 56) (.tmp 57) 32 rfl w5.heap.size 42 i0 _ 7 72 Tryd.underlying32 hi hz0 hz1 hz2 rfl (by decide) (.slice none 0 0) 0 [] rfl (World.ownsRow_nil _ _ _ _) ⟨gl, 0, none⟩ 8 cap (ecs (fl 3 exT)) rfl rfl ?_ ?_ (by omega) (by omega) (by simp) ?_
  · exact row_news (ownsRow_of L5.out fun k _ hk => (below_al (Below.refl _ _)).block k hk)
  · exact ecs_cell _
  intro v7 w7 ho7 hg7 _ _
  have ho7 : w7.ownsRow w5.heap.size 42 7 v7 (7 + 1) (ecs (fl 3 exT)) := by simpa using ho7
  obtain ⟨g7, cap7, rfl⟩ := ownsRow_succ ho7
  have B57 : Hid (Below w5.heap.size w5 w7) := ((below_al (Below.refl _ _)).grown hg7 (by simp) (fun k hk => by cases hk))
  have O7 := hide ho7
  have z7 := B57.out.size
  clear ho7 hg7
  go_wp2_with (at_builtin; refine Stop.out ?_)
  refine Stop.mk ?_
  refine wpList_append_own_at _ rfl (.tmp 59) (.tmp 61) 32 rfl w5.heap.size 42 i0 _ 7 72 Tryd.underlying32 hi hz0 hz1 hz2 rfl (by decide) (.slice (some ⟨g7, 0, none⟩) 8 cap7) 8 (ecs (fl 3 exT)) rfl (ownsRow_of O7.out fun k _ hk => (below_al (Below.refl _ _)).block k hk) ⟨w7.heap.size, 0, none⟩ 1 1 (evs evE).toList rfl rfl (ev_news w7 evE) (evs_one _) (by omega) (by omega) (by simp; omega) ?_
  intro v8 w8 ho8 hg8 _ _
  have ho8 : w8.ownsRow w5.heap.size 42 7 v8 (8 + 1) (ecs (fl 3 exT ++ [evE])) := by rw [ecs_app, ecs_one]; exact ho8
  obtain ⟨g8, cap8, rfl⟩ := ownsRow_succ ho8
  have B58 : Hid (Below w5.heap.size w5 w8) := ((below_al B57.out).grown hg8 (by simp; omega) (fun k hk => (World.ownsRow.lt O7.out k hk).1))
  have z8 := B58.out.size
  have B8 := hide (below_then B5.out B58.out)
  have BD8 := hide (bd_row ho8 rfl (by decide) ex_ez)
  have T9 := hide (Build_any (fl 3 exT ++ [evE]) g8 0 cap8 w8 BD8.out (by have : 9 ≤ cap8 := BD8.out.len; omega) (g.out.below B8.out) 1 null1 (fun h => by rw [ex_run9] at h; cases h) 0 null_chk)
  have hel9 : (fl 3 exT ++ [evE]).length = 9 := rfl
  rw [hel9] at T9
  clear ho8 hg8 O7
  go_wp2_with (go_at_call 17; refine Stop.out ?_)
  refine Stop.mk (T9.out.mono ?_)
  clear T9
  rintro e w9 ⟨hb9, hbr, _, _⟩
  have he9 := hbr ex_run9
  subst he9
  have B59 := hide (below_then B58.out hb9)
  have z9 := hb9.size
  have LB9 := hide (below_then LB5.out B59.out)
  have B9 := hide (below_then B5.out B59.out)
  clear hb9 hbr BD8 B57 B58 B8 LB5 L5
  have hnew := hide cnew_any
  go_wp2_with (go_at_call 19; refine Stop.out ?_)
  refine Stop.mk ((hnew.out _).mono ?_)
  rintro e wa ⟨rfl, hka, hba⟩
  simp only [World.size_alloc] at hka
  have za := hka.lt
  have CA := hide (CkS.new hka (by omega))
  have BA := hide (below_then (below_al B9.out) hba)
  have LA := hide (below_then (below_al LB9.out) hba)
  clear hnew hka hba LB9
  have zi : w3.heap.size + 1 ≤ w9.heap.size + 1 := by omega
  have f1 : Hid (Calls Tryd.prog 23 #[.pointer (some ⟨w9.heap.size + 1, 0, none⟩), .agg (evs tagE)] wa fun r w' => r = .returned (.int .i64 0) ∧ CkS w' (w9.heap.size + 1) (w9.heap.size + 1 + 1) 1 (some ([(9, true, [])], true)) ∧ Below (w9.heap.size + 1) wa w') := by
    have := cfeed_any (some ([], false)) tagE ez_tag CA.out za (by omega) (by omega) (by omega) (g.out.below BA.out) (mayB tagE) (mayB_iff _)
    rw [st1] at this
    exact this
  simp only [evs, tagE, zr] at f1
  go_wp2_with (go_at_call 23; refine Stop.out ?_)
  refine Stop.mk (f1.out.mono ?_)
  clear f1 CA
  rintro e wb ⟨rfl, hcb, hbb⟩
  have CB := hide hcb
  have zb := hbb.size
  have BB := hide (BA.out.trans (hbb.mono (by have := B9.out.size; omega)))
  have LB := hide (LA.out.trans (hbb.mono (by simp; omega)))
  clear hcb hbb LA BA
  have opn := hide CB.out.open
  go_wp2_with (go_at_call 21; refine Stop.out ?_)
  refine Stop.mk (opn.out.mono ?_)
  clear opn
  rintro e wb' ⟨rfl, rfl⟩
  have f2 : Hid (Calls Tryd.prog 23 #[.pointer (some ⟨w9.heap.size + 1, 0, none⟩), .agg (evs (zr 1))] wb' fun r w' => r = .returned (.int .i64 0) ∧ CkS w' (w9.heap.size + 1) (w9.heap.size + 1 + 1) 2 (some ([(9, false, [])], true)) ∧ Below (w9.heap.size + 1) wb' w') := by
    have := cfeed_any (some ([(9, true, [])], true)) (zr 1) (ez_zr 1) CB.out (by omega) (by omega) (by omega) (by omega) (g.out.below BB.out) (mayB (zr 1)) (mayB_iff _)
    rw [st2] at this
    exact this
  simp only [evs, zr] at f2
  go_wp2_with (go_at_call 23; refine Stop.out ?_)
  refine Stop.mk (f2.out.mono ?_)
  clear f2 CB
  rintro e wc ⟨rfl, hcc, hbc⟩
  have CC := hide hcc
  have zc := hbc.size
  have BC := hide (BB.out.trans (hbc.mono (by have := B9.out.size; omega)))
  have LC := hide (LB.out.trans (hbc.mono (by simp; omega)))
  clear hcc hbc LB BB
  have dn := hide CC.out.done
  simp only [doneS] at dn
  go_wp2_with (go_at_call 20; refine Stop.out ?_)
  refine Stop.mk (dn.out.mono ?_)
  clear dn
  rintro e wd ⟨rfl, md, rfl⟩
  have dB : Below wc.heap.size wc (wc.drewN md) := ⟨rfl, rfl, rfl, Nat.le_refl _, fun _ _ => rfl⟩
  have CD := hide (CC.out.then dB)
  have BD := hide (below_then BC.out dB)
  have LD := hide (below_then LC.out dB)
  obtain ⟨we, hwe⟩ : ∃ we, wc.drewN md = we := ⟨_, rfl⟩
  have ze : wc.heap.size ≤ we.heap.size := by rw [← hwe]; exact Nat.le_refl _
  rw [hwe] at CD BD LD ⊢
  clear dB hwe CC BC LC
  have f3' : Hid (Calls Tryd.prog 23 #[.pointer (some ⟨w9.heap.size + 1, 0, none⟩), .agg (evs evE)] we fun r w' => r = .returned (.int .i64 0) ∧ CkS w' (w9.heap.size + 1) (w9.heap.size + 1 + 1) 3 (some ([], true)) ∧ Below (w9.heap.size + 1) we w') := by
    have := cfeed_any (some ([(9, false, [])], true)) evE (ez_zr 11) CD.out (by omega) (by omega) (by omega) (by omega) (g.out.below BD.out) (mayB evE) (mayB_iff _)
    rw [st3] at this
    exact this
  simp only [evs, evE, zr] at f3'
  go_wp2_with (go_at_call 23; refine Stop.out ?_)
  refine Stop.mk (f3'.out.mono ?_)
  clear f3' CD
  rintro e wf ⟨rfl, hcf, hbf⟩
  have CF := hide hcf
  have zf := hbf.size
  have BF := hide (BD.out.trans (hbf.mono (by have := B9.out.size; omega)))
  have LF := hide (LD.out.trans (hbf.mono (by simp; omega)))
  clear hcf hbf LD BD
  have E0 : Hid (Ez w w3 (.slice q1 q2 q3) (.slice q4 q5 q6) (w9.heap.size + 1) 3 (some ([], true)) wf) := ⟨BF.out, by have := LF.out; simpa [vals, exH, zr] using this, CF.out, by omega⟩
  have kEq : Hid (∀ W ns ls, RD 3 W exT ns ls → Ez w w3 (.slice q1 q2 q3) (.slice q4 q5 q6) (w9.heap.size + 1) 3 (some ([], true)) W → Calls Tryd.prog 15 #[.agg (vals exH (.slice q1 q2 q3) (.slice q4 q5 q6)), .agg (vals exH ns ls)] W fun e w' => e = .returned (.bool true) ∧ Below W.heap.size W w') := fun W ns ls hr hz => Calls.tb (b := true) (requal_any 3 exT exT _ _ _ _ W (hz.kr hk3.out) hr) (by simp)
  have kDn : Hid (∀ W, Ez w w3 (.slice q1 q2 q3) (.slice q4 q5 q6) (w9.heap.size + 1) 3 (some ([], true)) W → Calls Tryd.prog 20 #[.pointer (some ⟨w9.heap.size + 1, 0, none⟩)] W fun r w' => r = .returned (.bool true) ∧ Below W.heap.size W w') := fun W hz => hz.ck.done.mono (by rintro r w' ⟨rfl, m, rfl⟩; exact ⟨rfl, ⟨rfl, rfl, rfl, Nat.le_refl _, fun _ _ => rfl⟩⟩)
  have kFd : Hid (∀ W, Ez w w3 (.slice q1 q2 q3) (.slice q4 q5 q6) (w9.heap.size + 1) 3 (some ([], true)) W → Calls Tryd.prog 23 #[.pointer (some ⟨w9.heap.size + 1, 0, none⟩), .agg (evs (zr 1))] W fun r w' => r = .returned (.int .i64 50) ∧ Hid (Ez w w3 (.slice q1 q2 q3) (.slice q4 q5 q6) (w9.heap.size + 1) 4 none w')) := fun W hz => by
    have := cfeed_any (some ([], true)) (zr 1) (ez_zr 1) hz.ck hz.lt (by omega) hz.lt (by omega) (g.out.below hz.below) (mayB (zr 1)) (mayB_iff _)
    rw [st4] at this
    refine this.mono ?_
    rintro r w' ⟨rfl, hc, hb⟩
    refine ⟨rfl, hide ⟨hz.below.trans (hb.mono (by have := B9.out.size; omega)), hz.low.trans (hb.mono (by omega)), hc, Nat.lt_of_lt_of_le hz.lt hb.size⟩⟩
  have mkS : Hid (∀ w', Ez w w3 (.slice q1 q2 q3) (.slice q4 q5 q6) (w9.heap.size + 1) 3 (some ([], true)) w' → w'.cell? ⟨w3.heap.size, 0, none⟩ = some (.int .i64 8) ∧ w'.cell? ⟨w3.heap.size, 1, none⟩ = some (.bool false) ∧ w'.cell? ⟨w3.heap.size, 2, none⟩ = some (.bool false) ∧ w'.cell? ⟨w3.heap.size, 3, none⟩ = some (.string ⟨#[]⟩) ∧ w'.cell? ⟨w3.heap.size, 4, none⟩ = some (.int .i64 0) ∧ w'.cell? ⟨w3.heap.size, 5, none⟩ = some (.int .u64 0) ∧ w'.cell? ⟨w3.heap.size, 6, none⟩ = some (.string ⟨#[]⟩) ∧ w'.cell? ⟨w3.heap.size, 7, none⟩ = some (.slice q1 q2 q3) ∧ w'.cell? ⟨w3.heap.size, 8, none⟩ = some (.slice q4 q5 q6)) := by
    intro w' q
    exact q.bx.cells
  have mkT : Hid (∀ w', Ez w w3 (.slice q1 q2 q3) (.slice q4 q5 q6) (w9.heap.size + 1) 4 none w' → w'.cell? ⟨w3.heap.size, 0, none⟩ = some (.int .i64 8) ∧ w'.cell? ⟨w3.heap.size, 1, none⟩ = some (.bool false) ∧ w'.cell? ⟨w3.heap.size, 2, none⟩ = some (.bool false) ∧ w'.cell? ⟨w3.heap.size, 3, none⟩ = some (.string ⟨#[]⟩) ∧ w'.cell? ⟨w3.heap.size, 4, none⟩ = some (.int .i64 0) ∧ w'.cell? ⟨w3.heap.size, 5, none⟩ = some (.int .u64 0) ∧ w'.cell? ⟨w3.heap.size, 6, none⟩ = some (.string ⟨#[]⟩) ∧ w'.cell? ⟨w3.heap.size, 7, none⟩ = some (.slice q1 q2 q3) ∧ w'.cell? ⟨w3.heap.size, 8, none⟩ = some (.slice q4 q5 q6)) := by
    intro w' q
    exact q.bx.cells
  simp only [evs, vals, exH, zr] at kEq kFd
  clear CF BF LF B9 hk3
  go_wp2_with fail
  go_region_held3 (fun w' => w'.cell? ⟨w3.heap.size, 0, none⟩ = some (.int .i64 8) ∧ w'.cell? ⟨w3.heap.size, 1, none⟩ = some (.bool false) ∧ w'.cell? ⟨w3.heap.size, 2, none⟩ = some (.bool false) ∧ w'.cell? ⟨w3.heap.size, 3, none⟩ = some (.string ⟨#[]⟩) ∧ w'.cell? ⟨w3.heap.size, 4, none⟩ = some (.int .i64 0) ∧ w'.cell? ⟨w3.heap.size, 5, none⟩ = some (.int .u64 0) ∧ w'.cell? ⟨w3.heap.size, 6, none⟩ = some (.string ⟨#[]⟩) ∧ w'.cell? ⟨w3.heap.size, 7, none⟩ = some (.slice q1 q2 q3) ∧ w'.cell? ⟨w3.heap.size, 8, none⟩ = some (.slice q4 q5 q6)) (first | exact mkS.out _ (by first | (with_reducible exact Hid.out (by assumption)) | (with_reducible refine Ez.drew ?_; with_reducible exact Hid.out (by assumption))) | exact mkT.out _ (by first | (with_reducible exact Hid.out (by assumption)) | (with_reducible refine Ez.drew ?_; with_reducible exact Hid.out (by assumption)))) (first
    | (go_at_call 31; refine (hex.out _).mono ?_; rintro e v1 ⟨ns8, ls8, rfl, hr8, hb8⟩; have E1 : Hid (Ez w w3 (.slice q1 q2 q3) (.slice q4 q5 q6) (w9.heap.size + 1) 3 (some ([], true)) v1) := Ez.then (by repeat (first | (with_reducible exact Hid.out (by assumption)) | (with_reducible refine Ez.drew ?_))) hb8; obtain ⟨t1, t2, t3, t4, t5, t6, rfl, rfl⟩ := hr8.out.shape; clear hb8)
    | (go_at_call 15; (with_reducible refine Calls.mono (kEq.out _ _ _ ?_ ?_) ?_); exact (by repeat (first | (with_reducible exact Hid.out (by assumption)) | (with_reducible refine RD.drew ?_))); exact (by repeat (first | (with_reducible exact Hid.out (by assumption)) | (with_reducible refine Ez.drew ?_))); rintro e v2 ⟨rfl, hb8⟩; have E2 : Hid (Ez w w3 (.slice q1 q2 q3) (.slice q4 q5 q6) (w9.heap.size + 1) 3 (some ([], true)) v2) := Ez.then (by repeat (first | (with_reducible exact Hid.out (by assumption)) | (with_reducible refine Ez.drew ?_))) hb8; clear hb8)
    | (go_at_call 20; (with_reducible refine Calls.mono (kDn.out _ ?_) ?_); exact (by repeat (first | (with_reducible exact Hid.out (by assumption)) | (with_reducible refine Ez.drew ?_))); rintro e v4 ⟨rfl, hb8⟩; have E4 : Hid (Ez w w3 (.slice q1 q2 q3) (.slice q4 q5 q6) (w9.heap.size + 1) 3 (some ([], true)) v4) := Ez.then (by repeat (first | (with_reducible exact Hid.out (by assumption)) | (with_reducible refine Ez.drew ?_))) hb8; clear hb8)
    | (go_at_call 23; (with_reducible refine Calls.mono (kFd.out _ ?_) ?_); exact (by repeat (first | (with_reducible exact Hid.out (by assumption)) | (with_reducible refine Ez.drew ?_))); rintro e v5 ⟨rfl, E5⟩))
  all_goals (go_wp2_with fail; go_ret; exact ⟨by first | rfl | (simp; done), by first | exact E5.out.below | exact E5.out.drew.below⟩)
end Go.Proofs.YthbfopdeaknbkaaDoor
