/- Merged by program: JlVal, JmWrite, KzCatch, LaAtt, LcAtt. -/
import Derived.Test.YtoaacfhjejmbnaaGreatDoorZm40
import Derived.Defers
import Derived.Recover
import Derived.Laws.Pointers
import Derived.Test.YtoaacfhjejmbnaaGreatDoorZm38
import Derived.Test.YtoaacfhjejmbnaaGreatDoorZm39
/- json's writer: value: walked. -/
namespace Go.Proofs.YtoaacfhjejmbnaaGreatDoor
open Go.RowKit
set_option linter.unusedSimpArgs false
set_option linter.unusedVariables false
set_option maxHeartbeats 2000000 in
set_option maxRecDepth 100000 in
theorem jval_9 (n : Nat) (vo : ValOk n) (h : Hd) (l : List (VT n)) (ns ls : Value) (w0 W : World) (i : Nat) (A : List UInt8) (hc : Vc (n + 1) ((h, l) : VT (n + 1)) ns ls w0 i W) (hk : h.kind = 9) (hW : WB W i A) (hA : A.length ≤ 65536) :
    Calls Tryz.prog 34 #[.pointer (some ⟨i, 0, none⟩), .agg (vals h ns ls)] W fun e w' => WO i A (jtx (n + 1) ((h, l) : VT (n + 1))) W e w' := by
  have hiW := hW.lt
  have hloi := hc.lo
  obtain ⟨al, cl, rfl, hl1, hl2⟩ := hc.rd.len
  obtain ⟨an, cn, rfl, hn1, hn2⟩ := hc.rd.1.len
  have X0 := hide (fun o => hW.below (below_al (o := o) (Below.refl W.heap.size W)))
  have F0 : Hid (∀ o, FW i W (W.alloc o)) := fun o => FW.al (FW.refl _ _) hiW
  have B0 : Hid (∀ o, Below w0.heap.size w0 (W.alloc o)) := fun o => hc.be.trans ((below_al (Below.refl W.heap.size W)).mono hc.be.size)
  have hW' := hide hW
  have hA' := hide hA
  have hc' := hide hc
  have tz := hide hc.vo.2.1.1
  have hj := hide (show jtx (n + 1) ((h, l) : VT (n + 1)) = [123] ++ (quo dTag ++ ([58, 91] ++ (quo (bl h.text) ++ ([44] ++ ((l[0]?).elim [] (jtx n) ++ [93, 125]))))) by
    show (if h.kind = 1 then _ else _) = _
    rw [if_neg (show ¬ h.kind = 1 by omega), if_neg (show ¬ h.kind = 2 by omega), if_neg (show ¬ h.kind = 3 by omega), if_neg (show ¬ h.kind = 4 by omega), if_neg (show ¬ h.kind = 5 by omega), if_neg (show ¬ h.kind = 6 by omega), if_neg (show ¬ h.kind = 7 by omega), if_neg (show ¬ h.kind = 8 by omega)]
    first | done | rfl)
  have hl1' : l.length = 1 := (hc.vo.1.2.1.2.2.2 hk).2
  have hl0 : 0 < l.length := by omega
  obtain ⟨b, o, c, he, hbl, hlc, hcm2, ns', ls', hrg, hrd⟩ := hc.rd.at 0 hl0
  have he' := Value.slice.inj he
  obtain ⟨rfl, _, rfl⟩ := he'
  clear he
  have tg := hide (fun W1 (b : Below w0.heap.size w0 W1) (x : WB W1 i A) => jtag_any n vo h.text l[0] _ _ w0 W1 i A ⟨hrd, hc.vo.kid 0 hl0, hc.lo, b, hc.tab⟩ (by have := tz.out; simp only [hk] at this; have h2 : (h.text.size : Int) ≤ 64 := this; omega) x hA)
  have HRG := hide hrg
  obtain ⟨kd, fl, ng, dg, ex, bt, tx, nm⟩ := h
  simp only at hk hj tz HRG tg
  subst hk
  clear vo hc hW hA
  show Calls _ _ #[_, .agg #[.int .i64 9, .bool fl, .bool ng, .string dg, .int .i64 ex, .int .u64 bt, .string tx, .slice an nm.length cn, .slice (some ⟨b, o, none⟩) l.length cl]] _ _
  go_enter Tryz.func34, Tryz.ntmps34
  obtain ⟨a1, m1, d1, a2, m2, d2, rfl, rfl⟩ := hrd.shape
  obtain ⟨e0, e1, e2, e3, e4, e5, e6, e7, e8⟩ := range9 (rangeAt_below HRG.out hc'.out.be hbl)
  simp only [Nat.zero_mul, Nat.add_zero] at e0 e1 e2 e3 e4 e5 e6 e7 e8
  have hblw : b < W.heap.size := Nat.lt_of_lt_of_le hbl hc'.out.be.size
  obtain ⟨g, hg⟩ : ∃ g, vhd n l[0] = g := ⟨_, rfl⟩
  have hg2 : vhd n ((⟨9, fl, ng, dg, ex, bt, tx, nm⟩, l) : VT (n + 1)).2[0] = g := hg
  rw [hg2] at e0 e1 e2 e3 e4 e5 e6
  rw [hg] at tg
  simp only [vals] at tg
  have hl0i : (0 : Int) < (l.length : Int) := by omega
  have hel : Hid ((l[0]?).elim [] (jtx n) = jtx n l[0]) := by show _ = _; rw [List.getElem?_eq_getElem hl0]; rfl
  have hl1h := hide hl1'
  clear hrg hrd hg hg2 hl1'
  go_wp2_with fail
  go_region_with (go_at_call 61; refine (tg.out _ (hc'.out.be.trans ((show Below W.heap.size W _ by repeat (first | exact Below.refl _ _ | refine Below.drew ?_ | refine below_al ?_)).mono hc'.out.be.size)) (hW'.out.below (show Below W.heap.size W _ by repeat (first | exact Below.refl _ _ | refine Below.drew ?_ | refine below_al ?_)))).mono ?_; rintro e w2 hw; have K : Hid (WO i A (jtx (n + 1) ((⟨9, fl, ng, dg, ex, bt, tx, nm⟩, l) : VT (n + 1))) W e w2) := (by show WO _ _ _ _ _ _; rw [hj.out, hel.out]; exact WO.base (FW.of (show Below W.heap.size W _ by repeat (first | exact Below.refl _ _ | refine Below.drew ?_ | refine below_al ?_)) hiW) hw); rcases hw.two with rfl | rfl; rotate_left; (first | exact ⟨rfl, K.out⟩ | (go_simp; exact ⟨rfl, K.out⟩) | (unfold Exit.inBlock; exact ⟨rfl, K.out⟩)); clear hw)
  all_goals
    first | (go_wp2_with fail; go_end0; exact K.out) | (go_wp2_with fail; exact ⟨rfl, K.out⟩)
end Go.Proofs.YtoaacfhjejmbnaaGreatDoor
/- json.Write: walked. -/
namespace Go.Proofs.YtoaacfhjejmbnaaGreatDoor
open Go.RowKit
set_option linter.unusedSimpArgs false
set_option linter.unusedVariables false
theorem jval_all : ∀ n, ValOk n
  | 0 => fun x => Empty.elim x
  | n + 1 => fun x ns ls w0 W i A hc hW hA => by
    have vo := jval_all n
    obtain ⟨h, l⟩ := x
    have k1 : 1 ≤ h.kind := hc.vo.1.1.1
    have k9 : h.kind ≤ 9 := hc.vo.1.1.2.1
    by_cases q1 : h.kind = 1
    · exact jval_1 n vo h l ns ls w0 W i A hc q1 hW hA
    by_cases q2 : h.kind = 2
    · exact jval_2 n vo h l ns ls w0 W i A hc q2 hW hA
    by_cases q3 : h.kind = 3
    · exact jval_3 n vo h l ns ls w0 W i A hc q3 hW hA
    by_cases q4 : h.kind = 4
    · exact jval_4 n vo h l ns ls w0 W i A hc q4 hW hA
    by_cases q5 : h.kind = 5
    · exact jval_5 n vo h l ns ls w0 W i A hc q5 hW hA
    by_cases q6 : h.kind = 6
    · exact jval_6 n vo h l ns ls w0 W i A hc q6 hW hA
    by_cases q7 : h.kind = 7
    · exact jval_7 n vo h l ns ls w0 W i A hc q7 hW hA
    by_cases q8 : h.kind = 8
    · exact jval_8 n vo h l ns ls w0 W i A hc q8 hW hA
    exact jval_9 n vo h l ns ls w0 W i A hc (by omega) hW hA
theorem ta_nil (w : World) : (Instr.typeAssert .nilIface 20 33 true).run Tryz.prog w = .ok (.tuple #[.int .i64 0, .bool false]) w := by
  simp [Instr.typeAssert]
theorem ta_err (E : Int) (w : World) : (Instr.typeAssert (.iface 33 (.int .i64 E)) 20 33 true).run Tryz.prog w = .ok (.tuple #[.int .i64 E, .bool true]) w := by
  simp [Instr.typeAssert]
set_option maxHeartbeats 1000000 in
set_option maxRecDepth 100000 in
theorem wcatch_idle (p q : Addr) (w : World) :
    CallsD Tryz.prog 33 #[.pointer (some p), .pointer (some q)] .returning w fun e u' w' => e = .returned (.tuple #[]) ∧ u' = .returning ∧ w' = w := by
  refine callsD_of_wpS Tryz.func33 rfl fun c₀ cs hu => ?_
  apply wpS_seq
  apply wpS_region
  simp [wpOpsS, go_sem, recoverD, hu, Tryz.ntmps33, Exit.thenS, ta_nil]
  apply wpS_seq
  apply wpS_region
  simp [wpOpsS, go_sem, Exit.thenS, Array.replicate]
  refine wpS_cond (t := false) (by simp [Act.eval, Array.replicate]) ?_
  simp only [Bool.false_eq_true, if_false]
  refine wpS_of_wp (wp_skip ?_)
  cases c₀
  simp_all [bodyPostS, results, Tryz.results33]
set_option maxHeartbeats 1000000 in
set_option maxRecDepth 100000 in
theorem wcatch_pan (p q : Addr) (x : Int) (v : Value) (older : List PanicEntry) (w : World) (hc : w.cell? p = some v) (hz : w.frozen? p = false) (hc2 : w.cell? q = some (.int .i64 x)) (hz2 : w.frozen? q = false) (hpq : p ≠ q) (E : Int) :
    CallsD Tryz.prog 33 #[.pointer (some p), .pointer (some q)] (.panicking ({ v := .iface 33 (.int .i64 E), recovered := false } :: older)) w fun e u' w' =>
      e = .returned (.tuple #[]) ∧ u' = .panicking ({ v := .iface 33 (.int .i64 E), recovered := true } :: older) ∧ w' = (w.setCell p (.slice none 0 0)).setCell q (.int .i64 E) := by
  have hc3 : (w.setCell p (.slice none 0 0)).cell? q = some (.int .i64 x) := by rw [World.cell?_setCell_other _ _ _ _ hpq]; exact hc2
  refine callsD_of_wpS Tryz.func33 rfl fun c₀ cs hu => ?_
  apply wpS_seq
  apply wpS_region
  simp [wpOpsS, go_sem, recoverD, hu, Tryz.ntmps33, Exit.thenS, ta_err]
  apply wpS_seq
  apply wpS_region
  simp [wpOpsS, go_sem, Exit.thenS, Array.replicate]
  refine wpS_cond (t := true) (by simp [Act.eval, Array.replicate]) ?_
  simp only [if_true]
  apply wpS_region
  simp [wpOpsS, go_sem, hc, hz, hc3, hz2, bodyPostS, results, Tryz.results33]
end Go.Proofs.YtoaacfhjejmbnaaGreatDoor
/- json's Reader: the deferred closure of attempt walked. -/
namespace Go.Proofs.YtoaacfhjejmbnaaGreatDoor
open Go.RowKit
set_option linter.unusedSimpArgs false
set_option linter.unusedVariables false
/-- A reader that answers E from now on. -/
def deadC (E : Int) : Array Value := #[.int .i64 E, .int .i64 0, .bool false, .slice none 0 0, .int .i64 0, .slice none 0 0, .int .i64 0, .int .i64 0, .int .i64 0, .int .i64 0, .int .i64 0, .slice none 0 0, .pointer none, .pointer none, .slice none 0 0]
def RdE (W : World) (r : Nat) (E : Int) : Prop := W.heap[r]? = some (.cells (deadC E) 83 (0, 0))
/-- Fifteen cells stored. -/
def dead15 (w : World) (r : Nat) (E : Int) : World := ((((((((((((((w.setCell ⟨r, 0, none⟩ (.int .i64 E)).setCell ⟨r, 1, none⟩ (.int .i64 0)).setCell ⟨r, 2, none⟩ (.bool false)).setCell ⟨r, 3, none⟩ (.slice none 0 0)).setCell ⟨r, 4, none⟩ (.int .i64 0)).setCell ⟨r, 5, none⟩ (.slice none 0 0)).setCell ⟨r, 6, none⟩ (.int .i64 0)).setCell ⟨r, 7, none⟩ (.int .i64 0)).setCell ⟨r, 8, none⟩ (.int .i64 0)).setCell ⟨r, 9, none⟩ (.int .i64 0)).setCell ⟨r, 10, none⟩ (.int .i64 0)).setCell ⟨r, 11, none⟩ (.slice none 0 0)).setCell ⟨r, 12, none⟩ (.pointer none)).setCell ⟨r, 13, none⟩ (.pointer none)).setCell ⟨r, 14, none⟩ (.slice none 0 0)
theorem dead_but (w : World) (r : Nat) (E : Int) : But r w (dead15 w r E) :=
  (((((((((((((((But.refl r w).set 0 _).set 1 _).set 2 _).set 3 _).set 4 _).set 5 _).set 6 _).set 7 _).set 8 _).set 9 _).set 10 _).set 11 _).set 12 _).set 13 _).set 14 _
theorem dead_rd {w : World} {r : Nat} {s : Rv} (h : RdB w r s) (E : Int) : RdE (dead15 w r E) r E := by
  unfold RdB at h
  have h0 := blk_set h 0 (.int .i64 E)
  have h1 := blk_set h0 1 (.int .i64 0)
  have h2 := blk_set h1 2 (.bool false)
  have h3 := blk_set h2 3 (.slice none 0 0)
  have h4 := blk_set h3 4 (.int .i64 0)
  have h5 := blk_set h4 5 (.slice none 0 0)
  have h6 := blk_set h5 6 (.int .i64 0)
  have h7 := blk_set h6 7 (.int .i64 0)
  have h8 := blk_set h7 8 (.int .i64 0)
  have h9 := blk_set h8 9 (.int .i64 0)
  have h10 := blk_set h9 10 (.int .i64 0)
  have h11 := blk_set h10 11 (.slice none 0 0)
  have h12 := blk_set h11 12 (.pointer none)
  have h13 := blk_set h12 13 (.pointer none)
  have h14 := blk_set h13 14 (.slice none 0 0)
  unfold RdE dead15
  rw [h14]
  simp [Rv.cells, deadC]
set_option maxHeartbeats 1000000 in
set_option maxRecDepth 100000 in
theorem acatch_idle (p q s : Addr) (w : World) :
    CallsD Tryz.prog 75 #[.pointer (some p), .pointer (some q), .pointer (some s)] .returning w fun e u' w' => e = .returned (.tuple #[]) ∧ u' = .returning ∧ w' = w := by
  refine callsD_of_wpS Tryz.func75 rfl fun c₀ cs hu => ?_
  apply wpS_seq
  apply wpS_region
  simp [wpOpsS, go_sem, recoverD, hu, Tryz.ntmps75, Exit.thenS, ta_nil]
  apply wpS_seq
  apply wpS_region
  simp [wpOpsS, go_sem, Exit.thenS, Array.replicate]
  refine wpS_cond (t := false) (by simp [Act.eval, Array.replicate]) ?_
  simp only [Bool.false_eq_true, if_false]
  refine wpS_of_wp (wp_skip ?_)
  cases c₀
  simp_all [bodyPostS, results, Tryz.results75]
set_option maxHeartbeats 4000000 in
set_option maxRecDepth 100000 in
theorem acatch_pan (p q t r : Nat) (s : Rv) (x : Int) (v : Value) (older : List PanicEntry) (w : World) (hp : w.cell? ⟨p, 0, none⟩ = some (.pointer (some ⟨r, 0, none⟩))) (hr : RdB w r s) (hq : w.cell? ⟨q, 0, none⟩ = some v) (zq : w.frozen? ⟨q, 0, none⟩ = false) (ht : w.cell? ⟨t, 0, none⟩ = some (.int .i64 x)) (zt : w.frozen? ⟨t, 0, none⟩ = false) (hqt : q ≠ t) (hrq : r ≠ q) (hrt : r ≠ t) (E : Int) :
    CallsD Tryz.prog 75 #[.pointer (some ⟨p, 0, none⟩), .pointer (some ⟨q, 0, none⟩), .pointer (some ⟨t, 0, none⟩)] (.panicking ({ v := .iface 33 (.int .i64 E), recovered := false } :: older)) w fun e u' w' =>
      e = .returned (.tuple #[]) ∧ u' = .panicking ({ v := .iface 33 (.int .i64 E), recovered := true } :: older) ∧ w' = ((dead15 w r E).setCell ⟨q, 0, none⟩ (.slice none 0 0)).setCell ⟨t, 0, none⟩ (.int .i64 E) := by
  have fr := hr.frz
  have c0 := (hr.cell 0).trans rfl
  have c1 := (hr.cell 1).trans rfl
  have c2 := (hr.cell 2).trans rfl
  have c3 := (hr.cell 3).trans rfl
  have c4 := (hr.cell 4).trans rfl
  have c5 := (hr.cell 5).trans rfl
  have c6 := (hr.cell 6).trans rfl
  have c7 := (hr.cell 7).trans rfl
  have c8 := (hr.cell 8).trans rfl
  have c9 := (hr.cell 9).trans rfl
  have c10 := (hr.cell 10).trans rfl
  have c11 := (hr.cell 11).trans rfl
  have c12 := (hr.cell 12).trans rfl
  have c13 := (hr.cell 13).trans rfl
  have c14 := (hr.cell 14).trans rfl
  simp only [Rv.cells, List.getElem?_toArray, List.getElem?_cons_zero, List.getElem?_cons_succ] at c0 c1 c2 c3 c4 c5 c6 c7 c8 c9 c10 c11 c12 c13 c14
  have bb := dead_but w r E
  obtain ⟨D, hD⟩ : ∃ D, dead15 w r E = D := ⟨_, rfl⟩
  rw [hD] at bb ⊢
  have kq : D.cell? ⟨q, 0, none⟩ = some v := (World.cell?_of_block (w := w) (bb.blk q (Ne.symm hrq))).trans hq
  have zq' : D.frozen? ⟨q, 0, none⟩ = false := (World.frozen?_of_block (w := w) (bb.blk q (Ne.symm hrq))).trans zq
  have kt : (D.setCell ⟨q, 0, none⟩ (.slice none 0 0)).cell? ⟨t, 0, none⟩ = some (.int .i64 x) := (World.cell?_of_block (w := D) (Below.heap_setCell _ _ _ _ (Ne.symm hqt))).trans ((World.cell?_of_block (w := w) (bb.blk t (Ne.symm hrt))).trans ht)
  have zt' : (D.setCell ⟨q, 0, none⟩ (.slice none 0 0)).frozen? ⟨t, 0, none⟩ = false := (World.frozen?_of_block (w := D) (Below.heap_setCell _ _ _ _ (Ne.symm hqt))).trans ((World.frozen?_of_block (w := w) (bb.blk t (Ne.symm hrt))).trans zt)
  simp only [dead15] at hD
  clear bb hr
  refine callsD_of_wpS Tryz.func75 rfl fun c₀ cs hu => ?_
  apply wpS_seq
  apply wpS_region
  simp [wpOpsS, go_sem, recoverD, hu, Tryz.ntmps75, Exit.thenS, ta_err]
  apply wpS_seq
  apply wpS_region
  simp [wpOpsS, go_sem, Exit.thenS, Array.replicate]
  refine wpS_cond (t := true) (by simp [Act.eval, Array.replicate]) ?_
  simp only [if_true]
  apply wpS_seq
  apply wpS_region
  simp [wpOpsS, go_sem, Exit.thenS, hp, fr, c0, c1, c2, c3, c4, c5, c6, c7, c8, c9, c10, c11, c12, c13, c14, hD]
  apply wpS_region
  simp [wpOpsS, go_sem, kq, zq', kt, zt', bodyPostS, results, Tryz.results75]
end Go.Proofs.YtoaacfhjejmbnaaGreatDoor
/- json's Reader: what attempt's walk wants. -/
namespace Go.Proofs.YtoaacfhjejmbnaaGreatDoor
open Go.RowKit
set_option linter.unusedSimpArgs false
set_option linter.unusedVariables false
/-- A type that none of the reader's blocks has. -/
structure NoT (T : TypeId) : Prop where
  t1 : T ≠ 83
  t2 : T ≠ 109
  t3 : T ≠ 136
  t4 : T ≠ 112
  t5 : T ≠ 184
  t6 : T ≠ 86
theorem noT_32 : NoT 32 := ⟨by decide, by decide, by decide, by decide, by decide, by decide⟩
theorem noT_48 : NoT 48 := ⟨by decide, by decide, by decide, by decide, by decide, by decide⟩
theorem noT_50 : NoT 50 := ⟨by decide, by decide, by decide, by decide, by decide, by decide⟩
theorem noT_33 : NoT 33 := ⟨by decide, by decide, by decide, by decide, by decide, by decide⟩
section
variable {W W1 W2 : World} {r : Nat} {g : Gv} {m m1 : Mv} {st : St}
theorem RM.apart2 (h : RM W r g m st) {k : Nat} {c : Array Value} {T : TypeId} {f : Nat × Nat} (hE : W.heap[k]? = some (.cells c T f)) (hT : NoT T) (nb : NoB m k) (hlo : g.lo ≤ k) (hb : But k W W1) : RM W1 r g m st := by
  have hr := h.rd
  unfold RdB at hr
  have ht := h.ty.tb
  unfold TyB at ht
  have key : ∀ {q : Nat} {c : Array Value} {T' : TypeId} {f : Nat × Nat}, W.heap[q]? = some (.cells c T' f) → T ≠ T' → W1.heap[q]? = some (.cells c T' f) := fun {q c T' f} hq hT => by
    rw [hb.blk q (fun e => by rw [e, hE] at hq; exact hT (cells_ty hq)), hq]
  have row : ∀ {u : Value} {B T sz n : Nat} {xs : List Value}, W.ownsRow B T sz u n xs → u.ownBlock ≠ some k → W1.ownsRow B T sz u n xs := fun {u B T sz n xs} ho hn => own_of ho fun q hq _ => hb.blk q (fun e => hn (by rw [hq, e]))
  refine ⟨key hr hT.t1, row h.word nb.1, row h.held nb.2.1, h.dif, row h.opn (ty_ne hE h.opn hT.t6), row h.told nb.2.2, ?_, ?_, Gu.low h.gu (hb.below hlo) h.gk.low, h.gk, h.qf, h.wl, h.kl, h.tl⟩
  · exact h.ck.keep (Nat.le_of_eq hb.size.symm) fun q _ hq => hb.blk q (fun e => by subst e; exact ty_no hE hT.t2 hT.t3 hq)
  · exact h.ty.keep (Nat.le_of_eq hb.size.symm) (by rw [key ht hT.t4, ht]) fun q hq => by
      obtain ⟨c, f, hc⟩ := own_blk h.ty.row hq
      rw [key hc hT.t5, hc]
theorem Bo.set {k T : Nat} {v : Value} (h : Bo W m k v T) (u : Value) : Bo (W.setCell ⟨k, 0, none⟩ u) m k u T := ⟨by rw [blk_set h.1]; rfl, h.2⟩
theorem Bo.other {k j b T : Nat} {v u : Value} (h : Bo W m k v T) (hk : k ≠ b) : Bo (W.setCell ⟨b, j, none⟩ u) m k v T := ⟨by rw [Below.heap_setCell _ _ _ _ hk]; exact h.1, h.2⟩
theorem RM.bx (h : RM W r g m st) {k T : Nat} {v : Value} (hk : Bo W m k v T) (hT : NoT T) (hlo : g.lo ≤ k) (u : Value) : RM (W.setCell ⟨k, 0, none⟩ u) r g m st := h.apart2 hk.1 hT hk.2 hlo ((But.refl k W).set 0 u)
theorem RF.bx (h : RF g m W W1) {k : Nat} (hk : W.heap.size ≤ k) (hlo : g.lo ≤ W.heap.size) (u : Value) : RF g m W (W1.setCell ⟨k, 0, none⟩ u) := h.fresh hk hlo ((But.refl k W1).set 0 u)
/-- What is told is handed out. -/
theorem RM.t0 (h : RM W r g m st) : RM (W.setCell ⟨r, 14, none⟩ (.slice none 0 0)) r g { m with told := .slice none 0 0 } { st with told := [] } ∧ RF g m W (W.setCell ⟨r, 14, none⟩ (.slice none 0 0)) ∧ OM W m { m with told := .slice none 0 0 } := by
  have F : RdF r m.told W (W.setCell ⟨r, 14, none⟩ (.slice none 0 0)) := RdF.refl.set 14 _
  have ob : OB W m.told (.slice none 0 0) := Or.inr fun q hq => by cases hq
  exact ⟨h.ofTold F (h.rd.set 14 _ _ rfl) (World.ownsRow_nil _ _ _ _) (by simp), RF.ofTold h F, ⟨OB.refl _ _, OB.refl _ _, ob⟩⟩
end
/-- What Feed and End answer of a reader that goes on. -/
def AP (W : World) (r : Nat) (g : Gv) (m : Mv) (o : Sum Int St) (e : Ending) (w' : World) : Prop :=
  RF g m W w' ∧ match o with
  | .inl E => e = .returned (.tuple #[.slice none 0 0, .int .i64 E]) ∧ RdE w' r E
  | .inr x => ∃ m' v, e = .returned (.tuple #[v, .int .i64 0]) ∧ RM w' r g m' { x with told := [] } ∧ OM W m m' ∧ m'.told = .slice none 0 0 ∧ w'.ownsRow (r + 1) 88 7 v x.told.length (ecs x.told) ∧ OB W m.told v
end Go.Proofs.YtoaacfhjejmbnaaGreatDoor
/- json's Reader: attempt walked (genatt.py writes this). -/
namespace Go.Proofs.YtoaacfhjejmbnaaGreatDoor
open Go.RowKit
set_option linter.unusedSimpArgs false
set_option linter.unusedVariables false
section
variable {W W1 W2 : World} {r : Nat} {g : Gv} {m m1 : Mv} {st : St}
set_option maxHeartbeats 4000000 in
set_option maxRecDepth 100000 in
theorem attE_r (h : RM W r g m st) (o : Sum Int St) (DO : ∀ w1, RM w1 r g m st → RF g m W w1 → Calls Tryz.prog 44 #[.pointer (some ⟨r, 0, none⟩)] w1 fun e w' => RP w1 r g m o e w') :
    Calls Tryz.prog 41 #[.pointer (some ⟨r, 0, none⟩), .func (.func 44) #[.pointer (some ⟨r, 0, none⟩)] #[]] W fun e w' => AP W r g m o e w' := by
  have hmf : ∀ (fn : Fn) (first cap : Array Value) (w : World), (Instr.makeFunc fn first cap).run Tryz.prog w = .ok (.func fn first cap) w := fun _ _ _ _ => rfl
  have hlt := h.lt
  obtain ⟨W3, hW3⟩ : ∃ W3, W3 = ((W.alloc (.cells #[.pointer (some ⟨r, 0, none⟩)] 48)).alloc (.cells #[.slice none 0 0] 50)).alloc (.cells #[.int .i64 0] 33) := ⟨_, rfl⟩
  have B3 : Hid (Below W.heap.size W W3) := by rw [hW3]; exact below_al (below_al (below_al (Below.refl _ _)))
  have M3 := hide (h.then B3.out)
  have nb := fun k (hk : W.heap.size ≤ k) => h.nob hk
  have X1 : Hid (Bo W3 m W.heap.size (.pointer (some ⟨r, 0, none⟩)) 48) := ⟨by
    rw [hW3, Below.heap_alloc _ _ _ (by simp; omega), Below.heap_alloc _ _ _ (by simp)]; exact heap_alloc_last _ _, nb _ (Nat.le_refl _)⟩
  have X2 : Hid (Bo W3 m (W.heap.size + 1) (.slice none 0 0) 50) := ⟨by
    rw [hW3, Below.heap_alloc _ _ _ (by simp)]
    have := heap_alloc_last (W.alloc (.cells #[.pointer (some ⟨r, 0, none⟩)] 48)) (.cells #[.slice none 0 0] 50)
    rw [World.size_alloc] at this
    exact this, nb _ (Nat.le_succ _)⟩
  have X3 : Hid (Bo W3 m (W.heap.size + 1 + 1) (.int .i64 0) 33) := ⟨by
    rw [hW3]
    have := heap_alloc_last ((W.alloc (.cells #[.pointer (some ⟨r, 0, none⟩)] 48)).alloc (.cells #[.slice none 0 0] 50)) (.cells #[.int .i64 0] 33)
    rw [World.size_alloc, World.size_alloc] at this
    exact this, nb _ (by omega)⟩
  have lo := hide h.lo
  have gkr := hide h.gk.loR
  have D3 := hide (DO W3 M3.out (RF.of B3.out lo.out))
  rw [hW3] at D3
  have c0 := (M3.out.rd.cell 0).trans (show _ = some (.int .i64 0) from rfl)
  have c1 := X1.out.cell
  have c2 := X2.out.cell
  have c3 := X3.out.cell
  rw [hW3] at c0 c1 c2 c3
  clear h nb DO
  obtain ⟨k, hk⟩ : ∃ k, W.heap.size = k := ⟨_, rfl⟩
  have hk' := hide hk
  rw [hk] at c1 c2 c3 X1 X2 X3
  cases o with
  | inl E =>
    go_enter_defers Tryz.func41, Tryz.ntmps41
    go_wp2_with (go_at_call 44; refine Sto.out ?_)
    refine Sto.mk (D3.out.mono ?_)
    rintro e w1 ⟨hp1, rfl, s1, hp2⟩
    rw [← hW3] at hp1
    have F1 : Hid (RF g m W w1) := (RF.of B3.out lo.out).trans (OM.refl _ _) hp1
    have Y1 := hide (X1.out.move hp1 (OM.refl _ _) noT_48.t1 noT_48.t2 noT_48.t3 noT_48.t4 noT_48.t5 noT_48.t6)
    have Y2 := hide (X2.out.move hp1 (OM.refl _ _) noT_50.t1 noT_50.t2 noT_50.t3 noT_50.t4 noT_50.t5 noT_50.t6)
    have Y3 := hide (X3.out.move hp1 (OM.refl _ _) noT_33.t1 noT_33.t2 noT_33.t3 noT_33.t4 noT_33.t5 noT_33.t6)
    have R1 := hide hp2
    have d1 := Y1.out.cell
    have d2 := Y2.out.cell
    have d3 := Y3.out.cell
    have f2 := Y2.out.frz
    have f3 := Y3.out.frz
    clear c0 c1 c2 c3 hp1 hp2
    have rk : r < k := by omega
    go_wp2_with fail
    unfold pan
    refine leaves_cons (f := 75) (args := #[.pointer (some ⟨k, 0, none⟩), .pointer (some ⟨k + 1, 0, none⟩), .pointer (some ⟨k + 1 + 1, 0, none⟩)]) (by simp) (by simp [go_sem]) ?_
    refine (acatch_pan k (k + 1) (k + 1 + 1) r s1 0 (.slice none 0 0) [] _ d1 R1.out d2 f2 d3 f3 (by omega) (by omega) (by omega) E).mono ?_
    rintro e u' w'' ⟨rfl, rfl, rfl⟩
    have DR := dead_rd R1.out E
    have DB := dead_but w1 r E
    obtain ⟨D, hD⟩ : ∃ D, dead15 w1 r E = D := ⟨_, rfl⟩
    rw [hD] at DR DB ⊢
    have g2 : Bo D m (k + 1) (.slice none 0 0) 50 := ⟨(DB.blk _ (by omega)).trans Y2.out.1, Y2.out.2⟩
    have g3 : Bo D m (k + 1 + 1) (.int .i64 0) 33 := ⟨(DB.blk _ (by omega)).trans Y3.out.1, Y3.out.2⟩
    have e2 : ((D.setCell ⟨k + 1, 0, none⟩ (.slice none 0 0)).setCell ⟨k + 1 + 1, 0, none⟩ (.int .i64 E)).cell? ⟨k + 1, 0, none⟩ = some (.slice none 0 0) := ((g2.set _).other (by omega)).cell
    have e3 : ((D.setCell ⟨k + 1, 0, none⟩ (.slice none 0 0)).setCell ⟨k + 1 + 1, 0, none⟩ (.int .i64 E)).cell? ⟨k + 1 + 1, 0, none⟩ = some (.int .i64 E) := ((g3.other (b := k + 1) (j := 0) (u := .slice none 0 0) (by omega)).set _).cell
    have FD : RF g m W D := by
      refine ⟨F1.out.below.trans (DB.below (by have := gkr.out; omega)), fun q c T f hq t1 t2 t3 t4 t5 t6 n1 n2 n3 => ?_⟩
      rw [DB.blk q (fun e => ?_)]
      · exact F1.out.keep q c T f hq t1 t2 t3 t4 t5 t6 n1 n2 n3
      · have := F1.out.keep q c T f hq t1 t2 t3 t4 t5 t6 n1 n2 n3
        have hr := R1.out
        unfold RdB at hr
        rw [e, hr] at this
        exact t1 (cells_ty this).symm
    have RZ : RdE ((D.setCell ⟨k + 1, 0, none⟩ (.slice none 0 0)).setCell ⟨k + 1 + 1, 0, none⟩ (.int .i64 E)) r E := by
      unfold RdE
      rw [Below.heap_setCell _ _ _ _ (show r ≠ k + 1 + 1 by omega), Below.heap_setCell _ _ _ _ (show r ≠ k + 1 by omega)]
      exact DR
    have FZ := (FD.bx (k := k + 1) (by rw [hk'.out]; omega) lo.out (.slice none 0 0)).bx (k := k + 1 + 1) (by rw [hk'.out]; omega) lo.out (.int .i64 E)
    obtain ⟨Z, hZ⟩ : ∃ Z, (D.setCell ⟨k + 1, 0, none⟩ (.slice none 0 0)).setCell ⟨k + 1 + 1, 0, none⟩ (.int .i64 E) = Z := ⟨_, rfl⟩
    rw [hZ] at e2 e3 RZ FZ ⊢
    clear hZ g2 g3 FD hD DR DB
    simp [Leaves, settle, results, Tryz.results41, go_sem, e2, e3]
    exact ⟨FZ, rfl, RZ⟩
  | inr x =>
    go_enter_defers Tryz.func41, Tryz.ntmps41
    go_wp2_with (go_at_call 44; refine Sto.out ?_)
    refine Sto.mk (D3.out.mono ?_)
    rintro e w1 ⟨hp1, rfl, m1, hp2, hp3⟩
    rw [← hW3] at hp1 hp3
    have F1 : Hid (RF g m W w1) := (RF.of B3.out lo.out).trans (OM.refl _ _) hp1
    have O1 : Hid (OM W m m1) := (OM.refl _ _).trans hp3 B3.out.size
    have Y1 := hide (X1.out.move hp1 hp3 noT_48.t1 noT_48.t2 noT_48.t3 noT_48.t4 noT_48.t5 noT_48.t6)
    have Y2 := hide (X2.out.move hp1 hp3 noT_50.t1 noT_50.t2 noT_50.t3 noT_50.t4 noT_50.t5 noT_50.t6)
    have Y3 := hide (X3.out.move hp1 hp3 noT_33.t1 noT_33.t2 noT_33.t3 noT_33.t4 noT_33.t5 noT_33.t6)
    have M1 := hide hp2
    obtain ⟨ta, tc, hT⟩ := hp2.shT
    have d1 := Y1.out.cell
    have d2 := Y2.out.cell
    have d3 := Y3.out.cell
    have f2 := Y2.out.frz
    have f3 := Y3.out.frz
    have d14 : w1.cell? ⟨r, 14, none⟩ = some (.slice ta x.told.length tc) := (hp2.rd.cell 14).trans (by rw [← hT]; rfl)
    have f14 : w1.frozen? ⟨r, 14, none⟩ = false := hp2.rd.frz 14
    have hT' := hide hT
    clear c0 c1 c2 c3 hp1 hp2 hp3 hT
    have rk : r < k := by omega
    have n1 : ¬ r = k := by omega
    have n2 : ¬ r = k + 1 := by omega
    have n3 : ¬ r = k + 1 + 1 := by omega
    have n4 : ¬ k + 1 = r := by omega
    have n5 : ¬ k = r := by omega
    go_wp2_with fail
    refine wp_region_noPanic ?_
    go_region_with (fail)
    all_goals
      refine NoPanic.normal ?_
      go_wp2_with fail
      refine leaves_cons (f := 75) (args := #[.pointer (some ⟨k, 0, none⟩), .pointer (some ⟨k + 1, 0, none⟩), .pointer (some ⟨k + 1 + 1, 0, none⟩)]) (by simp) (by simp [go_sem]) ?_
      refine (acatch_idle ⟨k, 0, none⟩ ⟨k + 1, 0, none⟩ ⟨k + 1 + 1, 0, none⟩ _).mono ?_
      rintro e u' w'' ⟨rfl, rfl, rfl⟩
      have hlo : g.lo ≤ k := by have := lo.out; rw [hk'.out] at this; exact this
      have A1 := M1.out.bx Y2.out noT_50 (by omega) (.slice ta x.told.length tc)
      have A2 := A1.t0
      have G2 := ((Y2.out.set (.slice ta x.told.length tc)).other (b := r) (j := 14) (u := .slice none 0 0) (by omega))
      have G3 := ((Y3.out.other (b := k + 1) (j := 0) (u := .slice ta x.told.length tc) (by omega)).other (b := r) (j := 14) (u := .slice none 0 0) (by omega))
      have nn : ∀ {q : Nat}, NoB m1 q → NoB { m1 with told := .slice none 0 0 } q := fun nb => ⟨nb.1, nb.2.1, fun e => by cases e⟩
      have A3 := A2.1.bx ⟨G2.1, nn G2.2⟩ noT_50 (by omega) (.slice ta x.told.length tc)
      have G2' := G2.set (.slice ta x.told.length tc)
      have G3' := G3.other (b := k + 1) (j := 0) (u := .slice ta x.told.length tc) (by omega)
      have A4 := A3.bx ⟨G3'.1, nn G3'.2⟩ noT_33 (by omega) (.int .i64 0)
      have G2'' := G2'.other (b := k + 1 + 1) (j := 0) (u := .int .i64 0) (by omega)
      have G3'' := G3'.set (.int .i64 0)
      have P1 := F1.out.bx (k := k + 1) (by rw [hk'.out]; omega) lo.out (.slice ta x.told.length tc)
      have P2 := P1.trans O1.out A2.2.1
      have P3 := P2.bx (k := k + 1) (by rw [hk'.out]; omega) lo.out (.slice ta x.told.length tc)
      have P4 := P3.bx (k := k + 1 + 1) (by rw [hk'.out]; omega) lo.out (.int .i64 0)
      have OT : w1.ownsRow (r + 1) 88 7 (.slice ta x.told.length tc) x.told.length (ecs x.told) := hT'.out ▸ M1.out.told
      have nbt := fun q (hq : (Value.slice ta x.told.length tc).ownBlock = some q) => (show q ≠ r ∧ q ≠ k + 1 ∧ q ≠ k + 1 + 1 from ⟨by have := (World.ownsRow.lt OT q hq).1; omega, fun e => Y2.out.2.2.2 (by rw [hT'.out, hq, e]), fun e => Y3.out.2.2.2 (by rw [hT'.out, hq, e])⟩)
      have OZ : ((((w1.setCell ⟨k + 1, 0, none⟩ (.slice ta x.told.length tc)).setCell ⟨r, 14, none⟩ (.slice none 0 0)).setCell ⟨k + 1, 0, none⟩ (.slice ta x.told.length tc)).setCell ⟨k + 1 + 1, 0, none⟩ (.int .i64 0)).ownsRow (r + 1) 88 7 (.slice ta x.told.length tc) x.told.length (ecs x.told) := own_of OT fun q hq _ => by
        obtain ⟨q1, q2, q3⟩ := nbt q hq
        rw [Below.heap_setCell _ _ _ _ q3, Below.heap_setCell _ _ _ _ q2, Below.heap_setCell _ _ _ _ q1, Below.heap_setCell _ _ _ _ q2]
      have OBv : OB W m.told (.slice ta x.told.length tc) := by rw [← hT'.out]; exact O1.out.told
      have OMm : OM W m { m1 with told := .slice none 0 0 } := ⟨O1.out.word, O1.out.held, Or.inr fun q hq => by cases hq⟩
      have dr := fun (Z : World) => (dn_b Z 1)
      obtain ⟨Z, hZ⟩ : ∃ Z, (((w1.setCell ⟨k + 1, 0, none⟩ (.slice ta x.told.length tc)).setCell ⟨r, 14, none⟩ (.slice none 0 0)).setCell ⟨k + 1, 0, none⟩ (.slice ta x.told.length tc)).setCell ⟨k + 1 + 1, 0, none⟩ (.int .i64 0) = Z := ⟨_, rfl⟩
      rw [hZ] at A4 G2'' G3'' P4 OZ ⊢
      have e2 : Z.drew.cell? ⟨k + 1, 0, none⟩ = some (.slice ta x.told.length tc) := G2''.cell
      have e3 : Z.drew.cell? ⟨k + 1 + 1, 0, none⟩ = some (.int .i64 0) := G3''.cell
      clear hZ A1 A2 A3 G2 G3 G2' G3' P1 P2 P3
      simp [Leaves, settle, results, Tryz.results41, go_sem, e2, e3]
      refine ⟨P4.trans (OM.refl _ _) (RF.of (Below.refl Z.heap.size Z).drew (by have := P4.below.size; have := lo.out; omega)), { m1 with told := .slice none 0 0 }, .slice ta x.told.length tc, rfl, A4.then (Below.refl Z.heap.size Z).drew, OMm, rfl, own_of OZ fun q _ _ => rfl, OBv⟩
end
end Go.Proofs.YtoaacfhjejmbnaaGreatDoor
