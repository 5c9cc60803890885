/- calamuslaw04.ValueChecks: walked. -/
import Derived.Test.YtemlpjnophijfaaDoorXqCopy
import Derived.Test.YtemlpjnophijfaaDoorXkVal
import Derived.Test.YtemlpjnophijfaaDoorXbRdep
import Derived.Test.YtemlpjnophijfaaDoorXcReq
import Derived.Test.YtemlpjnophijfaaDoorWmAwake
import Derived.Deep.RegionHeld3
namespace Go.Proofs.YtemlpjnophijfaaDoor
open Go.RowKit
set_option linter.unusedSimpArgs false
set_option linter.unusedVariables false
/-- Where ValueChecks stands: the struct, and its copy. -/
structure Cx (w : World) (n : Nat) (x : VT n) (h : Hd) (ns ls ns2 ls2 : Value) (i2 : Nat) (W : World) : Prop where
  below : Below w.heap.size w W
  ba : Bx W w.heap.size h ns ls
  bb : Bx W i2 h ns2 ls2
  rd : RD n W x ns2 ls2
theorem Cx.then {w W W1 : World} {n i2 : Nat} {x : VT n} {h : Hd} {ns ls ns2 ls2 : Value} (c : Cx w n x h ns ls ns2 ls2 i2 W) (hb : Below W.heap.size W W1) : Cx w n x h ns ls ns2 ls2 i2 W1 :=
  ⟨below_then c.below hb, c.ba.below hb, c.bb.below hb, c.rd.below hb⟩
theorem Cx.drew {w W : World} {n i2 : Nat} {x : VT n} {h : Hd} {ns ls ns2 ls2 : Value} (c : Cx w n x h ns ls ns2 ls2 i2 W) : Cx w n x h ns ls ns2 ls2 i2 W.drew := c.then (Below.refl _ _).drew
theorem Cx.al {w W : World} {o : Obj} {n i2 : Nat} {x : VT n} {h : Hd} {ns ls ns2 ls2 : Value} (c : Cx w n x h ns ls ns2 ls2 i2 W) : Cx w n x h ns ls ns2 ls2 i2 (W.alloc o) := c.then (below_al (Below.refl _ _))
set_option maxHeartbeats 4000000 in
set_option maxRecDepth 100000 in
theorem checks_law (n : Nat) (x : VT n) (ns ls : Value) (w : World) (hr : RD n w x ns ls) (hz : Sz n x) (g : Ut.Gu w) :
    Calls Tryd.prog 3 #[.agg (vals (vhd n x) ns ls)] w fun e w' => e = .returned (.bool true) ∧ Below w.heap.size w w' := by
  obtain ⟨a1, m1, d1, a2, m2, d2, rfl, rfl⟩ := hr.shape
  obtain ⟨h, hh⟩ : ∃ h, vhd n x = h := ⟨_, rfl⟩
  have hbig := hide (fun o => Go.Proofs.YtemlpjnophijfaaDoor.big_any n x (.slice a1 m1 d1) (.slice a2 m2 d2) (w.alloc o) (hr.below (below_al (Below.refl _ _))) hz)
  have hB0 := hide (bx_new w h (.slice a1 m1 d1) (.slice a2 m2 d2))
  have hb0 : Hid (∀ o, Below w.heap.size w (w.alloc o)) := fun o => below_al (Below.refl _ _)
  have hcp := hide (fun W (hb : Below w.heap.size w W) (hk : blk n x ≤ 65536) => copy_any n x _ _ W (hr.below hb) (by omega))
  replace hr := hide hr
  replace hz := hide hz
  replace g := hide g
  have hh' := hide hh
  rw [hh] at hbig hcp ⊢
  clear hh
  simp only [vals] at hcp
  show Calls _ _ #[.agg #[.int .i64 h.kind, .bool h.flag, .bool h.neg, .string h.dig, .int .i64 h.exp, .int .u64 h.bits, .string h.text, .slice a1 m1 d1, .slice a2 m2 d2]] _ _
  go_enter Tryd.func3, Tryd.ntmps3
  go_wp2_with fail
  refine (hbig.out _).mono ?_
  rintro e w1 ⟨bb, rfl, hsm, hb1⟩
  have hw1 := hide (below_then (hb0.out _) hb1)
  have hB1 := hide (hB0.out.below hb1)
  clear hb1
  cases bb
  · have hblk := hide (hsm.out rfl)
    obtain ⟨c0, c1, c2, c3, c4, c5, c6, c7, c8⟩ := hB1.out.cells
    go_wp2_with fail
    refine (hcp.out _ hw1.out hblk.out.1).mono ?_
    rintro e w2 ⟨ns2, ls2, rfl, hk2, hb2⟩
    obtain ⟨e1, e2, e3, e4, e5, e6, rfl, rfl⟩ := hk2.out.rd.shape
    clear c0 c1 c2 c3 c4 c5 c6 c7 c8
    have C2 : Hid (Cx w n x h (.slice a1 m1 d1) (.slice a2 m2 d2) (.slice e1 e2 e3) (.slice e4 e5 e6) w2.heap.size (w2.alloc (.cells (vals h (.slice e1 e2 e3) (.slice e4 e5 e6)) 29))) :=
      ⟨below_al (below_then hw1.out hb2), (hB1.out.below hb2).below (below_al (Below.refl _ _)), bx_new _ _ _ _, hk2.out.rd.below (below_al (Below.refl _ _))⟩
    clear hb2 hk2
    obtain ⟨E, hE⟩ := chk_ex n x
    have hsz : siz n x ≤ 65536 := Nat.le_trans (siz_blk n x) hblk.out.1
    have Rv : Hid (∀ W, Below w.heap.size w W → Rdy n W x (.slice a1 m1 d1) (.slice a2 m2 d2)) := fun W hb => ⟨hr.out.below hb, hz.out, by omega⟩
    have Ro : Hid (∀ W, Cx w n x h (.slice a1 m1 d1) (.slice a2 m2 d2) (.slice e1 e2 e3) (.slice e4 e5 e6) w2.heap.size W → Rdy n W x (.slice e1 e2 e3) (.slice e4 e5 e6)) := fun W c => ⟨c.rd, hz.out, by omega⟩
    have k1 := hide (fun W (c : Cx w n x h (.slice a1 m1 d1) (.slice a2 m2 d2) (.slice e1 e2 e3) (.slice e4 e5 e6) w2.heap.size W) => check_any n x _ _ W (Ro.out W c) (g.out.below c.below) E hE)
    have k2 := hide (fun W (c : Cx w n x h (.slice a1 m1 d1) (.slice a2 m2 d2) (.slice e1 e2 e3) (.slice e4 e5 e6) w2.heap.size W) => rcheck_any rval n x _ _ W (Rv.out W c.below) E hE)
    have k3 := hide (fun W (c : Cx w n x h (.slice a1 m1 d1) (.slice a2 m2 d2) (.slice e1 e2 e3) (.slice e4 e5 e6) w2.heap.size W) => depth_any n x _ _ W (Ro.out W c).rd (Ro.out W c).le)
    have k4 := hide (fun W (c : Cx w n x h (.slice a1 m1 d1) (.slice a2 m2 d2) (.slice e1 e2 e3) (.slice e4 e5 e6) w2.heap.size W) => rdepth_any n x _ _ W (Rv.out W c.below).rd (Rv.out W c.below).le)
    have k5 := hide (fun W (c : Cx w n x h (.slice a1 m1 d1) (.slice a2 m2 d2) (.slice e1 e2 e3) (.slice e4 e5 e6) w2.heap.size W) => size_any n x _ _ W (Ro.out W c).rd (Ro.out W c).le)
    have k6 := hide (fun W (c : Cx w n x h (.slice a1 m1 d1) (.slice a2 m2 d2) (.slice e1 e2 e3) (.slice e4 e5 e6) w2.heap.size W) => rsize_any n x _ _ W (Rv.out W c.below).rd (Rv.out W c.below).le)
    have k7 := hide (fun W (c : Cx w n x h (.slice a1 m1 d1) (.slice a2 m2 d2) (.slice e1 e2 e3) (.slice e4 e5 e6) w2.heap.size W) => Calls.tb (b := true) (requal_any n x x _ _ _ _ W (Ro.out W c).rd (Rv.out W c.below).rd) (by simp))
    have k8 := hide (fun W (c : Cx w n x h (.slice a1 m1 d1) (.slice a2 m2 d2) (.slice e1 e2 e3) (.slice e4 e5 e6) w2.heap.size W) => awake_any W (g.out.below c.below))
    rw [hh'.out] at k1 k2 k3 k4 k5 k6 k7
    simp only [vals] at k1 k2 k3 k4 k5 k6 k7
    obtain ⟨D, hD⟩ : ∃ D, dep n x = D := ⟨_, rfl⟩
    obtain ⟨Z, hZ⟩ : ∃ Z, siz n x = Z := ⟨_, rfl⟩
    rw [hD] at k3 k4
    rw [hZ] at k5 k6
    clear hE hsz hD hZ Rv Ro hcp hbig hB0 hb0
    go_wp2_with fail
    refine (k1.out _ C2.out).mono ?_
    rintro e w3 ⟨rfl, hb3⟩
    have C3 := hide (C2.out.then hb3)
    clear hb3 C2
    obtain ⟨p0, p1, p2, p3, p4, p5, p6, p7, p8⟩ := C3.out.ba.cells
    obtain ⟨q0, q1, q2, q3, q4, q5, q6, q7, q8⟩ := C3.out.bb.cells
    go_wp2_with fail
    have mkS : Hid (∀ w', Cx w n x h (.slice a1 m1 d1) (.slice a2 m2 d2) (.slice e1 e2 e3) (.slice e4 e5 e6) w2.heap.size w' → w'.cell? ⟨w.heap.size, 0, none⟩ = some (.int .i64 h.kind) ∧ w'.cell? ⟨w.heap.size, 1, none⟩ = some (.bool h.flag) ∧ w'.cell? ⟨w.heap.size, 2, none⟩ = some (.bool h.neg) ∧ w'.cell? ⟨w.heap.size, 3, none⟩ = some (.string h.dig) ∧ w'.cell? ⟨w.heap.size, 4, none⟩ = some (.int .i64 h.exp) ∧ w'.cell? ⟨w.heap.size, 5, none⟩ = some (.int .u64 h.bits) ∧ w'.cell? ⟨w.heap.size, 6, none⟩ = some (.string h.text) ∧ w'.cell? ⟨w.heap.size, 7, none⟩ = some (.slice a1 m1 d1) ∧ w'.cell? ⟨w.heap.size, 8, none⟩ = some (.slice a2 m2 d2) ∧ w'.cell? ⟨w2.heap.size, 0, none⟩ = some (.int .i64 h.kind) ∧ w'.cell? ⟨w2.heap.size, 1, none⟩ = some (.bool h.flag) ∧ w'.cell? ⟨w2.heap.size, 2, none⟩ = some (.bool h.neg) ∧ w'.cell? ⟨w2.heap.size, 3, none⟩ = some (.string h.dig) ∧ w'.cell? ⟨w2.heap.size, 4, none⟩ = some (.int .i64 h.exp) ∧ w'.cell? ⟨w2.heap.size, 5, none⟩ = some (.int .u64 h.bits) ∧ w'.cell? ⟨w2.heap.size, 6, none⟩ = some (.string h.text) ∧ w'.cell? ⟨w2.heap.size, 7, none⟩ = some (.slice e1 e2 e3) ∧ w'.cell? ⟨w2.heap.size, 8, none⟩ = some (.slice e4 e5 e6)) := by
      intro w' q
      obtain ⟨p0, p1, p2, p3, p4, p5, p6, p7, p8⟩ := q.ba.cells
      obtain ⟨q0, q1, q2, q3, q4, q5, q6, q7, q8⟩ := q.bb.cells
      exact ⟨p0, p1, p2, p3, p4, p5, p6, p7, p8, q0, q1, q2, q3, q4, q5, q6, q7, q8⟩
    go_region_held3 (fun w' => w'.cell? ⟨w.heap.size, 0, none⟩ = some (.int .i64 h.kind) ∧ w'.cell? ⟨w.heap.size, 1, none⟩ = some (.bool h.flag) ∧ w'.cell? ⟨w.heap.size, 2, none⟩ = some (.bool h.neg) ∧ w'.cell? ⟨w.heap.size, 3, none⟩ = some (.string h.dig) ∧ w'.cell? ⟨w.heap.size, 4, none⟩ = some (.int .i64 h.exp) ∧ w'.cell? ⟨w.heap.size, 5, none⟩ = some (.int .u64 h.bits) ∧ w'.cell? ⟨w.heap.size, 6, none⟩ = some (.string h.text) ∧ w'.cell? ⟨w.heap.size, 7, none⟩ = some (.slice a1 m1 d1) ∧ w'.cell? ⟨w.heap.size, 8, none⟩ = some (.slice a2 m2 d2) ∧ w'.cell? ⟨w2.heap.size, 0, none⟩ = some (.int .i64 h.kind) ∧ w'.cell? ⟨w2.heap.size, 1, none⟩ = some (.bool h.flag) ∧ w'.cell? ⟨w2.heap.size, 2, none⟩ = some (.bool h.neg) ∧ w'.cell? ⟨w2.heap.size, 3, none⟩ = some (.string h.dig) ∧ w'.cell? ⟨w2.heap.size, 4, none⟩ = some (.int .i64 h.exp) ∧ w'.cell? ⟨w2.heap.size, 5, none⟩ = some (.int .u64 h.bits) ∧ w'.cell? ⟨w2.heap.size, 6, none⟩ = some (.string h.text) ∧ w'.cell? ⟨w2.heap.size, 7, none⟩ = some (.slice e1 e2 e3) ∧ w'.cell? ⟨w2.heap.size, 8, none⟩ = some (.slice e4 e5 e6)) (first | exact mkS.out _ (by repeat (first | (with_reducible exact Hid.out (by assumption)) | (with_reducible refine Cx.drew ?_) | (with_reducible refine Cx.al ?_)))) (first | (go_at_call 11; (with_reducible refine Calls.mono (k8.out _ ?_) ?_); exact (by repeat (first | (with_reducible exact Hid.out (by assumption)) | (with_reducible refine Cx.drew ?_) | (with_reducible refine Cx.al ?_))); rintro e v1 ⟨rfl, hb3⟩; have T3 : Hid (Cx w n x h (.slice a1 m1 d1) (.slice a2 m2 d2) (.slice e1 e2 e3) (.slice e4 e5 e6) w2.heap.size v1) := Cx.then (by repeat (first | (with_reducible exact Hid.out (by assumption)) | (with_reducible refine Cx.drew ?_) | (with_reducible refine Cx.al ?_))) hb3) | (go_at_call 12; (with_reducible refine Calls.mono (k2.out _ ?_) ?_); exact (by repeat (first | (with_reducible exact Hid.out (by assumption)) | (with_reducible refine Cx.drew ?_) | (with_reducible refine Cx.al ?_))); rintro e v1 ⟨rfl, hb3⟩; have T3 : Hid (Cx w n x h (.slice a1 m1 d1) (.slice a2 m2 d2) (.slice e1 e2 e3) (.slice e4 e5 e6) w2.heap.size v1) := Cx.then (by repeat (first | (with_reducible exact Hid.out (by assumption)) | (with_reducible refine Cx.drew ?_) | (with_reducible refine Cx.al ?_))) hb3) | (go_at_call 13; (with_reducible refine Calls.mono (k3.out _ ?_) ?_); exact (by repeat (first | (with_reducible exact Hid.out (by assumption)) | (with_reducible refine Cx.drew ?_) | (with_reducible refine Cx.al ?_))); rintro e v1 ⟨rfl, hb3⟩; have T3 : Hid (Cx w n x h (.slice a1 m1 d1) (.slice a2 m2 d2) (.slice e1 e2 e3) (.slice e4 e5 e6) w2.heap.size v1) := Cx.then (by repeat (first | (with_reducible exact Hid.out (by assumption)) | (with_reducible refine Cx.drew ?_) | (with_reducible refine Cx.al ?_))) hb3) | (go_at_call 14; (with_reducible refine Calls.mono (k4.out _ ?_) ?_); exact (by repeat (first | (with_reducible exact Hid.out (by assumption)) | (with_reducible refine Cx.drew ?_) | (with_reducible refine Cx.al ?_))); rintro e v1 ⟨rfl, hb3⟩; have T3 : Hid (Cx w n x h (.slice a1 m1 d1) (.slice a2 m2 d2) (.slice e1 e2 e3) (.slice e4 e5 e6) w2.heap.size v1) := Cx.then (by repeat (first | (with_reducible exact Hid.out (by assumption)) | (with_reducible refine Cx.drew ?_) | (with_reducible refine Cx.al ?_))) hb3) | (go_at_call 15; (with_reducible refine Calls.mono (k5.out _ ?_) ?_); exact (by repeat (first | (with_reducible exact Hid.out (by assumption)) | (with_reducible refine Cx.drew ?_) | (with_reducible refine Cx.al ?_))); rintro e v1 ⟨rfl, hb3⟩; have T3 : Hid (Cx w n x h (.slice a1 m1 d1) (.slice a2 m2 d2) (.slice e1 e2 e3) (.slice e4 e5 e6) w2.heap.size v1) := Cx.then (by repeat (first | (with_reducible exact Hid.out (by assumption)) | (with_reducible refine Cx.drew ?_) | (with_reducible refine Cx.al ?_))) hb3) | (go_at_call 16; (with_reducible refine Calls.mono (k6.out _ ?_) ?_); exact (by repeat (first | (with_reducible exact Hid.out (by assumption)) | (with_reducible refine Cx.drew ?_) | (with_reducible refine Cx.al ?_))); rintro e v1 ⟨rfl, hb3⟩; have T3 : Hid (Cx w n x h (.slice a1 m1 d1) (.slice a2 m2 d2) (.slice e1 e2 e3) (.slice e4 e5 e6) w2.heap.size v1) := Cx.then (by repeat (first | (with_reducible exact Hid.out (by assumption)) | (with_reducible refine Cx.drew ?_) | (with_reducible refine Cx.al ?_))) hb3) | (go_at_call 17; (with_reducible refine Calls.mono (k7.out _ ?_) ?_); exact (by repeat (first | (with_reducible exact Hid.out (by assumption)) | (with_reducible refine Cx.drew ?_) | (with_reducible refine Cx.al ?_))); rintro e v1 ⟨rfl, hb3⟩; have T3 : Hid (Cx w n x h (.slice a1 m1 d1) (.slice a2 m2 d2) (.slice e1 e2 e3) (.slice e4 e5 e6) w2.heap.size v1) := Cx.then (by repeat (first | (with_reducible exact Hid.out (by assumption)) | (with_reducible refine Cx.drew ?_) | (with_reducible refine Cx.al ?_))) hb3))
    all_goals (go_wp2_with fail; go_ret; exact ⟨by first | rfl | (simp; done), Cx.below (Hid.out (by assumption))⟩)
  · go_wp2_with fail
    go_ret
    exact ⟨rfl, hw1.out⟩
end Go.Proofs.YtemlpjnophijfaaDoor
