/- calamuslaw04.ValueLists: walked. -/
import Derived.Test.YtemlpjnophijfaaDoorWxLists
import Derived.Test.YtemlpjnophijfaaDoorWyM
import Derived.Deep.RegionWith
import Derived.Deep.DeepCutAuto
import Derived.Deep.RegionHeld3
namespace Go.Proofs.YtemlpjnophijfaaDoor
open Go.RowKit
set_option linter.unusedSimpArgs false
set_option linter.unusedVariables false
/-- What lies in a block. -/
structure Ox (W : World) (i : Nat) (o : Obj) : Prop where
  at_ : W.heap[i]? = some o
theorem Ox.lt {W : World} {i : Nat} {o : Obj} (k : Ox W i o) : i < W.heap.size := heap_lt k.at_
theorem Ox.below {W W1 : World} {i : Nat} {o : Obj} (k : Ox W i o) (hb : Below W.heap.size W W1) : Ox W1 i o := ⟨(hb.block _ k.lt).trans k.at_⟩
theorem Ox.al {W : World} {i : Nat} {o o' : Obj} (k : Ox W i o) : Ox (W.alloc o') i o := k.below (below_al (Below.refl _ _))
theorem Ox.drew {W : World} {i : Nat} {o : Obj} (k : Ox W i o) : Ox W.drew i o := ⟨k.at_⟩
theorem ox_new (w : World) (o : Obj) : Ox (w.alloc o) w.heap.size o := ⟨heap_alloc_last w _⟩
theorem ox_new' {i : Nat} (w : World) (o : Obj) (h : i = w.heap.size) : Ox (w.alloc o) i o := by subst h; exact ox_new w o
theorem Lw.al {w : World} {h g : Hd} {na la nb lb : Value} {W : World} {o : Obj} (k : Lw w h g na la nb lb W) : Lw w h g na la nb lb (W.alloc o) := k.then (below_al (Below.refl _ _))
theorem Lw.drew {w : World} {h g : Hd} {na la nb lb : Value} {W : World} (k : Lw w h g na la nb lb W) : Lw w h g na la nb lb W.drew := k.then (Below.refl _ _).drew
theorem cmpE_l {E1 E2 C : Int} (h : E1 ≠ 0) : (cmpE E1 E2 C).2 = E1 := by unfold cmpE; rw [if_neg h]
theorem cmpE_r {E2 C : Int} (h : E2 ≠ 0) : (cmpE 0 E2 C).2 = E2 := by unfold cmpE; rw [if_pos rfl, if_neg h]
theorem cmpE_no {E1 E2 C : Int} (h : ¬ (E1 = 0 ∧ E2 = 0)) : (cmpE E1 E2 C).2 ≠ 0 := by
  by_cases e1 : E1 = 0
  · subst e1
    have : E2 ≠ 0 := fun q => h ⟨rfl, q⟩
    rw [cmpE_r this]; exact this
  · rw [cmpE_l e1]; exact e1
theorem cmp_l1 (n : Nat) (x y : VT n) : cmpV (n + 1) ((zr 7, [x]) : VT (n + 1)) (zr 7, [y]) = cmpV n x y := by
  have : cmpV (n + 1) ((zr 7, [x]) : VT (n + 1)) (zr 7, [y]) = lexL (cmpV n) [x] [y] := by
    simp only [cmpV]
    rw [show (zr 7).kind = 7 from rfl, cmpI_self, if_pos rfl]
    rw [if_neg (by decide), if_neg (by decide), if_neg (by decide), if_neg (by decide), if_pos (by decide)]
  rw [this]
  simp only [lexL]
  split
  · rename_i e; rw [e]
  · rfl
theorem cmp_l2 (n : Nat) (x y : VT n) (h : cmpV n x x = 0) : cmpV (n + 1) ((zr 7, [x]) : VT (n + 1)) (zr 7, [x, y]) = -1 := by
  have : cmpV (n + 1) ((zr 7, [x]) : VT (n + 1)) (zr 7, [x, y]) = lexL (cmpV n) [x] [x, y] := by
    simp only [cmpV]
    rw [show (zr 7).kind = 7 from rfl, cmpI_self, if_pos rfl]
    rw [if_neg (by decide), if_neg (by decide), if_neg (by decide), if_neg (by decide), if_pos (by decide)]
  rw [this]
  simp only [lexL]
  rw [if_pos h]
theorem sz_list2 (n : Nat) (x y : VT n) (h : Sz n x) (k : Sz n y) : Sz (n + 1) ((zr 7, [x, y]) : VT (n + 1)) := by
  refine ⟨by show 0 ≤ 281474976710656; omega, by show 0 ≤ 281474976710656; omega, by show 0 ≤ 281474976710656; omega, by intro s hs; simp [zr] at hs, ?_⟩
  intro z hz
  have hz' : z ∈ [x, y] := hz
  rcases List.mem_cons.1 hz' with q | q
  · rw [q]; exact h
  · rw [List.mem_singleton.1 q]; exact k
theorem siz_list2 (n : Nat) (x y : VT n) : siz (n + 1) ((zr 7, [x, y]) : VT (n + 1)) = siz n x + siz n y + 1 := by
  show 1 + suml [siz n x, siz n y] = _
  simp [suml]; omega
set_option maxHeartbeats 8000000 in
set_option maxRecDepth 100000 in
theorem lists_law (n : Nat) (x y : VT n) (ns ls ns' ls' : Value) (w : World) (hx : RD n w x ns ls) (zx : Sz n x) (hy : RD n w y ns' ls') (zy : Sz n y) (g : Ut.Gu w) :
    Calls Tryd.prog 7 #[.agg (vals (vhd n x) ns ls), .agg (vals (vhd n y) ns' ls')] w fun e w' => e = .returned (.bool true) ∧ Below w.heap.size w w' := by
  obtain ⟨a1, a2, a3, a4, a5, a6, rfl, rfl⟩ := hx.shape
  obtain ⟨b1, b2, b3, b4, b5, b6, rfl, rfl⟩ := hy.shape
  obtain ⟨hp, hhp⟩ : ∃ h, vhd n x = h := ⟨_, rfl⟩
  obtain ⟨hq, hhq⟩ : ∃ h, vhd n y = h := ⟨_, rfl⟩
  have gx := hide (fun W (hb : Below w.heap.size w W) => Go.Proofs.YtemlpjnophijfaaDoor.big_any n x _ _ W (hx.below hb) zx)
  have gy := hide (fun W (hb : Below w.heap.size w W) => Go.Proofs.YtemlpjnophijfaaDoor.big_any n y _ _ W (hy.below hb) zy)
  have T0 := hide (lw_new w hp hq (.slice a1 a2 a3) (.slice a4 a5 a6) (.slice b1 b2 b3) (.slice b4 b5 b6))
  have hx := hide hx
  have zx := hide zx
  have hy := hide hy
  have zy := hide zy
  have g := hide g
  have hL := hide list_any
  rw [hhp] at gx ⊢
  rw [hhq] at gy ⊢
  have hhp := hide hhp
  have hhq := hide hhq
  show Calls _ _ #[.agg #[.int .i64 hp.kind, .bool hp.flag, .bool hp.neg, .string hp.dig, .int .i64 hp.exp, .int .u64 hp.bits, .string hp.text, .slice a1 a2 a3, .slice a4 a5 a6], .agg #[.int .i64 hq.kind, .bool hq.flag, .bool hq.neg, .string hq.dig, .int .i64 hq.exp, .int .u64 hq.bits, .string hq.text, .slice b1 b2 b3, .slice b4 b5 b6]] _ _
  go_enter Tryd.func7, Tryd.ntmps7
  go_wp2_with fail
  refine (gx.out _ T0.out.below).mono ?_
  rintro e w1 ⟨bb, rfl, sx, hb1⟩
  have T1 := hide (T0.out.then hb1)
  clear T0 hb1
  cases bb
  · obtain ⟨p0, p1, p2, p3, p4, p5, p6, p7, p8⟩ := T1.out.bb.cells
    go_wp2_with fail
    refine (gy.out _ T1.out.below).mono ?_
    rintro e w2 ⟨bb, rfl, sy, hb2⟩
    have T2 := hide (T1.out.then hb2)
    clear T1 hb2 p0 p1 p2 p3 p4 p5 p6 p7 p8
    cases bb
    · have sx := hide (sx.out (by simp))
      have sy := hide (sy.out (by simp))
      obtain ⟨E1, h1⟩ := chk_ex n x
      obtain ⟨E2, h2⟩ := chk_ex n y
      obtain ⟨F1, k1⟩ := chk_ex (n + 1) ((zr 7, [x]) : VT (n + 1))
      obtain ⟨F2, k2⟩ := chk_ex (n + 1) ((zr 7, [y]) : VT (n + 1))
      obtain ⟨F3, k3⟩ := chk_ex (n + 1) ((zr 7, [x, y]) : VT (n + 1))
      have bx : siz n x ≤ 65536 := Nat.le_trans (siz_blk n x) sx.out.1
      have by' : siz n y ≤ 65536 := Nat.le_trans (siz_blk n y) sy.out.1
      have Rx : Hid (∀ W, Below w.heap.size w W → Rdy n W x _ _) := fun W hb => ⟨hx.out.below hb, zx.out, by omega⟩
      have Ry : Hid (∀ W, Below w.heap.size w W → Rdy n W y _ _) := fun W hb => ⟨hy.out.below hb, zy.out, by omega⟩
      have R1 : Hid (∀ P W, Below w.heap.size w W → Ox W P (.cells #[.int .i64 hp.kind, .bool hp.flag, .bool hp.neg, .string hp.dig, .int .i64 hp.exp, .int .u64 hp.bits, .string hp.text, .slice a1 a2 a3, .slice a4 a5 a6] 29) → Rdy (n + 1) W ((zr 7, [x]) : VT (n + 1)) (.slice none 0 0) (.slice (some ⟨P, 0, none⟩) 1 1)) := fun P W hb ho => ⟨rd_list1 (by rw [hhp.out]; exact ho.at_) (hx.out.below hb), sz_list n x zx.out, by rw [siz_list]; omega⟩
      have R2 : Hid (∀ P W, Below w.heap.size w W → Ox W P (.cells #[.int .i64 hq.kind, .bool hq.flag, .bool hq.neg, .string hq.dig, .int .i64 hq.exp, .int .u64 hq.bits, .string hq.text, .slice b1 b2 b3, .slice b4 b5 b6] 29) → Rdy (n + 1) W ((zr 7, [y]) : VT (n + 1)) (.slice none 0 0) (.slice (some ⟨P, 0, none⟩) 1 1)) := fun P W hb ho => ⟨rd_list1 (by rw [hhq.out]; exact ho.at_) (hy.out.below hb), sz_list n y zy.out, by rw [siz_list]; omega⟩
      have R3 : Hid (∀ P W, Below w.heap.size w W → Ox W P (.cells #[.int .i64 hp.kind, .bool hp.flag, .bool hp.neg, .string hp.dig, .int .i64 hp.exp, .int .u64 hp.bits, .string hp.text, .slice a1 a2 a3, .slice a4 a5 a6, .int .i64 hq.kind, .bool hq.flag, .bool hq.neg, .string hq.dig, .int .i64 hq.exp, .int .u64 hq.bits, .string hq.text, .slice b1 b2 b3, .slice b4 b5 b6] 29) → Rdy (n + 1) W ((zr 7, [x, y]) : VT (n + 1)) (.slice none 0 0) (.slice (some ⟨P, 0, none⟩) 2 2)) := fun P W hb ho => ⟨rd_list2 (by rw [hhp.out, hhq.out]; rfl) ho.at_ (hx.out.below hb) (hy.out.below hb), sz_list2 n x y zx.out zy.out, by rw [siz_list2]; omega⟩
      obtain ⟨A1, hA1⟩ : ∃ X, (cmpE F1 F2 (cmpV (n + 1) ((zr 7, [x]) : VT (n + 1)) (zr 7, [y]))).1 = X := ⟨_, rfl⟩
      obtain ⟨A2, hA2⟩ : ∃ X, (cmpE F1 F2 (cmpV (n + 1) ((zr 7, [x]) : VT (n + 1)) (zr 7, [y]))).2 = X := ⟨_, rfl⟩
      obtain ⟨B1, hB1⟩ : ∃ X, (cmpE E1 E2 (cmpV n x y)).1 = X := ⟨_, rfl⟩
      obtain ⟨B2, hB2⟩ : ∃ X, (cmpE E1 E2 (cmpV n x y)).2 = X := ⟨_, rfl⟩
      obtain ⟨C1, hC1⟩ : ∃ X, (cmpE F1 F3 (cmpV (n + 1) ((zr 7, [x]) : VT (n + 1)) (zr 7, [x, y]))).1 = X := ⟨_, rfl⟩
      obtain ⟨C2, hC2⟩ : ∃ X, (cmpE F1 F3 (cmpV (n + 1) ((zr 7, [x]) : VT (n + 1)) (zr 7, [x, y]))).2 = X := ⟨_, rfl⟩
      obtain ⟨q, hq'⟩ := tells (x = y)
      have hql : q = true ↔ ((zr 7, [x]) : VT (n + 1)) = (zr 7, [y]) := by
        rw [hq']
        constructor
        · rintro rfl; rfl
        · intro e
          have e2 : [x] = [y] := congrArg Prod.snd e
          exact (List.cons.inj e2).1
      have c1 : Hid (∀ P Q W, Below w.heap.size w W → Ox W P (.cells #[.int .i64 hp.kind, .bool hp.flag, .bool hp.neg, .string hp.dig, .int .i64 hp.exp, .int .u64 hp.bits, .string hp.text, .slice a1 a2 a3, .slice a4 a5 a6] 29) → Ox W Q (.cells #[.int .i64 hq.kind, .bool hq.flag, .bool hq.neg, .string hq.dig, .int .i64 hq.exp, .int .u64 hq.bits, .string hq.text, .slice b1 b2 b3, .slice b4 b5 b6] 29) → Calls Tryd.prog 18 #[.agg #[.int .i64 7, .bool false, .bool false, .string ⟨#[]⟩, .int .i64 0, .int .u64 0, .string ⟨#[]⟩, .slice none 0 0, .slice (some ⟨P, 0, none⟩) 1 1], .agg #[.int .i64 7, .bool false, .bool false, .string ⟨#[]⟩, .int .i64 0, .int .u64 0, .string ⟨#[]⟩, .slice none 0 0, .slice (some ⟨Q, 0, none⟩) 1 1]] W fun e w' => e = .returned (.tuple #[.int .i64 A1, .int .i64 A2]) ∧ Below W.heap.size W w') := fun P Q W hb o1 o2 => by
        have := vcmpA (n + 1) (zr 7, [x]) (zr 7, [y]) _ _ _ _ W (R1.out P W hb o1) (R2.out Q W hb o2) (g.out.below hb) F1 F2 k1 k2
        rw [hA1, hA2] at this
        exact this
      have c3 : Hid (∀ P Q W, Below w.heap.size w W → Ox W P (.cells #[.int .i64 hp.kind, .bool hp.flag, .bool hp.neg, .string hp.dig, .int .i64 hp.exp, .int .u64 hp.bits, .string hp.text, .slice a1 a2 a3, .slice a4 a5 a6] 29) → Ox W Q (.cells #[.int .i64 hp.kind, .bool hp.flag, .bool hp.neg, .string hp.dig, .int .i64 hp.exp, .int .u64 hp.bits, .string hp.text, .slice a1 a2 a3, .slice a4 a5 a6, .int .i64 hq.kind, .bool hq.flag, .bool hq.neg, .string hq.dig, .int .i64 hq.exp, .int .u64 hq.bits, .string hq.text, .slice b1 b2 b3, .slice b4 b5 b6] 29) → Calls Tryd.prog 18 #[.agg #[.int .i64 7, .bool false, .bool false, .string ⟨#[]⟩, .int .i64 0, .int .u64 0, .string ⟨#[]⟩, .slice none 0 0, .slice (some ⟨P, 0, none⟩) 1 1], .agg #[.int .i64 7, .bool false, .bool false, .string ⟨#[]⟩, .int .i64 0, .int .u64 0, .string ⟨#[]⟩, .slice none 0 0, .slice (some ⟨Q, 0, none⟩) 2 2]] W fun e w' => e = .returned (.tuple #[.int .i64 C1, .int .i64 C2]) ∧ Below W.heap.size W w') := fun P Q W hb o1 o2 => by
        have := vcmpA (n + 1) (zr 7, [x]) (zr 7, [x, y]) _ _ _ _ W (R1.out P W hb o1) (R3.out Q W hb o2) (g.out.below hb) F1 F3 k1 k3
        rw [hC1, hC2] at this
        exact this
      have c2 := hide (fun W (hb : Below w.heap.size w W) => vcmpA n x y _ _ _ _ W (Rx.out W hb) (Ry.out W hb) (g.out.below hb) E1 E2 h1 h2)
      have kq0 := hide (fun W (hb : Below w.heap.size w W) => Calls.tb (equal_any n x y _ _ _ _ W (Rx.out W hb).rd (Ry.out W hb).rd) hq')
      have kl : Hid (∀ P Q W, Below w.heap.size w W → Ox W P (.cells #[.int .i64 hp.kind, .bool hp.flag, .bool hp.neg, .string hp.dig, .int .i64 hp.exp, .int .u64 hp.bits, .string hp.text, .slice a1 a2 a3, .slice a4 a5 a6] 29) → Ox W Q (.cells #[.int .i64 hq.kind, .bool hq.flag, .bool hq.neg, .string hq.dig, .int .i64 hq.exp, .int .u64 hq.bits, .string hq.text, .slice b1 b2 b3, .slice b4 b5 b6] 29) → Calls Tryd.prog 20 #[.agg #[.int .i64 7, .bool false, .bool false, .string ⟨#[]⟩, .int .i64 0, .int .u64 0, .string ⟨#[]⟩, .slice none 0 0, .slice (some ⟨P, 0, none⟩) 1 1], .agg #[.int .i64 7, .bool false, .bool false, .string ⟨#[]⟩, .int .i64 0, .int .u64 0, .string ⟨#[]⟩, .slice none 0 0, .slice (some ⟨Q, 0, none⟩) 1 1]] W fun e w' => e = .returned (.bool q) ∧ Below W.heap.size W w') := fun P Q W hb o1 o2 =>
        Calls.tb (equal_any (n + 1) (zr 7, [x]) (zr 7, [y]) _ _ _ _ W (R1.out P W hb o1).rd (R2.out Q W hb o2).rd) hql
      have d1 : Hid (∀ P W, Below w.heap.size w W → Ox W P (.cells #[.int .i64 hp.kind, .bool hp.flag, .bool hp.neg, .string hp.dig, .int .i64 hp.exp, .int .u64 hp.bits, .string hp.text, .slice a1 a2 a3, .slice a4 a5 a6] 29) → Calls Tryd.prog 10 #[.agg #[.int .i64 7, .bool false, .bool false, .string ⟨#[]⟩, .int .i64 0, .int .u64 0, .string ⟨#[]⟩, .slice none 0 0, .slice (some ⟨P, 0, none⟩) 1 1]] W fun e w' => e = .returned (.int .i64 F1) ∧ Below W.heap.size W w') := fun P W hb o1 => check_any (n + 1) (zr 7, [x]) _ _ W (R1.out P W hb o1) (g.out.below hb) F1 k1
      have d2 : Hid (∀ P W, Below w.heap.size w W → Ox W P (.cells #[.int .i64 hq.kind, .bool hq.flag, .bool hq.neg, .string hq.dig, .int .i64 hq.exp, .int .u64 hq.bits, .string hq.text, .slice b1 b2 b3, .slice b4 b5 b6] 29) → Calls Tryd.prog 10 #[.agg #[.int .i64 7, .bool false, .bool false, .string ⟨#[]⟩, .int .i64 0, .int .u64 0, .string ⟨#[]⟩, .slice none 0 0, .slice (some ⟨P, 0, none⟩) 1 1]] W fun e w' => e = .returned (.int .i64 F2) ∧ Below W.heap.size W w') := fun P W hb o1 => check_any (n + 1) (zr 7, [y]) _ _ W (R2.out P W hb o1) (g.out.below hb) F2 k2
      have d3 : Hid (∀ P W, Below w.heap.size w W → Ox W P (.cells #[.int .i64 hp.kind, .bool hp.flag, .bool hp.neg, .string hp.dig, .int .i64 hp.exp, .int .u64 hp.bits, .string hp.text, .slice a1 a2 a3, .slice a4 a5 a6, .int .i64 hq.kind, .bool hq.flag, .bool hq.neg, .string hq.dig, .int .i64 hq.exp, .int .u64 hq.bits, .string hq.text, .slice b1 b2 b3, .slice b4 b5 b6] 29) → Calls Tryd.prog 10 #[.agg #[.int .i64 7, .bool false, .bool false, .string ⟨#[]⟩, .int .i64 0, .int .u64 0, .string ⟨#[]⟩, .slice none 0 0, .slice (some ⟨P, 0, none⟩) 2 2]] W fun e w' => e = .returned (.int .i64 F3) ∧ Below W.heap.size W w') := fun P W hb o1 => check_any (n + 1) (zr 7, [x, y]) _ _ W (R3.out P W hb o1) (g.out.below hb) F3 k3
      have LB : Hid (∀ W, Lw w hp hq (.slice a1 a2 a3) (.slice a4 a5 a6) (.slice b1 b2 b3) (.slice b4 b5 b6) W → Below w.heap.size w W) := fun W q => q.below
      have mkS : Hid (∀ w', Lw w hp hq (.slice a1 a2 a3) (.slice a4 a5 a6) (.slice b1 b2 b3) (.slice b4 b5 b6) w' → w'.cell? ⟨w.heap.size, 0, none⟩ = some (.int .i64 hp.kind) ∧ w'.cell? ⟨w.heap.size, 1, none⟩ = some (.bool hp.flag) ∧ w'.cell? ⟨w.heap.size, 2, none⟩ = some (.bool hp.neg) ∧ w'.cell? ⟨w.heap.size, 3, none⟩ = some (.string hp.dig) ∧ w'.cell? ⟨w.heap.size, 4, none⟩ = some (.int .i64 hp.exp) ∧ w'.cell? ⟨w.heap.size, 5, none⟩ = some (.int .u64 hp.bits) ∧ w'.cell? ⟨w.heap.size, 6, none⟩ = some (.string hp.text) ∧ w'.cell? ⟨w.heap.size, 7, none⟩ = some (.slice a1 a2 a3) ∧ w'.cell? ⟨w.heap.size, 8, none⟩ = some (.slice a4 a5 a6) ∧ w'.cell? ⟨w.heap.size + 1, 0, none⟩ = some (.int .i64 hq.kind) ∧ w'.cell? ⟨w.heap.size + 1, 1, none⟩ = some (.bool hq.flag) ∧ w'.cell? ⟨w.heap.size + 1, 2, none⟩ = some (.bool hq.neg) ∧ w'.cell? ⟨w.heap.size + 1, 3, none⟩ = some (.string hq.dig) ∧ w'.cell? ⟨w.heap.size + 1, 4, none⟩ = some (.int .i64 hq.exp) ∧ w'.cell? ⟨w.heap.size + 1, 5, none⟩ = some (.int .u64 hq.bits) ∧ w'.cell? ⟨w.heap.size + 1, 6, none⟩ = some (.string hq.text) ∧ w'.cell? ⟨w.heap.size + 1, 7, none⟩ = some (.slice b1 b2 b3) ∧ w'.cell? ⟨w.heap.size + 1, 8, none⟩ = some (.slice b4 b5 b6)) := fun w' q => by
        obtain ⟨p0, p1, p2, p3, p4, p5, p6, p7, p8⟩ := q.ba.cells
        obtain ⟨q0, q1, q2, q3, q4, q5, q6, q7, q8⟩ := q.bb.cells
        exact ⟨p0, p1, p2, p3, p4, p5, p6, p7, p8, q0, q1, q2, q3, q4, q5, q6, q7, q8⟩
      have hAw := hide (fun W (hb : Below w.heap.size w W) => awake_any W (g.out.below hb))
      rw [hB1, hB2] at c2
      rw [hhp.out] at c2 kq0
      rw [hhq.out] at c2 kq0
      have kq : Hid (∀ W, Below w.heap.size w W → Calls Tryd.prog 20 #[.agg #[.int .i64 hp.kind, .bool hp.flag, .bool hp.neg, .string hp.dig, .int .i64 hp.exp, .int .u64 hp.bits, .string hp.text, .slice a1 a2 a3, .slice a4 a5 a6], .agg #[.int .i64 hq.kind, .bool hq.flag, .bool hq.neg, .string hq.dig, .int .i64 hq.exp, .int .u64 hq.bits, .string hq.text, .slice b1 b2 b3, .slice b4 b5 b6]] W fun e w' => e = .returned (.bool q) ∧ Below W.heap.size W w') := fun W hb => kq0.out W hb
      clear kq0
      have f1 := hide hA1
      have f2 := hide hA2
      have f3 := hide hB1
      have f4 := hide hB2
      have f5 := hide hC1
      have f6 := hide hC2
      have j1 := hide h1
      have j2 := hide h2
      clear hA1 hA2 hB1 hB2 hC1 hC2 h1 h2 k1 k2 k3 hql hq' bx by' hx hy zx zy sx sy Rx Ry R1 R2 R3 gx gy
      obtain ⟨p0, p1, p2, p3, p4, p5, p6, p7, p8⟩ := T2.out.ba.cells
      obtain ⟨q0, q1, q2, q3, q4, q5, q6, q7, q8⟩ := T2.out.bb.cells
      have s1 := T2.out.ba.lt
      have s2 := T2.out.bb.lt
      go_upto_region 3 with fail
      go_cut [5, 6] (fun s5 s6 wx => s5 = .int .i64 A1 ∧ s6 = .int .i64 A2 ∧ Hid (Lw w hp hq (.slice a1 a2 a3) (.slice a4 a5 a6) (.slice b1 b2 b3) (.slice b4 b5 b6) wx))
      case first =>
        go_region_held3 (fun w' => w'.cell? ⟨w.heap.size, 0, none⟩ = some (.int .i64 hp.kind) ∧ w'.cell? ⟨w.heap.size, 1, none⟩ = some (.bool hp.flag) ∧ w'.cell? ⟨w.heap.size, 2, none⟩ = some (.bool hp.neg) ∧ w'.cell? ⟨w.heap.size, 3, none⟩ = some (.string hp.dig) ∧ w'.cell? ⟨w.heap.size, 4, none⟩ = some (.int .i64 hp.exp) ∧ w'.cell? ⟨w.heap.size, 5, none⟩ = some (.int .u64 hp.bits) ∧ w'.cell? ⟨w.heap.size, 6, none⟩ = some (.string hp.text) ∧ w'.cell? ⟨w.heap.size, 7, none⟩ = some (.slice a1 a2 a3) ∧ w'.cell? ⟨w.heap.size, 8, none⟩ = some (.slice a4 a5 a6) ∧ w'.cell? ⟨w.heap.size + 1, 0, none⟩ = some (.int .i64 hq.kind) ∧ w'.cell? ⟨w.heap.size + 1, 1, none⟩ = some (.bool hq.flag) ∧ w'.cell? ⟨w.heap.size + 1, 2, none⟩ = some (.bool hq.neg) ∧ w'.cell? ⟨w.heap.size + 1, 3, none⟩ = some (.string hq.dig) ∧ w'.cell? ⟨w.heap.size + 1, 4, none⟩ = some (.int .i64 hq.exp) ∧ w'.cell? ⟨w.heap.size + 1, 5, none⟩ = some (.int .u64 hq.bits) ∧ w'.cell? ⟨w.heap.size + 1, 6, none⟩ = some (.string hq.text) ∧ w'.cell? ⟨w.heap.size + 1, 7, none⟩ = some (.slice b1 b2 b3) ∧ w'.cell? ⟨w.heap.size + 1, 8, none⟩ = some (.slice b4 b5 b6)) (first | exact mkS.out _ (by repeat (first | (with_reducible exact Hid.out (by assumption)) | (with_reducible refine Lw.drew ?_) | (with_reducible refine Lw.al ?_)))) (first | (go_at_call 21; refine (hL.out _ _ _ _).mono ?_; rintro e v1 ⟨rfl, hb3⟩; have T3 : Hid (Lw w hp hq (.slice a1 a2 a3) (.slice a4 a5 a6) (.slice b1 b2 b3) (.slice b4 b5 b6) v1) := Lw.then (by repeat (first | (with_reducible exact Hid.out (by assumption)) | (with_reducible refine Lw.drew ?_) | (with_reducible refine Lw.al ?_))) hb3) | (go_at_call 18; refine (c1.out _ _ _ (LB.out _ (by repeat (first | (with_reducible exact Hid.out (by assumption)) | (with_reducible refine Lw.drew ?_) | (with_reducible refine Lw.al ?_)))) (by repeat (first | (with_reducible refine ox_new' _ _ ?_; first | rfl | (simp; done) | (simp [World.drew]; done)) | (with_reducible refine Ox.drew ?_) | (with_reducible refine Ox.al ?_) | (with_reducible refine Ox.below ?_ (by assumption)))) (by repeat (first | (with_reducible refine ox_new' _ _ ?_; first | rfl | (simp; done) | (simp [World.drew]; done)) | (with_reducible refine Ox.drew ?_) | (with_reducible refine Ox.al ?_) | (with_reducible refine Ox.below ?_ (by assumption))))).mono ?_; rintro e v1 ⟨rfl, hb3⟩; have T3 : Hid (Lw w hp hq (.slice a1 a2 a3) (.slice a4 a5 a6) (.slice b1 b2 b3) (.slice b4 b5 b6) v1) := Lw.then (by repeat (first | (with_reducible exact Hid.out (by assumption)) | (with_reducible refine Lw.drew ?_) | (with_reducible refine Lw.al ?_))) hb3))
        all_goals (go_wp2_with fail; go_meet; exact ⟨rfl, rfl, by first | assumption | exact Hid.out (by assumption)⟩)
      case rest =>
      obtain ⟨rfl, rfl, T3⟩ := hcut
      clear T2 s1 s2 p0 p1 p2 p3 p4 p5 p6 p7 p8 q0 q1 q2 q3 q4 q5 q6 q7 q8
      obtain ⟨p0, p1, p2, p3, p4, p5, p6, p7, p8⟩ := T3.out.ba.cells; obtain ⟨q0, q1, q2, q3, q4, q5, q6, q7, q8⟩ := T3.out.bb.cells; have s1 := T3.out.ba.lt; have s2 := T3.out.bb.lt
      go_wp2_with fail
      refine (c2.out _ T3.out.below).mono ?_
      rintro e w4 ⟨rfl, hb4⟩
      have T4 := hide (T3.out.then hb4)
      clear T3 hb4 s1 s2 p0 p1 p2 p3 p4 p5 p6 p7 p8 q0 q1 q2 q3 q4 q5 q6 q7 q8
      obtain ⟨p0, p1, p2, p3, p4, p5, p6, p7, p8⟩ := T4.out.ba.cells
      obtain ⟨q0, q1, q2, q3, q4, q5, q6, q7, q8⟩ := T4.out.bb.cells
      have s1 := T4.out.ba.lt
      have s2 := T4.out.bb.lt
      go_upto_region 5 with fail
      go_cut [9, 10] (fun s5 s6 wx => s5 = .int .i64 C1 ∧ s6 = .int .i64 C2 ∧ Hid (Lw w hp hq (.slice a1 a2 a3) (.slice a4 a5 a6) (.slice b1 b2 b3) (.slice b4 b5 b6) wx))
      case first =>
        go_region_held3 (fun w' => w'.cell? ⟨w.heap.size, 0, none⟩ = some (.int .i64 hp.kind) ∧ w'.cell? ⟨w.heap.size, 1, none⟩ = some (.bool hp.flag) ∧ w'.cell? ⟨w.heap.size, 2, none⟩ = some (.bool hp.neg) ∧ w'.cell? ⟨w.heap.size, 3, none⟩ = some (.string hp.dig) ∧ w'.cell? ⟨w.heap.size, 4, none⟩ = some (.int .i64 hp.exp) ∧ w'.cell? ⟨w.heap.size, 5, none⟩ = some (.int .u64 hp.bits) ∧ w'.cell? ⟨w.heap.size, 6, none⟩ = some (.string hp.text) ∧ w'.cell? ⟨w.heap.size, 7, none⟩ = some (.slice a1 a2 a3) ∧ w'.cell? ⟨w.heap.size, 8, none⟩ = some (.slice a4 a5 a6) ∧ w'.cell? ⟨w.heap.size + 1, 0, none⟩ = some (.int .i64 hq.kind) ∧ w'.cell? ⟨w.heap.size + 1, 1, none⟩ = some (.bool hq.flag) ∧ w'.cell? ⟨w.heap.size + 1, 2, none⟩ = some (.bool hq.neg) ∧ w'.cell? ⟨w.heap.size + 1, 3, none⟩ = some (.string hq.dig) ∧ w'.cell? ⟨w.heap.size + 1, 4, none⟩ = some (.int .i64 hq.exp) ∧ w'.cell? ⟨w.heap.size + 1, 5, none⟩ = some (.int .u64 hq.bits) ∧ w'.cell? ⟨w.heap.size + 1, 6, none⟩ = some (.string hq.text) ∧ w'.cell? ⟨w.heap.size + 1, 7, none⟩ = some (.slice b1 b2 b3) ∧ w'.cell? ⟨w.heap.size + 1, 8, none⟩ = some (.slice b4 b5 b6)) (first | exact mkS.out _ (by repeat (first | (with_reducible exact Hid.out (by assumption)) | (with_reducible refine Lw.drew ?_) | (with_reducible refine Lw.al ?_)))) (first | (go_at_call 21; refine (hL.out _ _ _ _).mono ?_; rintro e v1 ⟨rfl, hb3⟩; have T3 : Hid (Lw w hp hq (.slice a1 a2 a3) (.slice a4 a5 a6) (.slice b1 b2 b3) (.slice b4 b5 b6) v1) := Lw.then (by repeat (first | (with_reducible exact Hid.out (by assumption)) | (with_reducible refine Lw.drew ?_) | (with_reducible refine Lw.al ?_))) hb3) | (go_at_call 18; refine (c3.out _ _ _ (LB.out _ (by repeat (first | (with_reducible exact Hid.out (by assumption)) | (with_reducible refine Lw.drew ?_) | (with_reducible refine Lw.al ?_)))) (by repeat (first | (with_reducible refine ox_new' _ _ ?_; first | rfl | (simp; done) | (simp [World.drew]; done)) | (with_reducible refine Ox.drew ?_) | (with_reducible refine Ox.al ?_) | (with_reducible refine Ox.below ?_ (by assumption)))) (by repeat (first | (with_reducible refine ox_new' _ _ ?_; first | rfl | (simp; done) | (simp [World.drew]; done)) | (with_reducible refine Ox.drew ?_) | (with_reducible refine Ox.al ?_) | (with_reducible refine Ox.below ?_ (by assumption))))).mono ?_; rintro e v1 ⟨rfl, hb3⟩; have T3 : Hid (Lw w hp hq (.slice a1 a2 a3) (.slice a4 a5 a6) (.slice b1 b2 b3) (.slice b4 b5 b6) v1) := Lw.then (by repeat (first | (with_reducible exact Hid.out (by assumption)) | (with_reducible refine Lw.drew ?_) | (with_reducible refine Lw.al ?_))) hb3))
        all_goals (go_wp2_with fail; go_meet; exact ⟨rfl, rfl, by first | assumption | exact Hid.out (by assumption)⟩)
      case rest =>
      obtain ⟨rfl, rfl, T5⟩ := hcut
      clear T4 s1 s2 p0 p1 p2 p3 p4 p5 p6 p7 p8 q0 q1 q2 q3 q4 q5 q6 q7 q8
      have T3 := T5
      clear T5
      obtain ⟨p0, p1, p2, p3, p4, p5, p6, p7, p8⟩ := T3.out.ba.cells; obtain ⟨q0, q1, q2, q3, q4, q5, q6, q7, q8⟩ := T3.out.bb.cells; have s1 := T3.out.ba.lt; have s2 := T3.out.bb.lt
      have hAw5 := hide (hAw.out _ T3.out.below)
      by_cases e12 : E1 = 0 ∧ E2 = 0
      · obtain ⟨rfl, rfl⟩ := e12
        have B20 : B2 = 0 := f4.out.symm
        subst B20
        by_cases F10 : F1 = 0
        · by_cases F20 : F2 = 0
          · have A20 : A2 = 0 := by rw [← f2.out, F10, F20]; rfl
            by_cases F30 : F3 = 0
            · have C20 : C2 = 0 := by rw [← f6.out, F10, F30]; rfl
              subst A20 C20
              have vx := (chk_ok j1.out rfl).1
              have hC : C1 = -1 := by rw [← f5.out, F10, F30]; exact cmp_l2 n x y (((ord_v n).zero x x vx vx).2 rfl)
              have hA : A1 = B1 := by rw [← f1.out, ← f3.out, F10, F20]; exact cmp_l1 n x y
              subst hC hA
              clear vx f1 f2 f3 f4 f5 f6 c1 c2 c3 d1 d2 d3 F10 F20 F30
              have hbt : ∀ W : World, Sem.run Tryd.prog (binOp BinOp.eql 4 (.bool q) (.bool q)) W = .ok (.bool true) W := fun W => by cases q <;> first | rfl | simp [go_sem]
              clear hAw5 j1 j2 g hhp hhq
              go_wp2_with fail
              go_region_held3 (fun w' => w'.cell? ⟨w.heap.size, 0, none⟩ = some (.int .i64 hp.kind) ∧ w'.cell? ⟨w.heap.size, 1, none⟩ = some (.bool hp.flag) ∧ w'.cell? ⟨w.heap.size, 2, none⟩ = some (.bool hp.neg) ∧ w'.cell? ⟨w.heap.size, 3, none⟩ = some (.string hp.dig) ∧ w'.cell? ⟨w.heap.size, 4, none⟩ = some (.int .i64 hp.exp) ∧ w'.cell? ⟨w.heap.size, 5, none⟩ = some (.int .u64 hp.bits) ∧ w'.cell? ⟨w.heap.size, 6, none⟩ = some (.string hp.text) ∧ w'.cell? ⟨w.heap.size, 7, none⟩ = some (.slice a1 a2 a3) ∧ w'.cell? ⟨w.heap.size, 8, none⟩ = some (.slice a4 a5 a6) ∧ w'.cell? ⟨w.heap.size + 1, 0, none⟩ = some (.int .i64 hq.kind) ∧ w'.cell? ⟨w.heap.size + 1, 1, none⟩ = some (.bool hq.flag) ∧ w'.cell? ⟨w.heap.size + 1, 2, none⟩ = some (.bool hq.neg) ∧ w'.cell? ⟨w.heap.size + 1, 3, none⟩ = some (.string hq.dig) ∧ w'.cell? ⟨w.heap.size + 1, 4, none⟩ = some (.int .i64 hq.exp) ∧ w'.cell? ⟨w.heap.size + 1, 5, none⟩ = some (.int .u64 hq.bits) ∧ w'.cell? ⟨w.heap.size + 1, 6, none⟩ = some (.string hq.text) ∧ w'.cell? ⟨w.heap.size + 1, 7, none⟩ = some (.slice b1 b2 b3) ∧ w'.cell? ⟨w.heap.size + 1, 8, none⟩ = some (.slice b4 b5 b6)) (first | exact mkS.out _ (by repeat (first | (with_reducible exact Hid.out (by assumption)) | (with_reducible refine Lw.drew ?_) | (with_reducible refine Lw.al ?_)))) (first | (go_at_call 11; refine (hAw.out _ (LB.out _ (by repeat (first | (with_reducible exact Hid.out (by assumption)) | (with_reducible refine Lw.drew ?_) | (with_reducible refine Lw.al ?_))))).mono ?_; rintro e v1 ⟨rfl, hb3⟩; have T3 : Hid (Lw w hp hq (.slice a1 a2 a3) (.slice a4 a5 a6) (.slice b1 b2 b3) (.slice b4 b5 b6) v1) := Lw.then (by repeat (first | (with_reducible exact Hid.out (by assumption)) | (with_reducible refine Lw.drew ?_) | (with_reducible refine Lw.al ?_))) hb3) | (go_at_call 21; refine (hL.out _ _ _ _).mono ?_; rintro e v1 ⟨rfl, hb3⟩; have T3 : Hid (Lw w hp hq (.slice a1 a2 a3) (.slice a4 a5 a6) (.slice b1 b2 b3) (.slice b4 b5 b6) v1) := Lw.then (by repeat (first | (with_reducible exact Hid.out (by assumption)) | (with_reducible refine Lw.drew ?_) | (with_reducible refine Lw.al ?_))) hb3) | (go_at_call 20; (with_reducible refine Calls.mono (kl.out _ _ _ ?_ ?_ ?_) ?_); exact (LB.out _ (by repeat (first | (with_reducible exact Hid.out (by assumption)) | (with_reducible refine Lw.drew ?_) | (with_reducible refine Lw.al ?_)))); exact (by repeat (first | (with_reducible refine ox_new' _ _ ?_; first | rfl | (simp; done) | (simp [World.drew]; done)) | (with_reducible refine Ox.drew ?_) | (with_reducible refine Ox.al ?_) | (with_reducible refine Ox.below ?_ (by assumption)))); exact (by repeat (first | (with_reducible refine ox_new' _ _ ?_; first | rfl | (simp; done) | (simp [World.drew]; done)) | (with_reducible refine Ox.drew ?_) | (with_reducible refine Ox.al ?_) | (with_reducible refine Ox.below ?_ (by assumption)))); rintro e v1 ⟨rfl, hb3⟩; have T3 : Hid (Lw w hp hq (.slice a1 a2 a3) (.slice a4 a5 a6) (.slice b1 b2 b3) (.slice b4 b5 b6) v1) := Lw.then (by repeat (first | (with_reducible exact Hid.out (by assumption)) | (with_reducible refine Lw.drew ?_) | (with_reducible refine Lw.al ?_))) hb3) | (go_at_call 20; (with_reducible refine Calls.mono (kq.out _ ?_) ?_); exact (LB.out _ (by repeat (first | (with_reducible exact Hid.out (by assumption)) | (with_reducible refine Lw.drew ?_) | (with_reducible refine Lw.al ?_)))); rintro e v1 ⟨rfl, hb3⟩; have T3 : Hid (Lw w hp hq (.slice a1 a2 a3) (.slice a4 a5 a6) (.slice b1 b2 b3) (.slice b4 b5 b6) v1) := Lw.then (by repeat (first | (with_reducible exact Hid.out (by assumption)) | (with_reducible refine Lw.drew ?_) | (with_reducible refine Lw.al ?_))) hb3))
              all_goals (go_wp2_with fail; go_ret; exact ⟨by first | rfl | (simp; done), Lw.below (Hid.out (by assumption))⟩)
            · have C20 : C2 ≠ 0 := by rw [← f6.out, F10]; rw [cmpE_r F30]; exact F30
              subst A20
              have d3' := hide (show ¬ F3 = 0 from F30)
              subst F10 F20
              go_wp2_with fail
              refine hAw5.out.mono ?_
              rintro e v1 ⟨rfl, hb3⟩
              have T4 := hide (T3.out.then hb3)
              clear T3 hb3 s1 s2 p0 p1 p2 p3 p4 p5 p6 p7 p8 q0 q1 q2 q3 q4 q5 q6 q7 q8
              have T3 := T4
              clear T4
              obtain ⟨p0, p1, p2, p3, p4, p5, p6, p7, p8⟩ := T3.out.ba.cells
              obtain ⟨q0, q1, q2, q3, q4, q5, q6, q7, q8⟩ := T3.out.bb.cells
              have s1 := T3.out.ba.lt
              have s2 := T3.out.bb.lt
              go_wp2_with fail
              refine (hL.out _ _ _ _).mono ?_
              rintro e v1 ⟨rfl, hb3⟩
              have T4 : Hid (Lw w hp hq (.slice a1 a2 a3) (.slice a4 a5 a6) (.slice b1 b2 b3) (.slice b4 b5 b6) v1) := Lw.then (by repeat (first | (with_reducible exact Hid.out (by assumption)) | (with_reducible refine Lw.drew ?_) | (with_reducible refine Lw.al ?_))) hb3
              have O4 := hide (Ox.below (ox_new _ _) hb3)
              clear T3 hb3 s1 s2 p0 p1 p2 p3 p4 p5 p6 p7 p8 q0 q1 q2 q3 q4 q5 q6 q7 q8
              have T3 := T4
              clear T4
              obtain ⟨p0, p1, p2, p3, p4, p5, p6, p7, p8⟩ := T3.out.ba.cells
              obtain ⟨q0, q1, q2, q3, q4, q5, q6, q7, q8⟩ := T3.out.bb.cells
              have s1 := T3.out.ba.lt
              have s2 := T3.out.bb.lt
              go_wp2_with fail
              refine (d1.out _ _ T3.out.below O4.out).mono ?_
              rintro e v1 ⟨rfl, hb3⟩
              clear O4
              have T4 := hide (T3.out.then hb3)
              clear T3 hb3 s1 s2 p0 p1 p2 p3 p4 p5 p6 p7 p8 q0 q1 q2 q3 q4 q5 q6 q7 q8
              have T3 := T4
              clear T4
              obtain ⟨p0, p1, p2, p3, p4, p5, p6, p7, p8⟩ := T3.out.ba.cells
              obtain ⟨q0, q1, q2, q3, q4, q5, q6, q7, q8⟩ := T3.out.bb.cells
              have s1 := T3.out.ba.lt
              have s2 := T3.out.bb.lt
              go_wp2_with fail
              refine (hL.out _ _ _ _).mono ?_
              rintro e v1 ⟨rfl, hb3⟩
              have T4 : Hid (Lw w hp hq (.slice a1 a2 a3) (.slice a4 a5 a6) (.slice b1 b2 b3) (.slice b4 b5 b6) v1) := Lw.then (by repeat (first | (with_reducible exact Hid.out (by assumption)) | (with_reducible refine Lw.drew ?_) | (with_reducible refine Lw.al ?_))) hb3
              have O4 := hide (Ox.below (ox_new _ _) hb3)
              clear T3 hb3 s1 s2 p0 p1 p2 p3 p4 p5 p6 p7 p8 q0 q1 q2 q3 q4 q5 q6 q7 q8
              have T3 := T4
              clear T4
              obtain ⟨p0, p1, p2, p3, p4, p5, p6, p7, p8⟩ := T3.out.ba.cells
              obtain ⟨q0, q1, q2, q3, q4, q5, q6, q7, q8⟩ := T3.out.bb.cells
              have s1 := T3.out.ba.lt
              have s2 := T3.out.bb.lt
              go_wp2_with fail
              refine (d2.out _ _ T3.out.below O4.out).mono ?_
              rintro e v1 ⟨rfl, hb3⟩
              clear O4
              have T4 := hide (T3.out.then hb3)
              clear T3 hb3 s1 s2 p0 p1 p2 p3 p4 p5 p6 p7 p8 q0 q1 q2 q3 q4 q5 q6 q7 q8
              have T3 := T4
              clear T4
              obtain ⟨p0, p1, p2, p3, p4, p5, p6, p7, p8⟩ := T3.out.ba.cells
              obtain ⟨q0, q1, q2, q3, q4, q5, q6, q7, q8⟩ := T3.out.bb.cells
              have s1 := T3.out.ba.lt
              have s2 := T3.out.bb.lt
              go_wp2_with fail
              refine (hL.out _ _ _ _).mono ?_
              rintro e v1 ⟨rfl, hb3⟩
              have T4 : Hid (Lw w hp hq (.slice a1 a2 a3) (.slice a4 a5 a6) (.slice b1 b2 b3) (.slice b4 b5 b6) v1) := Lw.then (by repeat (first | (with_reducible exact Hid.out (by assumption)) | (with_reducible refine Lw.drew ?_) | (with_reducible refine Lw.al ?_))) hb3
              have O4 := hide (Ox.below (ox_new _ _) hb3)
              clear T3 hb3 s1 s2 p0 p1 p2 p3 p4 p5 p6 p7 p8 q0 q1 q2 q3 q4 q5 q6 q7 q8
              have T3 := T4
              clear T4
              obtain ⟨p0, p1, p2, p3, p4, p5, p6, p7, p8⟩ := T3.out.ba.cells
              obtain ⟨q0, q1, q2, q3, q4, q5, q6, q7, q8⟩ := T3.out.bb.cells
              have s1 := T3.out.ba.lt
              have s2 := T3.out.bb.lt
              go_wp2_with (go_at_call 10; refine (d3.out _ _ T3.out.below O4.out).mono ?_; rintro e v1 ⟨rfl, hb3⟩)
              go_ret
              exact ⟨by first | rfl | (simp; done) | (simp; assumption) | (simp; omega), below_then T3.out.below hb3⟩
          · have A20 : A2 ≠ 0 := by rw [← f2.out, F10]; rw [cmpE_r F20]; exact F20
            subst F10
            go_wp2_with fail
            refine hAw5.out.mono ?_
            rintro e v1 ⟨rfl, hb3⟩
            have T4 := hide (T3.out.then hb3)
            clear T3 hb3 s1 s2 p0 p1 p2 p3 p4 p5 p6 p7 p8 q0 q1 q2 q3 q4 q5 q6 q7 q8
            have T3 := T4
            clear T4
            obtain ⟨p0, p1, p2, p3, p4, p5, p6, p7, p8⟩ := T3.out.ba.cells
            obtain ⟨q0, q1, q2, q3, q4, q5, q6, q7, q8⟩ := T3.out.bb.cells
            have s1 := T3.out.ba.lt
            have s2 := T3.out.bb.lt
            go_wp2_with fail
            refine (hL.out _ _ _ _).mono ?_
            rintro e v1 ⟨rfl, hb3⟩
            have T4 : Hid (Lw w hp hq (.slice a1 a2 a3) (.slice a4 a5 a6) (.slice b1 b2 b3) (.slice b4 b5 b6) v1) := Lw.then (by repeat (first | (with_reducible exact Hid.out (by assumption)) | (with_reducible refine Lw.drew ?_) | (with_reducible refine Lw.al ?_))) hb3
            have O4 := hide (Ox.below (ox_new _ _) hb3)
            clear T3 hb3 s1 s2 p0 p1 p2 p3 p4 p5 p6 p7 p8 q0 q1 q2 q3 q4 q5 q6 q7 q8
            have T3 := T4
            clear T4
            obtain ⟨p0, p1, p2, p3, p4, p5, p6, p7, p8⟩ := T3.out.ba.cells
            obtain ⟨q0, q1, q2, q3, q4, q5, q6, q7, q8⟩ := T3.out.bb.cells
            have s1 := T3.out.ba.lt
            have s2 := T3.out.bb.lt
            go_wp2_with fail
            refine (d1.out _ _ T3.out.below O4.out).mono ?_
            rintro e v1 ⟨rfl, hb3⟩
            clear O4
            have T4 := hide (T3.out.then hb3)
            clear T3 hb3 s1 s2 p0 p1 p2 p3 p4 p5 p6 p7 p8 q0 q1 q2 q3 q4 q5 q6 q7 q8
            have T3 := T4
            clear T4
            obtain ⟨p0, p1, p2, p3, p4, p5, p6, p7, p8⟩ := T3.out.ba.cells
            obtain ⟨q0, q1, q2, q3, q4, q5, q6, q7, q8⟩ := T3.out.bb.cells
            have s1 := T3.out.ba.lt
            have s2 := T3.out.bb.lt
            go_wp2_with fail
            refine (hL.out _ _ _ _).mono ?_
            rintro e v1 ⟨rfl, hb3⟩
            have T4 : Hid (Lw w hp hq (.slice a1 a2 a3) (.slice a4 a5 a6) (.slice b1 b2 b3) (.slice b4 b5 b6) v1) := Lw.then (by repeat (first | (with_reducible exact Hid.out (by assumption)) | (with_reducible refine Lw.drew ?_) | (with_reducible refine Lw.al ?_))) hb3
            have O4 := hide (Ox.below (ox_new _ _) hb3)
            clear T3 hb3 s1 s2 p0 p1 p2 p3 p4 p5 p6 p7 p8 q0 q1 q2 q3 q4 q5 q6 q7 q8
            have T3 := T4
            clear T4
            obtain ⟨p0, p1, p2, p3, p4, p5, p6, p7, p8⟩ := T3.out.ba.cells
            obtain ⟨q0, q1, q2, q3, q4, q5, q6, q7, q8⟩ := T3.out.bb.cells
            have s1 := T3.out.ba.lt
            have s2 := T3.out.bb.lt
            go_wp2_with (go_at_call 10; refine (d2.out _ _ T3.out.below O4.out).mono ?_; rintro e v1 ⟨rfl, hb3⟩)
            go_ret
            exact ⟨by first | rfl | (simp; done) | (simp; assumption) | (simp; omega), below_then T3.out.below hb3⟩
        · have A20 : A2 ≠ 0 := by rw [← f2.out]; rw [cmpE_l F10]; exact F10
          go_wp2_with fail
          refine hAw5.out.mono ?_
          rintro e v1 ⟨rfl, hb3⟩
          have T4 := hide (T3.out.then hb3)
          clear T3 hb3 s1 s2 p0 p1 p2 p3 p4 p5 p6 p7 p8 q0 q1 q2 q3 q4 q5 q6 q7 q8
          have T3 := T4
          clear T4
          obtain ⟨p0, p1, p2, p3, p4, p5, p6, p7, p8⟩ := T3.out.ba.cells
          obtain ⟨q0, q1, q2, q3, q4, q5, q6, q7, q8⟩ := T3.out.bb.cells
          have s1 := T3.out.ba.lt
          have s2 := T3.out.bb.lt
          go_wp2_with fail
          refine (hL.out _ _ _ _).mono ?_
          rintro e v1 ⟨rfl, hb3⟩
          have T4 : Hid (Lw w hp hq (.slice a1 a2 a3) (.slice a4 a5 a6) (.slice b1 b2 b3) (.slice b4 b5 b6) v1) := Lw.then (by repeat (first | (with_reducible exact Hid.out (by assumption)) | (with_reducible refine Lw.drew ?_) | (with_reducible refine Lw.al ?_))) hb3
          have O4 := hide (Ox.below (ox_new _ _) hb3)
          clear T3 hb3 s1 s2 p0 p1 p2 p3 p4 p5 p6 p7 p8 q0 q1 q2 q3 q4 q5 q6 q7 q8
          have T3 := T4
          clear T4
          obtain ⟨p0, p1, p2, p3, p4, p5, p6, p7, p8⟩ := T3.out.ba.cells
          obtain ⟨q0, q1, q2, q3, q4, q5, q6, q7, q8⟩ := T3.out.bb.cells
          have s1 := T3.out.ba.lt
          have s2 := T3.out.bb.lt
          go_wp2_with (go_at_call 10; refine (d1.out _ _ T3.out.below O4.out).mono ?_; rintro e v1 ⟨rfl, hb3⟩)
          go_ret
          exact ⟨by first | rfl | (simp; done) | (simp; assumption) | (simp; omega), below_then T3.out.below hb3⟩
      · have B20 : B2 ≠ 0 := by rw [← f4.out]; exact cmpE_no e12
        by_cases A20 : A2 = 0
        · subst A20
          go_wp2_with (go_at_call 11; refine hAw5.out.mono ?_; rintro e v1 ⟨rfl, hb3⟩)
          go_ret
          exact ⟨by first | rfl | (simp; done), below_then T3.out.below hb3⟩
        · go_wp2_with (go_at_call 11; refine hAw5.out.mono ?_; rintro e v1 ⟨rfl, hb3⟩)
          go_ret
          exact ⟨by first | rfl | (simp; done), below_then T3.out.below hb3⟩
    · go_wp2_with fail
      go_ret
      exact ⟨rfl, T2.out.below⟩
  · go_wp2_with fail
    go_ret
    exact ⟨rfl, T1.out.below⟩
end Go.Proofs.YtemlpjnophijfaaDoor
