/- Merged by program: KmWord, KnUnhex, JgVal. -/
import Derived.Test.YtoaacfhjejmbnaaGreatDoorZm29
import Derived.Test.YtoaacfhjejmbnaaGreatDoorZm27
import Derived.Laws.OwnMore
import Derived.Deep.OwnRows
import Derived.Test.YtoaacfhjejmbnaaGreatDoorZm10
import Derived.Test.YtoaacfhjejmbnaaGreatDoorZm06
import Derived.Test.YtoaacfhjejmbnaaGreatDoorZm11
import Derived.Test.YtoaacfhjejmbnaaGreatDoorZm17
/- json's Reader: name, holdWord, number walked. -/
namespace Go.Proofs.YtoaacfhjejmbnaaGreatDoor
open Go.RowKit
set_option linter.unusedSimpArgs false
set_option linter.unusedVariables false
theorem app_b {w : World} {ops : Array Oper} {rest : List Oper} {o : Oper} {a : Act} {Q : Exit → Act → World → Prop} (hgd : o.guard = none) (s x : Operand) (ho : o.op = .call { callee := .builtin .append, args := #[s, x], argTypes := #[32, 32] })
    (B : Nat) (v : Value) (l : List UInt8) (hs : a.eval s = v) (hown : Own w B v l) (ad : Addr) (c : Nat) (hx : a.eval x = .slice (some ad) 1 c) (k : UInt8)
    (hnews : ∀ j u, [Value.int .u8 (k.toNat : Int)][j]? = some u → w.cell? (ad.add j) = some u) (hm : l.length ≤ 300000) (hB : B ≤ w.heap.size)
    (h : ∀ av c' w', Hid (Own w' B (.slice av (l.length + 1) c') (l ++ [k])) → Hid (w.grownBy w' v.ownBlock) → Hid ((Value.slice av (l.length + 1) c').ownBlock = v.ownBlock ∨ (Value.slice av (l.length + 1) c').ownBlock = some w.heap.size) → wpList Tryz.prog ops Q rest (a.put o.dst (.slice av (l.length + 1) c')) w') : wpList Tryz.prog ops Q (o :: rest) a w := by
  obtain ⟨i0, hi, hz0, hz1, hz2⟩ := info_parts info5
  refine wpList_append_own_at w hgd s x 32 ho B 5 i0 _ 1 1 Tryz.underlying32 hi hz0 hz1 hz2 rfl (by decide) v l.length (bcs l) hs hown ad 1 c [.int .u8 k.toNat] hx rfl hnews ?_ ?_ ?_ hB ?_
  · intro u hu
    simp only [List.mem_cons, List.not_mem_nil, or_false] at hu
    subst hu; rfl
  · unfold maxLen; omega
  · omega
  · intro v' w' h1 h2 h3 h4
    have h1' : Own w' B v' (l ++ [k]) := by
      unfold Own
      rw [bcs_append, List.length_append, List.length_singleton]
      exact h1
    rcases h1.2 with ⟨rfl, e⟩ | ⟨g', cap, cur, rfl, _⟩
    · omega
    · exact h _ _ w' h1' h2 h4
theorem news1b (w W : World) (T : TypeId) (k : Int) (hW : W.heap = (w.alloc (.cells #[.int .u8 k] T)).heap) : ∀ j u, [Value.int .u8 k][j]? = some u → W.cell? ((⟨w.heap.size, 0, none⟩ : Addr).add j) = some u := by
  intro j u hj
  rw [show W.cell? ((⟨w.heap.size, 0, none⟩ : Addr).add j) = (w.alloc (.cells #[.int .u8 k] T)).cell? ((⟨w.heap.size, 0, none⟩ : Addr).add j) by unfold World.cell?; rw [hW]]
  exact cell_one_new w _ T j u hj
section
variable {W W1 W2 : World} {r : Nat} {g : Gv} {m : Mv} {st : St}
theorem RM.shW (h : RM W r g m st) : ∃ a c, m.word = .slice a st.word.length c := by
  rcases h.word.2 with ⟨e1, e⟩ | ⟨g, cap, cur, e1, _⟩
  · exact ⟨none, 0, by rw [e1, e]⟩
  · exact ⟨_, _, e1⟩
theorem RM.pushW (h : RM W r g m st) {v v' : Value} {k : UInt8} (hT : m.word = v) (hb : Below W.heap.size W W1) (hg : W1.grownBy W2 v.ownBlock) (ho : Own W2 (r + 1) v' (st.word ++ [k])) (hat : v'.ownBlock = v.ownBlock ∨ v'.ownBlock = some W1.heap.size) (hl : st.word.length + 1 ≤ 512) :
    RP W r g m (.inr { st with word := st.word ++ [k] }) (.returned (.tuple #[])) (W2.setCell ⟨r, 3, none⟩ v') := by
  subst hT
  have hlt := h.lt
  have hll := World.ownsRow.lt h.word
  have F : RdF r m.word W (W2.setCell ⟨r, 3, none⟩ v') := ((RdF.refl.then hb (Nat.le_of_lt hlt)).grown hg (by have := hb.size; omega) (fun k hk => by have := (hll k hk).1; omega)).set 3 _
  have hr2 : RdB W2 r (st.rv g m) := (h.rd.same (hb.block r hlt)).same (hg.block r (by have := hb.size; omega) (fun q => by have := (hll r q.symm).1; omega))
  have ob : OB W m.word v' := by
    rcases hat with e | e
    · exact Or.inl e
    · exact Or.inr fun k hk => by rw [e] at hk; cases hk; exact hb.size
  exact ⟨RF.ofWord h F, rfl, { m with word := v' }, h.ofWord F (hr2.set 3 _ _ rfl) (own_of ho fun k hk _ => Below.heap_setCell _ _ _ _ (by have := (World.ownsRow.lt ho k hk).1; show k ≠ r; omega)) (by simpa using hl) ob, ⟨ob, OB.refl _ _, OB.refl _ _⟩⟩
theorem RM.setn (h : RM W r g m st) (a b k : Nat) : RP W r g m (.inr { st with wait := a, behind := b }) (.returned (.tuple #[])) (((W.drewN k).setCell ⟨r, 9, none⟩ (.int .i64 a)).setCell ⟨r, 10, none⟩ (.int .i64 b)) := by
  have ho : RdO r W (((W.drewN k).setCell ⟨r, 9, none⟩ (.int .i64 a)).setCell ⟨r, 10, none⟩ (.int .i64 b)) :=
    ⟨(RdO.set9 (W := W) (r := r) _ k).1.setCell (p := ⟨r, 10, none⟩) (Nat.le_refl _) _, fun q hl hq => (Below.heap_setCell _ _ _ _ hq).trans ((RdO.set9 (W := W) (r := r) _ k).2 q hl hq)⟩
  exact ⟨RF.ofO h ho, rfl, m, h.sc (RdB.set (RdB.set (W := W.drewN k) (h.rd.same rfl) 9 (.int .i64 a) (({ st with wait := a } : St).rv g m) rfl) 10 _ _ rfl) ho, OM.refl _ _⟩
set_option maxHeartbeats 4000000 in
set_option maxRecDepth 100000 in
theorem holdWord_r (h : RM W r g m st) (c : UInt8) : Calls Tryz.prog 81 #[.pointer (some ⟨r, 0, none⟩), .int .u8 c.toNat] W fun x w' => RP W r g m (holdS st c) x w' := by
  have hlt := h.lt
  obtain ⟨wa, wc, hw⟩ := h.shW
  have c3 : W.cell? ⟨r, 3, none⟩ = some (.slice wa st.word.length wc) := (h.rd.cell 3).trans (by rw [← hw]; rfl)
  have f3 : W.frozen? ⟨r, 3, none⟩ = false := h.rd.frz 3
  have wl := h.wl
  have O := h.word
  rw [hw] at O
  have O' := hide O
  have H := hide h
  have Hw := hide hw
  clear h hw O
  unfold holdS
  by_cases hl : st.word.length = 512
  · rw [if_pos hl]
    rw [hl] at c3
    clear hl
    go_enter Tryz.func81, Tryz.ntmps81
    go_wp2_with fail
    exact ⟨rfl, RP.pan H.out 2 0⟩
  · rw [if_neg hl]
    have e5 : ((st.word.length : Int) == 512) = false := by simp; omega
    have hl5 : Hid (st.word.length + 1 ≤ 512) := (by omega : st.word.length + 1 ≤ 512)
    clear hl wl
    go_enter Tryz.func81, Tryz.ntmps81
    have gk := hide H.out.gk
    have hl6 : st.word.length ≤ 512 := H.out.wl
    go_wp2_with (at_builtin; refine Sto.out ?_)
    refine Sto.mk ?_
    refine app_b rfl (.tmp 15) (.tmp 17) rfl (r + 1) (.slice wa st.word.length wc) st.word rfl (own_of O'.out fun k hk hlt => Below.heap_alloc _ _ _ hlt) ⟨W.heap.size, 0, none⟩ 1 rfl c (news1b W _ _ c.toNat rfl) (by omega) (by simp; omega) ?_
    intro av5 c5 w5 ho5 hg5 hat5
    have P5 := hide (H.out.pushW (k := c) Hw.out (below_al (Below.refl _ _)) hg5.out ho5.out hat5.out hl5.out)
    have K5 : RdB w5 r _ := ((H.out.then (below_al (Below.refl _ _))).rd.same (hg5.out.block r (by simp; omega) (fun e => by have := (World.ownsRow.lt O'.out r e.symm).1; omega)))
    have l3 := (K5.cell 3).trans (show _ = some (.slice wa st.word.length wc) by rw [← Hw.out]; rfl)
    have n3 : w5.frozen? ⟨r, 3, none⟩ = false := K5.frz 3
    clear c3 f3 K5
    go_wp2_with fail
    go_end0
    exact P5.out
end
end Go.Proofs.YtoaacfhjejmbnaaGreatDoor
/- json.unhex: walked. -/
namespace Go.Proofs.YtoaacfhjejmbnaaGreatDoor
open Go.RowKit
set_option linter.unusedSimpArgs false
set_option linter.unusedVariables false
theorem made_b (n : Nat) : madeCells #[.int .u8 0] n = ((List.replicate n 0).map fun v : Nat => Value.int .u8 (v : Int)).toArray := by
  apply Array.toList_inj.1
  rw [toList_madeCells_one]
  simp
/-- The first k bytes. -/
def hxP (l : List UInt8) : Nat → Option (List Nat)
  | 0 => some []
  | k + 1 => match hxP l k, l[2 * k]?, l[2 * k + 1]? with
    | some t, some a, some b => match hxD a, hxD b with
      | some x, some y => some (t ++ [x.val * 16 + y.val])
      | _, _ => none
    | _, _, _ => none
theorem hxP_len (l : List UInt8) : ∀ k t, hxP l k = some t → t.length = k
  | 0, t, h => by simp [hxP] at h; subst h; rfl
  | k + 1, t, h => by
    unfold hxP at h
    split at h
    · rename_i t0 a b h0 ha hb
      split at h
      · cases h; rw [List.length_append, hxP_len l k t0 h0]; rfl
      · cases h
    · cases h
theorem hxP_lt (l : List UInt8) : ∀ k t, hxP l k = some t → ∀ x ∈ t, x < 256
  | 0, t, h => by simp [hxP] at h; subst h; intro x hx; simp at hx
  | k + 1, t, h => by
    unfold hxP at h
    split at h
    · rename_i t0 a b h0 ha hb
      split at h
      · rename_i x y _ _
        cases h
        intro z hz
        rcases List.mem_append.1 hz with q | q
        · exact hxP_lt l k t0 h0 z q
        · simp at q; have := x.isLt; have := y.isLt; omega
      · cases h
    · cases h
theorem hxP_cons (a b : UInt8) (l : List UInt8) : ∀ k, hxP (a :: b :: l) (k + 1) = match hxD a, hxD b, hxP l k with
    | some x, some y, some t => some ((x.val * 16 + y.val) :: t)
    | _, _, _ => none
  | 0 => by
    simp only [hxP, Nat.mul_zero, List.getElem?_cons_zero, Nat.zero_add, List.getElem?_cons_succ]
    cases hxD a <;> cases hxD b <;> rfl
  | k + 1 => by
    have e1 : (a :: b :: l)[2 * (k + 1)]? = l[2 * k]? := by
      rw [show 2 * (k + 1) = 2 * k + 1 + 1 by omega, List.getElem?_cons_succ, List.getElem?_cons_succ]
    have e2 : (a :: b :: l)[2 * (k + 1) + 1]? = l[2 * k + 1]? := by
      rw [show 2 * (k + 1) + 1 = 2 * k + 1 + 1 + 1 by omega, List.getElem?_cons_succ, List.getElem?_cons_succ]
    rw [hxP, hxP_cons a b l k, e1, e2]
    conv => rhs; rw [hxP]
    cases hxD a with
    | none => rfl
    | some x =>
      cases hxD b with
      | none => rfl
      | some y =>
        cases hxP l k with
        | none => rfl
        | some t =>
          simp only
          cases l[2 * k]? with
          | none => rfl
          | some c =>
            cases l[2 * k + 1]? with
            | none => rfl
            | some d =>
              simp only
              cases hxD c with
              | none => rfl
              | some u => cases hxD d <;> rfl
theorem hx2_P : ∀ (n : Nat) (l : List UInt8), l.length = 2 * n → hx2 l = (hxP l n).map fun t => t.map UInt8.ofNat
  | 0, l, h => by
    cases l with
    | nil => rfl
    | cons a l => simp at h
  | n + 1, l, h => by
    match l, h with
    | a :: b :: l, h =>
      rw [hxP_cons, hx2, hx2_P n l (by simp at h; omega)]
      cases hxD a with
      | none => rfl
      | some x =>
        cases hxD b with
        | none => rfl
        | some y => cases hxP l n <;> rfl
theorem hx2_odd : ∀ (n : Nat) (l : List UInt8), l.length = 2 * n + 1 → hx2 l = none
  | 0, l, h => by
    match l, h with
    | [a], _ => rfl
  | n + 1, l, h => by
    match l, h with
    | a :: b :: l, h =>
      rw [hx2, hx2_odd n l (by simp at h; omega)]
      cases hxD a <;> cases hxD b <;> rfl
theorem hxP_none (l : List UInt8) (k : Nat) (h : hxP l k = none) : ∀ d, hxP l (k + d) = none
  | 0 => h
  | d + 1 => by
    rw [← Nat.add_assoc, hxP, hxP_none l k h d]
theorem or16b (x y : Fin 16) : bits .or .i64 ((x.val : Int) * 16) (y.val : Int) = ((x.val * 16 + y.val : Nat) : Int) := or16 x.val y.val (by omega) y.isLt
/-- What unhex answers. -/
def uxR (s : ByteArray) : Ending := match hx2 (bl s) with
  | none => .returned (.tuple #[.string ⟨#[]⟩, .bool false])
  | some l => .returned (.tuple #[.string (mkB l), .bool true])
set_option maxHeartbeats 4000000 in
set_option maxRecDepth 20000 in
theorem unhex_j (s : ByteArray) (w : World) (hs : s.size ≤ 100000) : Calls Tryz.prog 155 #[.string s] w fun e w' => e = uxR s ∧ Below w.heap.size w w' := by
  have ml : maxLen = 9223372036854775807 := rfl
  obtain ⟨n, hn⟩ : ∃ n, s.size = 2 * n ∨ s.size = 2 * n + 1 := ⟨s.size / 2, by omega⟩
  rcases hn with hn | hn
  · have hr : Hid (∀ o, hxP (bl s) n = o → uxR s = match o with | none => .returned (.tuple #[.string ⟨#[]⟩, .bool false]) | some t => .returned (.tuple #[.string (mkB (t.map UInt8.ofNat)), .bool true])) := by
      intro o ho
      unfold uxR
      rw [hx2_P n (bl s) (by rw [bl_length]; exact hn), ho]
      cases o <;> rfl
    have e2 : Int.tmod (s.size : Int) 2 = 0 := by rw [hn, Int.tmod_eq_emod_of_nonneg (by omega)]; omega
    have e3 : Int.tdiv (s.size : Int) 2 = (n : Int) := by rw [hn, Int.tdiv_eq_ediv_of_nonneg (by omega)]; omega
    have hmk := fun w => run_make_row' (P := Tryz.prog) 32 5 (.int .u8 0) 1 Tryz.underlying32 info5 rfl .i64 .i64 n (by omega) (by omega) w
    have hn' := hide hn
    have hsz : ∀ k, k < n → 2 * k < s.size ∧ 2 * k + 1 < s.size := fun k hk => by omega
    have hsz' := hide hsz
    have hnb : n ≤ 50000 := by omega
    have hsN : Hid ((s.size : Int) = 2 * n) := (by omega : (s.size : Int) = 2 * n)
    clear hn hs hsz
    go_enter Tryz.func155, Tryz.ntmps155
    go_wp2
    go_loopw [18] (fun i wr => ∃ (k : Nat) (t : List Nat), k ≤ n ∧ i = .int .i64 k ∧ Hid (hxP (bl s) k = some t) ∧ Hid (Arr wr w.heap.size 5 (t ++ List.replicate (n - k) 0)) ∧ Hid (Below w.heap.size w wr)) (fun i _ => n - (intOf i).toNat)
    case atStart =>
      refine ⟨0, [], by omega, rfl, rfl, ?_, below_al (Below.refl _ _)⟩
      exact arr_new w 5 n _ (made_b n)
    case round =>
      obtain ⟨k, t, hk, rfl, hT, hA, hB⟩ := hrel
      by_cases hlt : k < n
      · obtain ⟨hs1, hs2⟩ := hsz'.out k hlt
        have hg1 := hide (show (bl s)[2 * k]? = some s[2 * k] by rw [List.getElem?_eq_getElem (by rw [bl_length]; exact hs1), bl_get s _ hs1])
        have hg2 := hide (show (bl s)[2 * k + 1]? = some s[2 * k + 1] by rw [List.getElem?_eq_getElem (by rw [bl_length]; exact hs2), bl_get s _ hs2])
        have hlt' : (k : Int) < n := by omega
        have ht1 : (2 * (k : Int)).toNat = 2 * k := by omega
        have ht2 : (2 * (k : Int) + 1).toNat = 2 * k + 1 := by omega
        have hw1 : IntKind.i64.wrap (2 * (k : Int)) = 2 * (k : Int) := by rw [IntKind.wrap_i64] <;> omega
        have hw2 : IntKind.i64.wrap (2 * (k : Int) + 1) = 2 * (k : Int) + 1 := by rw [IntKind.wrap_i64] <;> omega
        have hi1 : 2 * (k : Int) < s.size := by omega
        have hi2 : 2 * (k : Int) + 1 < s.size := by omega
        obtain ⟨a, ha⟩ : ∃ a, s[2 * k] = a := ⟨_, rfl⟩
        obtain ⟨b, hb⟩ : ∃ b, s[2 * k + 1] = b := ⟨_, rfl⟩
        rw [ha] at hg1
        rw [hb] at hg2
        have SA := hide (fun w => sib_any hxE (a.toNat : Int) w)
        have SB := hide (fun w => sib_any hxE (b.toNat : Int) w)
        rw [hx_idx a] at SA
        rw [hx_idx b] at SB
        simp only [hxE] at SA SB
        have hA1 := fun (nq : Nat) => (show Arr (wr.drewN nq) w.heap.size 5 (t ++ List.replicate (n - k) 0) from hA.out)
        have htl := hxP_len _ _ _ hT.out
        cases hxa : hxD a with
        | none =>
          rw [hxa] at SA
          have hno : Hid (hxP (bl s) n = none) := by
            have := hxP_none (bl s) (k + 1) (by rw [hxP, hT.out, hg1.out, hg2.out]; simp only [hxa]) (n - (k + 1))
            rw [show k + 1 + (n - (k + 1)) = n by omega] at this
            exact this
          obtain ⟨xb, SB⟩ : ∃ xb : Int, Hid (∀ w, Calls Tryz.prog 80 #[.string ⟨#[48, 49, 50, 51, 52, 53, 54, 55, 56, 57, 97, 98, 99, 100, 101, 102]⟩, .int .u8 b.toNat] w fun r w' => r = .returned (.int .i64 xb) ∧ w' = w) := ⟨_, SB⟩
          clear hA1 hxa
          go_wp2
          go_quiet (first | (go_at_call 80; exact Calls.quiet_of_same (SA.out _)) | (go_at_call 80; exact Calls.quiet_of_same (SB.out _)))
          go_wp2
          exact bodyPost_ret (v := .tuple #[.string ⟨#[]⟩, .bool false]) (by simp [results, Tryz.results155, go_sem]) rfl ⟨by rw [hr.out none hno.out], hB.out.trans ⟨rfl, rfl, rfl, Nat.le_refl _, fun _ _ => rfl⟩⟩
        | some x =>
          rw [hxa] at SA
          have hx0 : decide ((x.val : Int) < 0) = false := by simp
          cases hxb : hxD b with
          | none =>
            rw [hxb] at SB
            have hno : Hid (hxP (bl s) n = none) := by
              have := hxP_none (bl s) (k + 1) (by rw [hxP, hT.out, hg1.out, hg2.out]; simp only [hxa, hxb]) (n - (k + 1))
              rw [show k + 1 + (n - (k + 1)) = n by omega] at this
              exact this
            clear hA1 hxa hxb
            go_wp2
            go_quiet (first | (go_at_call 80; exact Calls.quiet_of_same (SA.out _)) | (go_at_call 80; exact Calls.quiet_of_same (SB.out _)))
            go_wp2
            exact bodyPost_ret (v := .tuple #[.string ⟨#[]⟩, .bool false]) (by simp [results, Tryz.results155, go_sem]) rfl ⟨by rw [hr.out none hno.out], hB.out.trans ⟨rfl, rfl, rfl, Nat.le_refl _, fun _ _ => rfl⟩⟩
          | some y =>
            rw [hxb] at SB
            have hy0 : decide ((y.val : Int) < 0) = false := by simp
            have hor := or16b x y
            have hst : Hid (hxP (bl s) (k + 1) = some (t ++ [x.val * 16 + y.val])) := by
              show _ = _
              rw [hxP, hT.out, hg1.out, hg2.out]; simp only [hxa, hxb]
            have hxl := x.isLt
            have hyl := y.isLt
            obtain ⟨v, hv⟩ : ∃ v, x.val * 16 + y.val = v := ⟨_, rfl⟩
            rw [hv] at hor hst
            have hv8 : IntKind.u8.wrap (v : Int) = (v : Int) := by rw [IntKind.wrap_u8] <;> omega
            have hcl : ∀ nq, (wr.drewN nq).cell? ⟨w.heap.size, k, none⟩ = some (.int .u8 0) := fun nq => by
              have := (hA1 nq).cell k (by rw [List.length_append, htl, List.length_replicate]; omega)
              rw [this, List.getElem_append_right (by omega), List.getElem_replicate]
              rfl
            have hfz : ∀ nq, (wr.drewN nq).frozen? ⟨w.heap.size, k, none⟩ = false := fun nq => (hA1 nq).frozen k
            have hset : Hid (∀ nq, Arr ((wr.drewN nq).setCell ⟨w.heap.size, k, none⟩ (.int .u8 (v : Int))) w.heap.size 5 ((t ++ [v]) ++ List.replicate (n - (k + 1)) 0)) := fun nq => by
              have := (hA1 nq).set k v
              rw [List.set_append_right _ _ (by omega), htl, Nat.sub_self, show n - k = (n - (k + 1)) + 1 by omega, List.replicate_succ, List.set_cons_zero] at this
              rw [List.append_assoc]
              exact this
            have hx16 : IntKind.i64.wrap ((x.val : Int) * 16) = (x.val : Int) * 16 := by rw [IntKind.wrap_i64] <;> omega
            clear hA1 hxa hxb hv
            go_wp2
            go_quiet (first | (go_at_call 80; exact Calls.quiet_of_same (SA.out _)) | (go_at_call 80; exact Calls.quiet_of_same (SB.out _)))
            go_wp2
            refine ⟨⟨k + 1, t ++ [v], by omega, by go_num, hst.out, hset.out _, ?_⟩, by simp [intOf]; omega⟩
            exact (show Below w.heap.size w (wr.drewN _) from hB.out.trans ⟨rfl, rfl, rfl, Nat.le_refl _, fun _ _ => rfl⟩).setCell (p := ⟨w.heap.size, k, none⟩) (Nat.le_refl _) _
      · have hke : k = n := by omega
        subst hke
        have htl := hxP_len _ _ _ hT.out
        have hcv : (convert 32 9 (.slice (some ⟨w.heap.size, 0, none⟩) k k)).run Tryz.prog wr = .ok (.string (mkB (t.map UInt8.ofNat))) wr := by
          have := run_convert_bytes_back (P := Tryz.prog) wr 32 9 5 ⟨w.heap.size, 0, none⟩ k (t.map UInt8.ofNat) Tryz.underlying32 Tryz.underlying5 Tryz.underlying9 (fun j hj => by
            rw [List.length_map] at hj
            have hc := hA.out.cell j (by rw [List.length_append]; omega)
            rw [show (⟨w.heap.size, 0, none⟩ : Addr).add j = ⟨w.heap.size, j, none⟩ by unfold Addr.add; split <;> simp_all, hc, List.getElem_append_left hj, List.getElem_map]
            rw [UInt8.toNat_ofNat_of_lt' (hxP_lt _ _ _ hT.out _ (List.getElem_mem _))])
          rw [List.length_map, htl] at this
          exact this
        go_wp2
        exact bodyPost_ret (v := .tuple #[.string (mkB (t.map UInt8.ofNat)), .bool true]) (by simp [results, Tryz.results155, go_sem]) rfl ⟨by rw [hr.out (some t) hT.out], hB.out⟩
  · have hr : Hid (uxR s = .returned (.tuple #[.string ⟨#[]⟩, .bool false])) := by
      show _ = _
      unfold uxR
      rw [hx2_odd n (bl s) (by rw [bl_length]; exact hn)]
    have e2 : Int.tmod (s.size : Int) 2 = 1 := by rw [hn, Int.tmod_eq_emod_of_nonneg (by omega)]; omega
    rw [hr.out]
    clear hn
    go_enter Tryz.func155, Tryz.ntmps155
    go_wp2
    exact bodyPost_ret (v := .tuple #[.string ⟨#[]⟩, .bool false]) (by simp [results, Tryz.results155, go_sem]) rfl ⟨rfl, Below.refl _ _⟩
end Go.Proofs.YtoaacfhjejmbnaaGreatDoor
/- json's writer: a value's document; list: walked. -/
namespace Go.Proofs.YtoaacfhjejmbnaaGreatDoor
open Go.RowKit
set_option linter.unusedSimpArgs false
set_option linter.unusedVariables false
def dFloat : List UInt8 := [36, 102, 108, 111, 97, 116]
def dBytes : List UInt8 := [36, 98, 121, 116, 101, 115]
def dTag : List UInt8 := [36, 116, 97, 103]
/-- A record's name as it stands: one more dollar ahead of the first one. -/
def nmD (k : Nat) (s : List UInt8) : List UInt8 := bif k == 0 && s.head? == some 36 then 36 :: s else s
/-- A value's document. -/
def jtx : (n : Nat) → VT n → List UInt8
  | 0, _ => []
  | n + 1, x =>
    if x.1.kind = 1 then [110, 117, 108, 108] else if x.1.kind = 2 then flgL x.1.flag else if x.1.kind = 3 then printL x.1.neg (bl x.1.dig) x.1.exp
    else if x.1.kind = 4 then nmd dFloat (bl (fhexS x.1.bits.toNat)) else if x.1.kind = 5 then quo (bl x.1.text) else if x.1.kind = 6 then nmd dBytes (hexL (bl x.1.text))
    else if x.1.kind = 7 then [91] ++ (((List.range x.2.length).map fun i => cmL i ++ ((x.2[i]?).elim [] (jtx n))).flatten ++ [93])
    else if x.1.kind = 8 then [123] ++ (((List.range x.2.length).map fun i => cmL i ++ (quo (nmD i (bl ((x.1.names[i]?).getD ByteArray.empty))) ++ ([58] ++ ((x.2[i]?).elim [] (jtx n))))).flatten ++ [125])
    else [123] ++ (quo dTag ++ ([58, 91] ++ (quo (bl x.1.text) ++ ([44] ++ (((x.2[0]?).elim [] (jtx n)) ++ [93, 125])))))
def jel (n : Nat) (l : List (VT n)) (k : Nat) : List UInt8 := ((List.range k).map fun i => cmL i ++ ((l[i]?).elim [] (jtx n))).flatten
def jrc (n : Nat) (ns : List ByteArray) (l : List (VT n)) (k : Nat) : List UInt8 := ((List.range k).map fun i => cmL i ++ (quo (nmD i (bl ((ns[i]?).getD ByteArray.empty))) ++ ([58] ++ ((l[i]?).elim [] (jtx n))))).flatten
theorem jel_succ (n : Nat) (l : List (VT n)) (k : Nat) (hk : k < l.length) : jel n l (k + 1) = jel n l k ++ (cmL k ++ jtx n l[k]) := by
  simp [jel, List.range_succ, hk]
theorem jrc_succ (n : Nat) (ns : List ByteArray) (l : List (VT n)) (k : Nat) (hk : k < l.length) (hn : k < ns.length) : jrc n ns l (k + 1) = jrc n ns l k ++ (cmL k ++ (quo (nmD k (bl ns[k])) ++ ([58] ++ jtx n l[k]))) := by
  simp [jrc, List.range_succ, hk, hn]
theorem jel_le (n : Nat) (l : List (VT n)) {k : Nat} (hk : k ≤ l.length) : jel n l k <+: jel n l l.length := by
  obtain ⟨d, hd⟩ := Nat.exists_eq_add_of_le hk
  rw [hd]
  unfold jel
  rw [List.range_add, List.map_append, List.flatten_append]
  exact List.prefix_append _ _
theorem jrc_le (n : Nat) (ns : List ByteArray) (l : List (VT n)) {k m : Nat} (hk : k ≤ m) : jrc n ns l k <+: jrc n ns l m := by
  obtain ⟨d, hd⟩ := Nat.exists_eq_add_of_le hk
  rw [hd]
  unfold jrc
  rw [List.range_add, List.map_append, List.flatten_append]
  exact List.prefix_append _ _
/-- A float's bits are some of 64. -/
def Rg : (n : Nat) → VT n → Prop
  | 0, _ => True
  | n + 1, x => 0 ≤ x.1.bits ∧ x.1.bits < 18446744073709551616 ∧ ∀ y ∈ x.2, Rg n y
/-- What a value is that is written. -/
def Vo (n : Nat) (x : VT n) : Prop := IsV n x ∧ Sht n x ∧ Rg n x
theorem Vo.kid {n : Nat} {x : VT (n + 1)} (h : Vo (n + 1) x) (k : Nat) (hk : k < x.2.length) : Vo n x.2[k] := ⟨h.1.2.2 _ (List.getElem_mem hk), h.2.1.2.2.2 _ (List.getElem_mem hk), h.2.2.2.2 _ (List.getElem_mem hk)⟩
/-- What value is called with. -/
structure Vc (n : Nat) (x : VT n) (ns ls : Value) (w0 : World) (i : Nat) (W : World) : Prop where
  rd : RD n w0 x ns ls
  vo : Vo n x
  lo : w0.heap.size ≤ i
  be : Below w0.heap.size w0 W
  tab : Tab w0.heap.size w0
def ValOk (n : Nat) : Prop := ∀ (x : VT n) (ns ls : Value) (w0 W : World) (i : Nat) (A : List UInt8), Vc n x ns ls w0 i W → WB W i A → A.length ≤ 65536 →
  Calls Tryz.prog 34 #[.pointer (some ⟨i, 0, none⟩), .agg (vals (vhd n x) ns ls)] W fun e w' => WO i A (jtx n x) W e w'
theorem WO.pre {i : Nat} {A T U : List UInt8} {W w1 : World} (h1 : FW i W w1) (hp : T <+: U) (h : 65536 < A.length + T.length) : WO i A U W (.panicked (pan 2)) w1 :=
  ⟨h1, Or.inr ⟨by have := hp.length_le; omega, rfl⟩⟩
/-- One write more. -/
theorem WO.step {i : Nat} {A T U : List UInt8} {W w1 w2 : World} {e : Ending} (h1 : FW i W w1) (h : WO i (A ++ T) U w1 e w2) :
    (e = .returned (.tuple #[]) ∧ FW i W w2 ∧ WB w2 i (A ++ (T ++ U)) ∧ (A ++ (T ++ U)).length ≤ 65536) ∨ (e = .panicked (pan 2) ∧ FW i W w2 ∧ 65536 < A.length + (T ++ U).length) := by
  obtain ⟨hb, hh⟩ := h
  rcases hh with ⟨q1, q2, q3⟩ | ⟨q1, q2⟩
  · exact Or.inl ⟨q2, h1.trans hb, by simpa using q3, by simp at q1 ⊢; omega⟩
  · exact Or.inr ⟨q2, h1.trans hb, by simp at q1 ⊢; omega⟩
theorem FW.al {i : Nat} {W w1 : World} {o : Obj} (h : FW i W w1) (hi : i < w1.heap.size) : FW i W (w1.alloc o) := h.trans (FW.of (below_al (Below.refl _ _)) hi)
theorem Bx.nb {W W1 : World} {q i : Nat} {h : Hd} {ns ls : Value} (k : Bx W q h ns ls) (e : W1.heap[q]? = W.heap[q]?) : Bx W1 q h ns ls := ⟨e.trans k.at_⟩
set_option maxHeartbeats 2000000 in
set_option maxRecDepth 100000 in
theorem jlist_any (n : Nat) (vo : ValOk n) (h : Hd) (l : List (VT n)) (ns ls : Value) (w0 W : World) (i : Nat) (A : List UInt8) (hc : Vc (n + 1) ((h, l) : VT (n + 1)) ns ls w0 i W) (hW : WB W i A) (hA : A.length ≤ 65536) :
    Calls Tryz.prog 59 #[.pointer (some ⟨i, 0, none⟩), ls] W fun e w' => WO i A ([91] ++ (jel n l l.length ++ [93])) W e w' := by
  have hp := hide (fun s A W (h : WB W i A) (hA : A.length ≤ 65536) (hs : s.size ≤ 281474976710656) => put_any s A W i h hA hs)
  have hcm := hide (fun k A W (h : WB W i A) (hA : A.length ≤ 65536) => comma_any k A W i h hA)
  have vo' := hide vo
  have hc' := hide hc
  have hW' := hide hW
  have hA' := hide hA
  obtain ⟨al, cl, rfl, hl1, hl2⟩ := hc.rd.len
  have hl256 : l.length ≤ 256 := hc.vo.2.1.2.1
  have hloi := hc.lo
  simp only at hl1 hl2
  clear vo hc hW hA
  go_enter Tryz.func59, Tryz.ntmps59
  go_wp2_with (go_at_call 52; refine Sto.out ?_)
  refine Sto.mk ((hp.out _ A W hW'.out hA'.out (by decide)).mono ?_)
  rintro e w1 hw1
  replace hw1 : WO i A [91] W e w1 := hw1
  obtain ⟨hf1, ⟨q1, rfl, hW1⟩ | ⟨q1, rfl⟩⟩ := hw1
  · have F1 := hide hf1
    have X1 := hide hW1
    have Q1 := hide q1
    clear hf1 hW1 q1
    go_wp2_with fail
    go_loopw [10] (fun j wr => ∃ k : Nat, j = .int .i64 k ∧ k ≤ l.length ∧ Hid (FW i W wr ∧ WB wr i (A ++ ([91] ++ jel n l k)) ∧ (A ++ ([91] ++ jel n l k)).length ≤ 65536)) (fun j _ => l.length - (intOf j).toNat)
    case atStart => exact ⟨0, rfl, Nat.zero_le _, hide ⟨F1.out, by simpa [jel] using X1.out, by have := Q1.out; simpa [jel] using this⟩⟩
    case round =>
      obtain ⟨k, rfl, hk, HH⟩ := hrel
      obtain ⟨hF, hX, hL⟩ := HH.out
      have FR := hide hF
      have XR := hide hX
      have LR := hide hL
      have hiw := hX.lt
      clear HH hF hX hL F1 X1 Q1
      by_cases hkl : k < l.length
      · have hki : (k : Int) < (l.length : Int) := by omega
        obtain ⟨b, o, c, he, hbl, hlc, hcm2, ns', ls', hrg, hrd⟩ := hc'.out.rd.at k hkl
        have he' := Value.slice.inj he
        obtain ⟨rfl, _, rfl⟩ := he'
        clear he
        have BR : Hid (Below w0.heap.size w0 wr) := hc'.out.be.trans (FR.out.1.mono hloi)
        obtain ⟨e0, e1, e2, e3, e4, e5, e6, e7, e8⟩ := range9 (rangeAt_below hrg BR.out hbl)
        obtain ⟨a1, m1, d1, a2, m2, d2, rfl, rfl⟩ := hrd.shape
        have hsu := hide (jel_succ n l k hkl)
        have hpr := hide (jel_le n l (k := k + 1) hkl)
        have vk := hide (fun W (b : Below w0.heap.size w0 W) A (x : WB W i A) (a : A.length ≤ 65536) => vo'.out l[k] _ _ w0 W i A ⟨hrd, hc'.out.vo.kid k hkl, hloi, b, hc'.out.tab⟩ x a)
        obtain ⟨g, hg⟩ : ∃ g, vhd n l[k] = g := ⟨_, rfl⟩
        have hg2 : vhd n ((h, l) : VT (n + 1)).2[k] = g := hg
        rw [hg2] at e0 e1 e2 e3 e4 e5 e6
        rw [hg] at vk
        simp only [vals] at vk
        have hblw : b < wr.heap.size := Nat.lt_of_lt_of_le hbl BR.out.size
        have X2 := hide (fun o => XR.out.below (below_al (o := o) (Below.refl wr.heap.size wr)))
        have N2 : Hid (∀ o, NB wr.heap.size (wr.alloc o) i) := fun o => NB.new XR.out
        have V2 := hide (bx_new wr g (.slice a1 m1 d1) (.slice a2 m2 d2))
        simp only [vals] at V2
        clear hrg hrd hg hg2
        go_wp2_with (go_at_call 93; refine Sto.out ?_)
        refine Sto.mk ((hcm.out k _ _ (X2.out _) LR.out).mono ?_)
        rintro e w3 hw3
        have kp := hide (hw3.1.kept (N2.out _))
        have hw4 := WO.step (FR.out.al hiw) hw3
        have FA := hide hw3.1
        clear hw3 e0 e1 e2 e3 e4 e5 e6 e7 e8
        rcases hw4 with ⟨rfl, g1, g2, g3⟩ | ⟨rfl, g1, g2⟩
        · have G1 := hide g1
          have G2 := hide g2
          have G3 := hide g3
          have V3 : Hid (Bx w3 wr.heap.size g (.slice a1 m1 d1) (.slice a2 m2 d2)) := (bx_new wr g (.slice a1 m1 d1) (.slice a2 m2 d2)).nb (i := i) kp.out.1
          obtain ⟨f0, f1, f2, f3, f4, f5, f6, f7, f8⟩ := V3.out.cells
          clear g1 g2 g3
          go_wp2_with (go_at_call 34; refine Sto.out ?_)
          refine Sto.mk ((vk.out w3 (hc'.out.be.trans (G1.out.1.mono hloi)) _ G2.out G3.out).mono ?_)
          rintro e w5 hw5
          have hw6 := WO.step (A := A) (T := [91] ++ jel n l k ++ cmL k) G1.out hw5
          clear hw5 f0 f1 f2 f3 f4 f5 f6 f7 f8
          rcases hw6 with ⟨rfl, g1, g2, g3⟩ | ⟨rfl, g1, g2⟩
          · have K := hide (show FW i W w5 ∧ WB w5 i (A ++ ([91] ++ jel n l (k + 1))) ∧ (A ++ ([91] ++ jel n l (k + 1))).length ≤ 65536 by rw [hsu.out]; exact ⟨g1, by simpa using g2, by simpa using g3⟩)
            clear g1 g2 g3
            go_wp2_with fail
            exact ⟨⟨k + 1, by go_num, hkl, K⟩, by simp [intOf]; omega⟩
          · have K := hide (WO.pre (A := A) (T := [91] ++ jel n l (k + 1)) (U := [91] ++ (jel n l l.length ++ [93])) g1 (by
              have := hpr.out
              obtain ⟨t, ht⟩ := this
              exact ⟨t ++ [93], by rw [← ht]; simp⟩) (by rw [hsu.out]; simpa using g2))
            clear g1 g2
            go_wp2_with fail
            exact ⟨rfl, K.out⟩
        · have K := hide (WO.pre (A := A) (T := [91] ++ jel n l k ++ cmL k) (U := [91] ++ (jel n l l.length ++ [93])) g1 (by
            have := hpr.out
            rw [hsu.out] at this
            obtain ⟨t, ht⟩ := this
            exact ⟨jtx n l[k] ++ t ++ [93], by rw [← ht]; simp⟩) g2)
          clear g1 g2
          go_wp2_with fail
          exact ⟨rfl, K.out⟩
      · have hki : ¬ ((k : Int) < (l.length : Int)) := by omega
        have hke : k = l.length := by omega
        subst hke
        go_wp2_with (go_at_call 52; refine Sto.out ?_)
        refine Sto.mk ((hp.out _ _ wr XR.out LR.out (by decide)).mono ?_)
        rintro e w2 hw2
        replace hw2 : WO i (A ++ ([91] ++ jel n l l.length)) [93] wr e w2 := hw2
        have hw3 := WO.trans (A := A) (T := [91] ++ jel n l l.length) FR.out (by have := LR.out; simp only [List.length_append] at this ⊢; omega) hw2
        have H3 := hide hw3
        rcases hw2 with ⟨_, ⟨_, rfl, _⟩ | ⟨_, rfl⟩⟩
        · go_wp2_with fail
          go_end0
          simpa only [List.append_assoc, List.cons_append, List.nil_append] using H3.out
        · go_wp2_with fail
          refine ⟨rfl, ?_⟩
          simpa only [List.append_assoc, List.cons_append, List.nil_append] using H3.out
  · have H1 := hide (WO.fail (A := A) (T := [91]) (U := jel n l l.length ++ [93]) hf1 q1)
    clear hf1 q1
    go_wp2_with fail
    exact ⟨rfl, H1.out⟩
end Go.Proofs.YtoaacfhjejmbnaaGreatDoor
