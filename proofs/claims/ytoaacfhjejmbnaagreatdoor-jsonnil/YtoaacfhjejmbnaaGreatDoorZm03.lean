/- Merged by program: JaPut, ObPower, OcPower, NmMath, NcComp, NdCmp, NfTrim. -/
import Derived.Test.YtoaacfhjejmbnaaGreatDoorZm02
import Derived.Outline
import Derived.Test.YtoaacfhjejmbnaaGreatDoorZm00
import Derived.Test.YtoaacfhjejmbnaaGreatDoorZm01
import Derived.WalkKit
import Derived.WalkSpells
import Derived.WalkLawsBesides
import Derived.Deep.RegionWith
import Derived.Deep.RegionHeld3
import Derived.Test.YtoaacfhjejmbnaaGreatDoorRows
/- json's writer: put: walked. -/
namespace Go.Proofs.YtoaacfhjejmbnaaGreatDoor
open Go.RowKit
set_option linter.unusedSimpArgs false
set_option linter.unusedVariables false
/-- A word at which a walk stands still. -/
def Sto (p : Prop) : Prop := p
theorem Sto.out {p : Prop} (h : Sto p) : p := h
theorem Sto.mk {p : Prop} (h : p) : Sto p := h
/-- A writer in its block: the bytes that it has written. -/
def WB (W : World) (i : Nat) (A : List UInt8) : Prop := ∃ v, W.heap[i]? = some (.cells #[v] 66 (0, 0)) ∧ Own W (i + 1) v A
/-- The panic of an error. -/
def pan (E : Int) : List PanicEntry := [{ v := .iface 33 (.int .i64 E), recovered := false }]
/-- Nothing that was there is written but the writer's block and its row. -/
def FW (i : Nat) (W w' : World) : Prop := Below i W w' ∧ ∀ v, W.heap[i]? = some (.cells #[v] 66 (0, 0)) →
  (∀ q, q < W.heap.size → q ≠ i → v.ownBlock ≠ some q → w'.heap[q]? = W.heap[q]?) ∧ ∃ v', w'.heap[i]? = some (.cells #[v'] 66 (0, 0)) ∧ (v'.ownBlock = v.ownBlock ∨ ∀ g, v'.ownBlock = some g → W.heap.size ≤ g)
theorem FW.refl (i : Nat) (W : World) : FW i W W := ⟨Below.refl _ _, fun v h => ⟨fun _ _ _ _ => rfl, v, h, Or.inl rfl⟩⟩
theorem FW.trans {i : Nat} {W w1 w2 : World} (h : FW i W w1) (k : FW i w1 w2) : FW i W w2 := by
  refine ⟨h.1.trans k.1, fun v hv => ?_⟩
  obtain ⟨h1, v1, hv1, ho1⟩ := h.2 v hv
  obtain ⟨k1, v2, hv2, ho2⟩ := k.2 v1 hv1
  have z := h.1.size
  refine ⟨fun q q1 q2 q3 => (k1 q (by omega) q2 (fun e => ?_)).trans (h1 q q1 q2 q3), v2, hv2, ?_⟩
  · rcases ho1 with o | o
    · exact q3 (o ▸ e)
    · have := o q e; omega
  · rcases ho2 with o2 | o2
    · rcases ho1 with o1 | o1
      · exact Or.inl (o2.trans o1)
      · exact Or.inr fun g e => o1 g (o2 ▸ e)
    · exact Or.inr fun g e => Nat.le_trans z (o2 g e)
theorem FW.of {i : Nat} {W w1 : World} (h : Below W.heap.size W w1) (hi : i < W.heap.size) : FW i W w1 :=
  ⟨h.mono (Nat.le_of_lt hi), fun v hv => ⟨fun q q1 _ _ => h.block q q1, v, (h.block i hi).trans hv, Or.inl rfl⟩⟩
/-- Block q is not the writer's. -/
def NB (q : Nat) (W : World) (i : Nat) : Prop := q < W.heap.size ∧ q ≠ i ∧ ∃ v, W.heap[i]? = some (.cells #[v] 66 (0, 0)) ∧ v.ownBlock ≠ some q
theorem FW.kept {i q : Nat} {W w' : World} (h : FW i W w') (n : NB q W i) : w'.heap[q]? = W.heap[q]? ∧ NB q w' i := by
  obtain ⟨n1, n2, v, hv, n3⟩ := n
  obtain ⟨h1, v', hv', ho⟩ := h.2 v hv
  refine ⟨h1 q n1 n2 n3, Nat.lt_of_lt_of_le n1 h.1.size, n2, v', hv', fun e => ?_⟩
  rcases ho with o | o
  · exact n3 (o ▸ e)
  · have := o q e; omega
/-- What a call that writes T answers. -/
def WO (i : Nat) (A T : List UInt8) (W : World) (e : Ending) (w' : World) : Prop :=
  FW i W w' ∧ ((A.length + T.length ≤ 65536 ∧ e = .returned (.tuple #[]) ∧ WB w' i (A ++ T)) ∨ (65536 < A.length + T.length ∧ e = .panicked (pan 2)))
theorem WB.lt {W : World} {i : Nat} {A : List UInt8} (h : WB W i A) : i < W.heap.size := by
  obtain ⟨v, h1, _⟩ := h
  exact (Array.getElem?_eq_some_iff.1 h1).1
theorem NB.new {W : World} {i : Nat} {A : List UInt8} {o : Obj} (h : WB W i A) : NB W.heap.size (W.alloc o) i := by
  have hlt := h.lt
  obtain ⟨v, h1, h2⟩ := h
  exact ⟨by simp, by omega, v, (Below.heap_alloc _ _ _ hlt).trans h1, fun e => by have := (World.ownsRow.lt h2 _ e).2; omega⟩
/-- Where the row lies behind an append of a text. -/
theorem str_at {P : Program} (w : World) (base : Nat) (t u ty e : TypeId) (i : TypeInfo) (ht : P.underlying t = some (.slice e)) (hu : P.underlying u = some .string) (hi : P.info? e = some i) (hz : i.zero = some (.int .u8 0))
    (hsize : i.size = 1) (hby : i.bytes = 1) (v : Value) (n : Nat) (xs : List Value) (hown : w.ownsRow base e 1 v n xs) (s : ByteArray) (hbytes : n + s.size ≤ 140737488355328)
    (v' : Value) (w' : World) (h : (Builtin.append_ #[t, u] ty #[v, .string s]).run P w = .ok v' w') : v'.ownBlock = v.ownBlock ∨ v'.ownBlock = some w.heap.size := by
  have hxl : xs.length = n := by simpa using hown.1
  rcases hown.2 with ⟨rfl, rfl⟩ | ⟨g, cap, cur, rfl, hbg, hg, hnc, hcm, hcs, htake⟩
  · by_cases hm : s.size = 0
    · have hf := Lib.run_firstCells_string (P := P) w 1 s
      rw [hm] at hf
      have : (Builtin.append_ #[t, u] ty #[.slice none 0 0, .string s]).run P w = .ok (.slice none 0 0) w := by
        simp [Builtin.append_, run_underlying ht, run_underlying hu, sizeOf, typeInfo, hi, hsize, Builtin.lenOf, hm, hf]
      rw [this] at h
      cases h
      exact Or.inl rfl
    · have hr := run_append_nil_string (P := P) w t u ty e i (.int .u8 0) ht hu hi hz s (by omega) (by omega) (by rw [hby]; omega)
      rw [hr] at h
      cases h
      exact Or.inr rfl
  · by_cases hroom : n + s.size ≤ cap
    · have hcs' : cur.size = cap := by simpa using hcs
      have hr := Lib.run_append_room_string (P := P) w t u ty e i ht hu hi hsize g n cap cur hg s hroom (by omega)
      rw [hr] at h
      cases h
      exact Or.inl rfl
    · have holds : ∀ j u, xs[j]? = some u → w.cell? ((⟨g, 0, none⟩ : Addr).add j) = some u := hown.cells (g := g) rfl
      have hr := Lib.run_append_grow_string (P := P) w t u ty e i (.int .u8 0) ht hu hi hz ⟨g, 0, none⟩ n cap xs (by rw [hsize]; simpa using hxl) holds s (by omega) (by omega) (by rw [hby]; exact growslice_fits (by omega) (by omega))
      rw [hr] at h
      cases h
      exact Or.inr rfl
theorem app_str2 {w : World} {ops : Array Oper} {rest : List Oper} {o : Oper} {a : Act} {Q : Exit → Act → World → Prop} (hgd : o.guard = none) (sl x : Operand) (ho : o.op = .call { callee := .builtin .append, args := #[sl, x], argTypes := #[32, 9] })
    (B : Nat) (v : Value) (l : List UInt8) (hs : a.eval sl = v) (hown : Own w B v l) (s : ByteArray) (hx : a.eval x = .string s) (hl : l.length + s.size ≤ 100000) (hB : B ≤ w.heap.size)
    (h : ∀ v' w', Hid (Own w' B v' (l ++ bl s)) → Hid (w.grownBy w' v.ownBlock) → Hid (v'.ownBlock = v.ownBlock ∨ v'.ownBlock = some w.heap.size) → wpList Tryz.prog ops Q rest (a.put o.dst v') w') : wpList Tryz.prog ops Q (o :: rest) a w := by
  obtain ⟨i0, hi, hz0, hz1, hz2⟩ := info_parts info5
  refine wpList_plain hgd fun K hK => ?_
  obtain ⟨v', w', hr, h2, h3, h4⟩ := Lib.run_append_own_string (P := Tryz.prog) w B 32 9 o.type 5 i0 Tryz.underlying32 Tryz.underlying9 hi hz0 hz1 hz2 v l.length (bcs l) hown s (by unfold maxLen; omega) (by omega) hB
  have hat := str_at (P := Tryz.prog) w B 32 9 o.type 5 i0 Tryz.underlying32 Tryz.underlying9 hi hz0 hz1 hz2 v l.length (bcs l) hown s (by omega) v' w' hr
  unfold Oper.wp execOp
  simp only [ho, resolve, invoke, builtin, Sem.run_bind, Sem.run_pure, Result.andThen_ok, List.map_toArray, List.map_cons, List.map_nil, hs, hx, hr]
  refine hK _ _ (h v' w' ?_ h3 hat)
  show Own _ _ _ _
  unfold Own
  rw [bcs_append, List.length_append, bl_length, ← strCells_bcs]; exact h2
set_option maxHeartbeats 1000000 in
set_option maxRecDepth 100000 in
theorem put_all (s : ByteArray) (A : List UInt8) (W : World) (i : Nat) (h : WB W i A) (hA : A.length ≤ 65536) :
    Calls Tryz.prog 52 #[.pointer (some ⟨i, 0, none⟩), .string s] W fun e w' => WO i A (bl s) W e w' := by
  have hlt := h.lt
  obtain ⟨v, h1, h2⟩ := h
  obtain ⟨a, c, rfl⟩ : ∃ a c, v = .slice a A.length c := by
    rcases h2.2 with ⟨rfl, e⟩ | ⟨g, cap, cur, rfl, _⟩
    · exact ⟨none, 0, by rw [e]⟩
    · exact ⟨_, _, rfl⟩
  have c0 : W.cell? ⟨i, 0, none⟩ = some (.slice a A.length c) := by simp [World.cell?, h1]
  have f0 : W.frozen? ⟨i, 0, none⟩ = false := by simp [World.frozen?, h1]
  have h1' := hide h1
  have h2' := hide h2
  have hbl := hide (bl_length s)
  clear h1 h2
  have hw : IntKind.i64.wrap (65536 - (A.length : Int)) = 65536 - (A.length : Int) := by rw [IntKind.wrap_i64] <;> omega
  by_cases hbig : (65536 : Int) - (A.length : Int) < (s.size : Int)
  · go_enter Tryz.func52, Tryz.ntmps52
    go_wp2_with fail
    exact ⟨rfl, FW.refl _ _, Or.inr ⟨by rw [hbl.out]; omega, rfl⟩⟩
  · go_enter Tryz.func52, Tryz.ntmps52
    go_wp2_with (at_builtin; refine Sto.out ?_)
    refine Sto.mk ?_
    refine app_str2 rfl (.tmp 18) (.tmp 19) rfl (i + 1) (.slice a A.length c) A rfl h2'.out s rfl (by omega) (by omega) ?_
    intro v' w' ho hg hat
    have hz := hg.out.size
    have hll := World.ownsRow.lt h2'.out
    have hblk : Hid (w'.heap[i]? = some (.cells #[.slice a A.length c] 66 (0, 0))) := (hg.out.block i hlt (fun q => by have := (hll i q.symm).1; omega)).trans h1'.out
    have c1 : w'.cell? ⟨i, 0, none⟩ = some (.slice a A.length c) := by simp [World.cell?, hblk.out]
    have f1 : w'.frozen? ⟨i, 0, none⟩ = false := by simp [World.frozen?, hblk.out]
    have ho' : v'.oneCell' = true := by
      rcases ho.out.2 with ⟨rfl, e⟩ | ⟨g, cap, cur, rfl, _⟩
      · rfl
      · rfl
    clear c0 f0
    obtain ⟨a2, n2, c2, rfl⟩ : ∃ a2 n2 c2, v' = .slice a2 n2 c2 := by
      rcases ho.out.2 with ⟨rfl, e⟩ | ⟨g, cap, cur, rfl, _⟩
      · exact ⟨_, _, _, rfl⟩
      · exact ⟨_, _, _, rfl⟩
    have hn2 : n2 = (A ++ bl s).length := by
      have := ho.out.1
      rcases ho.out.2 with ⟨e, e2⟩ | ⟨g, cap, cur, e, _⟩
      · cases e; exact e2.symm
      · cases e; rfl
    have hn2' := hide hn2
    clear hn2
    go_wp2_with fail
    go_end0
    have hblk2 : (w'.setCell ⟨i, 0, none⟩ (.slice a2 n2 c2)).heap[i]? = some (.cells #[.slice a2 n2 c2] 66 (0, 0)) := by
      rw [setCell_eq_setRow w' i 0 _ _ (0, 0) _ hblk.out, setRow_heap w' i _ _ _ (0, 0) hblk.out]
      rfl
    refine ⟨⟨((Below.refl i W).grown hg.out (by omega) (fun g e => by have := (hll g e).1; omega)).setCell (p := ⟨i, 0, none⟩) (Nat.le_refl i) _, fun v hv => ?_⟩, Or.inl ⟨by rw [hbl.out]; omega, rfl, .slice a2 n2 c2, hblk2, ?_⟩⟩
    · have hv2 : v = .slice a A.length c := by
        rw [h1'.out] at hv
        cases hv
        rfl
      subst hv2
      refine ⟨fun q q1 q2 q3 => ?_, _, hblk2, ?_⟩
      · rw [heap_set_ne q2, hg.out.block q q1 (fun e => q3 e.symm)]
      · rcases hat.out with e | e
        · exact Or.inl e
        · exact Or.inr fun g hg' => by rw [e] at hg'; cases hg'; exact Nat.le_refl _
    · have := ho.out
      unfold Own at this ⊢
      exact ownsRow_of this fun g e hg => heap_set_ne (by have := (World.ownsRow.lt ho.out g e).1; omega)
theorem put_any (s : ByteArray) (A : List UInt8) (W : World) (i : Nat) (h : WB W i A) (hA : A.length ≤ 65536) (hs : s.size ≤ 281474976710656) :
    Calls Tryz.prog 52 #[.pointer (some ⟨i, 0, none⟩), .string s] W fun e w' => WO i A (bl s) W e w' := put_all s A W i h hA
end Go.Proofs.YtoaacfhjejmbnaaGreatDoor
/- num's appendPointed and appendPower: walked. -/
namespace Go.Proofs.YtoaacfhjejmbnaaGreatDoor
open Go.RowKit
set_option linter.unusedSimpArgs false
set_option linter.unusedVariables false
end Go.Proofs.YtoaacfhjejmbnaaGreatDoor
/- num's appendPointed and appendPower: walked. -/
namespace Go.Proofs.YtoaacfhjejmbnaaGreatDoor
open Go.RowKit
set_option linter.unusedSimpArgs false
set_option linter.unusedVariables false
/-- digits with a point behind the first one, and a power of ten. -/
def powered (l : List UInt8) (p : List UInt8) : List UInt8 := l.take 1 ++ (if 1 < l.length then 46 :: l.drop 1 else []) ++ 101 :: p
end Go.Proofs.YtoaacfhjejmbnaaGreatDoor
/- Digits and what they are worth: no program in sight. -/
namespace Go.Proofs.YtoaacfhjejmbnaaGreatDoor
set_option linter.unusedSimpArgs false
set_option linter.unusedVariables false
/-- What a row of digits, the highest first, is worth. -/
def val : List Nat → Nat
  | [] => 0
  | d :: l => d * 10 ^ l.length + val l
theorem val_append (a b : List Nat) : val (a ++ b) = val a * 10 ^ b.length + val b := by
  induction a with
  | nil => simp [val]
  | cons d a ih =>
    simp only [List.cons_append, val, ih, List.length_append, Nat.add_mul, Nat.pow_add, Nat.mul_assoc]
    omega
/-- All are digits. -/
def Dgs (l : List Nat) : Prop := ∀ d ∈ l, d ≤ 9
theorem Dgs.cons {d : Nat} {l : List Nat} (h : Dgs (d :: l)) : d ≤ 9 ∧ Dgs l := ⟨h d (by simp), fun x hx => h x (by simp [hx])⟩
theorem val_lt (l : List Nat) (h : Dgs l) : val l < 10 ^ l.length := by
  induction l with
  | nil => simp [val]
  | cons d l ih =>
    obtain ⟨h1, h2⟩ := h.cons
    have := ih h2
    simp only [val, List.length_cons, Nat.pow_succ]
    have h3 : d * 10 ^ l.length ≤ 9 * 10 ^ l.length := Nat.mul_le_mul_right _ h1
    omega
theorem val_zeros (n : Nat) : val (List.replicate n 0) = 0 := by
  induction n with
  | zero => rfl
  | succ n ih => simp [List.replicate_succ, val, ih]
theorem val_zero_left (n : Nat) (l : List Nat) : val (List.replicate n 0 ++ l) = val l := by rw [val_append, val_zeros]; simp
theorem val_zero_right (n : Nat) (l : List Nat) : val (l ++ List.replicate n 0) = val l * 10 ^ n := by rw [val_append, val_zeros]; simp
/-- The lowest i digits, one more. -/
theorem val_drop_succ (p : List Nat) (n i : Nat) (hn : p.length = n) (hi : i < n) : val (p.drop (n - (i + 1))) = p[n - 1 - i]'(by omega) * 10 ^ i + val (p.drop (n - i)) := by
  have h1 : n - (i + 1) < p.length := by omega
  rw [List.drop_eq_getElem_cons h1]
  simp only [val]
  rw [show n - (i + 1) + 1 = n - i by omega, List.length_drop, show p.length - (n - i) = i by omega]
  congr 2
  congr 1
  omega
/-- The bytes of a text of digits, as digits. -/
def dg (s : ByteArray) : List Nat := (bl s).map fun c => c.toNat - 48
theorem dg_length (s : ByteArray) : (dg s).length = s.size := by simp [dg, bl_length]
theorem dg_get (s : ByteArray) (k : Nat) (h : k < s.size) : (dg s)[k]'(by rw [dg_length]; exact h) = s[k].toNat - 48 := by
  simp only [dg, List.getElem_map]
  rw [bl_get s k h]
theorem dg_dgs (s : ByteArray) (h : allD (bl s) = true) : Dgs (dg s) := by
  intro d hd
  simp only [dg, List.mem_map] at hd
  obtain ⟨c, hc, rfl⟩ := hd
  have := (isDig_iff c).1 ((List.all_eq_true.1 h) c hc)
  omega
theorem allD_get (s : ByteArray) (h : allD (bl s) = true) (k : Nat) (hk : k < s.size) : 48 ≤ s[k].toNat ∧ s[k].toNat ≤ 57 := by
  have h1 : s[k] ∈ bl s := by rw [← bl_get s k hk]; exact List.getElem_mem _
  have := (isDig_iff s[k]).1 ((List.all_eq_true.1 h) _ h1)
  omega
theorem take_get {P Q : List Nat} {m j : Nat} (h : P.take m = Q.take m) (hj : j < m) (hP : j < P.length) (hQ : j < Q.length) : P[j] = Q[j] := by
  have h1 : (P.take m)[j]? = (Q.take m)[j]? := by rw [h]
  rw [List.getElem?_take_of_lt hj, List.getElem?_take_of_lt hj, List.getElem?_eq_getElem hP, List.getElem?_eq_getElem hQ] at h1
  exact Option.some.inj h1
theorem take_less {P Q : List Nat} {m j : Nat} (h : P.take m = Q.take m) (hj : j ≤ m) : P.take j = Q.take j := by
  have := congrArg (List.take j) h
  rwa [List.take_take, List.take_take, Nat.min_eq_left hj] at this
/-- What holds ahead of round i of merge: P of what was P0, sd the digits that are merged, c what is carried. -/
def MInv (P0 sd : List Nat) (at_ : Nat) (less : Bool) (P : List Nat) (c i : Nat) : Prop :=
  P.length = 42 ∧ Dgs P ∧ c ≤ 1 ∧ P.take (42 - i) = P0.take (42 - i) ∧
  (less = false → val (P.drop (42 - i)) + c * 10 ^ i = val (P0.drop (42 - i)) + val (sd.drop (sd.length - (i - at_))) * 10 ^ at_) ∧
  (less = true → val (P.drop (42 - i)) + val (sd.drop (sd.length - (i - at_))) * 10 ^ at_ = val (P0.drop (42 - i)) + c * 10 ^ i)
/-- The digit that round i merges. -/
def mdig (sd : List Nat) (k : Nat) : Nat := if h : k < sd.length then sd[sd.length - 1 - k]'(by omega) else 0
theorem val_mdig (sd : List Nat) (k : Nat) : val (sd.drop (sd.length - (k + 1))) = mdig sd k * 10 ^ k + val (sd.drop (sd.length - k)) := by
  unfold mdig
  by_cases h : k < sd.length
  · rw [dif_pos h]; exact val_drop_succ sd sd.length k rfl h
  · rw [dif_neg h, show sd.length - (k + 1) = sd.length - k by omega]; simp
theorem MInv.start {P0 : List Nat} (sd : List Nat) (at_ : Nat) (less : Bool) (h : P0.length = 42) (hd : Dgs P0) : MInv P0 sd at_ less P0 0 at_ := by
  refine ⟨h, hd, by omega, rfl, fun _ => ?_, fun _ => ?_⟩ <;> simp [val]
theorem MInv.step {P0 sd P : List Nat} {at_ c i v c' : Nat} {less : Bool} (h0 : P0.length = 42) (h : MInv P0 sd at_ less P c i) (ha : at_ ≤ i) (hi : i < 42) (hv : v ≤ 9) (hc : c' ≤ 1)
    (e1 : less = false → v + 10 * c' = P[41 - i]'(by have := h.1; omega) + (c + mdig sd (i - at_))) (e2 : less = true → v + (c + mdig sd (i - at_)) = P[41 - i]'(by have := h.1; omega) + 10 * c') :
    MInv P0 sd at_ less (P.set (41 - i) v) c' (i + 1) := by
  obtain ⟨h1, h2, h3, h4, h5, h6⟩ := h
  have hq : P[41 - i]'(by omega) = P0[41 - i]'(by omega) := take_get h4 (by omega) (by omega) (by omega)
  have hdrop : (P.set (41 - i) v).drop (42 - (i + 1)) = v :: P.drop (42 - i) := by
    rw [show 42 - (i + 1) = 41 - i by omega, List.drop_eq_getElem_cons (by simp; omega), List.getElem_set_self, List.drop_set_of_lt (by omega), show 41 - i + 1 = 42 - i by omega]
  have hl : (P.drop (42 - i)).length = i := by rw [List.length_drop]; omega
  have hP0 : val (P0.drop (42 - (i + 1))) = P0[41 - i]'(by omega) * 10 ^ i + val (P0.drop (42 - i)) := val_drop_succ P0 42 i h0 hi
  have hS := val_mdig sd (i - at_)
  have hk : i + 1 - at_ = i - at_ + 1 := by omega
  have hpow : 10 ^ (i - at_) * 10 ^ at_ = 10 ^ i := by rw [← Nat.pow_add]; congr 1; omega
  refine ⟨by simpa using h1, ?_, hc, ?_, fun hl0 => ?_, fun hl0 => ?_⟩
  · intro d hd
    rcases List.mem_or_eq_of_mem_set hd with h | h
    · exact h2 d h
    · omega
  · rw [show 42 - (i + 1) = 41 - i by omega, List.take_set_of_le (by omega)]
    exact take_less h4 (by omega)
  · have e := e1 hl0
    have g := h5 hl0
    rw [hdrop, val, hl, hP0, hk, hS, Nat.add_mul, Nat.mul_assoc, hpow, Nat.pow_succ]
    have e' := congrArg (· * 10 ^ i) e
    simp only [Nat.add_mul, Nat.mul_assoc] at e'
    rw [hq] at e'
    rw [show c' * (10 ^ i * 10) = 10 * (c' * 10 ^ i) by rw [← Nat.mul_assoc, Nat.mul_comm]]
    omega
  · have e := e2 hl0
    have g := h6 hl0
    rw [hdrop, val, hl, hP0, hk, hS, Nat.add_mul, Nat.mul_assoc, hpow, Nat.pow_succ]
    have e' := congrArg (· * 10 ^ i) e
    simp only [Nat.add_mul, Nat.mul_assoc] at e'
    rw [hq] at e'
    rw [show c' * (10 ^ i * 10) = 10 * (c' * 10 ^ i) by rw [← Nat.mul_assoc, Nat.mul_comm]]
    omega
theorem val_split (P : List Nat) (m : Nat) : val P = val (P.take m) * 10 ^ (P.length - m) + val (P.drop m) := by
  have := val_append (P.take m) (P.drop m)
  rw [List.take_append_drop, List.length_drop] at this
  exact this
/-- When merge ends. -/
theorem MInv.done {P0 sd P : List Nat} {at_ i c : Nat} {less : Bool} (h0 : P0.length = 42) (hd0 : Dgs P0) (h : MInv P0 sd at_ less P c i) (hk : sd.length ≤ i - at_) (hi : i ≤ 42) (hc : c = 0 ∨ i = 42)
    (b1 : less = false → val P0 + val sd * 10 ^ at_ < 10 ^ 42) (b2 : less = true → val sd * 10 ^ at_ ≤ val P0) :
    P.length = 42 ∧ Dgs P ∧ (less = false → val P = val P0 + val sd * 10 ^ at_) ∧ (less = true → val P + val sd * 10 ^ at_ = val P0) := by
  obtain ⟨h1, h2, h3, h4, h5, h6⟩ := h
  have hs : sd.drop (sd.length - (i - at_)) = sd := by rw [show sd.length - (i - at_) = 0 by omega]; rfl
  rw [hs] at h5 h6
  have q := val_split P (42 - i)
  have q0 := val_split P0 (42 - i)
  rw [h1, show 42 - (42 - i) = i by omega] at q
  rw [h0, show 42 - (42 - i) = i by omega, ← h4] at q0
  have hlt := val_lt P h2
  rw [h1] at hlt
  have hc0 : c = 0 := by
    rcases hc with h | h
    · exact h
    · subst h
      rcases Nat.lt_or_ge 0 c with hp | hp
      · have hc1 : c = 1 := by omega
        subst hc1
        have z : P.take (42 - 42) = [] := rfl
        rw [z] at q q0
        simp only [val, Nat.zero_mul, Nat.zero_add] at q q0
        rw [← q, ← q0] at h5 h6
        cases less
        · have g1 := h5 rfl; have g2 := b1 rfl; omega
        · have g1 := h6 rfl; have g2 := b2 rfl; omega
      · omega
  subst hc0
  refine ⟨h1, h2, fun e => ?_, fun e => ?_⟩
  · have := h5 e; omega
  · have := h6 e; omega
end Go.Proofs.YtoaacfhjejmbnaaGreatDoor
/- num.compareSizes and Cmp: walked. -/
namespace Go.Proofs.YtoaacfhjejmbnaaGreatDoor
open Go.RowKit
set_option linter.unusedSimpArgs false
set_option linter.unusedVariables false
end Go.Proofs.YtoaacfhjejmbnaaGreatDoor
/- num.compareSizes and Cmp: walked. -/
namespace Go.Proofs.YtoaacfhjejmbnaaGreatDoor
open Go.RowKit
set_option linter.unusedSimpArgs false
set_option linter.unusedVariables false
theorem isN_len {n : Bool} {s : ByteArray} {x : Int} (h : isN n s x = true) : s.size ≤ 40 ∧ -400 ≤ x ∧ x ≤ 400 := by
  simp [isN, isZ, isO] at h
  rcases h with ⟨⟨_, h1⟩, h2⟩ | h
  · have := bl_length s; rw [h1] at this; simp at this; omega
  · rw [bl_length] at h; omega

end Go.Proofs.YtoaacfhjejmbnaaGreatDoor
/- bytes.TrimLeft at the cutset of one nought: walked. -/
namespace Go.Proofs.YtoaacfhjejmbnaaGreatDoor
open Go.RowKit
set_option linter.unusedSimpArgs false
set_option linter.unusedVariables false
/-- How many noughts a row begins with. -/
def lz (d : List Nat) : Nat := (d.takeWhile (· == 0)).length
theorem lz_of (d : List Nat) (k : Nat) (hk : k ≤ d.length) (h1 : ∀ i (h : i < d.length), i < k → d[i] = 0) (h2 : ∀ h : k < d.length, d[k] ≠ 0) : lz d = k :=
  takeWhile_of _ d k hk (fun j h hj => by simp [h1 j h hj]) (fun h => by simpa using h2 h)
def lenOf : Value → Nat | .slice _ m _ => m | _ => 0
set_option maxHeartbeats 400000 in
theorem trimByte_any (b o n c : Nat) (d : List Nat) (w : World) (hd : d.length = n) (hn0 : 0 < n) (hn : n ≤ 100000) (hc : n ≤ c) (hc' : c ≤ 100000)
    (hcell : ∀ i (h : i < d.length), w.cell? ⟨b, o + i, none⟩ = some (.int .u8 (d[i] : Nat))) :
    Calls Tryz.prog 204 #[.slice (some ⟨b, o, none⟩) n c, .int .u8 0] w fun e w' => (lz d < n → e = .returned (.slice (some ⟨b, o + lz d, none⟩) (n - lz d) (c - lz d))) ∧ (lz d = n → e = .returned (.slice none 0 0)) ∧ w' = w := by
  go_enter Tryz.func204, Tryz.ntmps204
  go_wp2
  go_loop [0] (fun s => ∃ k : Nat, k ≤ n ∧ (∀ i (h : i < d.length), i < k → d[i] = 0) ∧ ((k < n ∧ s = .slice (some ⟨b, o + k, none⟩) (n - k) (c - k)) ∨ (k = n ∧ ∃ a cc, s = .slice a 0 cc))) (fun s => lenOf s)
  case atStart => exact ⟨0, Nat.zero_le _, fun i h hi => by omega, Or.inl ⟨hn0, rfl⟩⟩
  case round =>
    obtain ⟨k, hk, hz, hs⟩ := hrel
    rcases hs with ⟨hlt, rfl⟩ | ⟨rfl, a, cc, rfl⟩
    · have hck := hcell k (by omega)
      by_cases h0 : d[k]'(by omega) = 0
      · rw [h0] at hck
        have hz' : ∀ i (h : i < d.length), i < k + 1 → d[i] = 0 := fun i h hi => by
          by_cases e : i = k
          · subst e; exact h0
          · exact hz i h (by omega)
        have hz' := hide hz'
        go_wp2
        refine ⟨⟨k + 1, by omega, hz'.out, ?_⟩, by simp [lenOf]; omega⟩
        by_cases hl : k + 1 < n
        · exact Or.inl ⟨hl, by rw [if_neg (by omega)]; simp [Nat.sub_sub, Nat.add_assoc]⟩
        · exact Or.inr ⟨by omega, _, _, by rw [show n - k - 1 = 0 by omega]⟩
      · have h1 : ((d[k]'(by omega) : Int) == 0) = false := by simp; exact h0
        have h2 : (((n - k : Nat) : Int) == 0) = false := by simp; omega
        have hl := hide (lz_of d k (by omega) hz (fun _ => h0))
        clear h0
        go_wp2
        go_ret
        exact ⟨fun _ => by rw [hl.out]; rfl, fun h => by rw [hl.out] at h; omega, rfl⟩
    · have hl := hide (lz_of d k (by omega) hz (fun h => by omega))
      go_wp2
      go_ret
      exact ⟨fun h => by rw [hl.out] at h; omega, fun h => rfl, rfl⟩

set_option maxRecDepth 100000 in
/-- What bytes.TrimLeft leaves of a slice. -/
theorem trimLeft_any (b o n c : Nat) (d : List Nat) (w : World) (hd : d.length = n) (hn0 : 0 < n) (hn : n ≤ 100000) (hc : n ≤ c) (hc' : c ≤ 100000)
    (hcell : ∀ i (h : i < d.length), w.cell? ⟨b, o + i, none⟩ = some (.int .u8 (d[i] : Nat))) :
    Calls Tryz.prog 198 #[.slice (some ⟨b, o, none⟩) n c, .string ⟨#[0]⟩] w fun e w' => (lz d < n → e = .returned (.slice (some ⟨b, o + lz d, none⟩) (n - lz d) (c - lz d))) ∧ (lz d = n → e = .returned (.slice none 0 0)) ∧ w' = w := by
  have h2 : ((n : Int) == 0) = false := by simp; omega
  have hcell := hide hcell
  by_cases hl : lz d < n
  · go_enter Tryz.func198, Tryz.ntmps198
    go_wp2_with (go_at_call 204; refine (trimByte_any b o n c d _ hd hn0 hn hc hc' hcell.out).mono ?_; rintro e w' ⟨h1, _, rfl⟩; obtain rfl := h1 hl)
    go_ret
    exact ⟨fun _ => rfl, fun h => by omega, rfl⟩
  · have hl' : Hid (lz d = n) := by
      have : lz d ≤ n := by
        unfold lz; rw [← hd]; exact (List.takeWhile_prefix _).length_le
      show lz d = n
      omega
    go_enter Tryz.func198, Tryz.ntmps198
    go_wp2_with (go_at_call 204; refine (trimByte_any b o n c d _ hd hn0 hn hc hc' hcell.out).mono ?_; rintro e w' ⟨_, h1, rfl⟩; obtain rfl := h1 hl'.out)
    go_ret
    exact ⟨fun h => by omega, fun _ => rfl, rfl⟩
end Go.Proofs.YtoaacfhjejmbnaaGreatDoor
