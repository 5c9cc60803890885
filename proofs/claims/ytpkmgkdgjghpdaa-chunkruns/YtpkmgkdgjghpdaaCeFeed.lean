/- chunk's Feed: walked. -/
import Derived.Test.YtpkmgkdgjghpdaaCdFeed
import Derived.Deep.AppendLies
namespace Go.Proofs.Ytpkmgkdgjghpdaa
open Go.RowKit
set_option linter.unusedSimpArgs false
set_option linter.unusedVariables false
section
variable {w : World} {ops : Array Oper} {rest : List Oper} {o : Oper} {a : Act} {Q : Exit → Act → World → Prop}
theorem app_at (hgd : o.guard = none) (s x : Operand) (ho : o.op = .call { callee := .builtin .append, args := #[s, x], argTypes := #[33, 33] })
    (B : Nat) (v : Value) (l : List UInt8) (hs : a.eval s = v) (hown : Own w B v l) (ad : Addr) (m c : Nat) (news : List UInt8) (hx : a.eval x = .slice (some ad) m c) (hm : news.length = m)
    (hnews : ∀ j u, (bcs news)[j]? = some u → w.cell? (ad.add j) = some u) (hl : l.length + m ≤ 200000) (hB : B ≤ w.heap.size)
    (h : ∀ v' w', Hid (Own w' B v' (l ++ news)) → Hid (w.grownBy w' v.ownBlock) → Hid (v'.ownBlock = v.ownBlock ∨ v'.ownBlock = some w.heap.size) → wpList Try.prog ops Q rest (a.put o.dst v') w') : wpList Try.prog ops Q (o :: rest) a w := by
  obtain ⟨i0, hi, hz0, hz1, hz2⟩ := info_parts info5
  refine wpList_append_own_at w hgd s x 33 ho B 5 i0 (.int .u8 0) 1 1 Try.underlying33 hi hz0 hz1 hz2 rfl (by decide) v l.length (bcs l) hs hown ad m c (bcs news) hx (by rw [bcs_length, hm]; simp) hnews (bcs_one _) ?_ ?_ hB ?_
  · unfold maxLen; omega
  · omega
  · intro v' w' h1 h2 _ h3
    refine h v' w' ?_ h2 h3
    show Own _ _ _ _
    unfold Own
    rw [bcs_append, List.length_append, hm]; exact h1
theorem app_nil (hgd : o.guard = none) (s x : Operand) (ho : o.op = .call { callee := .builtin .append, args := #[s, x], argTypes := #[33, 33] })
    (B : Nat) (v : Value) (l : List UInt8) (hs : a.eval s = v) (hown : Own w B v l) (hx : a.eval x = .slice none 0 0)
    (h : wpList Try.prog ops Q rest (a.put o.dst v) w) : wpList Try.prog ops Q (o :: rest) a w := by
  obtain ⟨i0, hi, hz0, hz1, hz2⟩ := info_parts info5
  refine wpList_plain hgd fun K hK => ?_
  have hr := run_append_owned_none (P := Try.prog) w B 33 o.type 5 i0 1 Try.underlying33 hi v l.length (bcs l) hown
  unfold Oper.wp execOp
  simp only [ho, resolve, invoke, builtin, Sem.run_bind, Sem.run_pure, Result.andThen_ok, List.map_toArray, List.map_cons, List.map_nil, hs, hx, hr]
  exact hK _ _ h
end
section
variable {W : World} {i B gone lim taken once : Nat} {v : Value} {all : List UInt8}
theorem feed_no (a : Option Addr) (n cp : Nat) (c : Ch W i B v gone lim all taken once) (h : lim - all.length < n) (hn : n ≤ maxLen) : Calls Try.prog 12 #[.pointer (some ⟨i, 0, none⟩), .slice a n cp] W fun r w' => r = .returned (.int .i64 2) ∧ ∃ m, w' = W.drewN m := by
  obtain ⟨c0, c1, c2, c3, c4, f0, f1, f2, f3, f4⟩ := c.cb.cells
  have hl := c.l1
  have hl2 := c.l2
  have tot := hide (fun n => total_any (c.dn n))
  clear c
  have h' : (lim : Int) - (all.length : Int) < (n : Int) := by omega
  go_enter Try.func12, Try.ntmps12
  go_wp2
  go_quiet (first | (go_at_call 16; exact Calls.quiet_of (tot.out _)))
  go_wp2
  go_ret
  exact ⟨rfl, _, rfl⟩
theorem Fr.fr0 {d : Nat} {w1 : World} (h : Fr i v (W.drewN d) w1) : Fr i v W w1 := ⟨h.os, h.tape, h.output, h.size, h.block⟩
theorem Fr.grown {w1 w2 : World} {v1 : Value} (h : Fr i v W w1) (e : v1.ownBlock = v.ownBlock) (g : w1.grownBy w2 v1.ownBlock) : Fr i v W w2 :=
  ⟨g.os.trans h.os, g.tape.trans h.tape, g.output.trans h.output, Nat.le_trans h.size g.size, fun k hk hi hv => (g.block k (Nat.lt_of_lt_of_le hk h.size) (fun e1 => hv (by rw [← e]; exact e1.symm))).trans (h.block k hk hi hv)⟩
theorem fedCh {w1 w2 : World} {v1 v2 : Value} {l : List UInt8} (c : Ch w1 i B v1 gone lim all taken once) (ho : Own w2 B v2 (all.drop gone ++ l)) (hg : w1.grownBy w2 v1.ownBlock) (hcb : CB w2 i lim v1 gone taken once) (hl : l.length ≤ lim - all.length) :
    Ch (w2.setCell ⟨i, 1, none⟩ v2) i B v2 gone lim (all ++ l) taken once := by
  have hg1 := c.g1
  have ht := c.t3
  have hl1 := c.l1
  refine { c with cb := hcb.set1 _, own := ?_, hB := by simpa using Nat.le_trans c.hB hg.size, g1 := by rw [List.length_append]; omega, t3 := by rw [List.length_append]; omega, l1 := by rw [List.length_append]; omega }
  rw [List.drop_append_of_le_length hg1]
  exact ho.of fun k hk _ => Below.heap_setCell _ _ _ _ (by have := (ho.row k hk).1; have := c.iB; show k ≠ i; omega)
theorem feed_some (ad : Addr) (n cp : Nat) (l : List UInt8) (c : Ch W i B v gone lim all taken once) (sl : SL W (.slice (some ad) n cp) l) (h1 : l.length = n) (h : n ≤ lim - all.length) (hsep : l ≠ [] → ad.block ≠ i ∧ v.ownBlock ≠ some ad.block) :
    Calls Try.prog 12 #[.pointer (some ⟨i, 0, none⟩), .slice (some ad) n cp] W fun r w' => r = .returned (.int .i64 0) ∧ ∃ v' gone', Ch w' i B v' gone' lim (all ++ l) taken once ∧ Fr i v W w' ∧ (v'.ownBlock = v.ownBlock ∨ ∀ k, v'.ownBlock = some k → W.heap.size ≤ k) := by
  obtain ⟨c0, c1, c2, c3, c4, f0, f1, f2, f3, f4⟩ := c.cb.cells
  have hl := c.l1
  have hl2 := c.l2
  have tot := hide (fun n => total_any (c.dn n))
  have clr := hide (fun n => clear_any (c.dn n))
  have C := hide c
  have hsl : Hid (∀ d w1, Fr i v (W.drewN d) w1 → ∀ j u, (bcs l)[j]? = some u → w1.cell? (ad.add j) = some u) := by
    intro d w1 hf j u hj
    have hne : l ≠ [] := by rintro rfl; simp [bcs] at hj
    exact (sl.of (W := w1) hf.size fun k hk hlt => by cases hk; exact hf.block ad.block hlt (hsep hne).1 (hsep hne).2).news j u hj
  clear hsep
  clear c
  have h' : ¬ ((lim : Int) - (all.length : Int) < (n : Int)) := by omega
  go_enter Try.func12, Try.ntmps12
  go_wp2
  go_quiet (first | (go_at_call 16; exact Calls.quiet_of (tot.out _)))
  go_wp2_with (first | (go_at_call 25; refine (clr.out _).mono ?_; rintro e w1 ⟨rfl, v1, gone1, hc1, hf1, ho1⟩; have C1 := hide hc1; have F1 := hide hf1; have O1 := hide ho1; clear hc1 hf1 ho1; obtain ⟨d0, d1, d2, d3, d4, e0, e1, e2, e3, e4⟩ := C1.out.cb.cells; have N1 := hide (hsl.out _ _ F1.out)) | (at_builtin; refine app_at rfl (.tmp 23) (.tmp 24) rfl B _ _ rfl C1.out.own ad n cp l rfl h1 N1.out (by rw [List.length_drop]; omega) C1.out.hB ?_; intro v2 w2 hown2 hgr2 hat2; obtain ⟨a2, c2, hv2, _, _⟩ := hown2.out.sl.len; obtain ⟨n2, hn2⟩ : ∃ n2, (List.drop gone1 all ++ l).length = n2 := ⟨_, rfl⟩; rw [hn2] at hv2; subst hv2; have hn2' := hide hn2; clear hn2; have hcb2 := hide (C1.out.cb.same (W1 := w2) (hgr2.out.block i C1.out.cb.lt (fun e => by have := (C1.out.own.row i e.symm).1; have := C1.out.iB; omega))); obtain ⟨k0, k1, k2, k3, k4, l0, l1, l2, l3, l4⟩ := hcb2.out.cells))
  go_ret
  refine ⟨rfl, _, gone1, fedCh C1.out hown2.out hgr2.out hcb2.out (by omega), ?_, ?_⟩
  · exact ((F1.out.fr0).grown O1.out hgr2.out).set
  · rcases hat2.out with h | h
    · exact Or.inl (h.trans O1.out)
    · right
      intro k hk
      rw [h] at hk
      cases hk
      exact F1.out.size
theorem feed_none (c : Ch W i B v gone lim all taken once) :
    Calls Try.prog 12 #[.pointer (some ⟨i, 0, none⟩), .slice none 0 0] W fun r w' => r = .returned (.int .i64 0) ∧ ∃ v' gone', Ch w' i B v' gone' lim all taken once ∧ Fr i v W w' ∧ (v'.ownBlock = v.ownBlock ∨ ∀ k, v'.ownBlock = some k → W.heap.size ≤ k) := by
  obtain ⟨c0, c1, c2, c3, c4, f0, f1, f2, f3, f4⟩ := c.cb.cells
  have hl := c.l1
  have hl2 := c.l2
  have tot := hide (fun n => total_any (c.dn n))
  have clr := hide (fun n => clear_any (c.dn n))
  have C := hide c
  clear c
  have h' : ¬ ((lim : Int) - (all.length : Int) < 0) := by omega
  have h'' : ¬ (lim : Int) < (all.length : Int) := by omega
  have h3 : ¬ lim < all.length := by omega
  go_enter Try.func12, Try.ntmps12
  go_wp2
  go_quiet (first | (go_at_call 16; exact Calls.quiet_of (tot.out _)))
  go_wp2_with (first | (go_at_call 25; refine (clr.out _).mono ?_; rintro e w1 ⟨rfl, v1, gone1, hc1, hf1, ho1⟩; obtain ⟨a1, cp1, rfl, _, _⟩ := hc1.len; have C1 := hide hc1; have F1 := hide hf1; have O1 := hide ho1; clear hc1 hf1 ho1; obtain ⟨d0, d1, d2, d3, d4, e0, e1, e2, e3, e4⟩ := C1.out.cb.cells) | (at_builtin; refine app_nil rfl (.tmp 23) (.tmp 24) rfl B _ _ rfl C1.out.own rfl ?_))
  go_ret
  refine ⟨rfl, _, gone1, { C1.out with cb := C1.out.cb.set1 _, own := C1.out.own.of fun k hk _ => Below.heap_setCell _ _ _ _ (by have := (C1.out.own.row k hk).1; have := C1.out.iB; show k ≠ i; omega), hB := by simpa using C1.out.hB }, (F1.out.fr0).set, Or.inl O1.out⟩
theorem SL.lt {w : World} {vb : Value} {l : List UInt8} (h : SL w vb l) (hne : l ≠ []) (k : Nat) (hk : vb.ownBlock = some k) : k < w.heap.size := by
  rcases h with ⟨rfl, rfl⟩ | ⟨a, c, rfl, h1, h2, hc⟩
  · exact absurd rfl hne
  · cases hk
    exact (hc 0 (List.length_pos_iff.2 hne)).1
/-- Feed of what there is room for. -/
theorem feed_any (vb : Value) (l : List UInt8) (c : Ch W i B v gone lim all taken once) (sl : SL W vb l) (h : l.length ≤ lim - all.length) (hsep : l ≠ [] → ∀ k, vb.ownBlock = some k → k ≠ i ∧ v.ownBlock ≠ some k) :
    Calls Try.prog 12 #[.pointer (some ⟨i, 0, none⟩), vb] W fun r w' => r = .returned (.int .i64 0) ∧ ∃ v' gone', Ch w' i B v' gone' lim (all ++ l) taken once ∧ Fr i v W w' ∧ (v'.ownBlock = v.ownBlock ∨ ∀ k, v'.ownBlock = some k → W.heap.size ≤ k) := by
  have sl' := sl
  rcases sl with ⟨rfl, rfl⟩ | ⟨a, cp, rfl, h1, h2, hc⟩
  · rw [List.append_nil]; exact feed_none c
  · exact feed_some a l.length cp l c sl' rfl h (fun hne => hsep hne a.block rfl)
end
end Go.Proofs.Ytpkmgkdgjghpdaa
