/- The reference of layer 13: quoted: walked. -/
import Derived.Test.YtjidnceccpmheaaGreatDoorZlAnQuote
namespace Go.Proofs.YtjidnceccpmheaaGreatDoor
namespace Lx
open Go.RowKit
set_option linter.unusedSimpArgs false
set_option linter.unusedVariables false
def escB (c : UInt8) : List UInt8 := if c = 34 ∨ c = 92 then [92, c] else if c.toNat < 32 then [92, 117, 48, 48, hx (c.toNat / 16), hx (c.toNat % 16)] else [c]
def escL (l : List UInt8) : List UInt8 := l.flatMap escB
def quoJ (l : List UInt8) : List UInt8 := 34 :: (escL l ++ [34])
theorem escL_snoc (l : List UInt8) (c : UInt8) : escL (l ++ [c]) = escL l ++ escB c := by simp [escL]
theorem heap_alloc_new (w : World) (o : Obj) : (w.alloc o).heap[w.heap.size]? = some o := Array.getElem?_push_size
theorem news_any (w W : World) (l : List UInt8) (T : TypeId) (hW : W.heap = (w.alloc (.cells (bcs l).toArray T)).heap) : ∀ j u, (bcs l)[j]? = some u → W.cell? ((⟨w.heap.size, 0, none⟩ : Addr).add j) = some u := by
  intro j u hj
  have q : W.heap[w.heap.size]? = some (.cells (bcs l).toArray T (0, 0)) := by rw [hW]; exact heap_alloc_new _ _
  rw [show (⟨w.heap.size, 0, none⟩ : Addr).add j = ⟨w.heap.size, j, none⟩ by unfold Addr.add; split <;> simp_all]
  unfold World.cell?
  rw [q]
  show (bcs l).toArray[j]? = some u
  rw [← hj, List.getElem?_toArray]
theorem escL_len (l : List UInt8) : (escL l).length ≤ 6 * l.length := by
  induction l with
  | nil => simp [escL]
  | cons a l ih =>
    have : (escB a).length ≤ 6 := by unfold escB; split <;> (try split) <;> simp
    simp only [escL, List.flatMap_cons, List.length_append, List.length_cons] at ih ⊢
    omega
theorem app_bs {w : World} {ops : Array Oper} {rest : List Oper} {o : Oper} {a : Act} {Q : Exit → Act → World → Prop} (hgd : o.guard = none) (s x : Operand) (ho : o.op = .call { callee := .builtin .append, args := #[s, x], argTypes := #[44, 44] })
    (B : Nat) (v : Value) (l : List UInt8) (hs : a.eval s = v) (hown : Own w B v l) (ad : Addr) (m c : Nat) (news : List UInt8) (hx : a.eval x = .slice (some ad) m c) (hm : news.length = m)
    (hnews : ∀ j u, (bcs news)[j]? = some u → w.cell? (ad.add j) = some u) (hl : l.length + m ≤ 110000000000000) (hB : B ≤ w.heap.size) (hp : 0 < l.length + m)
    (h : ∀ av c' w', Hid (Own w' B (.slice av (l.length + m) c') (l ++ news)) → Hid (Below B w w') → wpList Tryz.prog ops Q rest (a.put o.dst (.slice av (l.length + m) c')) w') : wpList Tryz.prog ops Q (o :: rest) a w := by
  obtain ⟨i0, hi, hz0, hz1, hz2⟩ := info_parts info5
  refine wpList_append_own_at w hgd s x 44 ho B 5 i0 _ 1 1 Tryz.underlying44 hi hz0 hz1 hz2 rfl (by decide) v l.length (bcs l) hs hown ad m c (bcs news) hx (by rw [bcs_length, hm]; simp) hnews ?_ (by unfold maxLen; omega) (by omega) hB ?_
  · intro u hu
    simp only [bcs, List.mem_map] at hu
    obtain ⟨c, _, rfl⟩ := hu
    rfl
  · intro v' w' h1 h2 h3 h4
    have hO : Own w' B v' (l ++ news) := by unfold Own; rw [bcs_append, List.length_append, hm]; exact h1
    rcases h1.2 with ⟨rfl, e⟩ | ⟨g', cap, cur, rfl, _⟩
    · omega
    · exact h _ _ w' hO ((Below.refl B w).grown h2 hB hown.row)
theorem u8n {c : UInt8} {v : Nat} (h : ¬ c = UInt8.ofNat v) : ((c.toNat : Int) == (v : Int)) = false := by
  have : ¬ (c.toNat : Int) = (v : Int) := fun e => h (by
    have : c.toNat = v := by omega
    rw [← this]; simp)
  simpa using this
theorem own_fresh (w : World) (c : UInt8) : Own (w.alloc (.cells #[.int .u8 c.toNat] 5)) w.heap.size (.slice (some ⟨w.heap.size, 0, none⟩) 1 1) [c] :=
  ⟨rfl, Or.inr ⟨w.heap.size, 1, #[.int .u8 c.toNat], rfl, Nat.le_refl _, heap_alloc_new _ _, Nat.le_refl _, by decide, rfl, rfl⟩⟩
set_option maxHeartbeats 2000000 in
set_option maxRecDepth 100000 in
theorem rquo_any (s : ByteArray) (w : World) (hs : s.size ≤ 100000) :
    Calls Tryz.prog 21 #[.string s] w fun e w' => e = .returned (.string (mkB (quoJ (bl s)))) ∧ Below w.heap.size w w' := by
  go_enter Tryz.func21, Tryz.ntmps21
  go_wp2
  go_loopw [3, 4] (fun b i W => ∃ (k n : Nat) (a : Option Addr) (cp : Nat) (L : List UInt8), i = .int .i64 k ∧ b = .slice a n cp ∧ k ≤ s.size ∧ Hid (L = 34 :: escL ((bl s).take k) ∧ n = L.length ∧ Own W w.heap.size (.slice a n cp) L ∧ Below w.heap.size w W)) (fun _ i _ => s.size - (intOf i).toNat)
  case atStart => exact ⟨0, 1, _, 1, [34], rfl, rfl, Nat.zero_le _, hide ⟨rfl, rfl, own_fresh w 34, below_al (Below.refl _ _)⟩⟩
  case round =>
    obtain ⟨k, n, a, cp, L, rfl, rfl, hk, HH⟩ := hrel
    obtain ⟨hL, hn, hO, hB⟩ := HH.out
    have hll : n ≤ 600001 := by
      have := escL_len ((bl s).take k)
      rw [List.length_take, bl_length] at this
      rw [hn, hL, List.length_cons]
      omega
    have OR := hide hO
    have BR := hide hB
    have hn' := hide hn
    have hL' := hide hL
    clear HH hO hB hn hL
    have hln : L.length = n := hn'.out.symm
    have hln' := hide hln
    have zr1 : w.heap.size ≤ wr.heap.size := BR.out.size
    by_cases hkl : k < s.size
    · have hki : (k : Int) < (s.size : Int) := by omega
      have hst := hide (show 34 :: escL ((bl s).take (k + 1)) = L ++ escB s[k] by
        rw [List.take_succ_eq_append_getElem (by rw [bl_length]; exact hkl), escL_snoc, bl_get s k hkl, hL'.out, List.cons_append])
      obtain ⟨c, hc⟩ : ∃ c, s[k] = c := ⟨_, rfl⟩
      rw [hc] at hst
      have hcl : c.toNat < 256 := c.toNat_lt
      by_cases h1 : c = 34 ∨ c = 92
      · have he : escB c = [92, c] := by unfold escB; rw [if_pos h1]
        rw [he] at hst
        have hq : ((c.toNat : Int) == 34) = true ∨ (((c.toNat : Int) == 34) = false ∧ ((c.toNat : Int) == 92) = true) := by
          rcases h1 with rfl | rfl
          · exact Or.inl rfl
          · exact Or.inr ⟨rfl, rfl⟩
        clear h1 he
        rcases hq with q1 | ⟨q1, q2⟩
        all_goals
          go_wp2_with (at_builtin; refine Sto.out ?_)
          refine Sto.mk ?_
          refine app_bs rfl (.tmp 27) (.tmp 29) rfl w.heap.size (.slice a n cp) L rfl (ownsRow_of OR.out fun g hg hlt => Below.heap_alloc _ _ _ hlt) ⟨wr.heap.size, 0, none⟩ 2 2 [92, c] rfl rfl (news_any wr _ [92, c] 5 rfl) (by omega) (by simp; omega) (by omega) ?_
          intro av c' w' ho hb
          rw [hln'.out] at ho ⊢
          go_wp2_with fail
          refine ⟨⟨k + 1, n + 2, av, c', L ++ [92, c], by go_num, rfl, hkl, hide ⟨hst.out.symm, by rw [List.length_append, hln'.out]; rfl, ho.out, (BR.out.trans ((below_al (Below.refl _ _)).mono zr1)).trans hb.out⟩⟩, by simp [intOf]; omega⟩
      · have q1 : ((c.toNat : Int) == 34) = false := u8n (fun e => h1 (Or.inl e))
        have q2 : ((c.toNat : Int) == 92) = false := u8n (fun e => h1 (Or.inr e))
        by_cases h2 : c.toNat < 32
        · have he : escB c = [92, 117, 48, 48, hx (c.toNat / 16), hx (c.toNat % 16)] := by unfold escB; rw [if_neg h1, if_pos h2]
          rw [he] at hst
          have q3 : decide ((c.toNat : Int) < 32) = true := by simp; omega
          have hd1 : c.toNat / 16 < 16 := by omega
          have hd2 : c.toNat % 16 < 16 := by omega
          have hds1 : c.toNat / 16 < (⟨#[48, 49, 50, 51, 52, 53, 54, 55, 56, 57, 97, 98, 99, 100, 101, 102]⟩ : ByteArray).size := hd1
          have hds2 : c.toNat % 16 < (⟨#[48, 49, 50, 51, 52, 53, 54, 55, 56, 57, 97, 98, 99, 100, 101, 102]⟩ : ByteArray).size := hd2
          have hg1 := hxd_get (c.toNat / 16) hd1 hds1
          have hg2 := hxd_get (c.toNat % 16) hd2 hds2
          have hq1 : ((c.toNat : Int) / 16).toNat = c.toNat / 16 := by omega
          have hq2 : (0 : Int) ≤ (c.toNat : Int) / 16 := by omega
          have hq3 : (c.toNat : Int) / 16 < 16 := by omega
          have hq4 : ((c.toNat : Int) % 16).toNat = c.toNat % 16 := by omega
          have hq5 : (0 : Int) ≤ (c.toNat : Int) % 16 := by omega
          have hq6 : (c.toNat : Int) % 16 < 16 := by omega
          have hwq1 : IntKind.u8.wrap ((c.toNat : Int) / 16) = (c.toNat : Int) / 16 := by rw [IntKind.wrap_u8] <;> omega
          have hwq2 : IntKind.u8.wrap ((c.toNat : Int) % 16) = (c.toNat : Int) % 16 := by rw [IntKind.wrap_u8] <;> omega
          have ht1 : Int.tdiv (c.toNat : Int) 16 = (c.toNat : Int) / 16 := by rw [Int.tdiv_eq_ediv_of_nonneg (by omega)]
          have ht2 : Int.tmod (c.toNat : Int) 16 = (c.toNat : Int) % 16 := by rw [Int.tmod_eq_emod_of_nonneg (by omega)]
          clear he h1 h2
          go_wp2_with fail
          go_region_law (refine step_bytes rfl (.tmp 34) (.tmp 41) rfl w.heap.size (.slice a n cp) L rfl (ownsRow_of OR.out fun g hg hlt => (show Below wr.heap.size wr _ by repeat (first | exact Below.refl _ _ | refine Below.drew ?_ | refine below_al ?_)).block g hlt) ⟨wr.heap.size, 0, none⟩ 6 6 [92, 117, 48, 48, hx (c.toNat / 16), hx (c.toNat % 16)] rfl rfl (news_any wr _ [92, 117, 48, 48, hx (c.toNat / 16), hx (c.toNat % 16)] 5 rfl) (by rw [hln'.out]; omega) (by simp; omega) (by omega) ?_; intro av c' w' ho hb hz; have hO' := hide ho.out; have hB' : Hid (Below w.heap.size w w') := (BR.out.trans ((show Below wr.heap.size wr _ by repeat (first | exact Below.refl _ _ | refine Below.drew ?_ | refine below_al ?_)).mono zr1)).trans hb.out; clear ho hb)
          all_goals
            rw [hln'.out] at hO'
            go_wp2_with fail
            refine ⟨⟨k + 1, n + 6, av, c', L ++ [92, 117, 48, 48, hx (c.toNat / 16), hx (c.toNat % 16)], by go_num, rfl, hkl, hide ⟨hst.out.symm, by rw [List.length_append, hln'.out]; rfl, hO'.out, hB'.out⟩⟩, by simp [intOf]; omega⟩
        · have he : escB c = [c] := by unfold escB; rw [if_neg h1, if_neg h2]
          rw [he] at hst
          have q3 : decide ((c.toNat : Int) < 32) = false := by simp; omega
          clear he h1 h2
          go_wp2_with (at_builtin; refine Sto.out ?_)
          refine Sto.mk ?_
          refine app_bs rfl (.tmp 16) (.tmp 18) rfl w.heap.size (.slice a n cp) L rfl (ownsRow_of OR.out fun g hg hlt => Below.heap_alloc _ _ _ hlt) ⟨wr.heap.size, 0, none⟩ 1 1 [c] rfl rfl (news_any wr _ [c] 5 rfl) (by omega) (by simp; omega) (by omega) ?_
          intro av c' w' ho hb
          rw [hln'.out] at ho ⊢
          go_wp2_with fail
          refine ⟨⟨k + 1, n + 1, av, c', L ++ [c], by go_num, rfl, hkl, hide ⟨hst.out.symm, by rw [List.length_append, hln'.out]; rfl, ho.out, (BR.out.trans ((below_al (Below.refl _ _)).mono zr1)).trans hb.out⟩⟩, by simp [intOf]; omega⟩
    · have hki : ¬ ((k : Int) < (s.size : Int)) := by omega
      have hfull : Hid (L ++ [34] = quoJ (bl s)) := by
        show _ = _
        rw [hL'.out, List.take_of_length_le (by rw [bl_length]; omega)]
        rfl
      clear hkl
      go_wp2_with (at_builtin; refine Sto.out ?_)
      refine Sto.mk ?_
      refine app_bs rfl (.tmp 43) (.tmp 44) rfl w.heap.size (.slice a n cp) L rfl (ownsRow_of OR.out fun g hg hlt => Below.heap_alloc _ _ _ hlt) ⟨wr.heap.size, 0, none⟩ 1 1 [34] rfl rfl (news_any wr _ [34] 5 rfl) (by omega) (by simp; omega) (by omega) ?_
      intro av c' w' ho hb
      have hcv := own_conv ho.out
      rw [hln'.out] at hcv ⊢
      go_wp2_with fail
      go_ret
      exact ⟨by rw [← hfull.out]; rfl, (BR.out.trans ((below_al (Below.refl _ _)).mono zr1)).trans hb.out⟩
theorem escB_eq (c : UInt8) : escB c = esB c := by
  have h1 : c = 34 ↔ c.toNat = 34 := ⟨fun h => by rw [h]; rfl, fun h => UInt8.toNat_inj.1 h⟩
  have h2 : c = 92 ↔ c.toNat = 92 := ⟨fun h => by rw [h]; rfl, fun h => UInt8.toNat_inj.1 h⟩
  unfold escB esB
  simp only [h1, h2]
  rfl
theorem quoJ_eq (l : List UInt8) : quoJ l = quo l := by
  unfold quoJ quo escL esc
  have : escB = esB := funext escB_eq
  rw [this]
theorem rquoted_any (s : ByteArray) (w : World) (hs : s.size ≤ 100000) : Calls Tryz.prog 21 #[.string s] w fun e w' => e = .returned (.string (mkB (quo (bl s)))) ∧ Below w.heap.size w w' := by
  have := rquo_any s w hs
  rw [quoJ_eq] at this
  exact this
end Lx
end Go.Proofs.YtjidnceccpmheaaGreatDoor
