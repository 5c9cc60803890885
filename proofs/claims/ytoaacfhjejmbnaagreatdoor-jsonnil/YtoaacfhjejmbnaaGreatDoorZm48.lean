/- Merged by program: FlPure, LiEx, LiAwake, LjNil. -/
import Derived.Test.YtoaacfhjejmbnaaGreatDoorZm43
import Derived.Test.YtoaacfhjejmbnaaGreatDoorZm45
import Derived.Test.YtoaacfhjejmbnaaGreatDoorZm47
import Derived.Lib.SlBytesConst
/- What the reference's one reads: its states and its tree (no program in sight). -/
namespace Go.Proofs.YtoaacfhjejmbnaaGreatDoor
open Go.RowKit
set_option linter.unusedSimpArgs false
set_option linter.unusedVariables false
section
variable {es : List Hd}
theorem run_next {k : Nat} {st : List Pa} {bg : Bool} (h : runE (es.take k) = some (st, bg)) (hk : k < es.length) (hm : mayB es[k] = true) : runE (es.take (k + 1)) = stepE st bg es[k] := by
  rw [runE_take es k hk, h, hm]; rfl
/-- Where one stands: it began with the event e at k0; l are the children that it has, nms their names. -/
structure Lp (es : List Hd) (n k0 : Nat) (e : Hd) (s1 : List Pa) (k : Nat) (l : List (VT n)) (nms : List ByteArray) : Prop where
  may : mayB e = true
  lo : 7 ≤ e.kind
  hi : e.kind ≤ 9
  run : runE (es.take k) = some ((e.kind, decide (e.kind = 9) && l.isEmpty, nms) :: s1, true)
  vs : ∀ y ∈ l, IsV n y
  nm8 : e.kind = 8 → nms.length = l.length ∧ Nms nms
  nm0 : e.kind ≠ 8 → nms = []
  tag : e.kind = 9 → l.length ≤ 1
  ev : es.take k = es.take k0 ++ (e :: kids n { e with names := nms } l l.length)
  k0k : k0 < k
  kle : k ≤ es.length
theorem Lp.start {n k0 : Nat} {e : Hd} {s1 : List Pa} (hk : k0 < es.length) (he : es[k0] = e) (hm : mayB e = true) (lo : 7 ≤ e.kind) (hi : e.kind ≤ 9) (hr : runE (es.take (k0 + 1)) = some (newE e.kind ++ s1, true)) : Lp es n k0 e s1 (k0 + 1) [] [] := by
  refine ⟨hm, lo, hi, ?_, fun y hy => (by cases hy), fun _ => ⟨rfl, fun s hs => (by cases hs), List.nodup_nil⟩, fun _ => rfl, fun _ => by simp, ?_, by omega, hk⟩
  · rw [hr]
    have hk : e.kind = 7 ∨ e.kind = 8 ∨ e.kind = 9 := by omega
    rcases hk with q | q | q <;> rw [q] <;> rfl
  · rw [List.take_succ_eq_append_getElem hk, he]; rfl
variable {n k0 k : Nat} {e : Hd} {s1 : List Pa} {l : List (VT n)} {nms : List ByteArray}
/-- A record has taken a name. -/
theorem Lp.name (H : Lp es n k0 e s1 k l nms) (hk : k < es.length) (hm : mayB es[k] = true) (h8 : e.kind = 8) (h10 : es[k].kind = 10) (hin : inN nms es[k].text = false) : runE (es.take (k + 1)) = some ((8, true, nms ++ [es[k].text]) :: s1, true) := by
  rw [run_next H.run hk hm]
  have h9 : decide (e.kind = 9) = false := decide_eq_false (by omega)
  unfold stepE
  rw [if_pos h10, h9]
  simp [h8, hin]
theorem Lp.val (H : Lp es n k0 e s1 k l nms) (hk : k < es.length) (hm : mayB es[k] = true) (h8 : e.kind ≠ 8) (h9 : e.kind = 9 → l = []) (h10 : es[k].kind ≠ 10) (h11 : es[k].kind ≠ 11) : runE (es.take (k + 1)) = some (newE es[k].kind ++ ((e.kind, false, nms) :: s1), true) := by
  rw [run_next H.run hk hm]
  refine step_val h10 h11 ?_
  have lo := H.lo
  have hi := H.hi
  have hk : e.kind = 7 ∨ e.kind = 9 := by omega
  rcases hk with q | q
  · simp [valE, q]
  · simp [valE, q, h9 q]
/-- A child has been read. -/
theorem Lp.child {nms' : List ByteArray} {k1 k' : Nat} {c : VT n} (H : Lp es n k0 e s1 k l nms) (h8 : e.kind = 8 → ∃ t, nms' = nms ++ [t] ∧ okT t = true ∧ inN nms t = false) (h7 : e.kind ≠ 8 → nms' = nms) (h9 : e.kind = 9 → l = [])
    (hp : es.take k1 = es.take k ++ preN { e with names := nms' } l.length) (hc : IsV n c) (hev : es.take k' = es.take k1 ++ fl n c) (hr : runE (es.take k') = some ((e.kind, false, nms') :: s1, true)) (hkk : k < k') (hk' : k' ≤ es.length) : Lp es n k0 e s1 k' (l ++ [c]) nms' := by
  refine ⟨H.may, H.lo, H.hi, ?_, ?_, ?_, ?_, ?_, ?_, by have := H.k0k; omega, hk'⟩
  · rw [hr]; simp
  · intro y hy
    rcases List.mem_append.1 hy with q | q
    · exact H.vs y q
    · rw [List.mem_singleton.1 q]; exact hc
  · intro q
    obtain ⟨t, rfl, ht, hin⟩ := h8 q
    obtain ⟨a, b1, b2⟩ := H.nm8 q
    refine ⟨by simp [a], ?_, ?_⟩
    · intro s hs
      rcases List.mem_append.1 hs with r | r
      · exact b1 s r
      · rw [List.mem_singleton.1 r]; exact ht
    · rw [List.nodup_append]
      refine ⟨b2, by simp, fun x hx y hy => ?_⟩
      rw [List.mem_singleton.1 hy]
      rintro rfl
      rw [(inN_iff nms x).2 hx] at hin
      cases hin
  · intro q; rw [h7 q]; exact H.nm0 q
  · intro q; rw [h9 q]; simp
  · rw [hev, hp, H.ev]
    have hlen : (l ++ [c]).length = l.length + 1 := by simp
    rw [hlen, kids_succ n _ (l ++ [c]) l.length (by simp)]
    have e1 : kids n { e with names := nms' } (l ++ [c]) l.length = kids n { e with names := nms } l l.length := by
      refine kids_same n _ _ _ _ _ rfl (fun i hi => ?_) (fun i hi => by rw [List.getElem?_append_left hi])
      show nms'[i]? = nms[i]?
      by_cases q : e.kind = 8
      · obtain ⟨t, rfl, _, _⟩ := h8 q
        rw [List.getElem?_append_left (by have := (H.nm8 q).1; omega)]
      · rw [h7 q]
    rw [e1]
    simp
theorem Lp.pre8 (H : Lp es n k0 e s1 k l nms) (hk : k < es.length) (hm : mayB es[k] = true) (h8 : e.kind = 8) (h10 : es[k].kind = 10) : es.take (k + 1) = es.take k ++ preN { e with names := nms ++ [es[k].text] } l.length ∧ okT es[k].text = true := by
  obtain ⟨he, ht⟩ := may_10 ((mayB_iff _).1 hm) h10
  refine ⟨?_, ht⟩
  rw [List.take_succ_eq_append_getElem hk]
  unfold preN
  rw [if_pos h8]
  show _ = _ ++ [evN (((nms ++ [es[k].text])[l.length]?).getD ByteArray.empty)]
  rw [← (H.nm8 h8).1]
  simp [← he]
end
/-- A value's events tell it. -/
theorem hd0_eq {h h' : Hd} (q : hd0 h = hd0 h') : h' = { h with names := h'.names } := by
  obtain ⟨a1, a2, a3, a4, a5, a6, a7, a8⟩ := h
  obtain ⟨b1, b2, b3, b4, b5, b6, b7, b8⟩ := h'
  simp only [hd0, Hd.mk.injEq] at q ⊢
  obtain ⟨q1, q2, q3, q4, q5, q6, q7, _⟩ := q
  exact ⟨q1.symm, q2.symm, q3.symm, q4.symm, q5.symm, q6.symm, q7.symm, trivial⟩
theorem fl_first : ∀ (n : Nat) (x : VT n), IsV n x → ∃ t r, fl n x = t :: r ∧ 1 ≤ t.kind ∧ t.kind ≤ 9
  | 0, x, _ => Empty.elim x
  | n + 1, (h, l), hv => ⟨_, _, fl_succ n h l, hv.1.1, hv.1.2.1⟩
theorem fl_inj : ∀ (n : Nat) (x y : VT n), IsV n x → IsV n y → ∀ r r', fl n x ++ r = fl n y ++ r' → x = y ∧ r = r'
  | 0, x, _, _, _, _, _, _ => Empty.elim x
  | n + 1, (h, l), (h', l'), hv, hv', r, r', heq => by
    have ih := fl_inj n
    have e0 : hd0 h = hd0 h' := by
      rw [fl_succ, fl_succ] at heq
      exact (List.cons.inj heq).1
    have hk : h.kind = h'.kind := by
      have q := congrArg Hd.kind e0
      exact q
    have hh := hd0_eq e0
    by_cases h7 : h.kind < 7
    · rw [post_leaf n h l r h7, post_leaf n h' l' r' (by omega)] at heq
      have e1 := (List.cons.inj heq).2
      have l1 : l = [] := by rcases hv.1.2.2.2 with q | q; (have : 7 ≤ h.kind := q; omega); exact q
      have l2 : l' = [] := by rcases hv'.1.2.2.2 with q | q; (have : 7 ≤ h'.kind := q; omega); exact q
      have n1 := strip_names h hv.1.2.2.1 (by omega)
      have n2 := strip_names h' hv'.1.2.2.1 (by omega)
      subst l1 l2
      refine ⟨?_, e1⟩
      rw [n2] at hh
      rw [hh, ← n1]
    · rw [post_zero n h l r h7, post_zero n h' l' r' (by omega)] at heq
      have e1 := (List.cons.inj heq).2
      have key : ∀ (d k : Nat), d = l.length - k → k ≤ l.length → k ≤ l'.length → l.take k = l'.take k → (h.kind = 8 → h.names.take k = h'.names.take k) → post n h l r k = post n h' l' r' k → l = l' ∧ (h.kind = 8 → h.names = h'.names) ∧ r = r' := by
        intro d
        induction d with
        | zero =>
          intro k hd k1 k2 t1 t2 hp
          have hkl : k = l.length := by omega
          by_cases q : k < l'.length
          · rw [hkl, post_end, ← hkl, post_succ n h' l' r' k q] at hp
            have hy := hv'.2.2 _ (List.getElem_mem q)
            obtain ⟨t, rr, ht, ha, hb⟩ := fl_first n _ hy
            rw [ht] at hp
            by_cases h8 : h'.kind = 8
            · unfold preN at hp
              rw [if_pos h8] at hp
              have := congrArg Hd.kind (List.cons.inj hp).1
              simp [evE, evN, zr] at this
            · unfold preN at hp
              rw [if_neg h8] at hp
              have := congrArg Hd.kind (List.cons.inj hp).1
              simp [evE, zr] at this
              omega
          · have hk2 : k = l'.length := by omega
            rw [hkl, post_end, ← hkl, hk2, post_end] at hp
            rw [hkl, List.take_length, ← hkl, hk2, List.take_length] at t1
            refine ⟨t1, fun h8 => ?_, (List.cons.inj hp).2⟩
            have f1 : h.names.length = l.length := (hv.2.1.2.2.1 h8).1
            have f2 : h'.names.length = l'.length := (hv'.2.1.2.2.1 (hk.symm.trans h8)).1
            have := t2 h8
            rw [List.take_of_length_le (by omega), List.take_of_length_le (by omega)] at this
            exact this
        | succ d ihd =>
          intro k hd k1 k2 t1 t2 hp
          have q1 : k < l.length := by omega
          rw [post_succ n h l r k q1] at hp
          by_cases q2 : k < l'.length
          · rw [post_succ n h' l' r' k q2] at hp
            have hp2 : preN h k = preN h' k ∧ fl n l[k] ++ post n h l r (k + 1) = fl n l'[k] ++ post n h' l' r' (k + 1) := by
              unfold preN at hp ⊢
              by_cases h8 : h.kind = 8
              · rw [if_pos h8, if_pos (hk.symm.trans h8)] at hp ⊢
                have := List.cons.inj hp
                exact ⟨by rw [this.1], this.2⟩
              · rw [if_neg h8, if_neg (fun e => h8 (hk.trans e))] at hp ⊢
                exact ⟨rfl, hp⟩
            obtain ⟨p1, p2⟩ := hp2
            obtain ⟨c1, c2⟩ := ih _ _ (hv.2.2 _ (List.getElem_mem q1)) (hv'.2.2 _ (List.getElem_mem q2)) _ _ p2
            refine ihd (k + 1) (by omega) q1 q2 ?_ (fun h8 => ?_) c2
            · rw [List.take_succ_eq_append_getElem q1, List.take_succ_eq_append_getElem q2, t1, c1]
            · have f1 : h.names.length = l.length := (hv.2.1.2.2.1 h8).1
              have f2 : h'.names.length = l'.length := (hv'.2.1.2.2.1 (hk.symm.trans h8)).1
              unfold preN at p1
              rw [if_pos h8, if_pos (hk.symm.trans h8)] at p1
              have p1' := congrArg Hd.text (List.cons.inj p1).1
              simp only [evN, zr] at p1'
              rw [List.getElem?_eq_getElem (by omega), List.getElem?_eq_getElem (by omega)] at p1'
              have p3 : h.names[k]'(by omega) = h'.names[k]'(by omega) := p1'
              rw [List.take_succ_eq_append_getElem (by omega), List.take_succ_eq_append_getElem (by omega), t2 h8, p3]
          · have hk2 : k = l'.length := by omega
            have hpe := post_end n h' l' r'
            rw [← hk2] at hpe
            rw [hpe] at hp
            have hy := hv.2.2 _ (List.getElem_mem q1)
            obtain ⟨t, rr, ht, ha, hb⟩ := fl_first n _ hy
            rw [ht] at hp
            by_cases h8 : h.kind = 8
            · unfold preN at hp
              rw [if_pos h8] at hp
              have := congrArg Hd.kind (List.cons.inj hp).1
              simp [evE, evN, zr] at this
            · unfold preN at hp
              rw [if_neg h8] at hp
              have := congrArg Hd.kind (List.cons.inj hp).1
              simp [evE, zr] at this
              omega
      obtain ⟨a1, a2, a3⟩ := key l.length 0 (by simp) (Nat.zero_le _) (Nat.zero_le _) rfl (fun _ => rfl) e1
      refine ⟨?_, a3⟩
      subst a1
      have nn : h.names = h'.names := by
        by_cases h8 : h.kind = 8
        · exact a2 h8
        · rw [strip_names h hv.1.2.2.1 h8, strip_names h' hv'.1.2.2.1 (fun e => h8 (hk.trans e))]
      rw [hh, ← nn]
end Go.Proofs.YtoaacfhjejmbnaaGreatDoor
/- awake's examples: what they are. -/
namespace Go.Proofs.YtoaacfhjejmbnaaGreatDoor
open Go.RowKit
set_option linter.unusedSimpArgs false
set_option linter.unusedVariables false
def jrT : VT 2 := ({ zr 8 with names := [⟨#[36, 120]⟩] }, [null1])
def jbT : VT 1 := ({ zr 6 with text := ⟨#[0, 255]⟩ }, [])
def jv1 : VT 4 := ({ zr 3 with dig := ⟨#[49]⟩ }, [])
def jv2 : VT 4 := ({ zr 3 with dig := ⟨#[50]⟩, exp := 1 }, [])
def jv3 : VT 4 := ({ zr 5 with text := ⟨#[195, 169, 240, 159, 152, 128]⟩ }, [])
def jvT : VT 5 := (zr 7, [jv1, jv2, jv3])
theorem ex_three {α : Type} {a b c : α} {p : α → Prop} (h1 : p a) (h2 : p b) (h3 : p c) : ∀ y ∈ [a, b, c], p y := by
  intro y hy
  simp only [List.mem_cons, List.not_mem_nil, or_false] at hy
  rcases hy with rfl | rfl | rfl
  · exact h1
  · exact h2
  · exact h3
theorem jr_isv : IsV 2 jrT := ⟨⟨(show (1 : Int) ≤ 8 by decide), (show (8 : Int) ≤ 9 by decide), rfl, Or.inl (show (7 : Int) ≤ 8 by decide)⟩, ⟨fun h => (by cases h), fun h => (by cases h), fun _ => ⟨rfl, ex_one (by decide), by decide⟩, fun h => (by cases h)⟩, ex_one isv_null1⟩
theorem jr_sht : Sht 2 jrT := ⟨(show (0 : Int) ≤ 4096 by decide), (show 1 ≤ 256 by decide), ex_one (show 2 ≤ 64 by decide), ex_one ex_sht1⟩
theorem jr_chk : Chk 2 jrT 0 := Or.inr (Or.inr ⟨rfl, jr_isv, jr_sht, (show 2 ≤ 16 by decide), (show 2 ≤ 4096 by decide)⟩)
theorem jr_sz : Sz 2 jrT := ⟨by decide, by decide, by decide, ex_one (by decide), ex_one ex_sz1⟩
theorem null_rg : Rg 1 null1 := ⟨by decide, by decide, fun y hy => (by cases hy)⟩
theorem jr_rg : Rg 2 jrT := ⟨by decide, by decide, ex_one null_rg⟩
theorem jb_isv : IsV 1 jbT := ⟨⟨(show (1 : Int) ≤ 6 by decide), (show (6 : Int) ≤ 9 by decide), rfl, Or.inr rfl⟩, ⟨fun h => (by cases h), fun h => (by cases h), fun h => (by cases h), fun h => (by cases h)⟩, fun y hy => (by cases hy)⟩
theorem jb_sht : Sht 1 jbT := ⟨(show (2 : Int) ≤ 4096 by decide), (show 0 ≤ 256 by decide), fun s hs => (by cases hs), fun y hy => (by cases hy)⟩
theorem jb_chk : Chk 1 jbT 0 := Or.inr (Or.inr ⟨rfl, jb_isv, jb_sht, (show 1 ≤ 16 by decide), (show 1 ≤ 4096 by decide)⟩)
theorem jb_sz : Sz 1 jbT := ⟨by decide, by decide, by decide, fun s hs => (by cases hs), fun y hy => (by cases hy)⟩
theorem jb_rg : Rg 1 jbT := ⟨by decide, by decide, fun y hy => (by cases hy)⟩
theorem jv1_isv : IsV 4 jv1 := ⟨⟨(show (1 : Int) ≤ 3 by decide), (show (3 : Int) ≤ 9 by decide), rfl, Or.inr rfl⟩, ⟨fun _ => by decide, fun h => (by cases h), fun h => (by cases h), fun h => (by cases h)⟩, fun y hy => (by cases hy)⟩
theorem jv2_isv : IsV 4 jv2 := ⟨⟨(show (1 : Int) ≤ 3 by decide), (show (3 : Int) ≤ 9 by decide), rfl, Or.inr rfl⟩, ⟨fun _ => by decide, fun h => (by cases h), fun h => (by cases h), fun h => (by cases h)⟩, fun y hy => (by cases hy)⟩
theorem jv3_isv : IsV 4 jv3 := ⟨⟨(show (1 : Int) ≤ 5 by decide), (show (5 : Int) ≤ 9 by decide), rfl, Or.inr rfl⟩, ⟨fun h => (by cases h), fun _ => by decide, fun h => (by cases h), fun h => (by cases h)⟩, fun y hy => (by cases hy)⟩
theorem jv_isv : IsV 5 jvT := ⟨⟨(show (1 : Int) ≤ 7 by decide), (show (7 : Int) ≤ 9 by decide), rfl, Or.inl (show (7 : Int) ≤ 7 by decide)⟩, ⟨fun h => (by cases h), fun h => (by cases h), fun h => (by cases h), fun h => (by cases h)⟩, ex_three jv1_isv jv2_isv jv3_isv⟩
theorem jv_sht1 : Sht 4 jv1 := ⟨(show (0 : Int) ≤ 4096 by decide), (show 0 ≤ 256 by decide), fun s hs => (by cases hs), fun y hy => (by cases hy)⟩
theorem jv_sht2 : Sht 4 jv2 := ⟨(show (0 : Int) ≤ 4096 by decide), (show 0 ≤ 256 by decide), fun s hs => (by cases hs), fun y hy => (by cases hy)⟩
theorem jv_sht3 : Sht 4 jv3 := ⟨(show (6 : Int) ≤ 4096 by decide), (show 0 ≤ 256 by decide), fun s hs => (by cases hs), fun y hy => (by cases hy)⟩
theorem jv_win : Win 5 jvT := ⟨⟨(show (0 : Int) ≤ 4096 by decide), (show 3 ≤ 256 by decide), fun s hs => (by cases hs), ex_three jv_sht1 jv_sht2 jv_sht3⟩, (show 2 ≤ 16 by decide), (show 4 ≤ 4096 by decide)⟩
theorem jv_fl : exE = fl 5 jvT := rfl
theorem jv_done : doneS (runE exE) = true := by rw [jv_fl, runE_fl 5 jvT jv_isv]; rfl
theorem exE_z : ∀ e ∈ exE, EvZ e := by
  intro e he
  simp only [exE, List.mem_cons, List.not_mem_nil, or_false] at he
  rcases he with rfl | rfl | rfl | rfl | rfl <;> exact ⟨by decide, by decide, rfl⟩
set_option maxRecDepth 100000 in
theorem jr_tx : jtx 2 jrT = [123, 34, 36, 36, 120, 34, 58, 110, 117, 108, 108, 125] := by kernel_rfl
set_option maxRecDepth 100000 in
theorem jb_tx : jtx 1 jbT = [123, 34, 36, 98, 121, 116, 101, 115, 34, 58, 34, 48, 48, 102, 102, 34, 125] := by kernel_rfl
theorem rd_jr {W : World} {a b : Nat} (ha : W.heap[a]? = some (.cells #[.string ⟨#[36, 120]⟩] 9 (0, 0))) (hb : W.heap[b]? = some (.cells (vals (zr 1) (.slice none 0 0) (.slice none 0 0)) 29 (0, 0))) : RD 2 W jrT (.slice (some ⟨a, 0, none⟩) 1 1) (.slice (some ⟨b, 0, none⟩) 1 1) := by
  have la := (Array.getElem?_eq_some_iff.1 ha).1
  have lb := (Array.getElem?_eq_some_iff.1 hb).1
  refine ⟨Or.inr ⟨a, 0, 1, none, rfl, Nat.le_refl _, by decide, fun _ => ⟨rfl, la⟩, fun i hi => ?_⟩, Or.inr ⟨b, 0, 1, none, rfl, Nat.le_refl _, by decide, fun _ => ⟨rfl, lb⟩, fun i hi => ?_⟩⟩
  · have hi0 : i = 0 := by have : i < 1 := hi; omega
    subst hi0
    unfold World.cell?; rw [ha]; rfl
  · have hi0 : i = 0 := by have : i < 1 := hi; omega
    subst hi0
    exact ⟨.slice none 0 0, .slice none 0 0, range_block hb [] _ [] rfl, ⟨Or.inl ⟨rfl, rfl⟩, Or.inl ⟨rfl, rfl⟩⟩⟩
end Go.Proofs.YtoaacfhjejmbnaaGreatDoor
/- calamuslaw07.awake: walked. -/
namespace Go.Proofs.YtoaacfhjejmbnaaGreatDoor
open Go.RowKit
set_option linter.unusedSimpArgs false
set_option linter.unusedVariables false
theorem wr_r (w : World) (gu : Ut.Gu w) (ht : Tab w.heap.size w) (W : World) (hb : Below w.heap.size w W) {a b : Nat} (ha : W.heap[a]? = some (.cells #[.string ⟨#[36, 120]⟩] 9 (0, 0))) (hb2 : W.heap[b]? = some (.cells (vals (zr 1) (.slice none 0 0) (.slice none 0 0)) 29 (0, 0))) :
    Calls Tryz.prog 11 #[.agg (vals (vhd 2 jrT) (.slice (some ⟨a, 0, none⟩) 1 1) (.slice (some ⟨b, 0, none⟩) 1 1))] W fun e w' => ∃ p m c, e = .returned (.tuple #[.slice p m c, .int .i64 0]) ∧ Below W.heap.size W w' ∧ Own w' W.heap.size (.slice p m c) (jtx 2 jrT) :=
  (jwrite_any 2 jrT _ _ W ⟨rd_jr ha hb2, jr_sz, (show 2 ≤ 200000 by decide)⟩ jr_rg (gu.below hb) (Tab.up (ht.on hb) hb.size) 0 jr_chk).mono (by
    rintro e w' ⟨h1, _, h3⟩
    obtain ⟨p, m, c, h4, h5⟩ := (h3 rfl).1 (by rw [jr_tx]; decide)
    exact ⟨p, m, c, h4, h1, h5⟩)
theorem wr_b (w : World) (gu : Ut.Gu w) (ht : Tab w.heap.size w) (W : World) (hb : Below w.heap.size w W) :
    Calls Tryz.prog 11 #[.agg (vals (vhd 1 jbT) (.slice none 0 0) (.slice none 0 0))] W fun e w' => ∃ p m c, e = .returned (.tuple #[.slice p m c, .int .i64 0]) ∧ Below W.heap.size W w' ∧ Own w' W.heap.size (.slice p m c) (jtx 1 jbT) :=
  (jwrite_any 1 jbT _ _ W ⟨⟨Or.inl ⟨rfl, rfl⟩, Or.inl ⟨rfl, rfl⟩⟩, jb_sz, (show 1 ≤ 200000 by decide)⟩ jb_rg (gu.below hb) (Tab.up (ht.on hb) hb.size) 0 jb_chk).mono (by
    rintro e w' ⟨h1, _, h3⟩
    obtain ⟨p, m, c, h4, h5⟩ := (h3 rfl).1 (by rw [jb_tx]; decide)
    exact ⟨p, m, c, h4, h1, h5⟩)
def cb (l : List UInt8) : Array Value := (l.map fun c => Value.int .u8 (c.toNat : Int)).toArray
theorem rd_const (w : World) (gu : Ut.Gu w) (h8 : 8 ≤ w.heap.size) (W : World) (hb : Below w.heap.size w W) (l : List UInt8) (fr : Nat × Nat) (hl : l.length ≤ 100000) (hlen : ∀ es, readS l = .inr es → es.length ≤ 50000 ∧ ∀ e ∈ es, EvZ e) :
    Calls Tryz.prog 17 #[.slice (some ⟨W.heap.size, 0, none⟩) l.length l.length] (W.alloc (.cells (cb l) 5 fr)) fun e w' => RR (W.alloc (.cells (cb l) 5 fr)) (readS l) e w' := by
  have hB : Below w.heap.size w (W.alloc (.cells (cb l) 5 fr)) := below_then hb (below_al (Below.refl _ _))
  refine read_r _ _ _ l (fun m => ⟨⟨_, _, rfl⟩, by omega, fun _ => ⟨W.heap.size, 0, l.length, rfl, fun j hj => ?_, Or.inl (by simp)⟩⟩) (gu.below hB) (Nat.le_trans h8 hB.size) hlen
  unfold World.cell?
  rw [heap_alloc_last]
  simp [cb, hj]
theorem rd_a (w : World) (gu : Ut.Gu w) (h8 : 8 ≤ w.heap.size) (W : World) (hb : Below w.heap.size w W) (fr : Nat × Nat) :
    Calls Tryz.prog 17 #[.slice (some ⟨W.heap.size, 0, none⟩) exA.length exA.length] (W.alloc (.cells (cb exA) 5 fr)) fun e w' => ∃ a1 m1 d1 b o c s f, e = .returned (.tuple #[.agg (vals (zr 7) (.slice a1 m1 d1) (.slice (some ⟨b, o, none⟩) 3 c)), .int .i64 0]) ∧ Below W.heap.size W w' ∧ KR 5 w' jvT (.slice a1 m1 d1) (.slice (some ⟨b, o, none⟩) 3 c) s f := by
  refine (rd_const w gu h8 W hb exA fr (by decide) (fun es h => by rw [exA_rd] at h; cases h; exact ⟨by decide, exE_z⟩)).mono ?_
  intro e w' hp
  rw [exA_rd] at hp
  obtain ⟨h1, y, E, rfl, _, _, h4⟩ := hp
  obtain ⟨x, k1, k2, _, k4, k5⟩ := h4 jv_done
  have hx : x = jvT := (fl_inj 5 x jvT k2 jv_isv [] [] (by rw [List.append_nil, List.append_nil, ← jv_fl]; exact k1.symm)).1
  subst hx
  have hE : E = 0 := k4.2 jv_win
  obtain ⟨ns, ls, s, f, rfl, _, k7⟩ := k5 hE
  obtain ⟨r1, r2⟩ := k7.rd
  obtain ⟨a1, m1, d1, a2, m2, d2, rfl, rfl⟩ := k7.rd.shape
  rcases r2 with ⟨_, h0⟩ | ⟨b, o, c, sp, hls, _, _, hsp, _⟩
  · cases h0
  · obtain ⟨rfl, _⟩ := hsp (show 0 < 3 by decide)
    rw [hls] at k7 ⊢
    subst hE
    exact ⟨a1, m1, d1, b, o, c, s, f, rfl, below_then (below_al (Below.refl _ _)) h1, k7⟩
theorem rd_e (w : World) (gu : Ut.Gu w) (h8 : 8 ≤ w.heap.size) (W : World) (hb : Below w.heap.size w W) (fr : Nat × Nat) (l : List UInt8) (hl : l.length ≤ 100000) (E : Int) (hE : readS l = .inl E) :
    Calls Tryz.prog 17 #[.slice (some ⟨W.heap.size, 0, none⟩) l.length l.length] (W.alloc (.cells (cb l) 5 fr)) fun e w' => e = .returned (.tuple #[.agg zV, .int .i64 E]) ∧ Below W.heap.size W w' := by
  refine (rd_const w gu h8 W hb l fr hl (fun es h => by rw [hE] at h; cases h)).mono ?_
  intro e w' hp
  rw [hE] at hp
  exact ⟨hp.2, below_then (below_al (Below.refl _ _)) hp.1⟩
set_option maxHeartbeats 1000000 in
set_option maxRecDepth 100000 in
theorem awake_any (w : World) (gu : Ut.Gu w) (ht : Tab w.heap.size w) (h8 : 8 ≤ w.heap.size) : Calls Tryz.prog 13 #[] w fun e w' => e = .returned (.bool true) ∧ Below w.heap.size w w' := by
  have hcs : ∀ (w : World) (C : Array Value) (n c : Nat), (convert 32 32 (.slice (some ⟨w.heap.size, 0, none⟩) n c)).run Tryz.prog (w.alloc (.cells C 5)) = .ok (.slice (some ⟨w.heap.size, 0, none⟩) n c) (w.alloc (.cells C 5 (C.size, C.size + 1))) := fun w C n c => Lib.run_convert_bytes_const w 32 5 C n c Tryz.underlying32 Tryz.underlying5
  have hcs2 : ∀ (w : World) (o : Obj) (C : Array Value) (n c : Nat), (convert 32 32 (.slice (some ⟨w.heap.size + 1, 0, none⟩) n c)).run Tryz.prog ((w.alloc o).alloc (.cells C 5)) = .ok (.slice (some ⟨w.heap.size + 1, 0, none⟩) n c) ((w.alloc o).alloc (.cells C 5 (C.size, C.size + 1))) := fun w o C n c => by have := hcs (w.alloc o) C n c; rw [World.size_alloc] at this; exact this
  have RA := hide (fun W hb => rd_a w gu h8 W hb (34, 35))
  have RB := hide (fun W hb => rd_e w gu h8 W hb (4, 5) exB (by decide) 70 exB_rd)
  have RC := hide (fun W hb => rd_e w gu h8 W hb (34, 35) exC (by decide) 2 exC_rd)
  rw [show cb exA = #[.int .u8 32, .int .u8 91, .int .u8 49, .int .u8 44, .int .u8 32, .int .u8 50, .int .u8 46, .int .u8 48, .int .u8 101, .int .u8 49, .int .u8 32, .int .u8 44, .int .u8 34, .int .u8 92, .int .u8 117, .int .u8 48, .int .u8 48, .int .u8 101, .int .u8 57, .int .u8 92, .int .u8 117, .int .u8 100, .int .u8 56, .int .u8 51, .int .u8 100, .int .u8 92, .int .u8 117, .int .u8 100, .int .u8 101, .int .u8 48, .int .u8 48, .int .u8 34, .int .u8 93, .int .u8 32] from rfl, show exA.length = 34 from rfl] at RA
  rw [show cb exB = #[.int .u8 91, .int .u8 49, .int .u8 44, .int .u8 93] from rfl, show exB.length = 4 from rfl] at RB
  rw [show cb exC = #[.int .u8 91, .int .u8 91, .int .u8 91, .int .u8 91, .int .u8 91, .int .u8 91, .int .u8 91, .int .u8 91, .int .u8 91, .int .u8 91, .int .u8 91, .int .u8 91, .int .u8 91, .int .u8 91, .int .u8 91, .int .u8 91, .int .u8 91, .int .u8 93, .int .u8 93, .int .u8 93, .int .u8 93, .int .u8 93, .int .u8 93, .int .u8 93, .int .u8 93, .int .u8 93, .int .u8 93, .int .u8 93, .int .u8 93, .int .u8 93, .int .u8 93, .int .u8 93, .int .u8 93, .int .u8 93] from rfl, show exC.length = 34 from rfl] at RC
  have W1 := hide (wr_r w gu ht)
  have W2 := hide (wr_b w gu ht)
  simp only [vals, jrT, jbT, vhd, zr] at W1 W2
  simp only [vals, zr] at RA
  simp only [zV] at RB RC
  go_enter Tryz.func13, Tryz.ntmps13
  go_wp2_with (go_at_call 11; refine Sto.out ?_)
  refine Sto.mk ((W1.out _ (below_al (below_al (below_al (Below.refl _ _)))) (a := w.heap.size + 1) (b := w.heap.size + 1 + 1) ?_ ?_).mono ?_)
  · rw [Below.heap_alloc _ _ _ (by simp)]
    have := heap_alloc_last (w.alloc (.cells #[.int .i64 1, .bool false, .bool false, .string ⟨#[]⟩, .int .i64 0, .int .u64 0, .string ⟨#[]⟩, .slice none 0 0, .slice none 0 0] 29)) (.cells #[.string ⟨#[36, 120]⟩] 9)
    rw [World.size_alloc] at this
    exact this
  · have := heap_alloc_last ((w.alloc (.cells #[.int .i64 1, .bool false, .bool false, .string ⟨#[]⟩, .int .i64 0, .int .u64 0, .string ⟨#[]⟩, .slice none 0 0, .slice none 0 0] 29)).alloc (.cells #[.string ⟨#[36, 120]⟩] 9)) (.cells #[.int .i64 1, .bool false, .bool false, .string ⟨#[]⟩, .int .i64 0, .int .u64 0, .string ⟨#[]⟩, .slice none 0 0, .slice none 0 0] 29)
    rw [World.size_alloc, World.size_alloc] at this
    exact this
  rintro e v1 ⟨p1, m1, c1, rfl, hb1, ho1⟩
  have B1 : Hid (Below w.heap.size w v1) := below_then (below_al (below_al (below_al (Below.refl _ _)))) hb1
  have O1 : Hid (∃ B, Own v1 B (.slice p1 m1 c1) (jtx 2 jrT)) := ⟨_, ho1⟩
  clear hb1 ho1 W1
  go_wp2_with (go_at_call 11; refine Sto.out ?_)
  refine Sto.mk ((W2.out _ B1.out).mono ?_)
  rintro e v2 ⟨p2, m2, c2, rfl, hb2, ho2⟩
  have B2 : Hid (Below w.heap.size w v2) := below_then B1.out hb2
  have O1' : Hid (∃ B, Own v2 B (.slice p1 m1 c1) (jtx 2 jrT)) := by
    obtain ⟨B, h⟩ := O1.out
    exact ⟨B, own_of h fun k _ hk => hb2.block k hk⟩
  have O2 : Hid (∃ B, Own v2 B (.slice p2 m2 c2) (jtx 1 jbT)) := ⟨_, ho2⟩
  clear hb2 ho2 W2 O1
  go_wp2_with (go_at_call 17; refine Sto.out ?_)
  refine Sto.mk ((RA.out _ B2.out).mono ?_)
  rintro e v3 ⟨a3, m3, d3, b3, o3, c3, s3, f3, rfl, hb3, hk3⟩
  have B3 : Hid (Below w.heap.size w v3) := below_then B2.out hb3
  have P1 : Hid (∃ B, Own v3 B (.slice p1 m1 c1) (jtx 2 jrT)) := by
    obtain ⟨B, h⟩ := O1'.out
    exact ⟨B, own_of h fun k _ hk => hb3.block k hk⟩
  have P2 : Hid (∃ B, Own v3 B (.slice p2 m2 c2) (jtx 1 jbT)) := by
    obtain ⟨B, h⟩ := O2.out
    exact ⟨B, own_of h fun k _ hk => hb3.block k hk⟩
  have K3 := hide hk3
  clear hb3 hk3 O1' O2 RA
  go_wp2_with (go_at_call 17; refine Sto.out ?_)
  refine Sto.mk ?_
  have rb := RB.out (v3.alloc (.cells #[.int .i64 7, .bool false, .bool false, .string ⟨#[]⟩, .int .i64 0, .int .u64 0, .string ⟨#[]⟩, .slice a3 m3 d3, .slice (some ⟨b3, o3, none⟩) 3 c3] 29)) (below_then B3.out (below_al (Below.refl _ _)))
  rw [World.size_alloc] at rb
  refine rb.mono ?_
  rintro e v4 ⟨rfl, hb4⟩
  have L4 : Hid (Below v3.heap.size v3 v4) := below_then (below_al (Below.refl _ _)) (by rw [World.size_alloc]; exact hb4)
  have X4 : Hid (Bx v4 v3.heap.size (zr 7) (.slice a3 m3 d3) (.slice (some ⟨b3, o3, none⟩) 3 c3)) := ⟨(hb4.block _ (by omega)).trans (heap_alloc_last _ _)⟩
  have B4 : Hid (Below w.heap.size w v4) := below_then B3.out L4.out
  clear hb4 RB rb
  go_wp2_with (go_at_call 17; refine Sto.out ?_)
  refine Sto.mk ?_
  have rc := RC.out (v4.alloc (.cells #[.int .i64 0, .bool false, .bool false, .string ⟨#[]⟩, .int .i64 0, .int .u64 0, .string ⟨#[]⟩, .slice none 0 0, .slice none 0 0] 29)) (below_then B4.out (below_al (Below.refl _ _)))
  rw [World.size_alloc] at rc
  refine rc.mono ?_
  rintro e v5 ⟨rfl, hb5⟩
  have L5 : Hid (Below v4.heap.size v4 v5) := below_then (below_al (Below.refl _ _)) (by rw [World.size_alloc]; exact hb5)
  have B5 : Hid (Below w.heap.size w v5) := below_then B4.out L5.out
  have L35 : Hid (∀ o, Below v3.heap.size v3 (v5.alloc o)) := fun o => below_then (below_then L4.out L5.out) (below_al (Below.refl _ _))
  clear hb5 RC rc
  have cv1 : ∀ o, (convert 32 9 (.slice p1 m1 c1)).run Tryz.prog (v5.alloc o) = .ok (.string ⟨#[123, 34, 36, 36, 120, 34, 58, 110, 117, 108, 108, 125]⟩) (v5.alloc o) := fun o => by
    obtain ⟨B, h⟩ := P1.out
    have := own_conv (own_of h fun k _ hk => (L35.out o).block k hk)
    rw [jr_tx] at this
    exact this
  have cv2 : ∀ o, (convert 32 9 (.slice p2 m2 c2)).run Tryz.prog (v5.alloc o) = .ok (.string ⟨#[123, 34, 36, 98, 121, 116, 101, 115, 34, 58, 34, 48, 48, 102, 102, 34, 125]⟩) (v5.alloc o) := fun o => by
    obtain ⟨B, h⟩ := P2.out
    have := own_conv (own_of h fun k _ hk => (L35.out o).block k hk)
    rw [jb_tx] at this
    exact this
  have X5 : Hid (∀ o, Bx (v5.alloc o) v3.heap.size (zr 7) (.slice a3 m3 d3) (.slice (some ⟨b3, o3, none⟩) 3 c3)) := fun o => ⟨((below_then L5.out (below_al (Below.refl _ _))).block _ X4.out.lt').trans X4.out.at_⟩
  have x8 := fun o => (X5.out o).cells.2.2.2.2.2.2.2.2
  have R5 : Hid (∀ o, RD 5 (v5.alloc o) jvT (.slice a3 m3 d3) (.slice (some ⟨b3, o3, none⟩) 3 c3)) := fun o => K3.out.2.2 _ fun k _ hk => (L35.out o).block k (Nat.lt_of_lt_of_le hk K3.out.2.1)
  have el : Hid (∀ o, (∃ n1 l1, (v5.alloc o).rangeAt b3 (o3 + 9) (vals (vhd 4 jv2) n1 l1).toList) ∧ ∃ n2 l2, (v5.alloc o).rangeAt b3 (o3 + 18) (vals (vhd 4 jv3) n2 l2).toList) := fun o => by
    obtain ⟨_, r2⟩ := R5.out o
    rcases r2 with ⟨h0, _⟩ | ⟨b, oo, c, sp, hls, _, _, hsp, hel⟩
    · cases h0
    · cases hls
      obtain ⟨n1, l1, e1, _⟩ := hel 1 (by decide)
      obtain ⟨n2, l2, e2, _⟩ := hel 2 (by decide)
      exact ⟨⟨n1, l1, e1⟩, n2, l2, e2⟩
  have q2 : ∀ o, (v5.alloc o).cell? ⟨b3, o3 + 9 + 2, none⟩ = some (.bool false) := fun o => by obtain ⟨n1, l1, h⟩ := (el.out o).1; exact h 2 _ rfl
  have q3 : ∀ o, (v5.alloc o).cell? ⟨b3, o3 + 9 + 3, none⟩ = some (.string ⟨#[50]⟩) := fun o => by obtain ⟨n1, l1, h⟩ := (el.out o).1; exact h 3 _ rfl
  have q4 : ∀ o, (v5.alloc o).cell? ⟨b3, o3 + 9 + 4, none⟩ = some (.int .i64 1) := fun o => by obtain ⟨n1, l1, h⟩ := (el.out o).1; exact h 4 _ rfl
  have q6 : ∀ o, (v5.alloc o).cell? ⟨b3, o3 + 18 + 6, none⟩ = some (.string ⟨#[195, 169, 240, 159, 152, 128]⟩) := fun o => by obtain ⟨n1, l1, h⟩ := (el.out o).2; exact h 6 _ rfl
  clear P1 P2
  go_wp2_with fail
  go_ret
  exact ⟨rfl, below_then B5.out (below_al (Below.refl _ _))⟩
end Go.Proofs.YtoaacfhjejmbnaaGreatDoor
/- JsonNil: the law, walked. -/
namespace Go.Proofs.YtoaacfhjejmbnaaGreatDoor
open Go.RowKit
set_option linter.unusedSimpArgs false
set_option linter.unusedVariables false
theorem nil_law (a : Option Addr) (n c : Nat) (w : World) (gu : Ut.Gu w) (ht : Tab w.heap.size w) (h8 : 8 ≤ w.heap.size) (hn : n ≤ maxLen) : Calls Tryz.prog 8 #[.slice a n c] w fun e w' => e = .returned (.bool true) ∧ Below w.heap.size w w' := by
  have ml : maxLen = 9223372036854775807 := rfl
  rw [ml] at hn
  have F := hide (fun W => feed_nil W a n c)
  have E := hide (fun W => end_nil W)
  have AW := hide (fun W (hb : Below w.heap.size w W) => awake_any W (gu.below hb) (Tab.up (ht.on hb) hb.size) (Nat.le_trans h8 hb.size))
  clear gu ht h8
  by_cases hl : (131072 : Int) < (n : Int)
  · have d : decide ((131072 : Int) < (n : Int)) = true := by simp; omega
    clear hl
    go_enter Tryz.func8, Tryz.ntmps8
    go_wp2
    go_ret
    exact ⟨rfl, Below.refl _ _⟩
  · have d : decide ((131072 : Int) < (n : Int)) = false := by simp; omega
    clear hl
    go_enter Tryz.func8, Tryz.ntmps8
    go_wp2_with (first
      | (go_at_call 23; refine (F.out _).mono ?_; rintro e w1 ⟨rfl, hb1⟩; have B1 := hide hb1; clear hb1)
      | (go_at_call 24; refine (E.out _).mono ?_; rintro e w2 ⟨rfl, hb2⟩; have B2 := hide (below_then B1.out hb2); clear hb2)
      | (go_at_call 13; refine (AW.out _ B2.out).mono ?_; rintro e w3 ⟨rfl, hb3⟩; have B3 := hide (below_then B2.out hb3); clear hb3))
    go_ret
    exact ⟨rfl, B3.out⟩
end Go.Proofs.YtoaacfhjejmbnaaGreatDoor
