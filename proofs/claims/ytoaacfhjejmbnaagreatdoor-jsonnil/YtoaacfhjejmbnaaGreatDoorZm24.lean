/- Merged by program: JvQuote, JwQuote, JxQuote. -/
import Derived.Test.YtoaacfhjejmbnaaGreatDoorZm23
import Derived.Test.YtoaacfhjejmbnaaGreatDoorUZm15
import Derived.Laws.Cover4
/- json's quoted: hold as QP says it, escape walked. -/
namespace Go.Proofs.YtoaacfhjejmbnaaGreatDoor
open Go.RowKit
set_option linter.unusedSimpArgs false
set_option linter.unusedVariables false
def holdQ (q : Qa) (T : List UInt8) : Sum Int (Value × Qa) := if q.held.length + T.length ≤ 8192 then .inr (.tuple #[], { q with held := q.held ++ T }) else .inl 2
/-- Which of the characters behind a `\`. -/
def uescI (c : UInt8) : Option (Fin 8) :=
  if c = 34 then some 0 else if c = 92 then some 1 else if c = 47 then some 2 else if c = 98 then some 3 else if c = 102 then some 4 else if c = 110 then some 5 else if c = 114 then some 6 else if c = 116 then some 7 else none
/-- What it means. -/
def uescB (i : Fin 8) : UInt8 := match i with | 0 => 34 | 1 => 92 | 2 => 47 | 3 => 8 | 4 => 12 | 5 => 10 | 6 => 13 | 7 => 9
def uescE : ByteArray := ⟨#[34, 92, 47, 98, 102, 110, 114, 116]⟩
set_option maxRecDepth 100000 in
set_option maxHeartbeats 2000000 in
theorem esc_idx_n : ∀ n, n < 256 → firstIdx uescE n.toUInt8 = (match uescI n.toUInt8 with | none => -1 | some i => (i.val : Int)) := by decide +kernel
theorem esc_idx (c : UInt8) : firstIdx uescE ((c.toNat : Int).toNat.toUInt8) = (match uescI c with | none => -1 | some i => (i.val : Int)) := by
  have h := esc_idx_n c.toNat c.toNat_lt
  have e : c.toNat.toUInt8 = c := by simp
  rw [Int.toNat_natCast, h, e]
theorem uesc_bl : ∀ i : Fin 8, bl ((⟨#[34, 92, 47, 8, 12, 10, 13, 9]⟩ : ByteArray).extract i.val (i.val + 1)) = [uescB i] := by decide +kernel
theorem uesc_size : ∀ i : Fin 8, ((⟨#[34, 92, 47, 8, 12, 10, 13, 9]⟩ : ByteArray).extract i.val (i.val + 1)).size = 1 := by decide +kernel
def uescQ (q : Qa) (c : UInt8) : Sum Int (Value × Qa) :=
  if c = 117 then .inr (.tuple #[], { q with place := 3, digits := 0, number := 0 })
  else match uescI c with
  | none => .inl 70
  | some i => if q.high ≠ 0 then .inl 70 else if q.held.length + 1 ≤ 8192 then .inr (.tuple #[], { q with held := q.held ++ [uescB i], place := 1 }) else .inl 2
section
variable {W W1 W2 : World} {r : Nat} {s : Rv} {q : Qa} {v : Value}
theorem hold_q (h : QM W r s q v) (x : ByteArray) (hx : x.size ≤ 281474976710656) : Calls Tryz.prog 148 #[.pointer (some ⟨r, 4, none⟩), .string x] W fun e w' => QP W r s v (holdQ q (bl x)) e w' := by
  refine (hold_any x q.held W r (s.q q v) h.rd h.own h.len hx).mono ?_
  rintro e w1 (⟨l1, rfl, F, v', rd', ow', at'⟩ | ⟨l1, rfl, rfl⟩)
  · unfold holdQ
    rw [if_pos l1]
    refine ⟨F, rfl, v', ⟨rd', ow', by simpa using l1, h.num, h.hig, h.dig⟩, ?_⟩
    rcases at' with e | e
    · exact Or.inl e
    · exact Or.inr fun g hg => by rw [e] at hg; cases hg; simp
  · unfold holdQ
    rw [if_neg (by omega)]
    exact ⟨RdF.refl, rfl, _, h.rd⟩
set_option maxHeartbeats 2000000 in
theorem escape_any (h : QM W r s q v) (c : UInt8) : Calls Tryz.prog 110 #[.pointer (some ⟨r, 4, none⟩), .int .u8 c.toNat] W fun e w' => QP W r s v (uescQ q c) e w' := by
  have H := hide h
  have hlt := h.rd.lt
  have c4 : W.cell? ⟨r, 4, none⟩ = some (.int .i64 q.place) := (h.rd.cell 4).trans rfl
  have c6 : W.cell? ⟨r, 6, none⟩ = some (.int .i64 q.digits) := (h.rd.cell 6).trans rfl
  have c7 : W.cell? ⟨r, 7, none⟩ = some (.int .i64 q.number) := (h.rd.cell 7).trans rfl
  have c8 : W.cell? ⟨r, 8, none⟩ = some (.int .i64 q.high) := (h.rd.cell 8).trans rfl
  have f4 : W.frozen? ⟨r, 4, none⟩ = false := h.rd.frz 4
  have f6 : W.frozen? ⟨r, 6, none⟩ = false := h.rd.frz 6
  have f7 : W.frozen? ⟨r, 7, none⟩ = false := h.rd.frz 7
  clear h
  by_cases h117 : c = 117
  · subst h117
    go_enter Tryz.func110, Tryz.ntmps110
    go_wp2
    try simp only [Exit.inBlock, Exit.then]
    refine bodyPost_ret (results_none rfl _ _ _) rfl ⟨((RdF.refl.set 4 _).set 6 _).set 7 _, rfl, v, ⟨((H.out.rd.set 4 (.int .i64 3) (s.q { q with place := 3 } v) rfl).set 6 (.int .i64 0) (s.q { q with place := 3, digits := 0 } v) rfl).set 7 (.int .i64 0) _ rfl, ?_, H.out.len, (by show 0 < 16 ^ 0; decide), H.out.hig, (by show 0 ≤ 4; omega)⟩, OB.refl _ _⟩
    exact own_of H.out.own fun k hk _ => by
      have hkr : k ≠ r := by have := (World.ownsRow.lt H.out.own k hk).1; omega
      rw [Below.heap_setCell _ _ _ _ hkr, Below.heap_setCell _ _ _ _ hkr, Below.heap_setCell _ _ _ _ hkr]
  · have e117 : ((c.toNat : Int) == 117) = false := by
      have : ¬ (c.toNat : Int) = 117 := fun e => h117 (by apply UInt8.toNat_inj.1; simpa using (by omega : c.toNat = 117))
      simpa using this
    cases hi : uescI c with
    | none =>
      have hq : uescQ q c = .inl 70 := by unfold uescQ; rw [if_neg h117, hi]
      rw [hq]
      have SI := hide (fun w => sib_any uescE c.toNat w)
      rw [esc_idx, hi] at SI
      go_enter Tryz.func110, Tryz.ntmps110
      go_wp2_with (go_at_call 80; refine (SI.out _).mono ?_; rintro e w1 ⟨rfl, hw1⟩; have hw1s := hw1.symm; clear hw1; subst hw1s)
      exact ⟨rfl, RdF.refl, rfl, _, H.out.rd⟩
    | some i =>
      have SI := hide (fun w => sib_any uescE c.toNat w)
      rw [esc_idx, hi] at SI
      by_cases hh : q.high ≠ 0
      · have eh : ((q.high : Int) == 0) = false := by simpa using hh
        have hq : uescQ q c = .inl 70 := by unfold uescQ; rw [if_neg h117, hi]; simp [hh]
        rw [hq]
        clear hq hi
        have hi0 : decide ((i.val : Int) < 0) = false := by simp
        go_enter Tryz.func110, Tryz.ntmps110
        go_wp2_with (go_at_call 80; refine (SI.out _).mono ?_; rintro e w1 ⟨rfl, hw1⟩; have hw1s := hw1.symm; clear hw1; subst hw1s)
        exact ⟨rfl, RdF.refl, rfl, _, H.out.rd⟩
      · have hz : q.high = 0 := by omega
        rw [hz] at c8
        have hq : uescQ q c = if q.held.length + 1 ≤ 8192 then .inr (.tuple #[], { q with held := q.held ++ [uescB i], place := 1 }) else .inl 2 := by unfold uescQ; rw [if_neg h117, hi]; simp [hz]
        rw [hq]
        clear hq hi
        have HQ := hide (hold_q H.out ((⟨#[34, 92, 47, 8, 12, 10, 13, 9]⟩ : ByteArray).extract i.val (i.val + 1)) (by rw [uesc_size]; omega))
        rw [uesc_bl] at HQ
        have hi0 : decide ((i.val : Int) < 0) = false := by simp
        by_cases hl : q.held.length + 1 ≤ 8192
        · rw [if_pos hl]
          rw [show holdQ q [uescB i] = .inr (.tuple #[], { q with held := q.held ++ [uescB i] }) from if_pos hl] at HQ
          clear hl
          go_enter Tryz.func110, Tryz.ntmps110
          go_wp2_with (first | (go_at_call 80; refine (SI.out _).mono ?_; rintro e w1 ⟨rfl, hw1⟩; have hw1s := hw1.symm; clear hw1; subst hw1s) | (go_at_call 148; refine HQ.out.mono ?_; rintro e w1 ⟨F1, rfl, v1, M1, O1⟩; have F := hide F1; have M := hide M1; have O := hide O1; have d4 : w1.cell? ⟨r, 4, none⟩ = some (.int .i64 q.place) := (M1.rd.cell 4).trans rfl; have g4 : w1.frozen? ⟨r, 4, none⟩ = false := M1.rd.frz 4; clear F1 M1 O1))
          go_end0
          exact ⟨F.out.set 4 _, rfl, v1, M.out.setp 1, O.out⟩
        · rw [if_neg hl]
          rw [show holdQ q [uescB i] = .inl 2 from if_neg hl] at HQ
          clear hl
          go_enter Tryz.func110, Tryz.ntmps110
          go_wp2_with (first | (go_at_call 80; refine (SI.out _).mono ?_; rintro e w1 ⟨rfl, hw1⟩; have hw1s := hw1.symm; clear hw1; subst hw1s) | (go_at_call 148; refine HQ.out.mono ?_; rintro e w1 ⟨F1, rfl, M1⟩; have F := hide F1; have M := hide M1; clear F1 M1))
          exact ⟨rfl, F.out, rfl, M.out⟩
end
end Go.Proofs.YtoaacfhjejmbnaaGreatDoor
/- json's quoted: endNumber walked. -/
namespace Go.Proofs.YtoaacfhjejmbnaaGreatDoor
open Go.RowKit
set_option linter.unusedSimpArgs false
set_option linter.unusedVariables false
/-- The character that a number tells, or it and the one ahead of it. -/
def twoN (q : Qa) : Int := if q.high = 0 then q.number else 65536 + ((q.high : Int) - 55296) * 1024 + q.number - 56320
def endQ (q : Qa) : Sum Int (Value × Qa) :=
  if q.high = 0 ∧ 55296 ≤ q.number ∧ q.number < 56320 then .inr (.tuple #[], { q with high := q.number })
  else if q.high ≠ 0 ∧ (q.number < 56320 ∨ 57344 ≤ q.number) then .inl 70
  else if Utf8.valid (twoN q) then holdQ { q with high := 0 } (bl (Utf8.encode (twoN q))) else .inl 70
section
variable {W W1 W2 : World} {r : Nat} {s : Rv} {q : Qa} {v : Value}
theorem RdF.pre8 {j : Nat} {u : Value} (k : RdF r v (W.setCell ⟨r, j, none⟩ u) W2) : RdF r v W W2 :=
  ⟨((Below.refl r W).setCell (p := ⟨r, j, none⟩) (Nat.le_refl _) u).trans k.below, fun q h1 h2 h3 => (k.keep q (by simpa using h1) h2 h3).trans (Below.heap_setCell _ _ _ _ h2)⟩
theorem QM.num4 (h : QM W r s q v) : q.number < 65536 := Nat.lt_of_lt_of_le h.num (Nat.pow_le_pow_right (n := 16) (by omega) h.dig)
theorem QM.seth (h : QM W r s q v) (n : Nat) (hn : n = 0 ∨ (55296 ≤ n ∧ n < 56320)) : QM (W.setCell ⟨r, 8, none⟩ (.int .i64 n)) r s { q with high := n } v :=
  ⟨h.rd.set 8 _ _ rfl, own_of h.own fun k hk _ => Below.heap_setCell _ _ _ _ (by have := (World.ownsRow.lt h.own k hk).1; show k ≠ r; omega), h.len, h.num, hn, h.dig⟩
set_option maxRecDepth 20000 in
set_option maxHeartbeats 2000000 in
theorem endNumber_any (h : QM W r s q v) : Calls Tryz.prog 149 #[.pointer (some ⟨r, 4, none⟩)] W fun e w' => QP W r s v (endQ q) e w' := by
  have H := hide h
  have hlt := h.rd.lt
  have hnum := h.num4
  have hhig := h.hig
  have c7 : W.cell? ⟨r, 7, none⟩ = some (.int .i64 q.number) := (h.rd.cell 7).trans rfl
  have c8 : W.cell? ⟨r, 8, none⟩ = some (.int .i64 q.high) := (h.rd.cell 8).trans rfl
  have f8 : W.frozen? ⟨r, 8, none⟩ = false := h.rd.frz 8
  clear h
  by_cases hz : q.high = 0
  · rw [hz] at c8
    by_cases h1 : 55296 ≤ q.number ∧ q.number < 56320
    · have hq : endQ q = .inr (.tuple #[], { q with high := q.number }) := by unfold endQ; rw [if_pos ⟨hz, h1⟩]
      rw [hq]
      have d1 : decide ((55296 : Int) ≤ (q.number : Int)) = true := by simp; omega
      have d2 : decide ((q.number : Int) < 56320) = true := by simp; omega
      have hn := Or.inr (a := q.number = 0) h1
      clear hq h1 hnum hhig
      go_enter Tryz.func149, Tryz.ntmps149
      go_wp2
      try simp only [Exit.inBlock, Exit.then]
      exact bodyPost_ret (results_none rfl _ _ _) rfl ⟨RdF.refl.set 8 _, rfl, v, H.out.seth _ hn, OB.refl _ _⟩
    · have EN := hide (fun w => Ut.encode_any (q.number : Int) w (by omega) (by omega))
      have ht : twoN q = q.number := by unfold twoN; rw [if_pos hz]
      have HQ := hide (hold_q H.out (Utf8.encode (q.number : Int)) (by have := encode_size_le (q.number : Int); omega))
      by_cases h2 : 55296 ≤ q.number
      · have d1 : decide ((55296 : Int) ≤ (q.number : Int)) = true := by simp; omega
        have d2 : decide ((q.number : Int) < 56320) = false := by simp; omega
        cases hv : Utf8.valid (q.number : Int)
        · have hq : endQ q = .inl 70 := by unfold endQ; rw [if_neg (fun e => h1 e.2), if_neg (fun e => e.1 hz), ht, hv]; rfl
          rw [hq]
          rw [hv] at EN
          clear hq h1 hnum hhig HQ
          go_enter Tryz.func149, Tryz.ntmps149
          go_wp2_with (go_at_call 170; refine (EN.out _).mono ?_; rintro e w1 ⟨rfl, hw1⟩; have hw1s := hw1.symm; clear hw1; subst hw1s)
          exact ⟨rfl, RdF.refl, rfl, _, H.out.rd⟩
        · have hq : endQ q = holdQ q (bl (Utf8.encode (q.number : Int))) := by unfold endQ; rw [if_neg (fun e => h1 e.2), if_neg (fun e => e.1 hz), ht, hv, if_pos rfl, show ({ q with high := 0 } : Qa) = q by cases q; cases hz; rfl]
          rw [hq]
          rw [hv] at EN
          clear hq h1 hnum hhig
          cases ho : holdQ q (bl (Utf8.encode (q.number : Int))) with
          | inl E =>
            rw [ho] at HQ
            go_enter Tryz.func149, Tryz.ntmps149
            go_wp2_with (first | (go_at_call 170; refine (EN.out _).mono ?_; rintro e w1 ⟨rfl, hw1⟩; have hw1s := hw1.symm; clear hw1; subst hw1s) | (go_at_call 148; refine HQ.out.mono ?_; rintro e w1 ⟨F1, rfl, M1⟩; have F := hide F1; have M := hide M1; clear F1 M1))
            exact ⟨rfl, F.out, rfl, M.out⟩
          | inr x =>
            rw [ho] at HQ
            have hx1 : x.1 = .tuple #[] := by unfold holdQ at ho; split at ho; · cases ho; rfl
                                              · cases ho
            go_enter Tryz.func149, Tryz.ntmps149
            go_wp2_with (first | (go_at_call 170; refine (EN.out _).mono ?_; rintro e w1 ⟨rfl, hw1⟩; have hw1s := hw1.symm; clear hw1; subst hw1s) | (go_at_call 148; refine HQ.out.mono ?_; rintro e w1 ⟨F1, rfl, M1⟩; have F := hide F1; have M := hide M1; clear F1 M1))
            go_end0
            exact ⟨F.out, by rw [hx1], M.out⟩
      · have d1 : decide ((55296 : Int) ≤ (q.number : Int)) = false := by simp; omega
        cases hv : Utf8.valid (q.number : Int)
        · have hq : endQ q = .inl 70 := by unfold endQ; rw [if_neg (fun e => h1 e.2), if_neg (fun e => e.1 hz), ht, hv]; rfl
          rw [hq]
          rw [hv] at EN
          clear hq h1 hnum hhig HQ
          go_enter Tryz.func149, Tryz.ntmps149
          go_wp2_with (go_at_call 170; refine (EN.out _).mono ?_; rintro e w1 ⟨rfl, hw1⟩; have hw1s := hw1.symm; clear hw1; subst hw1s)
          exact ⟨rfl, RdF.refl, rfl, _, H.out.rd⟩
        · have hq : endQ q = holdQ q (bl (Utf8.encode (q.number : Int))) := by unfold endQ; rw [if_neg (fun e => h1 e.2), if_neg (fun e => e.1 hz), ht, hv, if_pos rfl, show ({ q with high := 0 } : Qa) = q by cases q; cases hz; rfl]
          rw [hq]
          rw [hv] at EN
          clear hq h1 hnum hhig
          cases ho : holdQ q (bl (Utf8.encode (q.number : Int))) with
          | inl E =>
            rw [ho] at HQ
            go_enter Tryz.func149, Tryz.ntmps149
            go_wp2_with (first | (go_at_call 170; refine (EN.out _).mono ?_; rintro e w1 ⟨rfl, hw1⟩; have hw1s := hw1.symm; clear hw1; subst hw1s) | (go_at_call 148; refine HQ.out.mono ?_; rintro e w1 ⟨F1, rfl, M1⟩; have F := hide F1; have M := hide M1; clear F1 M1))
            exact ⟨rfl, F.out, rfl, M.out⟩
          | inr x =>
            rw [ho] at HQ
            have hx1 : x.1 = .tuple #[] := by unfold holdQ at ho; split at ho; · cases ho; rfl
                                              · cases ho
            go_enter Tryz.func149, Tryz.ntmps149
            go_wp2_with (first | (go_at_call 170; refine (EN.out _).mono ?_; rintro e w1 ⟨rfl, hw1⟩; have hw1s := hw1.symm; clear hw1; subst hw1s) | (go_at_call 148; refine HQ.out.mono ?_; rintro e w1 ⟨F1, rfl, M1⟩; have F := hide F1; have M := hide M1; clear F1 M1))
            go_end0
            exact ⟨F.out, by rw [hx1], M.out⟩
  · have eh : ((q.high : Int) == 0) = false := by simpa using hz
    have ehn : ((q.high : Int) != 0) = true := by simpa using hz
    by_cases h3 : q.number < 56320
    · have hq : endQ q = .inl 70 := by unfold endQ; rw [if_neg (fun e => hz e.1), if_pos ⟨hz, Or.inl h3⟩]
      rw [hq]
      have d2 : decide ((q.number : Int) < 56320) = true := by simp; omega
      clear hq h3 hnum hhig hz
      generalize (q.high : Int) = X at c8 eh ehn
      go_enter Tryz.func149, Tryz.ntmps149
      go_wp2_with fail
      exact ⟨rfl, RdF.refl, rfl, _, H.out.rd⟩
    · have d2 : decide ((q.number : Int) < 56320) = false := by simp; omega
      by_cases h4 : 57344 ≤ q.number
      · have hq : endQ q = .inl 70 := by unfold endQ; rw [if_neg (fun e => hz e.1), if_pos ⟨hz, Or.inr h4⟩]
        rw [hq]
        have d3 : decide ((57344 : Int) ≤ (q.number : Int)) = true := by simp; omega
        have d1 : decide ((55296 : Int) ≤ (q.number : Int)) = true := by simp; omega
        clear hq h3 h4 hnum hhig hz
        generalize (q.high : Int) = X at c8 eh ehn
        generalize (q.number : Int) = Y at c7 d1 d2 d3
        go_enter Tryz.func149, Tryz.ntmps149
        go_wp2_with fail
        exact ⟨rfl, RdF.refl, rfl, _, H.out.rd⟩
      · have d3 : decide ((57344 : Int) ≤ (q.number : Int)) = false := by simp; omega
        obtain ⟨b, hb⟩ : ∃ b : Nat, q.high = 55296 + b := ⟨q.high - 55296, by omega⟩
        have hb2 : b < 1024 := by omega
        have hB := hide (show 0 ≤ (q.high : Int) - 55296 ∧ (q.high : Int) - 55296 < 1024 by omega)
        have hw1 : IntKind.i64.wrap ((q.high : Int) - 55296) = (q.high : Int) - 55296 := by rw [IntKind.wrap_i64] <;> omega
        have k1 : IntKind.i64.wrap (((q.high : Int) - 55296) * 1024) = ((q.high : Int) - 55296) * 1024 := by rw [IntKind.wrap_i64] <;> omega
        have k2 : IntKind.i64.wrap (65536 + ((q.high : Int) - 55296) * 1024) = 65536 + ((q.high : Int) - 55296) * 1024 := by rw [IntKind.wrap_i64] <;> omega
        have k3 : IntKind.i64.wrap (65536 + ((q.high : Int) - 55296) * 1024 + (q.number : Int)) = 65536 + ((q.high : Int) - 55296) * 1024 + (q.number : Int) := by rw [IntKind.wrap_i64] <;> omega
        have k4 : IntKind.i64.wrap (65536 + ((q.high : Int) - 55296) * 1024 + (q.number : Int) - 56320) = 65536 + ((q.high : Int) - 55296) * 1024 + (q.number : Int) - 56320 := by rw [IntKind.wrap_i64] <;> omega
        have ht : twoN q = 65536 + ((q.high : Int) - 55296) * 1024 + (q.number : Int) - 56320 := by unfold twoN; rw [if_neg hz]
        have hend : endQ q = if Utf8.valid (twoN q) then holdQ { q with high := 0 } (bl (Utf8.encode (twoN q))) else .inl 70 := by unfold endQ; rw [if_neg (fun e => hz e.1), if_neg (fun e => e.2.elim h3 h4)]
        have EN := hide (fun w => Ut.encode_any (65536 + ((q.high : Int) - 55296) * 1024 + (q.number : Int) - 56320) w (by omega) (by omega))
        rw [ht] at hend
        have H2 := hide (H.out.seth 0 (Or.inl rfl))
        have HQ := hide (hold_q H2.out (Utf8.encode (65536 + ((q.high : Int) - 55296) * 1024 + (q.number : Int) - 56320)) (by have := encode_size_le (65536 + ((q.high : Int) - 55296) * 1024 + (q.number : Int) - 56320); omega))
        rw [hend]
        clear hnum hhig hb hb2 h3 h4 hend ht hB
        cases hv : Utf8.valid (65536 + ((q.high : Int) - 55296) * 1024 + (q.number : Int) - 56320)
        · rw [hv] at EN
          clear HQ
          have EN2 := hide (fun w => (EN.out w).mono (R' := fun e w' => e = .returned (.tuple #[.string ⟨#[]⟩, .int .i64 1]) ∧ w' = w) (fun e w' h => h))
          clear EN hv hz
          have EN := EN2
          clear EN2
          rw [if_neg (show ¬ (false = true) by decide)]
          have FF : Hid (RdF r v W (W.setCell ⟨r, 8, none⟩ (.int .i64 0))) := RdF.refl.set 8 _
          go_enter Tryz.func149, Tryz.ntmps149
          go_wp2_with (go_at_call 170; refine Sto.out ?_)
          clear k1 k2 k3 k4
          have EN3 := hide (EN.out (W.setCell ⟨r, 8, none⟩ (.int .i64 0)))
          clear EN c7 c8 f8
          refine Sto.mk ?_
          refine EN3.out.mono ?_
          rintro e w1 ⟨rfl, hw1⟩
          clear EN3
          have FF2 : Hid (RdF r v W w1 ∧ RdB w1 r (s.q { q with high := 0 } v)) := (by rw [hw1]; exact ⟨FF.out, H2.out.rd⟩)
          clear hw1 FF
          generalize 65536 + ((q.high : Int) - 55296) * 1024 + (q.number : Int) - 56320 = E0
          go_wp2_with fail
          exact ⟨rfl, FF2.out.1, rfl, _, FF2.out.2⟩
        · rw [hv] at EN
          rw [if_pos rfl]
          cases ho : holdQ { q with high := 0 } (bl (Utf8.encode (65536 + ((q.high : Int) - 55296) * 1024 + (q.number : Int) - 56320))) with
          | inl E =>
            rw [ho] at HQ
            go_enter Tryz.func149, Tryz.ntmps149
            go_wp2_with (first | (go_at_call 170; refine (EN.out _).mono ?_; rintro e w1 ⟨rfl, hw1⟩; have hw1s := hw1.symm; clear hw1; subst hw1s) | (go_at_call 148; refine HQ.out.mono ?_; rintro e w1 ⟨F1, rfl, M1⟩; have F := hide F1; have M := hide M1; clear F1 M1))
            exact ⟨rfl, F.out.pre8, rfl, M.out⟩
          | inr x =>
            rw [ho] at HQ
            have hx1 : x.1 = .tuple #[] := by unfold holdQ at ho; split at ho; · cases ho; rfl
                                              · cases ho
            go_enter Tryz.func149, Tryz.ntmps149
            go_wp2_with (first | (go_at_call 170; refine (EN.out _).mono ?_; rintro e w1 ⟨rfl, hw1⟩; have hw1s := hw1.symm; clear hw1; subst hw1s) | (go_at_call 148; refine HQ.out.mono ?_; rintro e w1 ⟨F1, rfl, M1⟩; have F := hide F1; have M := hide M1; clear F1 M1))
            go_end0
            obtain ⟨v1, M1, O1⟩ := M.out
            exact ⟨F.out.pre8, by rw [hx1], v1, M1, O1.imp id (fun f g hg => by have := f g hg; simpa using this)⟩
end
end Go.Proofs.YtoaacfhjejmbnaaGreatDoor
/- json's quoted: digit walked. -/
namespace Go.Proofs.YtoaacfhjejmbnaaGreatDoor
open Go.RowKit
set_option linter.unusedSimpArgs false
set_option linter.unusedVariables false
/-- What a digit tells. -/
def hxD (c : UInt8) : Option (Fin 16) :=
  if h : 48 ≤ c.toNat ∧ c.toNat ≤ 57 then some ⟨c.toNat - 48, by omega⟩ else if h : 97 ≤ c.toNat ∧ c.toNat ≤ 102 then some ⟨c.toNat - 87, by omega⟩ else none
def hxE : ByteArray := ⟨#[48, 49, 50, 51, 52, 53, 54, 55, 56, 57, 97, 98, 99, 100, 101, 102]⟩
set_option maxRecDepth 100000 in
set_option maxHeartbeats 2000000 in
theorem hx_idx_n : ∀ n, n < 256 → firstIdx hxE n.toUInt8 = (match hxD n.toUInt8 with | none => -1 | some i => (i.val : Int)) := by decide +kernel
theorem hx_idx (c : UInt8) : firstIdx hxE ((c.toNat : Int).toNat.toUInt8) = (match hxD c with | none => -1 | some i => (i.val : Int)) := by
  have h := hx_idx_n c.toNat c.toNat_lt
  have e : c.toNat.toUInt8 = c := by simp
  rw [Int.toNat_natCast, h, e]
/-- A digit, large letters made small. -/
def lowC (c : UInt8) : UInt8 := if 65 ≤ c.toNat ∧ c.toNat ≤ 70 then c + 32 else c
def digQ (q : Qa) (c : UInt8) : Sum Int (Value × Qa) :=
  match hxD (lowC c) with
  | none => .inl 70
  | some d =>
    let q1 : Qa := { q with digits := q.digits + 1, number := q.number * 16 + d.val }
    if q.digits = 3 then (match endQ q1 with | .inl E => .inl E | .inr x => .inr (.tuple #[], { x.2 with place := 1 })) else .inr (.tuple #[], q1)
theorem or16 (n d : Nat) (hn : n < 65536) (hd : d < 16) : bits .or .i64 ((n : Int) * 16) (d : Int) = ((n * 16 + d : Nat) : Int) := by
  have hx : n * 16 ||| d = n * 16 + d := nat_join 4 _ _ (Nat.mul_mod_left _ _) hd
  have e : (n : Int) * 16 = ((n * 16 : Nat) : Int) := by omega
  rw [e]
  show IntKind.i64.wrap ((BitVec.ofInt 64 ((n * 16 : Nat) : Int) ||| BitVec.ofInt 64 (d : Int)).toNat : Int) = _
  rw [BitVec.toNat_or, BitVec.ofInt_natCast, BitVec.ofInt_natCast, BitVec.toNat_ofNat, BitVec.toNat_ofNat, Nat.mod_eq_of_lt (by omega : n * 16 < 2 ^ 64), Nat.mod_eq_of_lt (by omega : d < 2 ^ 64), hx, IntKind.wrap_i64] <;> omega
section
variable {W W1 W2 : World} {r : Nat} {s : Rv} {q : Qa} {v : Value}
theorem QM.dg (h : QM W r s q v) (d : Nat) (hd : d < 16) (hq : q.digits < 4) : QM ((W.setCell ⟨r, 6, none⟩ (.int .i64 ((q.digits : Int) + 1))).setCell ⟨r, 7, none⟩ (.int .i64 ((q.number * 16 + d : Nat) : Int))) r s { q with digits := q.digits + 1, number := q.number * 16 + d } v :=
  ⟨(h.rd.set 6 (.int .i64 ((q.digits : Int) + 1)) (s.q { q with digits := q.digits + 1 } v) rfl).set 7 _ _ rfl, own_of h.own fun k hk _ => by
      have hkr : k ≠ r := by have := (World.ownsRow.lt h.own k hk).1; omega
      rw [Below.heap_setCell _ _ _ _ hkr, Below.heap_setCell _ _ _ _ hkr], h.len, (by
      show q.number * 16 + d < 16 ^ (q.digits + 1)
      have := h.num
      rw [Nat.pow_succ]
      omega), h.hig, (by show q.digits + 1 ≤ 4; omega)⟩
set_option maxRecDepth 20000 in
set_option maxHeartbeats 2000000 in
theorem digit_any (h : QM W r s q v) (hd : q.digits < 4) (c : UInt8) (hc : ¬ (65 ≤ c.toNat ∧ c.toNat ≤ 70)) : Calls Tryz.prog 111 #[.pointer (some ⟨r, 4, none⟩), .int .u8 c.toNat] W fun e w' => QP W r s v (digQ q c) e w' := by
  have H := hide h
  have hlt := h.rd.lt
  have hnum := h.num
  have c4 : W.cell? ⟨r, 4, none⟩ = some (.int .i64 q.place) := (h.rd.cell 4).trans rfl
  have c6 : W.cell? ⟨r, 6, none⟩ = some (.int .i64 q.digits) := (h.rd.cell 6).trans rfl
  have c7 : W.cell? ⟨r, 7, none⟩ = some (.int .i64 q.number) := (h.rd.cell 7).trans rfl
  have f4 : W.frozen? ⟨r, 4, none⟩ = false := h.rd.frz 4
  have f6 : W.frozen? ⟨r, 6, none⟩ = false := h.rd.frz 6
  have f7 : W.frozen? ⟨r, 7, none⟩ = false := h.rd.frz 7
  clear h
  have SI := hide (fun w => sib_any hxE c.toNat w)
  rw [hx_idx] at SI
  have hlow : lowC c = c := by unfold lowC; rw [if_neg hc]
  cases hi : hxD c with
  | none =>
    rw [hi] at SI
    have hq : digQ q c = .inl 70 := by unfold digQ; rw [hlow, hi]
    rw [hq]
    by_cases h65 : 65 ≤ c.toNat
    · have d1 : decide ((65 : Int) ≤ (c.toNat : Int)) = true := by simp; omega
      have d2 : decide ((c.toNat : Int) ≤ 70) = false := by simp; omega
      clear hi hq hlow hc h65 hnum hd
      go_enter Tryz.func111, Tryz.ntmps111
      go_wp2_with (go_at_call 80; refine (SI.out _).mono ?_; rintro e w1 ⟨rfl, hw1⟩; have hw1s := hw1.symm; clear hw1; subst hw1s)
      exact ⟨rfl, RdF.refl, rfl, _, H.out.rd⟩
    · have d1 : decide ((65 : Int) ≤ (c.toNat : Int)) = false := by simp; omega
      clear hi hq hlow hc h65 hnum hd
      go_enter Tryz.func111, Tryz.ntmps111
      go_wp2_with (go_at_call 80; refine (SI.out _).mono ?_; rintro e w1 ⟨rfl, hw1⟩; have hw1s := hw1.symm; clear hw1; subst hw1s)
      exact ⟨rfl, RdF.refl, rfl, _, H.out.rd⟩
  | some d =>
    rw [hi] at SI
    have hn4 : q.number < 65536 := H.out.num4
    have hd0 : decide ((d.val : Int) < 0) = false := by simp
    have w1 : IntKind.i64.wrap ((q.digits : Int) + 1) = (q.digits : Int) + 1 := by rw [IntKind.wrap_i64] <;> omega
    have w2 : IntKind.i64.wrap ((q.number : Int) * 16) = (q.number : Int) * 16 := by rw [IntKind.wrap_i64] <;> omega
    have hor : bits .or .i64 ((q.number : Int) * 16) (d.val : Int) = ((q.number * 16 + d.val : Nat) : Int) := or16 q.number d.val hn4 d.isLt
    have M2 := hide (H.out.dg d.val d.isLt hd)
    have EN := hide (endNumber_any M2.out)
    have hq : digQ q c = if q.digits = 3 then (match endQ { q with digits := q.digits + 1, number := q.number * 16 + d.val } with | .inl E => .inl E | .inr x => .inr (.tuple #[], { x.2 with place := 1 })) else .inr (.tuple #[], { q with digits := q.digits + 1, number := q.number * 16 + d.val }) := by unfold digQ; rw [hlow, hi]
    rw [hq]
    clear hq
    by_cases h3 : q.digits = 3
    · rw [if_pos h3]
      have e3 : ((q.digits : Int) + 1 == 4) = true := by simp; omega
      clear h3
      by_cases h65 : 65 ≤ c.toNat
      · have d1 : decide ((65 : Int) ≤ (c.toNat : Int)) = true := by simp; omega
        have d2 : decide ((c.toNat : Int) ≤ 70) = false := by simp; omega
        clear hi hlow hc h65 hnum hd hn4
        cases he : endQ { q with digits := q.digits + 1, number := q.number * 16 + d.val } with
        | inl E =>
          rw [he] at EN
          go_enter Tryz.func111, Tryz.ntmps111
          go_wp2_with (first | (go_at_call 80; refine (SI.out _).mono ?_; rintro e w1 ⟨rfl, hw1⟩; have hw1s := hw1.symm; clear hw1; subst hw1s) | (go_at_call 149; refine EN.out.mono ?_; rintro e w1 ⟨F1, rfl, M1⟩; have F := hide F1; have M := hide M1; clear F1 M1))
          exact ⟨rfl, F.out.pre8.pre8, rfl, M.out⟩
        | inr x =>
          rw [he] at EN
          go_enter Tryz.func111, Tryz.ntmps111
          go_wp2_with (first | (go_at_call 80; refine (SI.out _).mono ?_; rintro e w1 ⟨rfl, hw1⟩; have hw1s := hw1.symm; clear hw1; subst hw1s) | (go_at_call 149; refine EN.out.mono ?_; rintro e w1 ⟨F1, rfl, v1, M1, O1⟩; have F := hide F1; have M := hide M1; have O := hide O1; have d4 : w1.cell? ⟨r, 4, none⟩ = some (.int .i64 x.2.place) := (M1.rd.cell 4).trans rfl; have g4 : w1.frozen? ⟨r, 4, none⟩ = false := M1.rd.frz 4; clear F1 M1 O1))
          go_end0
          exact ⟨F.out.pre8.pre8.set 4 _, rfl, v1, M.out.setp 1, O.out.imp id (fun f g hg => by have := f g hg; simpa using this)⟩
      · have d1 : decide ((65 : Int) ≤ (c.toNat : Int)) = false := by simp; omega
        clear hi hlow hc h65 hnum hd hn4
        cases he : endQ { q with digits := q.digits + 1, number := q.number * 16 + d.val } with
        | inl E =>
          rw [he] at EN
          go_enter Tryz.func111, Tryz.ntmps111
          go_wp2_with (first | (go_at_call 80; refine (SI.out _).mono ?_; rintro e w1 ⟨rfl, hw1⟩; have hw1s := hw1.symm; clear hw1; subst hw1s) | (go_at_call 149; refine EN.out.mono ?_; rintro e w1 ⟨F1, rfl, M1⟩; have F := hide F1; have M := hide M1; clear F1 M1))
          exact ⟨rfl, F.out.pre8.pre8, rfl, M.out⟩
        | inr x =>
          rw [he] at EN
          go_enter Tryz.func111, Tryz.ntmps111
          go_wp2_with (first | (go_at_call 80; refine (SI.out _).mono ?_; rintro e w1 ⟨rfl, hw1⟩; have hw1s := hw1.symm; clear hw1; subst hw1s) | (go_at_call 149; refine EN.out.mono ?_; rintro e w1 ⟨F1, rfl, v1, M1, O1⟩; have F := hide F1; have M := hide M1; have O := hide O1; have d4 : w1.cell? ⟨r, 4, none⟩ = some (.int .i64 x.2.place) := (M1.rd.cell 4).trans rfl; have g4 : w1.frozen? ⟨r, 4, none⟩ = false := M1.rd.frz 4; clear F1 M1 O1))
          go_end0
          exact ⟨F.out.pre8.pre8.set 4 _, rfl, v1, M.out.setp 1, O.out.imp id (fun f g hg => by have := f g hg; simpa using this)⟩
    · rw [if_neg h3]
      have e3 : ((q.digits : Int) + 1 == 4) = false := by simp; omega
      clear h3
      by_cases h65 : 65 ≤ c.toNat
      · have d1 : decide ((65 : Int) ≤ (c.toNat : Int)) = true := by simp; omega
        have d2 : decide ((c.toNat : Int) ≤ 70) = false := by simp; omega
        clear hi hlow hc h65 hnum hd hn4 EN
        go_enter Tryz.func111, Tryz.ntmps111
        go_wp2_with (go_at_call 80; refine (SI.out _).mono ?_; rintro e w1 ⟨rfl, hw1⟩; have hw1s := hw1.symm; clear hw1; subst hw1s)
        go_end0
        exact ⟨(RdF.refl.set 6 _).set 7 _, rfl, v, M2.out, OB.refl _ _⟩
      · have d1 : decide ((65 : Int) ≤ (c.toNat : Int)) = false := by simp; omega
        clear hi hlow hc h65 hnum hd hn4 EN
        go_enter Tryz.func111, Tryz.ntmps111
        go_wp2_with (go_at_call 80; refine (SI.out _).mono ?_; rintro e w1 ⟨rfl, hw1⟩; have hw1s := hw1.symm; clear hw1; subst hw1s)
        go_end0
        exact ⟨(RdF.refl.set 6 _).set 7 _, rfl, v, M2.out, OB.refl _ _⟩
end
end Go.Proofs.YtoaacfhjejmbnaaGreatDoor
