/- Merged by program: YjMark, YvMark, YrChar. -/
import Derived.Test.YthodiandebahdaaGreatDoorZy27
import Derived.Test.YthodiandebahdaaGreatDoorYiShelf
namespace Go.Proofs.YthodiandebahdaaGreatDoor
open Go.RowKit
set_option linter.unusedSimpArgs false
set_option linter.unusedVariables false
set_option maxHeartbeats 8000000
def mkI (p:Nat×Int×Bool):Value:=if p.1=1 then .iface 127 (.agg (evs {zr p.2.1 with flag:=p.2.2})) else if p.1=2 then .iface 128 (.int .i64 p.2.1) else if p.1=3 then .iface 129 (.int .i64 p.2.1) else if p.1=4 then .iface 130 (.int .i64 p.2.1) else if p.1=5 then .iface 132 (.int .i64 p.2.1) else if p.1=6 then .iface 134 (.agg #[]) else .iface 131 (.int .i64 p.2.1)
def mkV (q:Option (Nat×Int×Bool)):Value:=q.elim .nilIface mkI
theorem ba_neq2 {s:ByteArray} {l:List UInt8} (h:¬ bl s=l):(s.toList==l)=false:=by
 rw [ByteArray.toList_eq]
 simpa [bl] using h
theorem mark_mNull (w:World):Calls Tryz.prog 87 #[.string ⟨#[60,110,117,108,108,47,62]⟩] w fun e w'=>e=.returned (mkI (1,1,false))∧Below w.heap.size w w':=by
 go_enter Tryz.func87, Tryz.ntmps87
 go_wp2_with fail
 go_ret
 exact ⟨rfl,by repeat (first|exact Below.refl _ _|refine Below.drew ?_|refine below_al ?_)⟩
theorem mark_mTrue (w:World):Calls Tryz.prog 87 #[.string ⟨#[60,116,114,117,101,47,62]⟩] w fun e w'=>e=.returned (mkI (1,2,true))∧Below w.heap.size w w':=by
 go_enter Tryz.func87, Tryz.ntmps87
 go_wp2_with fail
 go_ret
 exact ⟨rfl,by repeat (first|exact Below.refl _ _|refine Below.drew ?_|refine below_al ?_)⟩
theorem mark_mFalse (w:World):Calls Tryz.prog 87 #[.string ⟨#[60,102,97,108,115,101,47,62]⟩] w fun e w'=>e=.returned (mkI (1,2,false))∧Below w.heap.size w w':=by
 go_enter Tryz.func87, Tryz.ntmps87
 go_wp2_with fail
 go_ret
 exact ⟨rfl,by repeat (first|exact Below.refl _ _|refine Below.drew ?_|refine below_al ?_)⟩
theorem mark_mNum (w:World):Calls Tryz.prog 87 #[.string ⟨#[60,110,117,109,62]⟩] w fun e w'=>e=.returned (mkI (2,3,false))∧Below w.heap.size w w':=by
 go_enter Tryz.func87, Tryz.ntmps87
 go_wp2_with fail
 go_ret
 exact ⟨rfl,by repeat (first|exact Below.refl _ _|refine Below.drew ?_|refine below_al ?_)⟩
theorem mark_mNumE (w:World):Calls Tryz.prog 87 #[.string ⟨#[60,47,110,117,109,62]⟩] w fun e w'=>e=.returned (mkI (3,3,false))∧Below w.heap.size w w':=by
 go_enter Tryz.func87, Tryz.ntmps87
 go_wp2_with fail
 go_ret
 exact ⟨rfl,by repeat (first|exact Below.refl _ _|refine Below.drew ?_|refine below_al ?_)⟩
theorem mark_mFloat (w:World):Calls Tryz.prog 87 #[.string ⟨#[60,102,108,111,97,116,62]⟩] w fun e w'=>e=.returned (mkI (2,4,false))∧Below w.heap.size w w':=by
 go_enter Tryz.func87, Tryz.ntmps87
 go_wp2_with fail
 go_ret
 exact ⟨rfl,by repeat (first|exact Below.refl _ _|refine Below.drew ?_|refine below_al ?_)⟩
theorem mark_mFloatE (w:World):Calls Tryz.prog 87 #[.string ⟨#[60,47,102,108,111,97,116,62]⟩] w fun e w'=>e=.returned (mkI (3,4,false))∧Below w.heap.size w w':=by
 go_enter Tryz.func87, Tryz.ntmps87
 go_wp2_with fail
 go_ret
 exact ⟨rfl,by repeat (first|exact Below.refl _ _|refine Below.drew ?_|refine below_al ?_)⟩
theorem mark_mText (w:World):Calls Tryz.prog 87 #[.string ⟨#[60,116,101,120,116,62]⟩] w fun e w'=>e=.returned (mkI (2,5,false))∧Below w.heap.size w w':=by
 go_enter Tryz.func87, Tryz.ntmps87
 go_wp2_with fail
 go_ret
 exact ⟨rfl,by repeat (first|exact Below.refl _ _|refine Below.drew ?_|refine below_al ?_)⟩
theorem mark_mTextE (w:World):Calls Tryz.prog 87 #[.string ⟨#[60,47,116,101,120,116,62]⟩] w fun e w'=>e=.returned (mkI (3,5,false))∧Below w.heap.size w w':=by
 go_enter Tryz.func87, Tryz.ntmps87
 go_wp2_with fail
 go_ret
 exact ⟨rfl,by repeat (first|exact Below.refl _ _|refine Below.drew ?_|refine below_al ?_)⟩
theorem mark_mBytes (w:World):Calls Tryz.prog 87 #[.string ⟨#[60,98,121,116,101,115,62]⟩] w fun e w'=>e=.returned (mkI (2,6,false))∧Below w.heap.size w w':=by
 go_enter Tryz.func87, Tryz.ntmps87
 go_wp2_with fail
 go_ret
 exact ⟨rfl,by repeat (first|exact Below.refl _ _|refine Below.drew ?_|refine below_al ?_)⟩
theorem mark_mBytesE (w:World):Calls Tryz.prog 87 #[.string ⟨#[60,47,98,121,116,101,115,62]⟩] w fun e w'=>e=.returned (mkI (3,6,false))∧Below w.heap.size w w':=by
 go_enter Tryz.func87, Tryz.ntmps87
 go_wp2_with fail
 go_ret
 exact ⟨rfl,by repeat (first|exact Below.refl _ _|refine Below.drew ?_|refine below_al ?_)⟩
theorem mark_mList (w:World):Calls Tryz.prog 87 #[.string ⟨#[60,108,105,115,116,62]⟩] w fun e w'=>e=.returned (mkI (4,7,false))∧Below w.heap.size w w':=by
 go_enter Tryz.func87, Tryz.ntmps87
 go_wp2_with fail
 go_ret
 exact ⟨rfl,by repeat (first|exact Below.refl _ _|refine Below.drew ?_|refine below_al ?_)⟩
theorem mark_mListE (w:World):Calls Tryz.prog 87 #[.string ⟨#[60,47,108,105,115,116,62]⟩] w fun e w'=>e=.returned (mkI (7,7,false))∧Below w.heap.size w w':=by
 go_enter Tryz.func87, Tryz.ntmps87
 go_wp2_with fail
 go_ret
 exact ⟨rfl,by repeat (first|exact Below.refl _ _|refine Below.drew ?_|refine below_al ?_)⟩
theorem mark_mRec (w:World):Calls Tryz.prog 87 #[.string ⟨#[60,114,101,99,111,114,100,62]⟩] w fun e w'=>e=.returned (mkI (4,8,false))∧Below w.heap.size w w':=by
 go_enter Tryz.func87, Tryz.ntmps87
 go_wp2_with fail
 go_ret
 exact ⟨rfl,by repeat (first|exact Below.refl _ _|refine Below.drew ?_|refine below_al ?_)⟩
theorem mark_mRecE (w:World):Calls Tryz.prog 87 #[.string ⟨#[60,47,114,101,99,111,114,100,62]⟩] w fun e w'=>e=.returned (mkI (7,8,false))∧Below w.heap.size w w':=by
 go_enter Tryz.func87, Tryz.ntmps87
 go_wp2_with fail
 go_ret
 exact ⟨rfl,by repeat (first|exact Below.refl _ _|refine Below.drew ?_|refine below_al ?_)⟩
theorem mark_mField (w:World):Calls Tryz.prog 87 #[.string ⟨#[60,102,105,101,108,100,32,110,97,109,101,61,34]⟩] w fun e w'=>e=.returned (mkI (5,10,false))∧Below w.heap.size w w':=by
 go_enter Tryz.func87, Tryz.ntmps87
 go_wp2_with fail
 go_ret
 exact ⟨rfl,by repeat (first|exact Below.refl _ _|refine Below.drew ?_|refine below_al ?_)⟩
theorem mark_mFieldE (w:World):Calls Tryz.prog 87 #[.string ⟨#[60,47,102,105,101,108,100,62]⟩] w fun e w'=>e=.returned (mkI (7,10,false))∧Below w.heap.size w w':=by
 go_enter Tryz.func87, Tryz.ntmps87
 go_wp2_with fail
 go_ret
 exact ⟨rfl,by repeat (first|exact Below.refl _ _|refine Below.drew ?_|refine below_al ?_)⟩
theorem mark_mTag (w:World):Calls Tryz.prog 87 #[.string ⟨#[60,116,97,103,32,110,97,109,101,61,34]⟩] w fun e w'=>e=.returned (mkI (5,9,false))∧Below w.heap.size w w':=by
 go_enter Tryz.func87, Tryz.ntmps87
 go_wp2_with fail
 go_ret
 exact ⟨rfl,by repeat (first|exact Below.refl _ _|refine Below.drew ?_|refine below_al ?_)⟩
theorem mark_mTagE (w:World):Calls Tryz.prog 87 #[.string ⟨#[60,47,116,97,103,62]⟩] w fun e w'=>e=.returned (mkI (7,9,false))∧Below w.heap.size w w':=by
 go_enter Tryz.func87, Tryz.ntmps87
 go_wp2_with fail
 go_ret
 exact ⟨rfl,by repeat (first|exact Below.refl _ _|refine Below.drew ?_|refine below_al ?_)⟩
theorem mark_mNameE (w:World):Calls Tryz.prog 87 #[.string ⟨#[34,62]⟩] w fun e w'=>e=.returned (mkI (6,0,false))∧Below w.heap.size w w':=by
 go_enter Tryz.func87, Tryz.ntmps87
 go_wp2_with fail
 go_ret
 exact ⟨rfl,by repeat (first|exact Below.refl _ _|refine Below.drew ?_|refine below_al ?_)⟩
set_option maxRecDepth 100000 in
theorem mark_no (s:ByteArray) (w:World) (h0:¬ bl s=mNull) (h1:¬ bl s=mTrue) (h2:¬ bl s=mFalse) (h3:¬ bl s=mNum) (h4:¬ bl s=mNumE) (h5:¬ bl s=mFloat) (h6:¬ bl s=mFloatE) (h7:¬ bl s=mText) (h8:¬ bl s=mTextE) (h9:¬ bl s=mBytes) (h10:¬ bl s=mBytesE) (h11:¬ bl s=mList) (h12:¬ bl s=mListE) (h13:¬ bl s=mRec) (h14:¬ bl s=mRecE) (h15:¬ bl s=mField) (h16:¬ bl s=mFieldE) (h17:¬ bl s=mTag) (h18:¬ bl s=mTagE) (h19:¬ bl s=mNameE):Calls Tryz.prog 87 #[.string s] w fun e w'=>e=.returned .nilIface∧Below w.heap.size w w':=by
 have n0:=ba_neq2 h0
 have n1:=ba_neq2 h1
 have n2:=ba_neq2 h2
 have n3:=ba_neq2 h3
 have n4:=ba_neq2 h4
 have n5:=ba_neq2 h5
 have n6:=ba_neq2 h6
 have n7:=ba_neq2 h7
 have n8:=ba_neq2 h8
 have n9:=ba_neq2 h9
 have n10:=ba_neq2 h10
 have n11:=ba_neq2 h11
 have n12:=ba_neq2 h12
 have n13:=ba_neq2 h13
 have n14:=ba_neq2 h14
 have n15:=ba_neq2 h15
 have n16:=ba_neq2 h16
 have n17:=ba_neq2 h17
 have n18:=ba_neq2 h18
 have n19:=ba_neq2 h19
 simp only [mNull,mTrue,mFalse,mNum,mNumE,mFloat,mFloatE,mText,mTextE,mBytes,mBytesE,mList,mListE,mRec,mRecE,mField,mFieldE,mTag,mTagE,mNameE] at n0 n1 n2 n3 n4 n5 n6 n7 n8 n9 n10 n11 n12 n13 n14 n15 n16 n17 n18 n19
 clear h0 h1 h2 h3 h4 h5 h6 h7 h8 h9 h10 h11 h12 h13 h14 h15 h16 h17 h18 h19
 go_enter Tryz.func87, Tryz.ntmps87
 go_wp2_with fail
 go_ret
 exact ⟨rfl,by repeat (first|exact Below.refl _ _|refine Below.drew ?_|refine below_al ?_)⟩
theorem mark_q (s:ByteArray) (w:World):Calls Tryz.prog 87 #[.string s] w fun e w'=>e=.returned (mkV (mkOf (bl s)))∧Below w.heap.size w w':=by
 unfold mkOf
 by_cases h0:bl s=mNull
 ·rw [if_pos h0]
  have hs:s=⟨#[60,110,117,108,108,47,62]⟩:=by rw [←mkB_bl s,h0];rfl
  subst hs
  exact mark_mNull w
 rw [if_neg h0]
 by_cases h1:bl s=mTrue
 ·rw [if_pos h1]
  have hs:s=⟨#[60,116,114,117,101,47,62]⟩:=by rw [←mkB_bl s,h1];rfl
  subst hs
  exact mark_mTrue w
 rw [if_neg h1]
 by_cases h2:bl s=mFalse
 ·rw [if_pos h2]
  have hs:s=⟨#[60,102,97,108,115,101,47,62]⟩:=by rw [←mkB_bl s,h2];rfl
  subst hs
  exact mark_mFalse w
 rw [if_neg h2]
 by_cases h3:bl s=mNum
 ·rw [if_pos h3]
  have hs:s=⟨#[60,110,117,109,62]⟩:=by rw [←mkB_bl s,h3];rfl
  subst hs
  exact mark_mNum w
 rw [if_neg h3]
 by_cases h4:bl s=mNumE
 ·rw [if_pos h4]
  have hs:s=⟨#[60,47,110,117,109,62]⟩:=by rw [←mkB_bl s,h4];rfl
  subst hs
  exact mark_mNumE w
 rw [if_neg h4]
 by_cases h5:bl s=mFloat
 ·rw [if_pos h5]
  have hs:s=⟨#[60,102,108,111,97,116,62]⟩:=by rw [←mkB_bl s,h5];rfl
  subst hs
  exact mark_mFloat w
 rw [if_neg h5]
 by_cases h6:bl s=mFloatE
 ·rw [if_pos h6]
  have hs:s=⟨#[60,47,102,108,111,97,116,62]⟩:=by rw [←mkB_bl s,h6];rfl
  subst hs
  exact mark_mFloatE w
 rw [if_neg h6]
 by_cases h7:bl s=mText
 ·rw [if_pos h7]
  have hs:s=⟨#[60,116,101,120,116,62]⟩:=by rw [←mkB_bl s,h7];rfl
  subst hs
  exact mark_mText w
 rw [if_neg h7]
 by_cases h8:bl s=mTextE
 ·rw [if_pos h8]
  have hs:s=⟨#[60,47,116,101,120,116,62]⟩:=by rw [←mkB_bl s,h8];rfl
  subst hs
  exact mark_mTextE w
 rw [if_neg h8]
 by_cases h9:bl s=mBytes
 ·rw [if_pos h9]
  have hs:s=⟨#[60,98,121,116,101,115,62]⟩:=by rw [←mkB_bl s,h9];rfl
  subst hs
  exact mark_mBytes w
 rw [if_neg h9]
 by_cases h10:bl s=mBytesE
 ·rw [if_pos h10]
  have hs:s=⟨#[60,47,98,121,116,101,115,62]⟩:=by rw [←mkB_bl s,h10];rfl
  subst hs
  exact mark_mBytesE w
 rw [if_neg h10]
 by_cases h11:bl s=mList
 ·rw [if_pos h11]
  have hs:s=⟨#[60,108,105,115,116,62]⟩:=by rw [←mkB_bl s,h11];rfl
  subst hs
  exact mark_mList w
 rw [if_neg h11]
 by_cases h12:bl s=mListE
 ·rw [if_pos h12]
  have hs:s=⟨#[60,47,108,105,115,116,62]⟩:=by rw [←mkB_bl s,h12];rfl
  subst hs
  exact mark_mListE w
 rw [if_neg h12]
 by_cases h13:bl s=mRec
 ·rw [if_pos h13]
  have hs:s=⟨#[60,114,101,99,111,114,100,62]⟩:=by rw [←mkB_bl s,h13];rfl
  subst hs
  exact mark_mRec w
 rw [if_neg h13]
 by_cases h14:bl s=mRecE
 ·rw [if_pos h14]
  have hs:s=⟨#[60,47,114,101,99,111,114,100,62]⟩:=by rw [←mkB_bl s,h14];rfl
  subst hs
  exact mark_mRecE w
 rw [if_neg h14]
 by_cases h15:bl s=mField
 ·rw [if_pos h15]
  have hs:s=⟨#[60,102,105,101,108,100,32,110,97,109,101,61,34]⟩:=by rw [←mkB_bl s,h15];rfl
  subst hs
  exact mark_mField w
 rw [if_neg h15]
 by_cases h16:bl s=mFieldE
 ·rw [if_pos h16]
  have hs:s=⟨#[60,47,102,105,101,108,100,62]⟩:=by rw [←mkB_bl s,h16];rfl
  subst hs
  exact mark_mFieldE w
 rw [if_neg h16]
 by_cases h17:bl s=mTag
 ·rw [if_pos h17]
  have hs:s=⟨#[60,116,97,103,32,110,97,109,101,61,34]⟩:=by rw [←mkB_bl s,h17];rfl
  subst hs
  exact mark_mTag w
 rw [if_neg h17]
 by_cases h18:bl s=mTagE
 ·rw [if_pos h18]
  have hs:s=⟨#[60,47,116,97,103,62]⟩:=by rw [←mkB_bl s,h18];rfl
  subst hs
  exact mark_mTagE w
 rw [if_neg h18]
 by_cases h19:bl s=mNameE
 ·rw [if_pos h19]
  have hs:s=⟨#[34,62]⟩:=by rw [←mkB_bl s,h19];rfl
  subst hs
  exact mark_mNameE w
 rw [if_neg h19]
 exact mark_no s w h0 h1 h2 h3 h4 h5 h6 h7 h8 h9 h10 h11 h12 h13 h14 h15 h16 h17 h18 h19
section
variable {W W1 W2 : World} {r : Nat} {g : Tg} {m m1 : Xm} {st : Xs}
set_option maxRecDepth 100000 in
theorem tmark_2 (h:XM W r g m st) (k:Int) (hn:st.t.n≤199990):Calls Tryz.prog 88 #[.pointer (some ⟨r,0,none⟩),.iface 128 (.int .i64 k)] W fun q w'=>XP W r g m (if wantE st then .inl 100 else .inr {st with rk:=k}) q w':=by
 have H:=hide h
 have ta1:∀ w v,(Instr.typeAssert (.iface 128 v) 116 127 true).run Tryz.prog w=.ok (.tuple #[.agg #[.int .i64 0,.bool false,.bool false,.string ⟨#[]⟩,.int .i64 0,.int .u64 0,.string ⟨#[]⟩],.bool false]) w:=fun w v=>by kernel_rfl
 have ta2:∀ w v,(Instr.typeAssert (.iface 128 v) 116 128 true).run Tryz.prog w=.ok (.tuple #[v,.bool true]) w:=fun w v=>by kernel_rfl
 have WA:=hide (fun w (hb:Below W.heap.size W w)=>want_q (h.then hb) (by show st.t.n≤_;omega))
 unfold wantS at WA
 cases hw:wantE st with
 | true =>
  rw [hw] at WA
  simp only [if_true] at WA ⊢
  clear hw h
  go_enter Tryz.func88, Tryz.ntmps88
  go_wp2_with (go_at_call 105;refine (WA.out _ (by repeat (first|exact Below.refl _ _|refine Below.drew ?_|refine below_al ?_))).mono ?_;rintro q w1 hp;have K:=hide (XP.base H.out (by repeat (first|exact Below.refl _ _|refine Below.drew ?_|refine below_al ?_)) hp);obtain ⟨_,rfl,_⟩:=hp)
  exact ⟨rfl,K.out⟩
 | false =>
  rw [hw] at WA
  simp only [Bool.false_eq_true,if_false] at WA ⊢
  clear hw h
  go_enter Tryz.func88, Tryz.ntmps88
  go_wp2_with (go_at_call 105;refine (WA.out _ (by repeat (first|exact Below.refl _ _|refine Below.drew ?_|refine below_al ?_))).mono ?_;rintro q w1 ⟨hp1,rfl,m1,hp2,hp3⟩;have F1:Hid (XF g m W w1):=(XF.of (by repeat (first|exact Below.refl _ _|refine Below.drew ?_|refine below_al ?_)) H.out.low).trans (OMx.refl _ _) hp1;have M1:=hide hp2;have O1:Hid (OMx W m m1):=(OMx.refl _ _).trans hp3 (show Below W.heap.size W _ from (by repeat (first|exact Below.refl _ _|refine Below.drew ?_|refine below_al ?_))).size;have g2:w1.cell? ⟨r,2,none⟩=some (.int .i64 st.rk):=(hp2.rd.cell 2).trans rfl;have f2:w1.frozen? ⟨r,2,none⟩=false:=hp2.rd.frz 2;clear hp1 hp2 hp3)
  go_end0
  exact XP.trans F1.out O1.out (M1.out.setK k)
set_option maxRecDepth 100000 in
theorem tmark_3 (h:XM W r g m st) (k:Int) (hn:st.t.n≤199990):Calls Tryz.prog 88 #[.pointer (some ⟨r,0,none⟩),.iface 129 (.int .i64 k)] W fun q w'=>XP W r g m (endRowS st k) q w':=by
 have H:=hide h
 have ta1:∀ w v,(Instr.typeAssert (.iface 129 v) 116 127 true).run Tryz.prog w=.ok (.tuple #[.agg #[.int .i64 0,.bool false,.bool false,.string ⟨#[]⟩,.int .i64 0,.int .u64 0,.string ⟨#[]⟩],.bool false]) w:=fun w v=>by kernel_rfl
 have ta2:∀ w v,(Instr.typeAssert (.iface 129 v) 116 128 true).run Tryz.prog w=.ok (.tuple #[.int .i64 0,.bool false]) w:=fun w v=>by kernel_rfl
 have ta3:∀ w v,(Instr.typeAssert (.iface 129 v) 116 129 true).run Tryz.prog w=.ok (.tuple #[v,.bool true]) w:=fun w v=>by kernel_rfl
 have C:=hide (fun w (hb:Below W.heap.size W w)=>endRow_q (h.then hb) k (by show st.t.n≤_;omega))
 obtain ⟨o,ho⟩:∃ o,endRowS st k=o:=⟨_,rfl⟩
 rw [ho] at C ⊢
 clear ho h hn
 cases o with
 | inl E =>
  go_enter Tryz.func88, Tryz.ntmps88
  go_wp2_with (go_at_call 107;refine (C.out _ (by repeat (first|exact Below.refl _ _|refine Below.drew ?_|refine below_al ?_))).mono ?_;rintro q w9 hp;have K:=hide (XP.base H.out (by repeat (first|exact Below.refl _ _|refine Below.drew ?_|refine below_al ?_)) hp);obtain ⟨_,rfl,_⟩:=hp)
  exact ⟨rfl,K.out⟩
 | inr x =>
  go_enter Tryz.func88, Tryz.ntmps88
  go_wp2_with (go_at_call 107;refine (C.out _ (by repeat (first|exact Below.refl _ _|refine Below.drew ?_|refine below_al ?_))).mono ?_;rintro q w9 hp;have K:=hide (XP.base H.out (by repeat (first|exact Below.refl _ _|refine Below.drew ?_|refine below_al ?_)) hp);obtain ⟨_,rfl,_⟩:=hp)
  go_end0
  exact K.out
set_option maxRecDepth 100000 in
theorem tmark_4 (h:XM W r g m st) (k:Int) (hn:st.t.n≤199990):Calls Tryz.prog 88 #[.pointer (some ⟨r,0,none⟩),.iface 130 (.int .i64 k)] W fun q w'=>XP W r g m (if wantE st then .inl 100 else beginS st (zr k)) q w':=by
 have H:=hide h
 have ta1:∀ w v,(Instr.typeAssert (.iface 130 v) 116 127 true).run Tryz.prog w=.ok (.tuple #[.agg #[.int .i64 0,.bool false,.bool false,.string ⟨#[]⟩,.int .i64 0,.int .u64 0,.string ⟨#[]⟩],.bool false]) w:=fun w v=>by kernel_rfl
 have ta2:∀ w v,(Instr.typeAssert (.iface 130 v) 116 128 true).run Tryz.prog w=.ok (.tuple #[.int .i64 0,.bool false]) w:=fun w v=>by kernel_rfl
 have ta3:∀ w v,(Instr.typeAssert (.iface 130 v) 116 129 true).run Tryz.prog w=.ok (.tuple #[.int .i64 0,.bool false]) w:=fun w v=>by kernel_rfl
 have ta4:∀ w v,(Instr.typeAssert (.iface 130 v) 116 130 true).run Tryz.prog w=.ok (.tuple #[v,.bool true]) w:=fun w v=>by kernel_rfl
 have WA:=hide (fun w (hb:Below W.heap.size W w)=>want_q (h.then hb) (by show st.t.n≤_;omega))
 unfold wantS at WA
 cases hw:wantE st with
 | true =>
  rw [hw] at WA
  simp only [if_true] at WA ⊢
  clear hw h
  go_enter Tryz.func88, Tryz.ntmps88
  go_wp2_with (go_at_call 105;refine (WA.out _ (by repeat (first|exact Below.refl _ _|refine Below.drew ?_|refine below_al ?_))).mono ?_;rintro q w1 hp;have K:=hide (XP.base H.out (by repeat (first|exact Below.refl _ _|refine Below.drew ?_|refine below_al ?_)) hp);obtain ⟨_,rfl,_⟩:=hp)
  exact ⟨rfl,K.out⟩
 | false =>
  rw [hw] at WA
  simp only [Bool.false_eq_true,if_false] at WA ⊢
  clear hw h
  have C:=hide (fun w m1 (h1:XM w r g m1 st)=>begin_q h1 (zr k) (evZ0 k) (by omega))
  obtain ⟨o,ho⟩:∃ o,beginS st (zr k)=o:=⟨_,rfl⟩
  rw [ho] at C ⊢
  clear ho hn
  simp only [evs,zr,evE,evN,evNum,evFlag,evText,evFloat,evBytes,evTag] at C
  cases o with
  | inl E =>
   go_enter Tryz.func88, Tryz.ntmps88
   go_wp2_with (first|(go_at_call 105;refine (WA.out _ (by repeat (first|exact Below.refl _ _|refine Below.drew ?_|refine below_al ?_))).mono ?_;rintro q w1 ⟨hp1,rfl,m1,hp2,hp3⟩;have F1:Hid (XF g m W w1):=(XF.of (by repeat (first|exact Below.refl _ _|refine Below.drew ?_|refine below_al ?_)) H.out.low).trans (OMx.refl _ _) hp1;have M1:=hide hp2;have O1:Hid (OMx W m m1):=(OMx.refl _ _).trans hp3 (show Below W.heap.size W _ from (by repeat (first|exact Below.refl _ _|refine Below.drew ?_|refine below_al ?_))).size;have g2:w1.cell? ⟨r,2,none⟩=some (.int .i64 st.rk):=(hp2.rd.cell 2).trans rfl;have f2:w1.frozen? ⟨r,2,none⟩=false:=hp2.rd.frz 2;clear hp1 hp2 hp3)|(go_at_call 108;refine (C.out _ _ (M1.out.then (by repeat (first|exact Below.refl _ _|refine Below.drew ?_|refine below_al ?_)))).mono ?_;rintro q w9 hp;have K:=hide (XP.trans F1.out O1.out (XP.base M1.out (by repeat (first|exact Below.refl _ _|refine Below.drew ?_|refine below_al ?_)) hp));obtain ⟨_,rfl,_⟩:=hp))
   exact ⟨rfl,K.out⟩
  | inr x =>
   go_enter Tryz.func88, Tryz.ntmps88
   go_wp2_with (first|(go_at_call 105;refine (WA.out _ (by repeat (first|exact Below.refl _ _|refine Below.drew ?_|refine below_al ?_))).mono ?_;rintro q w1 ⟨hp1,rfl,m1,hp2,hp3⟩;have F1:Hid (XF g m W w1):=(XF.of (by repeat (first|exact Below.refl _ _|refine Below.drew ?_|refine below_al ?_)) H.out.low).trans (OMx.refl _ _) hp1;have M1:=hide hp2;have O1:Hid (OMx W m m1):=(OMx.refl _ _).trans hp3 (show Below W.heap.size W _ from (by repeat (first|exact Below.refl _ _|refine Below.drew ?_|refine below_al ?_))).size;have g2:w1.cell? ⟨r,2,none⟩=some (.int .i64 st.rk):=(hp2.rd.cell 2).trans rfl;have f2:w1.frozen? ⟨r,2,none⟩=false:=hp2.rd.frz 2;clear hp1 hp2 hp3)|(go_at_call 108;refine (C.out _ _ (M1.out.then (by repeat (first|exact Below.refl _ _|refine Below.drew ?_|refine below_al ?_)))).mono ?_;rintro q w9 hp;have K:=hide (XP.trans F1.out O1.out (XP.base M1.out (by repeat (first|exact Below.refl _ _|refine Below.drew ?_|refine below_al ?_)) hp));obtain ⟨_,rfl,_⟩:=hp))
   go_end0
   exact K.out
set_option maxRecDepth 100000 in
theorem tmark_5 (h:XM W r g m st) (k:Int) (hn:st.t.n≤199990):Calls Tryz.prog 88 #[.pointer (some ⟨r,0,none⟩),.iface 132 (.int .i64 k)] W fun q w'=>XP W r g m (beginNameS st k) q w':=by
 have H:=hide h
 have ta1:∀ w v,(Instr.typeAssert (.iface 132 v) 116 127 true).run Tryz.prog w=.ok (.tuple #[.agg #[.int .i64 0,.bool false,.bool false,.string ⟨#[]⟩,.int .i64 0,.int .u64 0,.string ⟨#[]⟩],.bool false]) w:=fun w v=>by kernel_rfl
 have ta2:∀ w v,(Instr.typeAssert (.iface 132 v) 116 128 true).run Tryz.prog w=.ok (.tuple #[.int .i64 0,.bool false]) w:=fun w v=>by kernel_rfl
 have ta3:∀ w v,(Instr.typeAssert (.iface 132 v) 116 129 true).run Tryz.prog w=.ok (.tuple #[.int .i64 0,.bool false]) w:=fun w v=>by kernel_rfl
 have ta4:∀ w v,(Instr.typeAssert (.iface 132 v) 116 130 true).run Tryz.prog w=.ok (.tuple #[.int .i64 0,.bool false]) w:=fun w v=>by kernel_rfl
 have ta5:∀ w v,(Instr.typeAssert (.iface 132 v) 116 132 true).run Tryz.prog w=.ok (.tuple #[v,.bool true]) w:=fun w v=>by kernel_rfl
 have C:=hide (fun w (hb:Below W.heap.size W w)=>beginName_q (h.then hb) k (by show st.t.n≤_;omega))
 obtain ⟨o,ho⟩:∃ o,beginNameS st k=o:=⟨_,rfl⟩
 rw [ho] at C ⊢
 clear ho h hn
 cases o with
 | inl E =>
  go_enter Tryz.func88, Tryz.ntmps88
  go_wp2_with (go_at_call 109;refine (C.out _ (by repeat (first|exact Below.refl _ _|refine Below.drew ?_|refine below_al ?_))).mono ?_;rintro q w9 hp;have K:=hide (XP.base H.out (by repeat (first|exact Below.refl _ _|refine Below.drew ?_|refine below_al ?_)) hp);obtain ⟨_,rfl,_⟩:=hp)
  exact ⟨rfl,K.out⟩
 | inr x =>
  go_enter Tryz.func88, Tryz.ntmps88
  go_wp2_with (go_at_call 109;refine (C.out _ (by repeat (first|exact Below.refl _ _|refine Below.drew ?_|refine below_al ?_))).mono ?_;rintro q w9 hp;have K:=hide (XP.base H.out (by repeat (first|exact Below.refl _ _|refine Below.drew ?_|refine below_al ?_)) hp);obtain ⟨_,rfl,_⟩:=hp)
  go_end0
  exact K.out
set_option maxRecDepth 100000 in
theorem tmark_6 (h:XM W r g m st)  (hn:st.t.n≤199990):Calls Tryz.prog 88 #[.pointer (some ⟨r,0,none⟩),.iface 134 (.agg #[])] W fun q w'=>XP W r g m (endNameS st) q w':=by
 have H:=hide h
 have ta1:∀ w v,(Instr.typeAssert (.iface 134 v) 116 127 true).run Tryz.prog w=.ok (.tuple #[.agg #[.int .i64 0,.bool false,.bool false,.string ⟨#[]⟩,.int .i64 0,.int .u64 0,.string ⟨#[]⟩],.bool false]) w:=fun w v=>by kernel_rfl
 have ta2:∀ w v,(Instr.typeAssert (.iface 134 v) 116 128 true).run Tryz.prog w=.ok (.tuple #[.int .i64 0,.bool false]) w:=fun w v=>by kernel_rfl
 have ta3:∀ w v,(Instr.typeAssert (.iface 134 v) 116 129 true).run Tryz.prog w=.ok (.tuple #[.int .i64 0,.bool false]) w:=fun w v=>by kernel_rfl
 have ta4:∀ w v,(Instr.typeAssert (.iface 134 v) 116 130 true).run Tryz.prog w=.ok (.tuple #[.int .i64 0,.bool false]) w:=fun w v=>by kernel_rfl
 have ta5:∀ w v,(Instr.typeAssert (.iface 134 v) 116 132 true).run Tryz.prog w=.ok (.tuple #[.int .i64 0,.bool false]) w:=fun w v=>by kernel_rfl
 have ta6:∀ w v,(Instr.typeAssert (.iface 134 v) 116 134 true).run Tryz.prog w=.ok (.tuple #[v,.bool true]) w:=fun w v=>by kernel_rfl
 have C:=hide (fun w (hb:Below W.heap.size W w)=>endName_q (h.then hb) (by show st.t.n≤_;omega))
 obtain ⟨o,ho⟩:∃ o,endNameS st=o:=⟨_,rfl⟩
 rw [ho] at C ⊢
 clear ho h hn
 cases o with
 | inl E =>
  go_enter Tryz.func88, Tryz.ntmps88
  go_wp2_with (go_at_call 110;refine (C.out _ (by repeat (first|exact Below.refl _ _|refine Below.drew ?_|refine below_al ?_))).mono ?_;rintro q w9 hp;have K:=hide (XP.base H.out (by repeat (first|exact Below.refl _ _|refine Below.drew ?_|refine below_al ?_)) hp);obtain ⟨_,rfl,_⟩:=hp)
  exact ⟨rfl,K.out⟩
 | inr x =>
  go_enter Tryz.func88, Tryz.ntmps88
  go_wp2_with (go_at_call 110;refine (C.out _ (by repeat (first|exact Below.refl _ _|refine Below.drew ?_|refine below_al ?_))).mono ?_;rintro q w9 hp;have K:=hide (XP.base H.out (by repeat (first|exact Below.refl _ _|refine Below.drew ?_|refine below_al ?_)) hp);obtain ⟨_,rfl,_⟩:=hp)
  go_end0
  exact K.out
set_option maxRecDepth 100000 in
theorem tmark_7 (h:XM W r g m st) (k:Int) (hk:k≠0) (hn:st.t.n≤199990):Calls Tryz.prog 88 #[.pointer (some ⟨r,0,none⟩),.iface 131 (.int .i64 k)] W fun q w'=>XP W r g m (endPartS st k) q w':=by
 have H:=hide h
 have ta1:∀ w v,(Instr.typeAssert (.iface 131 v) 116 127 true).run Tryz.prog w=.ok (.tuple #[.agg #[.int .i64 0,.bool false,.bool false,.string ⟨#[]⟩,.int .i64 0,.int .u64 0,.string ⟨#[]⟩],.bool false]) w:=fun w v=>by kernel_rfl
 have ta2:∀ w v,(Instr.typeAssert (.iface 131 v) 116 128 true).run Tryz.prog w=.ok (.tuple #[.int .i64 0,.bool false]) w:=fun w v=>by kernel_rfl
 have ta3:∀ w v,(Instr.typeAssert (.iface 131 v) 116 129 true).run Tryz.prog w=.ok (.tuple #[.int .i64 0,.bool false]) w:=fun w v=>by kernel_rfl
 have ta4:∀ w v,(Instr.typeAssert (.iface 131 v) 116 130 true).run Tryz.prog w=.ok (.tuple #[.int .i64 0,.bool false]) w:=fun w v=>by kernel_rfl
 have ta5:∀ w v,(Instr.typeAssert (.iface 131 v) 116 132 true).run Tryz.prog w=.ok (.tuple #[.int .i64 0,.bool false]) w:=fun w v=>by kernel_rfl
 have ta6:∀ w v,(Instr.typeAssert (.iface 131 v) 116 134 true).run Tryz.prog w=.ok (.tuple #[.agg #[],.bool false]) w:=fun w v=>by kernel_rfl
 have ta7:∀ w v,(Instr.typeAssert (.iface 131 v) 116 131 true).run Tryz.prog w=.ok (.tuple #[v,.bool true]) w:=fun w v=>by kernel_rfl
 have C:=hide (fun w (hb:Below W.heap.size W w)=>endPart_q (h.then hb) k hk (by show st.t.n≤_;omega))
 obtain ⟨o,ho⟩:∃ o,endPartS st k=o:=⟨_,rfl⟩
 rw [ho] at C ⊢
 clear ho h hn hk
 cases o with
 | inl E =>
  go_enter Tryz.func88, Tryz.ntmps88
  go_wp2_with (go_at_call 111;refine (C.out _ (by repeat (first|exact Below.refl _ _|refine Below.drew ?_|refine below_al ?_))).mono ?_;rintro q w9 hp;have K:=hide (XP.base H.out (by repeat (first|exact Below.refl _ _|refine Below.drew ?_|refine below_al ?_)) hp);obtain ⟨_,rfl,_⟩:=hp)
  exact ⟨rfl,K.out⟩
 | inr x =>
  go_enter Tryz.func88, Tryz.ntmps88
  go_wp2_with (go_at_call 111;refine (C.out _ (by repeat (first|exact Below.refl _ _|refine Below.drew ?_|refine below_al ?_))).mono ?_;rintro q w9 hp;have K:=hide (XP.base H.out (by repeat (first|exact Below.refl _ _|refine Below.drew ?_|refine below_al ?_)) hp);obtain ⟨_,rfl,_⟩:=hp)
  go_end0
  exact K.out
set_option maxRecDepth 100000 in
theorem tmark_1 (h:XM W r g m st) (k:Int) (b:Bool) (hn:st.t.n≤199990):Calls Tryz.prog 88 #[.pointer (some ⟨r,0,none⟩),.iface 127 (.agg (evs {zr k with flag:=b}))] W fun q w'=>XP W r g m (if wantE st then .inl 100 else elemS st {zr k with flag:=b}) q w':=by
 have H:=hide h
 have ta1:∀ w v,(Instr.typeAssert (.iface 127 v) 116 127 true).run Tryz.prog w=.ok (.tuple #[v,.bool true]) w:=fun w v=>by kernel_rfl
 have WA:=hide (fun w (hb:Below W.heap.size W w)=>want_q (h.then hb) (by show st.t.n≤_;omega))
 unfold wantS at WA
 cases hw:wantE st with
 | true =>
  rw [hw] at WA
  simp only [if_true] at WA ⊢
  clear hw h
  simp only [evs,zr]
  go_enter Tryz.func88, Tryz.ntmps88
  go_wp2_with (go_at_call 105;refine (WA.out _ (by repeat (first|exact Below.refl _ _|refine Below.drew ?_|refine below_al ?_))).mono ?_;rintro q w1 hp;have K:=hide (XP.base H.out (by repeat (first|exact Below.refl _ _|refine Below.drew ?_|refine below_al ?_)) hp);obtain ⟨_,rfl,_⟩:=hp)
  exact ⟨rfl,K.out⟩
 | false =>
  rw [hw] at WA
  simp only [Bool.false_eq_true,if_false] at WA ⊢
  clear hw h
  have C:=hide (fun w m1 (h1:XM w r g m1 st)=>elem_q h1 {zr k with flag:=b} (zFl k b) (by omega))
  obtain ⟨o,ho⟩:∃ o,elemS st {zr k with flag:=b}=o:=⟨_,rfl⟩
  rw [ho] at C ⊢
  clear ho hn
  simp only [evs,zr,evE,evN,evNum,evFlag,evText,evFloat,evBytes,evTag] at C
  cases o with
  | inl E =>
   simp only [evs,zr]
   go_enter Tryz.func88, Tryz.ntmps88
   go_wp2_with (first|(go_at_call 105;refine (WA.out _ (by repeat (first|exact Below.refl _ _|refine Below.drew ?_|refine below_al ?_))).mono ?_;rintro q w1 ⟨hp1,rfl,m1,hp2,hp3⟩;have F1:Hid (XF g m W w1):=(XF.of (by repeat (first|exact Below.refl _ _|refine Below.drew ?_|refine below_al ?_)) H.out.low).trans (OMx.refl _ _) hp1;have M1:=hide hp2;have O1:Hid (OMx W m m1):=(OMx.refl _ _).trans hp3 (show Below W.heap.size W _ from (by repeat (first|exact Below.refl _ _|refine Below.drew ?_|refine below_al ?_))).size;have g2:w1.cell? ⟨r,2,none⟩=some (.int .i64 st.rk):=(hp2.rd.cell 2).trans rfl;have f2:w1.frozen? ⟨r,2,none⟩=false:=hp2.rd.frz 2;have kb:=hp1.keep W.heap.size _ _ _ (heap_alloc_last W (.cells #[.int .i64 k,.bool b,.bool false,.string ⟨#[]⟩,.int .i64 0,.int .u64 0,.string ⟨#[]⟩] 127)) (by decide) (by decide) (by decide) (by decide) (by decide) (by decide) (by decide) (fun e=>by have:=(World.ownsRow.lt H.out.row.mark _ e).2;omega) (fun e=>by have:=(World.ownsRow.lt H.out.row.held _ e).2;omega) (fun e=>by have:=(World.ownsRow.lt H.out.row.ref _ e).2;omega) (H.out.t.nob (Nat.le_refl _));have k0:w1.cell? ⟨W.heap.size,0,none⟩=some (.int .i64 k):=(by simp [World.cell?,kb]);have k1:w1.cell? ⟨W.heap.size,1,none⟩=some (.bool b):=(by simp [World.cell?,kb]);have k2:w1.cell? ⟨W.heap.size,2,none⟩=some (.bool false):=(by simp [World.cell?,kb]);have k3:w1.cell? ⟨W.heap.size,3,none⟩=some (.string ⟨#[]⟩):=(by simp [World.cell?,kb]);have k4:w1.cell? ⟨W.heap.size,4,none⟩=some (.int .i64 0):=(by simp [World.cell?,kb]);have k5:w1.cell? ⟨W.heap.size,5,none⟩=some (.int .u64 0):=(by simp [World.cell?,kb]);have k6:w1.cell? ⟨W.heap.size,6,none⟩=some (.string ⟨#[]⟩):=(by simp [World.cell?,kb]);clear hp1 hp2 hp3)|(go_at_call 106;refine (C.out _ _ (M1.out.then (by repeat (first|exact Below.refl _ _|refine Below.drew ?_|refine below_al ?_)))).mono ?_;rintro q w9 hp;have K:=hide (XP.trans F1.out O1.out (XP.base M1.out (by repeat (first|exact Below.refl _ _|refine Below.drew ?_|refine below_al ?_)) hp));obtain ⟨_,rfl,_⟩:=hp))
   exact ⟨rfl,K.out⟩
  | inr x =>
   simp only [evs,zr]
   go_enter Tryz.func88, Tryz.ntmps88
   go_wp2_with (first|(go_at_call 105;refine (WA.out _ (by repeat (first|exact Below.refl _ _|refine Below.drew ?_|refine below_al ?_))).mono ?_;rintro q w1 ⟨hp1,rfl,m1,hp2,hp3⟩;have F1:Hid (XF g m W w1):=(XF.of (by repeat (first|exact Below.refl _ _|refine Below.drew ?_|refine below_al ?_)) H.out.low).trans (OMx.refl _ _) hp1;have M1:=hide hp2;have O1:Hid (OMx W m m1):=(OMx.refl _ _).trans hp3 (show Below W.heap.size W _ from (by repeat (first|exact Below.refl _ _|refine Below.drew ?_|refine below_al ?_))).size;have g2:w1.cell? ⟨r,2,none⟩=some (.int .i64 st.rk):=(hp2.rd.cell 2).trans rfl;have f2:w1.frozen? ⟨r,2,none⟩=false:=hp2.rd.frz 2;have kb:=hp1.keep W.heap.size _ _ _ (heap_alloc_last W (.cells #[.int .i64 k,.bool b,.bool false,.string ⟨#[]⟩,.int .i64 0,.int .u64 0,.string ⟨#[]⟩] 127)) (by decide) (by decide) (by decide) (by decide) (by decide) (by decide) (by decide) (fun e=>by have:=(World.ownsRow.lt H.out.row.mark _ e).2;omega) (fun e=>by have:=(World.ownsRow.lt H.out.row.held _ e).2;omega) (fun e=>by have:=(World.ownsRow.lt H.out.row.ref _ e).2;omega) (H.out.t.nob (Nat.le_refl _));have k0:w1.cell? ⟨W.heap.size,0,none⟩=some (.int .i64 k):=(by simp [World.cell?,kb]);have k1:w1.cell? ⟨W.heap.size,1,none⟩=some (.bool b):=(by simp [World.cell?,kb]);have k2:w1.cell? ⟨W.heap.size,2,none⟩=some (.bool false):=(by simp [World.cell?,kb]);have k3:w1.cell? ⟨W.heap.size,3,none⟩=some (.string ⟨#[]⟩):=(by simp [World.cell?,kb]);have k4:w1.cell? ⟨W.heap.size,4,none⟩=some (.int .i64 0):=(by simp [World.cell?,kb]);have k5:w1.cell? ⟨W.heap.size,5,none⟩=some (.int .u64 0):=(by simp [World.cell?,kb]);have k6:w1.cell? ⟨W.heap.size,6,none⟩=some (.string ⟨#[]⟩):=(by simp [World.cell?,kb]);clear hp1 hp2 hp3)|(go_at_call 106;refine (C.out _ _ (M1.out.then (by repeat (first|exact Below.refl _ _|refine Below.drew ?_|refine below_al ?_)))).mono ?_;rintro q w9 hp;have K:=hide (XP.trans F1.out O1.out (XP.base M1.out (by repeat (first|exact Below.refl _ _|refine Below.drew ?_|refine below_al ?_)) hp));obtain ⟨_,rfl,_⟩:=hp))
   go_end0
   exact K.out
theorem mkOf_ok {l:List UInt8} {p:Nat×Int×Bool} (h:mkOf l=some p):(1≤p.1∧p.1≤7)∧(p.1=7→p.2.1≠0):=by
 unfold mkOf at h
 by_cases e0:l=mNull
 ·rw [if_pos e0] at h
  cases Option.some.inj h
  exact ⟨by decide,by decide⟩
 rw [if_neg e0] at h
 by_cases e1:l=mTrue
 ·rw [if_pos e1] at h
  cases Option.some.inj h
  exact ⟨by decide,by decide⟩
 rw [if_neg e1] at h
 by_cases e2:l=mFalse
 ·rw [if_pos e2] at h
  cases Option.some.inj h
  exact ⟨by decide,by decide⟩
 rw [if_neg e2] at h
 by_cases e3:l=mNum
 ·rw [if_pos e3] at h
  cases Option.some.inj h
  exact ⟨by decide,by decide⟩
 rw [if_neg e3] at h
 by_cases e4:l=mNumE
 ·rw [if_pos e4] at h
  cases Option.some.inj h
  exact ⟨by decide,by decide⟩
 rw [if_neg e4] at h
 by_cases e5:l=mFloat
 ·rw [if_pos e5] at h
  cases Option.some.inj h
  exact ⟨by decide,by decide⟩
 rw [if_neg e5] at h
 by_cases e6:l=mFloatE
 ·rw [if_pos e6] at h
  cases Option.some.inj h
  exact ⟨by decide,by decide⟩
 rw [if_neg e6] at h
 by_cases e7:l=mText
 ·rw [if_pos e7] at h
  cases Option.some.inj h
  exact ⟨by decide,by decide⟩
 rw [if_neg e7] at h
 by_cases e8:l=mTextE
 ·rw [if_pos e8] at h
  cases Option.some.inj h
  exact ⟨by decide,by decide⟩
 rw [if_neg e8] at h
 by_cases e9:l=mBytes
 ·rw [if_pos e9] at h
  cases Option.some.inj h
  exact ⟨by decide,by decide⟩
 rw [if_neg e9] at h
 by_cases e10:l=mBytesE
 ·rw [if_pos e10] at h
  cases Option.some.inj h
  exact ⟨by decide,by decide⟩
 rw [if_neg e10] at h
 by_cases e11:l=mList
 ·rw [if_pos e11] at h
  cases Option.some.inj h
  exact ⟨by decide,by decide⟩
 rw [if_neg e11] at h
 by_cases e12:l=mListE
 ·rw [if_pos e12] at h
  cases Option.some.inj h
  exact ⟨by decide,by decide⟩
 rw [if_neg e12] at h
 by_cases e13:l=mRec
 ·rw [if_pos e13] at h
  cases Option.some.inj h
  exact ⟨by decide,by decide⟩
 rw [if_neg e13] at h
 by_cases e14:l=mRecE
 ·rw [if_pos e14] at h
  cases Option.some.inj h
  exact ⟨by decide,by decide⟩
 rw [if_neg e14] at h
 by_cases e15:l=mField
 ·rw [if_pos e15] at h
  cases Option.some.inj h
  exact ⟨by decide,by decide⟩
 rw [if_neg e15] at h
 by_cases e16:l=mFieldE
 ·rw [if_pos e16] at h
  cases Option.some.inj h
  exact ⟨by decide,by decide⟩
 rw [if_neg e16] at h
 by_cases e17:l=mTag
 ·rw [if_pos e17] at h
  cases Option.some.inj h
  exact ⟨by decide,by decide⟩
 rw [if_neg e17] at h
 by_cases e18:l=mTagE
 ·rw [if_pos e18] at h
  cases Option.some.inj h
  exact ⟨by decide,by decide⟩
 rw [if_neg e18] at h
 by_cases e19:l=mNameE
 ·rw [if_pos e19] at h
  cases Option.some.inj h
  exact ⟨by decide,by decide⟩
 rw [if_neg e19] at h
 cases h
theorem tmark_q (h:XM W r g m st) (p:Nat×Int×Bool) (hp:(1≤p.1∧p.1≤7)∧(p.1=7→p.2.1≠0)) (hn:st.t.n≤199990):Calls Tryz.prog 88 #[.pointer (some ⟨r,0,none⟩),mkI p] W fun q w'=>XP W r g m (markS st p) q w':=by
 obtain ⟨t,k,b⟩:=p
 simp only at hp
 have ht:t=1∨t=2∨t=3∨t=4∨t=5∨t=6∨t=7:=by omega
 rcases ht with rfl|rfl|rfl|rfl|rfl|rfl|rfl
 ·exact tmark_1 h k b hn
 ·exact tmark_2 h k hn
 ·exact tmark_3 h k hn
 ·exact tmark_4 h k hn
 ·exact tmark_5 h k hn
 ·exact tmark_6 h hn
 ·exact tmark_7 h k (hp.2 rfl) hn
end
theorem ext_list (s:ByteArray) (a b:Nat) (h:b≤s.size):(s.extract a b).toList=((bl s).take b).drop a:=by
 rw [ByteArray.toList_eq]
 simp [bl,ByteArray.data_extract,List.drop_take]
theorem bl_ext (s:ByteArray) (a b:Nat) (h:b≤s.size):bl (s.extract a b)=((bl s).take b).drop a:=by
 rw [←ext_list s a b h,ByteArray.toList_eq]
 rfl
theorem hpx_q (s:ByteArray) (w:World) (hs:s.size≤1000):Calls Tryz.prog 152 #[.string s,.string ⟨#[38,35,120]⟩] w fun e w'=>e=.returned (.bool ((bl s).take 3==[38,35,120]))∧w'=w:=by
 have hbl:=bl_length s
 by_cases h3:3≤s.size
 ·have hT:=ext_list s 0 3 h3
  rw [List.drop_zero] at hT
  obtain ⟨L,hL⟩:∃ L,(bl s).take 3=L:=⟨_,rfl⟩
  rw [hL] at hT ⊢
  have h1:(3:Int)≤(s.size:Int):=by omega
  clear hL hbl h3
  obtain ⟨S1,hS1⟩:∃ S1,s.extract 0 3=S1:=⟨_,rfl⟩
  rw [hS1] at hT
  go_enter Tryz.func152, Tryz.ntmps152
  go_wp2_with fail
  go_ret
  exact ⟨by first|rfl|simp,rfl⟩
 ·have h1:¬ (3:Int)≤(s.size:Int):=by omega
  have hf:((bl s).take 3==[38,35,120])=false:=by
   rw [List.take_of_length_le (by omega)]
   have:¬ bl s=[38,35,120]:=fun e=>by rw [e] at hbl;simp at hbl;omega
   simpa using this
  rw [hf]
  clear hf hbl h3
  go_enter Tryz.func152, Tryz.ntmps152
  go_wp2_with fail
  go_ret
  exact ⟨rfl,rfl⟩
theorem hsx_q (s:ByteArray) (w:World) (hs:s.size≤1000) (h0:(bl s).getLast?=some 59):Calls Tryz.prog 159 #[.string s,.string ⟨#[59]⟩] w fun e w'=>e=.returned (.bool true)∧w'=w:=by
 have hbl:=bl_length s
 have h1:1≤s.size:=by
  rw [←hbl]
  cases hb:bl s with
  | nil=>rw [hb] at h0;cases h0
  | cons a l=>simp
 have hT:(s.extract (s.size - 1) s.size).toList=[59]:=by
  rw [ext_list s _ _ (Nat.le_refl _),List.take_of_length_le (by omega)]
  rw [List.getLast?_eq_getElem?] at h0
  rw [List.drop_eq_getElem_cons (by omega)]
  have:=List.getElem?_eq_some_iff.1 h0
  obtain ⟨q,hq⟩:=this
  have e:(bl s)[s.size - 1]'(by omega)=59:=by rw [←hq];congr 1
  rw [e,List.drop_of_length_le (by omega)]
 have h1i:(1:Int)≤(s.size:Int):=by omega
 have hw:IntKind.i64.wrap ((s.size:Int) - 1)=(s.size:Int) - 1:=by rw [IntKind.wrap_i64] <;> omega
 have ht:((s.size:Int) - 1).toNat=s.size - 1:=by omega
 have hp:(0:Int)≤(s.size:Int) - 1:=by omega
 clear hbl h0 h1
 go_enter Tryz.func159, Tryz.ntmps159
 go_wp2_with fail
 go_ret
 exact ⟨rfl,rfl⟩
theorem cutp_q (s:ByteArray) (w:World) (hs:s.size≤1000):Calls Tryz.prog 112 #[.string s,.string ⟨#[38,35,120]⟩] w fun e w'=>e=(if (bl s).take 3=[38,35,120] then .returned (.tuple #[.string (s.extract 3 s.size),.bool true]) else .returned (.tuple #[.string s,.bool false]))∧w'=w:=by
 have HP:=hide (fun w=>hpx_q s w hs)
 have hI:Hid (∀ w,Calls Tryz.prog 133 #[.string s,.string ⟨#[38,35,120]⟩] w fun e w'=>e=(if (bl s).take 3=[38,35,120] then .returned (.tuple #[.string (s.extract 3 s.size),.bool true]) else .returned (.tuple #[.string s,.bool false]))∧w'=w):=by
  intro w
  by_cases h:(bl s).take 3=[38,35,120]
  ·rw [if_pos h]
   have h3:(3:Int)≤(s.size:Int):=by
    have:=congrArg List.length h
    rw [List.length_take,bl_length] at this
    simp at this
    omega
   have hb:((bl s).take 3==[38,35,120])=true:=by rw [h];rfl
   rw [hb] at HP
   clear h hb
   go_enter Tryz.func133, Tryz.ntmps133
   go_wp2_with (go_at_call 152;refine (HP.out _).mono ?_;rintro e w1 ⟨rfl,hw1⟩;have hws:=hw1.symm;clear hw1;subst hws)
   exact bodyPost_ret (v:=.tuple #[.string (s.extract 3 s.size),.bool true]) (by simp [results,Tryz.results133,go_sem]) rfl ⟨rfl,rfl⟩
  ·rw [if_neg h]
   have hb:((bl s).take 3==[38,35,120])=false:=by simpa using h
   rw [hb] at HP
   clear h hb
   go_enter Tryz.func133, Tryz.ntmps133
   go_wp2_with (go_at_call 152;refine (HP.out _).mono ?_;rintro e w1 ⟨rfl,hw1⟩;have hws:=hw1.symm;clear hw1;subst hws)
   exact bodyPost_ret (v:=.tuple #[.string s,.bool false]) (by simp [results,Tryz.results133,go_sem]) rfl ⟨rfl,rfl⟩
 obtain ⟨⟨S,b⟩,hq⟩:∃ p:ByteArray×Bool,(if (bl s).take 3=[38,35,120] then Ending.returned (.tuple #[.string (s.extract 3 s.size),.bool true]) else .returned (.tuple #[.string s,.bool false]))=.returned (.tuple #[.string p.1,.bool p.2]):=by
  by_cases h:(bl s).take 3=[38,35,120]
  ·exact ⟨(_,true),by rw [if_pos h]⟩
  ·exact ⟨(_,false),by rw [if_neg h]⟩
 rw [hq] at hI ⊢
 clear hq HP
 simp only at hI ⊢
 go_enter Tryz.func112, Tryz.ntmps112
 go_wp2_with (go_at_call 133;refine (hI.out _).mono ?_;rintro e w1 ⟨rfl,hw1⟩;have hws:=hw1.symm;clear hw1;subst hws)
 exact bodyPost_ret (v:=.tuple #[.string S,.bool b]) (by simp [results,Tryz.results112,go_sem]) rfl ⟨rfl,rfl⟩
theorem trims_q (s:ByteArray) (w:World) (hs:s.size≤1000) (h0:(bl s).getLast?=some 59):Calls Tryz.prog 114 #[.string s,.string ⟨#[59]⟩] w fun e w'=>e=.returned (.string (s.extract 0 (s.size - 1)))∧w'=w:=by
 have HS:=hide (fun w=>hsx_q s w hs h0)
 have h1:1≤s.size:=by
  rw [←bl_length]
  cases hb:bl s with
  | nil=>rw [hb] at h0;cases h0
  | cons a l=>simp
 have hI:Hid (∀ w,Calls Tryz.prog 136 #[.string s,.string ⟨#[59]⟩] w fun e w'=>e=.returned (.string (s.extract 0 (s.size - 1)))∧w'=w):=by
  intro w
  have hw:IntKind.i64.wrap ((s.size:Int) - 1)=(s.size:Int) - 1:=by rw [IntKind.wrap_i64] <;> omega
  have ht:((s.size:Int) - 1).toNat=s.size - 1:=by omega
  have hp:(0:Int)≤(s.size:Int) - 1:=by omega
  have hp2:(s.size:Int) - 1≤(s.size:Int):=by omega
  clear h0 h1
  go_enter Tryz.func136, Tryz.ntmps136
  go_wp2_with (go_at_call 159;refine (HS.out _).mono ?_;rintro e w1 ⟨rfl,hw1⟩;have hws:=hw1.symm;clear hw1;subst hws)
  go_ret
  exact ⟨rfl,rfl⟩
 clear h0 h1 HS
 obtain ⟨S,hS⟩:∃ S,s.extract 0 (s.size - 1)=S:=⟨_,rfl⟩
 rw [hS] at hI ⊢
 clear hS
 go_enter Tryz.func114, Tryz.ntmps114
 go_wp2_with (go_at_call 136;refine (hI.out _).mono ?_;rintro e w1 ⟨rfl,hw1⟩;have hws:=hw1.symm;clear hw1;subst hws)
 go_ret
 exact ⟨rfl,rfl⟩
end Go.Proofs.YthodiandebahdaaGreatDoor
