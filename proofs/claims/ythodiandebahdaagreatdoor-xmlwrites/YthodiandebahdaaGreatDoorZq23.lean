/- Merged by program: RfInt, RgPower, RhPrint, JgVal, YaBase. -/
import Derived.Test.YthodiandebahdaaGreatDoorRfShelf
import Derived.Lib.ItoaLen
import Derived.Test.YthodiandebahdaaGreatDoorZq17
namespace Go.Proofs.YthodiandebahdaaGreatDoor
open Go.RowKit
set_option linter.unusedSimpArgs false
set_option linter.unusedVariables false
set_option maxHeartbeats 8000000
section
open Go.Shelf Go.RowKit
abbrev Tab (B : Nat) (w : World) : Prop := Lib.TabBelow Tryz.prog B w "internal/strconv.uint64pow10" .u64 Lib.pow10Tab
theorem appendInt_any (B:Nat)(v:Value)(l:List UInt8)(n:Int)(w:World)(hown:Own w B v l)(hB:B≤w.heap.size)(hl:l.length≤1000)(h0:-100000≤n)(h1:n≤100000)(ht:Tab B w) :
  Calls Tryz.prog 100 #[v,.int .i64 n,.int .i64 10] w fun e w'=>∃ v',e=.returned v'∧Hid (Own w' B v' (l++Lib.itoa n))∧Hid (Below B w w'):=by
 refine (Any.strconv_AppendInt_10 laysAI B l.length n (by omega) (by omega) v (bcs l) w hown hB (by omega) ht).mono ?_
 rintro e w' ⟨v',rfl,h2,h3,_⟩
 refine ⟨v',rfl,?_,h3⟩
 show Own _ _ _ _
 unfold Own
 rw [bcs_append,List.length_append]
 exact h2
end
theorem appendPower_more (B:Nat)(v:Value)(l:List UInt8)(s:ByteArray)(p:Int)(w:World)(hown:Own w B v l)(hB:B≤w.heap.size)(hl:l.length≤100)(hs:1<s.size)(hs':s.size≤100)(hp0:-100000≤p)(hp1:p≤100000)(ht:Tab B w) :
  Calls Tryz.prog 74 #[v,.string s,.int .i64 p] w fun e w'=>∃ v',e=.returned v'∧Hid (Own w' B v' (l++powered (bl s) (Lib.itoa p)))∧Hid (Below B w w'):=by
 have hown:=hide hown
 have ht:=hide ht
 have hn:=hide (news_one w s[0] 5)
 have hsi:(1:Int)<s.size:=by omega
 have hfin:=hide (show l++powered (bl s) (Lib.itoa p)=l++[s[0]]++[46]++bl (s.extract 1 s.size)++[101]++Lib.itoa p by
  unfold powered;rw [bl_length,if_pos hs,drop_mkB,bl_mkB]
  have e:(bl s).take 1=[s[0]]:=by
   rw [List.take_one,head_bl s (by omega)];rfl
  rw [e];simp)
 have hx2:=hide (show (s.extract 1 s.size).size=s.size - 1 by rw [drop_mkB,mkB_size];simp [bl_length])
 have hx2b:=hide (show (bl (s.extract 1 s.size)).length=s.size - 1 by rw [bl_length];exact hx2.out)
 go_enter Tryz.func74, Tryz.ntmps74
 go_wp2_with (first|(at_builtin;refine app_bytes rfl (.tmp 7) (.tmp 10) rfl B _ l rfl (hown.out.alloc _) ⟨w.heap.size,0,none⟩ 1 1 [s[0]] rfl rfl hn.out (by omega) (by simp;omega) ?_;intro v1 w1 h1 h2 h3;simp at h3;have hn1:=hide (news_one w1 46 5);have hB1:B≤w1.heap.size:=(by omega))|(at_builtin;refine app_bytes rfl (.tmp 15) (.tmp 16) rfl B _ _ rfl (h1.out.alloc _) ⟨w1.heap.size,0,none⟩ 1 1 [46] rfl rfl hn1.out (by simp;omega) (by simp;omega) ?_;intro v2 w2 h4 h5 h6;simp at h6;have hB2:B≤w2.heap.size:=(by omega))|(at_builtin;refine app_str rfl (.tmp 18) (.tmp 20) rfl B _ _ rfl h4.out (s.extract 1 s.size) rfl (by rw [hx2.out];simp;omega) hB2 ?_;intro v3 w3 h7 h8 h9;have hn3:=hide (news_one w3 101 5);have hB3:B≤w3.heap.size:=(by omega))|(at_builtin;refine app_bytes rfl (.tmp 22) (.tmp 23) rfl B _ _ rfl (h7.out.alloc _) ⟨w3.heap.size,0,none⟩ 1 1 [101] rfl rfl hn3.out (by have:=hx2b.out;simp;omega) (by simp;omega) ?_;intro v4 w4 h10 h11 h12;simp at h12;have hB4:B≤w4.heap.size:=(by omega)))
 go_wp2_with fail
 have hb4:=hide (((((((Below.refl B w).alloc hB _).trans h2.out).alloc hB1 _).trans h5.out).trans h8.out).alloc hB3 _ |>.trans h11.out)
 go_fit (appendInt_any B v4 _ p w4 h10.out hB4 (by have:=hx2b.out;simp;omega) hp0 hp1 (ht.out.on hb4.out))
 rintro e w5 ⟨v5,rfl,h13,h14⟩
 go_wp2
 go_ret
 refine ⟨_,rfl,?_,?_⟩
 ·show Own _ _ _ _
  rw [hfin.out];exact h13.out
 ·exact (((((((Below.refl B w).alloc hB _).trans h2.out).alloc hB1 _).trans h5.out).trans h8.out).alloc hB3 _).trans (h11.out.trans h14.out)
theorem appendPower_one (B:Nat)(v:Value)(l:List UInt8)(s:ByteArray)(p:Int)(w:World)(hown:Own w B v l)(hB:B≤w.heap.size)(hl:l.length≤100)(hs:s.size=1)(hp0:-100000≤p)(hp1:p≤100000)(ht:Tab B w) :
  Calls Tryz.prog 74 #[v,.string s,.int .i64 p] w fun e w'=>∃ v',e=.returned v'∧Hid (Own w' B v' (l++powered (bl s) (Lib.itoa p)))∧Hid (Below B w w'):=by
 have hown:=hide hown
 have ht:=hide ht
 have hs0:0<s.size:=by omega
 have hn:=hide (news_one w s[0] 5)
 have hfin:=hide (show l++powered (bl s) (Lib.itoa p)=l++[s[0]]++[101]++Lib.itoa p by
  unfold powered;rw [bl_length,if_neg (by omega)]
  have e:(bl s).take 1=[s[0]]:=by
   rw [List.take_one,head_bl s (by omega)];rfl
  rw [e];simp)
 go_enter Tryz.func74, Tryz.ntmps74
 go_wp2_with (first|(at_builtin;refine app_bytes rfl (.tmp 7) (.tmp 10) rfl B _ l rfl (hown.out.alloc _) ⟨w.heap.size,0,none⟩ 1 1 [s[0]] rfl rfl hn.out (by omega) (by simp;omega) ?_;intro v1 w1 h1 h2 h3;simp at h3;have hn1:=hide (news_one w1 101 5);have hB1:B≤w1.heap.size:=(by omega))|(at_builtin;refine app_bytes rfl (.tmp 22) (.tmp 23) rfl B _ _ rfl (h1.out.alloc _) ⟨w1.heap.size,0,none⟩ 1 1 [101] rfl rfl hn1.out (by simp;omega) (by simp;omega) ?_;intro v4 w4 h10 h11 h12;simp at h12;have hB4:B≤w4.heap.size:=(by omega)))
 go_wp2_with fail
 have hb4:=hide (((((Below.refl B w).alloc hB _).trans h2.out).alloc hB1 _).trans h11.out)
 go_fit (appendInt_any B v4 _ p w4 h10.out hB4 (by simp;omega) hp0 hp1 (ht.out.on hb4.out))
 rintro e w5 ⟨v5,rfl,h13,h14⟩
 go_wp2
 go_ret
 refine ⟨_,rfl,?_,?_⟩
 ·show Own _ _ _ _
  rw [hfin.out];exact h13.out
 ·exact hb4.out.trans h14.out
theorem appendPower_any (B:Nat)(v:Value)(l:List UInt8)(s:ByteArray)(p:Int)(w:World)(hown:Own w B v l)(hB:B≤w.heap.size)(hl:l.length≤100)(hs:0<s.size)(hs':s.size≤100)(hp0:-100000≤p)(hp1:p≤100000)(ht:Tab B w) :
  Calls Tryz.prog 74 #[v,.string s,.int .i64 p] w fun e w'=>∃ v',e=.returned v'∧Hid (Own w' B v' (l++powered (bl s) (Lib.itoa p)))∧Hid (Below B w w'):=by
 by_cases h:1<s.size
 ·exact appendPower_more B v l s p w hown hB hl h hs' hp0 hp1 ht
 ·exact appendPower_one B v l s p w hown hB hl (by omega) hp0 hp1 ht
def printL (n:Bool)(l:List UInt8)(x:Int):List UInt8 :=
 sgnB n++(if 0≤x∧(l.length:Int)+x≤21 then l++List.replicate x.toNat 48 else if x<0∧-21≤x then pointed l (-x).toNat else powered l (Lib.itoa (x+l.length - 1)))
theorem Tab.up {B B':Nat} {w:World} (h:Tab B w)(hb:B≤B'):Tab B' w:=fun W hW=>h W (hW.mono hb)
theorem print_no (n:Bool)(s:ByteArray)(x:Int)(w:World)(hs:s.size≤100000)(h:isN n s x=false) :
  Calls Tryz.prog 42 #[.agg #[.bool n,.string s,.int .i64 x]] w fun e w'=>e=.returned (.tuple #[.string ⟨#[]⟩,.int .i64 10])∧Below w.heap.size w w':=by
 have ml:maxLen=2 ^ 63 - 1:=rfl
 have hB:=hide (box_new w n s x)
 go_enter Tryz.func42, Tryz.ntmps42
 go_wp2_with fail
 refine (check_no n s _ _ (by omega) h).mono ?_
 rintro e w1 ⟨rfl,hb1⟩
 have hb:=hide (below_alloc hb1)
 clear hb1 hB
 go_wp2
 go_ret2
 exact ⟨rfl,hb.out⟩
theorem print_plain_false (s:ByteArray)(x:Int)(w:World)(h:isN false s x=true)(hx0:0≤x)(hx21:(s.size:Int)+x≤21)(ht:Tab w.heap.size w) :
  Calls Tryz.prog 42 #[.agg #[.bool false,.string s,.int .i64 x]] w fun e w'=>e=.returned (.tuple #[.string (mkB ((bl s++List.replicate x.toNat 48))),.int .i64 0])∧Below w.heap.size w w':=by
 have ml:maxLen=2 ^ 63 - 1:=rfl
 have ht:=hide ht
 obtain ⟨had,hl1,hl40,hx1,hx2,hdg⟩:=isN_all h
 clear had hdg
 have hB:=hide (box_new w false s x)
 have hg0:decide ((0:Int)≤x)=true:=decide_eq_true hx0
 have hg1:decide ((s.size:Int)+x≤21)=true:=decide_eq_true hx21
 go_enter Tryz.func42, Tryz.ntmps42
 go_wp2_with fail
 refine (check_ok false s _ _ (by omega) h).mono ?_
 rintro e w1 ⟨rfl,hb1⟩
 have hB1:=hide (hB.out.below hb1 (by simp))
 have hlw:=hB1.out.lt
 obtain ⟨c0,c1,c2,f0,f1,f2⟩:=hB1.out.cells
 have hb:=hide (below_alloc hb1)
 clear hb1 hB
 have ht1:Hid (Tab w1.heap.size w1):=Tab.up (ht.out.on hb.out) hb.out.size
 go_wp2_with (first|(at_builtin;refine app_str rfl _ _ rfl w1.heap.size _ [] rfl (own_nil _ _) s rfl (by simp;omega) (by have:=(Below.refl w1.heap.size w1).size;omega) ?_;intro v3 w3 h5 h6 h7;have hb3:=hide ((Below.refl w1.heap.size w1).trans h6.out);have hB3:=hide (hB1.out.below hb3.out hlw);have hl3:=hB3.out.lt;obtain ⟨k0,k1,k2,m0,m1,m2⟩:=hB3.out.cells))
 go_wp2_with fail
 go_fit (appendNoughts_any w1.heap.size v3 ([]++bl s) x w3 h5.out (by have:=hb3.out.size;omega) (by simp [bl_length];omega) (by omega))
 rintro e w4 ⟨v4,rfl,h8,h9⟩
 have hcv:=own_conv h8.out
 have hbz:=hide (hb3.out.trans h9.out)
 rw [List.nil_append] at hcv
 go_wp2
 go_ret2
 exact ⟨rfl,hb.out.trans (hbz.out.mono hb.out.size)⟩
theorem print_point_false (s:ByteArray)(x:Int)(w:World)(h:isN false s x=true)(hx0:x<0)(hx21:-21≤x)(ht:Tab w.heap.size w) :
  Calls Tryz.prog 42 #[.agg #[.bool false,.string s,.int .i64 x]] w fun e w'=>e=.returned (.tuple #[.string (mkB ((pointed (bl s) (-x).toNat))),.int .i64 0])∧Below w.heap.size w w':=by
 have ml:maxLen=2 ^ 63 - 1:=rfl
 have ht:=hide ht
 obtain ⟨had,hl1,hl40,hx1,hx2,hdg⟩:=isN_all h
 clear had hdg
 have hB:=hide (box_new w false s x)
 obtain ⟨bh,hbh⟩:∃ bh:Nat,x=-(bh:Int):=⟨(-x).toNat,by omega⟩
 subst hbh
 have hbn:(- -(bh:Int))=(bh:Int):=by omega
 have hg0:decide ((0:Int)≤-(bh:Int))=false:=decide_eq_false (by omega)
 rw [hbn,Int.toNat_natCast]
 go_enter Tryz.func42, Tryz.ntmps42
 go_wp2_with fail
 refine (check_ok false s _ _ (by omega) h).mono ?_
 rintro e w1 ⟨rfl,hb1⟩
 have hB1:=hide (hB.out.below hb1 (by simp))
 have hlw:=hB1.out.lt
 obtain ⟨c0,c1,c2,f0,f1,f2⟩:=hB1.out.cells
 have hb:=hide (below_alloc hb1)
 clear hb1 hB
 have ht1:Hid (Tab w1.heap.size w1):=Tab.up (ht.out.on hb.out) hb.out.size
 go_wp2_with fail
 go_fit (appendPointed_any w1.heap.size (.slice none 0 0) [] s bh w1 (own_nil _ _) (by have:=(Below.refl w1.heap.size w1).size;omega) (by simp) (by omega) (by omega))
 rintro e w4 ⟨v4,rfl,h8,h9⟩
 have hcv:=own_conv h8.out
 have hbz:=hide ((Below.refl w1.heap.size w1).trans h9.out)
 rw [List.nil_append] at hcv
 go_wp2
 go_ret2
 exact ⟨rfl,hb.out.trans (hbz.out.mono hb.out.size)⟩
theorem print_up_false (s:ByteArray)(x:Int)(w:World)(h:isN false s x=true)(hx0:0≤x)(hx21:21<(s.size:Int)+x)(ht:Tab w.heap.size w) :
  Calls Tryz.prog 42 #[.agg #[.bool false,.string s,.int .i64 x]] w fun e w'=>e=.returned (.tuple #[.string (mkB ((powered (bl s) (Lib.itoa (x+s.size - 1))))),.int .i64 0])∧Below w.heap.size w w':=by
 have ml:maxLen=2 ^ 63 - 1:=rfl
 have ht:=hide ht
 obtain ⟨had,hl1,hl40,hx1,hx2,hdg⟩:=isN_all h
 clear had hdg
 have hB:=hide (box_new w false s x)
 have hg0:decide ((0:Int)≤x)=true:=decide_eq_true hx0
 have hg1:decide ((s.size:Int)+x≤21)=false:=decide_eq_false (by omega)
 have hg2:decide (x<0)=false:=decide_eq_false (by omega)
 go_enter Tryz.func42, Tryz.ntmps42
 go_wp2_with fail
 refine (check_ok false s _ _ (by omega) h).mono ?_
 rintro e w1 ⟨rfl,hb1⟩
 have hB1:=hide (hB.out.below hb1 (by simp))
 have hlw:=hB1.out.lt
 obtain ⟨c0,c1,c2,f0,f1,f2⟩:=hB1.out.cells
 have hb:=hide (below_alloc hb1)
 clear hb1 hB
 have ht1:Hid (Tab w1.heap.size w1):=Tab.up (ht.out.on hb.out) hb.out.size
 go_wp2_with fail
 go_fit (appendPower_any w1.heap.size (.slice none 0 0) [] s (x+s.size - 1) w1 (own_nil _ _) (by have:=(Below.refl w1.heap.size w1).size;omega) (by simp) (by omega) (by omega) (by omega) (by omega) (Lib.TabBelow.on ht1.out (Below.refl w1.heap.size w1)))
 rintro e w4 ⟨v4,rfl,h8,h9⟩
 have hcv:=own_conv h8.out
 have hbz:=hide ((Below.refl w1.heap.size w1).trans h9.out)
 rw [List.nil_append] at hcv
 go_wp2
 go_ret2
 exact ⟨rfl,hb.out.trans (hbz.out.mono hb.out.size)⟩
theorem print_down_false (s:ByteArray)(x:Int)(w:World)(h:isN false s x=true)(hx0:x<0)(hx21:x < -21)(ht:Tab w.heap.size w) :
  Calls Tryz.prog 42 #[.agg #[.bool false,.string s,.int .i64 x]] w fun e w'=>e=.returned (.tuple #[.string (mkB ((powered (bl s) (Lib.itoa (x+s.size - 1))))),.int .i64 0])∧Below w.heap.size w w':=by
 have ml:maxLen=2 ^ 63 - 1:=rfl
 have ht:=hide ht
 obtain ⟨had,hl1,hl40,hx1,hx2,hdg⟩:=isN_all h
 clear had hdg
 have hB:=hide (box_new w false s x)
 have hg0:decide ((0:Int)≤x)=false:=decide_eq_false (by omega)
 have hg1:decide (x<0)=true:=decide_eq_true hx0
 have hg2:decide (-x≤21)=false:=decide_eq_false (by omega)
 go_enter Tryz.func42, Tryz.ntmps42
 go_wp2_with fail
 refine (check_ok false s _ _ (by omega) h).mono ?_
 rintro e w1 ⟨rfl,hb1⟩
 have hB1:=hide (hB.out.below hb1 (by simp))
 have hlw:=hB1.out.lt
 obtain ⟨c0,c1,c2,f0,f1,f2⟩:=hB1.out.cells
 have hb:=hide (below_alloc hb1)
 clear hb1 hB
 have ht1:Hid (Tab w1.heap.size w1):=Tab.up (ht.out.on hb.out) hb.out.size
 go_wp2_with fail
 go_fit (appendPower_any w1.heap.size (.slice none 0 0) [] s (x+s.size - 1) w1 (own_nil _ _) (by have:=(Below.refl w1.heap.size w1).size;omega) (by simp) (by omega) (by omega) (by omega) (by omega) (Lib.TabBelow.on ht1.out (Below.refl w1.heap.size w1)))
 rintro e w4 ⟨v4,rfl,h8,h9⟩
 have hcv:=own_conv h8.out
 have hbz:=hide ((Below.refl w1.heap.size w1).trans h9.out)
 rw [List.nil_append] at hcv
 go_wp2
 go_ret2
 exact ⟨rfl,hb.out.trans (hbz.out.mono hb.out.size)⟩
theorem print_plain_true (s:ByteArray)(x:Int)(w:World)(h:isN true s x=true)(hx0:0≤x)(hx21:(s.size:Int)+x≤21)(ht:Tab w.heap.size w) :
  Calls Tryz.prog 42 #[.agg #[.bool true,.string s,.int .i64 x]] w fun e w'=>e=.returned (.tuple #[.string (mkB ([45]++(bl s++List.replicate x.toNat 48))),.int .i64 0])∧Below w.heap.size w w':=by
 have ml:maxLen=2 ^ 63 - 1:=rfl
 have ht:=hide ht
 obtain ⟨had,hl1,hl40,hx1,hx2,hdg⟩:=isN_all h
 clear had hdg
 have hB:=hide (box_new w true s x)
 have hg0:decide ((0:Int)≤x)=true:=decide_eq_true hx0
 have hg1:decide ((s.size:Int)+x≤21)=true:=decide_eq_true hx21
 go_enter Tryz.func42, Tryz.ntmps42
 go_wp2_with fail
 refine (check_ok true s _ _ (by omega) h).mono ?_
 rintro e w1 ⟨rfl,hb1⟩
 have hB1:=hide (hB.out.below hb1 (by simp))
 have hlw:=hB1.out.lt
 obtain ⟨c0,c1,c2,f0,f1,f2⟩:=hB1.out.cells
 have hb:=hide (below_alloc hb1)
 clear hb1 hB
 have ht1:Hid (Tab w1.heap.size w1):=Tab.up (ht.out.on hb.out) hb.out.size
 have hn1:=hide (news_one w1 45 5)
 go_wp2_with (first|(at_builtin;refine app_bytes rfl _ _ rfl w1.heap.size _ [] rfl ((own_nil _ _).alloc _) ⟨w1.heap.size,0,none⟩ 1 1 [45] rfl rfl hn1.out (by simp) (by simp) ?_;intro v2 w2 h2 h3 h4;simp at h4;have hb2:=hide (((Below.refl w1.heap.size w1).alloc (Nat.le_refl _) _).trans h3.out);have hB2:=hide (hB1.out.below hb2.out hlw);have hl2:=hB2.out.lt;obtain ⟨d0,d1,d2,g0,g1,g2⟩:=hB2.out.cells)|(at_builtin;refine app_str rfl _ _ rfl w1.heap.size _ [45] rfl h2.out s rfl (by simp;omega) (by have:=hb2.out.size;omega) ?_;intro v3 w3 h5 h6 h7;have hb3:=hide (hb2.out.trans h6.out);have hB3:=hide (hB1.out.below hb3.out hlw);have hl3:=hB3.out.lt;obtain ⟨k0,k1,k2,m0,m1,m2⟩:=hB3.out.cells))
 go_wp2_with fail
 go_fit (appendNoughts_any w1.heap.size v3 ([45]++bl s) x w3 h5.out (by have:=hb3.out.size;omega) (by simp [bl_length];omega) (by omega))
 rintro e w4 ⟨v4,rfl,h8,h9⟩
 have hcv:=own_conv h8.out
 have hbz:=hide (hb3.out.trans h9.out)
 rw [List.append_assoc] at hcv
 go_wp2
 go_ret2
 exact ⟨rfl,hb.out.trans (hbz.out.mono hb.out.size)⟩
theorem print_point_true (s:ByteArray)(x:Int)(w:World)(h:isN true s x=true)(hx0:x<0)(hx21:-21≤x)(ht:Tab w.heap.size w) :
  Calls Tryz.prog 42 #[.agg #[.bool true,.string s,.int .i64 x]] w fun e w'=>e=.returned (.tuple #[.string (mkB ([45]++(pointed (bl s) (-x).toNat))),.int .i64 0])∧Below w.heap.size w w':=by
 have ml:maxLen=2 ^ 63 - 1:=rfl
 have ht:=hide ht
 obtain ⟨had,hl1,hl40,hx1,hx2,hdg⟩:=isN_all h
 clear had hdg
 have hB:=hide (box_new w true s x)
 obtain ⟨bh,hbh⟩:∃ bh:Nat,x=-(bh:Int):=⟨(-x).toNat,by omega⟩
 subst hbh
 have hbn:(- -(bh:Int))=(bh:Int):=by omega
 have hg0:decide ((0:Int)≤-(bh:Int))=false:=decide_eq_false (by omega)
 rw [hbn,Int.toNat_natCast]
 go_enter Tryz.func42, Tryz.ntmps42
 go_wp2_with fail
 refine (check_ok true s _ _ (by omega) h).mono ?_
 rintro e w1 ⟨rfl,hb1⟩
 have hB1:=hide (hB.out.below hb1 (by simp))
 have hlw:=hB1.out.lt
 obtain ⟨c0,c1,c2,f0,f1,f2⟩:=hB1.out.cells
 have hb:=hide (below_alloc hb1)
 clear hb1 hB
 have ht1:Hid (Tab w1.heap.size w1):=Tab.up (ht.out.on hb.out) hb.out.size
 have hn1:=hide (news_one w1 45 5)
 go_wp2_with (first|(at_builtin;refine app_bytes rfl _ _ rfl w1.heap.size _ [] rfl ((own_nil _ _).alloc _) ⟨w1.heap.size,0,none⟩ 1 1 [45] rfl rfl hn1.out (by simp) (by simp) ?_;intro v2 w2 h2 h3 h4;simp at h4;have hb2:=hide (((Below.refl w1.heap.size w1).alloc (Nat.le_refl _) _).trans h3.out);have hB2:=hide (hB1.out.below hb2.out hlw);have hl2:=hB2.out.lt;obtain ⟨d0,d1,d2,g0,g1,g2⟩:=hB2.out.cells))
 go_wp2_with fail
 go_fit (appendPointed_any w1.heap.size v2 [45] s bh w2 h2.out (by have:=hb2.out.size;omega) (by simp) (by omega) (by omega))
 rintro e w4 ⟨v4,rfl,h8,h9⟩
 have hcv:=own_conv h8.out
 have hbz:=hide (hb2.out.trans h9.out)
 go_wp2
 go_ret2
 exact ⟨rfl,hb.out.trans (hbz.out.mono hb.out.size)⟩
theorem print_up_true (s:ByteArray)(x:Int)(w:World)(h:isN true s x=true)(hx0:0≤x)(hx21:21<(s.size:Int)+x)(ht:Tab w.heap.size w) :
  Calls Tryz.prog 42 #[.agg #[.bool true,.string s,.int .i64 x]] w fun e w'=>e=.returned (.tuple #[.string (mkB ([45]++(powered (bl s) (Lib.itoa (x+s.size - 1))))),.int .i64 0])∧Below w.heap.size w w':=by
 have ml:maxLen=2 ^ 63 - 1:=rfl
 have ht:=hide ht
 obtain ⟨had,hl1,hl40,hx1,hx2,hdg⟩:=isN_all h
 clear had hdg
 have hB:=hide (box_new w true s x)
 have hg0:decide ((0:Int)≤x)=true:=decide_eq_true hx0
 have hg1:decide ((s.size:Int)+x≤21)=false:=decide_eq_false (by omega)
 have hg2:decide (x<0)=false:=decide_eq_false (by omega)
 go_enter Tryz.func42, Tryz.ntmps42
 go_wp2_with fail
 refine (check_ok true s _ _ (by omega) h).mono ?_
 rintro e w1 ⟨rfl,hb1⟩
 have hB1:=hide (hB.out.below hb1 (by simp))
 have hlw:=hB1.out.lt
 obtain ⟨c0,c1,c2,f0,f1,f2⟩:=hB1.out.cells
 have hb:=hide (below_alloc hb1)
 clear hb1 hB
 have ht1:Hid (Tab w1.heap.size w1):=Tab.up (ht.out.on hb.out) hb.out.size
 have hn1:=hide (news_one w1 45 5)
 go_wp2_with (first|(at_builtin;refine app_bytes rfl _ _ rfl w1.heap.size _ [] rfl ((own_nil _ _).alloc _) ⟨w1.heap.size,0,none⟩ 1 1 [45] rfl rfl hn1.out (by simp) (by simp) ?_;intro v2 w2 h2 h3 h4;simp at h4;have hb2:=hide (((Below.refl w1.heap.size w1).alloc (Nat.le_refl _) _).trans h3.out);have hB2:=hide (hB1.out.below hb2.out hlw);have hl2:=hB2.out.lt;obtain ⟨d0,d1,d2,g0,g1,g2⟩:=hB2.out.cells))
 go_wp2_with fail
 go_fit (appendPower_any w1.heap.size v2 [45] s (x+s.size - 1) w2 h2.out (by have:=hb2.out.size;omega) (by simp) (by omega) (by omega) (by omega) (by omega) (Lib.TabBelow.on ht1.out hb2.out))
 rintro e w4 ⟨v4,rfl,h8,h9⟩
 have hcv:=own_conv h8.out
 have hbz:=hide (hb2.out.trans h9.out)
 go_wp2
 go_ret2
 exact ⟨rfl,hb.out.trans (hbz.out.mono hb.out.size)⟩
theorem print_down_true (s:ByteArray)(x:Int)(w:World)(h:isN true s x=true)(hx0:x<0)(hx21:x < -21)(ht:Tab w.heap.size w) :
  Calls Tryz.prog 42 #[.agg #[.bool true,.string s,.int .i64 x]] w fun e w'=>e=.returned (.tuple #[.string (mkB ([45]++(powered (bl s) (Lib.itoa (x+s.size - 1))))),.int .i64 0])∧Below w.heap.size w w':=by
 have ml:maxLen=2 ^ 63 - 1:=rfl
 have ht:=hide ht
 obtain ⟨had,hl1,hl40,hx1,hx2,hdg⟩:=isN_all h
 clear had hdg
 have hB:=hide (box_new w true s x)
 have hg0:decide ((0:Int)≤x)=false:=decide_eq_false (by omega)
 have hg1:decide (x<0)=true:=decide_eq_true hx0
 have hg2:decide (-x≤21)=false:=decide_eq_false (by omega)
 go_enter Tryz.func42, Tryz.ntmps42
 go_wp2_with fail
 refine (check_ok true s _ _ (by omega) h).mono ?_
 rintro e w1 ⟨rfl,hb1⟩
 have hB1:=hide (hB.out.below hb1 (by simp))
 have hlw:=hB1.out.lt
 obtain ⟨c0,c1,c2,f0,f1,f2⟩:=hB1.out.cells
 have hb:=hide (below_alloc hb1)
 clear hb1 hB
 have ht1:Hid (Tab w1.heap.size w1):=Tab.up (ht.out.on hb.out) hb.out.size
 have hn1:=hide (news_one w1 45 5)
 go_wp2_with (first|(at_builtin;refine app_bytes rfl _ _ rfl w1.heap.size _ [] rfl ((own_nil _ _).alloc _) ⟨w1.heap.size,0,none⟩ 1 1 [45] rfl rfl hn1.out (by simp) (by simp) ?_;intro v2 w2 h2 h3 h4;simp at h4;have hb2:=hide (((Below.refl w1.heap.size w1).alloc (Nat.le_refl _) _).trans h3.out);have hB2:=hide (hB1.out.below hb2.out hlw);have hl2:=hB2.out.lt;obtain ⟨d0,d1,d2,g0,g1,g2⟩:=hB2.out.cells))
 go_wp2_with fail
 go_fit (appendPower_any w1.heap.size v2 [45] s (x+s.size - 1) w2 h2.out (by have:=hb2.out.size;omega) (by simp) (by omega) (by omega) (by omega) (by omega) (Lib.TabBelow.on ht1.out hb2.out))
 rintro e w4 ⟨v4,rfl,h8,h9⟩
 have hcv:=own_conv h8.out
 have hbz:=hide (hb2.out.trans h9.out)
 go_wp2
 go_ret2
 exact ⟨rfl,hb.out.trans (hbz.out.mono hb.out.size)⟩
theorem print_any (n:Bool)(s:ByteArray)(x:Int)(w:World)(h:isN n s x=true)(ht:Tab w.heap.size w) :
  Calls Tryz.prog 42 #[.agg #[.bool n,.string s,.int .i64 x]] w fun e w'=>e=.returned (.tuple #[.string (mkB (printL n (bl s) x)),.int .i64 0])∧Below w.heap.size w w':=by
 unfold printL
 rw [bl_length]
 by_cases h1:0≤x∧(s.size:Int)+x≤21
 ·rw [if_pos h1]
  cases n
  ·exact print_plain_false s x w h h1.1 h1.2 ht
  ·exact print_plain_true s x w h h1.1 h1.2 ht
 ·rw [if_neg h1]
  by_cases h2:x<0∧-21≤x
  ·rw [if_pos h2]
   cases n
   ·exact print_point_false s x w h h2.1 h2.2 ht
   ·exact print_point_true s x w h h2.1 h2.2 ht
  ·rw [if_neg h2]
   by_cases h3:x<0
   ·cases n
    ·exact print_down_false s x w h h3 (by omega) ht
    ·exact print_down_true s x w h h3 (by omega) ht
   ·cases n
    ·exact print_up_false s x w h (by omega) (by omega) ht
    ·exact print_up_true s x w h (by omega) (by omega) ht
def dFloat:List UInt8:=[36,102,108,111,97,116]
def dBytes:List UInt8:=[36,98,121,116,101,115]
def dTag:List UInt8:=[36,116,97,103]
def nmD (k:Nat)(s:List UInt8):List UInt8:=bif k==0 && s.head?==some 36 then 36 :: s else s
def jtx:(n:Nat)→VT n→List UInt8
 | 0,_=>[]
 | n+1,x =>
  if x.1.kind=1 then [110,117,108,108] else if x.1.kind=2 then flgL x.1.flag else if x.1.kind=3 then printL x.1.neg (bl x.1.dig) x.1.exp
  else if x.1.kind=4 then nmd dFloat (bl (fhexS x.1.bits.toNat)) else if x.1.kind=5 then quo (bl x.1.text) else if x.1.kind=6 then nmd dBytes (hexL (bl x.1.text))
  else if x.1.kind=7 then [91]++(((List.range x.2.length).map fun i=>cmL i++((x.2[i]?).elim [] (jtx n))).flatten++[93])
  else if x.1.kind=8 then [123]++(((List.range x.2.length).map fun i=>cmL i++(quo (nmD i (bl ((x.1.names[i]?).getD ByteArray.empty)))++([58]++((x.2[i]?).elim [] (jtx n))))).flatten++[125])
  else [123]++(quo dTag++([58,91]++(quo (bl x.1.text)++([44]++(((x.2[0]?).elim [] (jtx n))++[93,125])))))
def Rg:(n:Nat)→VT n→Prop
 | 0,_=>True
 | n+1,x=>0≤x.1.bits∧x.1.bits<18446744073709551616∧∀ y∈x.2,Rg n y
def Vo (n:Nat)(x:VT n):Prop:=IsV n x∧Sht n x∧Rg n x
theorem Vo.kid {n:Nat} {x:VT (n+1)} (h:Vo (n+1) x)(k:Nat)(hk:k<x.2.length):Vo n x.2[k]:=⟨h.1.2.2 _ (List.getElem_mem hk),h.2.1.2.2.2 _ (List.getElem_mem hk),h.2.2.2.2 _ (List.getElem_mem hk)⟩
theorem WO.pre {i:Nat} {A T U:List UInt8} {W w1:World} (h1:FW i W w1)(hp:T <+: U)(h:65536<A.length+T.length):WO i A U W (.panicked (pan 2)) w1 :=
 ⟨h1,Or.inr ⟨by have:=hp.length_le;omega,rfl⟩⟩
theorem WO.step {i:Nat} {A T U:List UInt8} {W w1 w2:World} {e:Ending} (h1:FW i W w1)(h:WO i (A++T) U w1 e w2) :
  (e=.returned (.tuple #[])∧FW i W w2∧WB w2 i (A++(T++U))∧(A++(T++U)).length≤65536)∨(e=.panicked (pan 2)∧FW i W w2∧65536<A.length+(T++U).length):=by
 obtain ⟨hb,hh⟩:=h
 rcases hh with ⟨q1,q2,q3⟩|⟨q1,q2⟩
 ·exact Or.inl ⟨q2,h1.trans hb,by simpa using q3,by simp at q1 ⊢;omega⟩
 ·exact Or.inr ⟨q2,h1.trans hb,by simp at q1 ⊢;omega⟩
theorem FW.al {i:Nat} {W w1:World} {o:Obj} (h:FW i W w1)(hi:i<w1.heap.size):FW i W (w1.alloc o):=h.trans (FW.of (below_al (Below.refl _ _)) hi)
theorem Bx.nb {W W1:World} {q i:Nat} {h:Hd} {ns ls:Value} (k:Bx W q h ns ls)(e:W1.heap[q]?=W.heap[q]?):Bx W1 q h ns ls:=⟨e.trans k.at_⟩
def Rx (W:World)(q i:Nat):Prop:=W.heap[q]?=some (.cells #[.pointer (some ⟨i,0,none⟩)] 56 (0,0))
theorem Rx.cell {W:World} {q i:Nat} (h:Rx W q i):W.cell? ⟨q,0,none⟩=some (.pointer (some ⟨i,0,none⟩)):=by
 unfold Rx at h
 simp [World.cell?,h]
theorem Rx.of {W W1:World} {q i:Nat} (h:Rx W q i)(e:W1.heap[q]?=W.heap[q]?):Rx W1 q i:=e.trans h
theorem Rx.new (W:World)(i:Nat):Rx (W.alloc (.cells #[.pointer (some ⟨i,0,none⟩)] 56)) W.heap.size i:=heap_alloc_last _ _
theorem WO.base1 {i:Nat} {A T:List UInt8} {W W1 w':World} {e:Ending} (h1:FW i W W1)(h:WO i A T W1 e w'):WO i A T W e w':=⟨h1.trans h.1,h.2⟩
theorem WO.two1 {i:Nat} {A T:List UInt8} {W w':World} {e:Ending} (h:WO i A T W e w'):(e=.returned (.tuple #[])∨e=.panicked (pan 2)):=by
 rcases h with ⟨_,⟨_,q,_⟩|⟨_,q⟩⟩
 ·exact Or.inl q
 ·exact Or.inr q
def xeB (c:UInt8):List UInt8:=if c=60 then [38,108,116,59] else if c=38 then [38,97,109,112,59] else if c=34 then [38,113,117,111,116,59] else if c=62 then [38,103,116,59] else if c.toNat<32 then [38,35,120]++(smH c.toNat++[59]) else [c]
def xeL (l:List UInt8):List UInt8:=l.flatMap xeB
theorem xeL_snoc (l:List UInt8)(c:UInt8):xeL (l++[c])=xeL l++xeB c:=by simp [xeL]
theorem xeL_app (a b:List UInt8):xeL (a++b)=xeL a++xeL b:=by simp [xeL]
def mNull:List UInt8:=[60,110,117,108,108,47,62]
def mTrue:List UInt8:=[60,116,114,117,101,47,62]
def mFalse:List UInt8:=[60,102,97,108,115,101,47,62]
def mNum:List UInt8:=[60,110,117,109,62]
def mNumE:List UInt8:=[60,47,110,117,109,62]
def mFloat:List UInt8:=[60,102,108,111,97,116,62]
def mFloatE:List UInt8:=[60,47,102,108,111,97,116,62]
def mText:List UInt8:=[60,116,101,120,116,62]
def mTextE:List UInt8:=[60,47,116,101,120,116,62]
def mBytes:List UInt8:=[60,98,121,116,101,115,62]
def mBytesE:List UInt8:=[60,47,98,121,116,101,115,62]
def mList:List UInt8:=[60,108,105,115,116,62]
def mListE:List UInt8:=[60,47,108,105,115,116,62]
def mRec:List UInt8:=[60,114,101,99,111,114,100,62]
def mRecE:List UInt8:=[60,47,114,101,99,111,114,100,62]
def mField:List UInt8:=[60,102,105,101,108,100,32,110,97,109,101,61,34]
def mFieldE:List UInt8:=[60,47,102,105,101,108,100,62]
def mTag:List UInt8:=[60,116,97,103,32,110,97,109,101,61,34]
def mTagE:List UInt8:=[60,47,116,97,103,62]
def mNameE:List UInt8:=[34,62]
end Go.Proofs.YthodiandebahdaaGreatDoor
