/- Merged by program: RfInt, RgPower, RhPrint, RiSmall. -/
import Derived.Test.YtpimjkdakjhoaaaGreatDoorRfShelf
import Derived.Lib.ItoaLen
import Derived.Test.YtpimjkdakjhoaaaGreatDoorZw04
namespace Go.Proofs.YtpimjkdakjhoaaaGreatDoor
open Go.RowKit
set_option linter.unusedSimpArgs false
set_option linter.unusedVariables false
set_option maxHeartbeats 8000000
section
open Go.Shelf Go.RowKit
abbrev Tab (B : Nat) (w : World) : Prop := Lib.TabBelow Tryz.prog B w "internal/strconv.uint64pow10" .u64 Lib.pow10Tab
theorem appendInt_any (B:Nat) (v:Value) (l:List UInt8) (n:Int) (w:World) (hown:Own w B v l) (hB:B≤w.heap.size) (hl:l.length≤1000) (h0:-100000≤n) (h1:n≤100000) (ht:Tab B w) :
  Calls Tryz.prog 112 #[v,.int .i64 n,.int .i64 10] w fun e w'=>∃ v',e=.returned v'∧Hid (Own w' B v' (l++Lib.itoa n))∧Hid (Below B w w'):=by
 refine (Any.strconv_AppendInt_10 laysAI B l.length n (by omega) (by omega) v (bcs l) w hown hB (by omega) ht).mono ?_
 rintro e w' ⟨v',rfl,h2,h3,_⟩
 refine ⟨v',rfl,?_,h3⟩
 show Own _ _ _ _
 unfold Own
 rw [bcs_append,List.length_append]
 exact h2
end
theorem appendPower_more (B:Nat) (v:Value) (l:List UInt8) (s:ByteArray) (p:Int) (w:World) (hown:Own w B v l) (hB:B≤w.heap.size) (hl:l.length≤100) (hs:1<s.size) (hs':s.size≤100) (hp0:-100000≤p) (hp1:p≤100000) (ht:Tab B w) :
  Calls Tryz.prog 75 #[v,.string s,.int .i64 p] w fun e w'=>∃ v',e=.returned v'∧Hid (Own w' B v' (l++powered (bl s) (Lib.itoa p)))∧Hid (Below B w w'):=by
 have hown:=hide hown
 have ht:=hide ht
 have hn:=hide (news_one w s[0] 5)
 have hsi:(1:Int)<s.size:=by omega
 have hfin:=hide (show l++powered (bl s) (Lib.itoa p)=l++[s[0]]++[46]++bl (s.extract 1 s.size)++[101]++Lib.itoa p by
  unfold powered;rw [bl_length,if_pos hs,drop_mkB,bl_mkB]
  have e:(bl s).take 1=[s[0]]:=by
   rw [List.take_one,head_bl s (by omega)];rfl
  rw [e];simp)
 have hx2:=hide (show (s.extract 1 s.size).size=s.size - 1 by rw [drop_mkB,mkB_size];simp [bl_length])
 have hx2b:=hide (show (bl (s.extract 1 s.size)).length=s.size - 1 by rw [bl_length];exact hx2.out)
 go_enter Tryz.func75, Tryz.ntmps75
 go_wp2_with (first|(at_builtin;refine app_bytes rfl (.tmp 7) (.tmp 10) rfl B _ l rfl (hown.out.alloc _) ⟨w.heap.size,0,none⟩ 1 1 [s[0]] rfl rfl hn.out (by omega) (by simp;omega) ?_;intro v1 w1 h1 h2 h3;simp at h3;have hn1:=hide (news_one w1 46 5);have hB1:B≤w1.heap.size:=(by omega))|(at_builtin;refine app_bytes rfl (.tmp 15) (.tmp 16) rfl B _ _ rfl (h1.out.alloc _) ⟨w1.heap.size,0,none⟩ 1 1 [46] rfl rfl hn1.out (by simp;omega) (by simp;omega) ?_;intro v2 w2 h4 h5 h6;simp at h6;have hB2:B≤w2.heap.size:=(by omega))|(at_builtin;refine app_str rfl (.tmp 18) (.tmp 20) rfl B _ _ rfl h4.out (s.extract 1 s.size) rfl (by rw [hx2.out];simp;omega) hB2 ?_;intro v3 w3 h7 h8 h9;have hn3:=hide (news_one w3 101 5);have hB3:B≤w3.heap.size:=(by omega))|(at_builtin;refine app_bytes rfl (.tmp 22) (.tmp 23) rfl B _ _ rfl (h7.out.alloc _) ⟨w3.heap.size,0,none⟩ 1 1 [101] rfl rfl hn3.out (by have:=hx2b.out;simp;omega) (by simp;omega) ?_;intro v4 w4 h10 h11 h12;simp at h12;have hB4:B≤w4.heap.size:=(by omega)))
 go_wp2_with fail
 have hb4:=hide (((((((Below.refl B w).alloc hB _).trans h2.out).alloc hB1 _).trans h5.out).trans h8.out).alloc hB3 _ |>.trans h11.out)
 go_fit (appendInt_any B v4 _ p w4 h10.out hB4 (by have:=hx2b.out;simp;omega) hp0 hp1 (ht.out.on hb4.out))
 rintro e w5 ⟨v5,rfl,h13,h14⟩
 go_wp2
 go_ret
 refine ⟨_,rfl,?_,?_⟩
 ·show Own _ _ _ _
  rw [hfin.out];exact h13.out
 ·exact (((((((Below.refl B w).alloc hB _).trans h2.out).alloc hB1 _).trans h5.out).trans h8.out).alloc hB3 _).trans (h11.out.trans h14.out)
theorem appendPower_one (B:Nat) (v:Value) (l:List UInt8) (s:ByteArray) (p:Int) (w:World) (hown:Own w B v l) (hB:B≤w.heap.size) (hl:l.length≤100) (hs:s.size=1) (hp0:-100000≤p) (hp1:p≤100000) (ht:Tab B w) :
  Calls Tryz.prog 75 #[v,.string s,.int .i64 p] w fun e w'=>∃ v',e=.returned v'∧Hid (Own w' B v' (l++powered (bl s) (Lib.itoa p)))∧Hid (Below B w w'):=by
 have hown:=hide hown
 have ht:=hide ht
 have hs0:0<s.size:=by omega
 have hn:=hide (news_one w s[0] 5)
 have hfin:=hide (show l++powered (bl s) (Lib.itoa p)=l++[s[0]]++[101]++Lib.itoa p by
  unfold powered;rw [bl_length,if_neg (by omega)]
  have e:(bl s).take 1=[s[0]]:=by
   rw [List.take_one,head_bl s (by omega)];rfl
  rw [e];simp)
 go_enter Tryz.func75, Tryz.ntmps75
 go_wp2_with (first|(at_builtin;refine app_bytes rfl (.tmp 7) (.tmp 10) rfl B _ l rfl (hown.out.alloc _) ⟨w.heap.size,0,none⟩ 1 1 [s[0]] rfl rfl hn.out (by omega) (by simp;omega) ?_;intro v1 w1 h1 h2 h3;simp at h3;have hn1:=hide (news_one w1 101 5);have hB1:B≤w1.heap.size:=(by omega))|(at_builtin;refine app_bytes rfl (.tmp 22) (.tmp 23) rfl B _ _ rfl (h1.out.alloc _) ⟨w1.heap.size,0,none⟩ 1 1 [101] rfl rfl hn1.out (by simp;omega) (by simp;omega) ?_;intro v4 w4 h10 h11 h12;simp at h12;have hB4:B≤w4.heap.size:=(by omega)))
 go_wp2_with fail
 have hb4:=hide (((((Below.refl B w).alloc hB _).trans h2.out).alloc hB1 _).trans h11.out)
 go_fit (appendInt_any B v4 _ p w4 h10.out hB4 (by simp;omega) hp0 hp1 (ht.out.on hb4.out))
 rintro e w5 ⟨v5,rfl,h13,h14⟩
 go_wp2
 go_ret
 refine ⟨_,rfl,?_,?_⟩
 ·show Own _ _ _ _
  rw [hfin.out];exact h13.out
 ·exact hb4.out.trans h14.out
theorem appendPower_any (B:Nat) (v:Value) (l:List UInt8) (s:ByteArray) (p:Int) (w:World) (hown:Own w B v l) (hB:B≤w.heap.size) (hl:l.length≤100) (hs:0<s.size) (hs':s.size≤100) (hp0:-100000≤p) (hp1:p≤100000) (ht:Tab B w) :
  Calls Tryz.prog 75 #[v,.string s,.int .i64 p] w fun e w'=>∃ v',e=.returned v'∧Hid (Own w' B v' (l++powered (bl s) (Lib.itoa p)))∧Hid (Below B w w'):=by
 by_cases h:1<s.size
 ·exact appendPower_more B v l s p w hown hB hl h hs' hp0 hp1 ht
 ·exact appendPower_one B v l s p w hown hB hl (by omega) hp0 hp1 ht
def printL (n:Bool) (l:List UInt8) (x:Int):List UInt8 :=
 sgnB n++(if 0≤x∧(l.length:Int) + x≤21 then l++List.replicate x.toNat 48 else if x<0∧-21≤x then pointed l (-x).toNat else powered l (Lib.itoa (x + l.length - 1)))
theorem Tab.up {B B':Nat} {w:World} (h:Tab B w) (hb:B≤B'):Tab B' w:=fun W hW=>h W (hW.mono hb)
theorem print_no (n:Bool) (s:ByteArray) (x:Int) (w:World) (hs:s.size≤100000) (h:isN n s x=false) :
  Calls Tryz.prog 43 #[.agg #[.bool n,.string s,.int .i64 x]] w fun e w'=>e=.returned (.tuple #[.string ⟨#[]⟩,.int .i64 10])∧Below w.heap.size w w':=by
 have ml:maxLen=2 ^ 63 - 1:=rfl
 have hB:=hide (box_new w n s x)
 go_enter Tryz.func43, Tryz.ntmps43
 go_wp2_with fail
 refine (check_no n s _ _ (by omega) h).mono ?_
 rintro e w1 ⟨rfl,hb1⟩
 have hb:=hide (below_alloc hb1)
 clear hb1 hB
 go_wp2
 go_ret2
 exact ⟨rfl,hb.out⟩
theorem print_plain_false (s:ByteArray) (x:Int) (w:World) (h:isN false s x=true) (hx0:0≤x) (hx21:(s.size:Int) + x≤21) (ht:Tab w.heap.size w) :
  Calls Tryz.prog 43 #[.agg #[.bool false,.string s,.int .i64 x]] w fun e w'=>e=.returned (.tuple #[.string (mkB ((bl s++List.replicate x.toNat 48))),.int .i64 0])∧Below w.heap.size w w':=by
 have ml:maxLen=2 ^ 63 - 1:=rfl
 have ht:=hide ht
 obtain ⟨had,hl1,hl40,hx1,hx2,hdg⟩:=isN_all h
 clear had hdg
 have hB:=hide (box_new w false s x)
 have hg0:decide ((0:Int)≤x)=true:=decide_eq_true hx0
 have hg1:decide ((s.size:Int) + x≤21)=true:=decide_eq_true hx21
 go_enter Tryz.func43, Tryz.ntmps43
 go_wp2_with fail
 refine (check_ok false s _ _ (by omega) h).mono ?_
 rintro e w1 ⟨rfl,hb1⟩
 have hB1:=hide (hB.out.below hb1 (by simp))
 have hlw:=hB1.out.lt
 obtain ⟨c0,c1,c2,f0,f1,f2⟩:=hB1.out.cells
 have hb:=hide (below_alloc hb1)
 clear hb1 hB
 have ht1:Hid (Tab w1.heap.size w1):=Tab.up (ht.out.on hb.out) hb.out.size
 go_wp2_with (first|(at_builtin;refine app_str rfl _ _ rfl w1.heap.size _ [] rfl (own_nil _ _) s rfl (by simp;omega) (by have:=(Below.refl w1.heap.size w1).size;omega) ?_;intro v3 w3 h5 h6 h7;have hb3:=hide ((Below.refl w1.heap.size w1).trans h6.out);have hB3:=hide (hB1.out.below hb3.out hlw);have hl3:=hB3.out.lt;obtain ⟨k0,k1,k2,m0,m1,m2⟩:=hB3.out.cells))
 go_wp2_with fail
 go_fit (appendNoughts_any w1.heap.size v3 ([]++bl s) x w3 h5.out (by have:=hb3.out.size;omega) (by simp [bl_length];omega) (by omega))
 rintro e w4 ⟨v4,rfl,h8,h9⟩
 have hcv:=own_conv h8.out
 have hbz:=hide (hb3.out.trans h9.out)
 rw [List.nil_append] at hcv
 go_wp2
 go_ret2
 exact ⟨rfl,hb.out.trans (hbz.out.mono hb.out.size)⟩
theorem print_point_false (s:ByteArray) (x:Int) (w:World) (h:isN false s x=true) (hx0:x<0) (hx21:-21≤x) (ht:Tab w.heap.size w) :
  Calls Tryz.prog 43 #[.agg #[.bool false,.string s,.int .i64 x]] w fun e w'=>e=.returned (.tuple #[.string (mkB ((pointed (bl s) (-x).toNat))),.int .i64 0])∧Below w.heap.size w w':=by
 have ml:maxLen=2 ^ 63 - 1:=rfl
 have ht:=hide ht
 obtain ⟨had,hl1,hl40,hx1,hx2,hdg⟩:=isN_all h
 clear had hdg
 have hB:=hide (box_new w false s x)
 obtain ⟨bh,hbh⟩:∃ bh:Nat,x=-(bh:Int):=⟨(-x).toNat,by omega⟩
 subst hbh
 have hbn:(- -(bh:Int))=(bh:Int):=by omega
 have hg0:decide ((0:Int)≤-(bh:Int))=false:=decide_eq_false (by omega)
 rw [hbn,Int.toNat_natCast]
 go_enter Tryz.func43, Tryz.ntmps43
 go_wp2_with fail
 refine (check_ok false s _ _ (by omega) h).mono ?_
 rintro e w1 ⟨rfl,hb1⟩
 have hB1:=hide (hB.out.below hb1 (by simp))
 have hlw:=hB1.out.lt
 obtain ⟨c0,c1,c2,f0,f1,f2⟩:=hB1.out.cells
 have hb:=hide (below_alloc hb1)
 clear hb1 hB
 have ht1:Hid (Tab w1.heap.size w1):=Tab.up (ht.out.on hb.out) hb.out.size
 go_wp2_with fail
 go_fit (appendPointed_any w1.heap.size (.slice none 0 0) [] s bh w1 (own_nil _ _) (by have:=(Below.refl w1.heap.size w1).size;omega) (by simp) (by omega) (by omega))
 rintro e w4 ⟨v4,rfl,h8,h9⟩
 have hcv:=own_conv h8.out
 have hbz:=hide ((Below.refl w1.heap.size w1).trans h9.out)
 rw [List.nil_append] at hcv
 go_wp2
 go_ret2
 exact ⟨rfl,hb.out.trans (hbz.out.mono hb.out.size)⟩
theorem print_up_false (s:ByteArray) (x:Int) (w:World) (h:isN false s x=true) (hx0:0≤x) (hx21:21<(s.size:Int) + x) (ht:Tab w.heap.size w) :
  Calls Tryz.prog 43 #[.agg #[.bool false,.string s,.int .i64 x]] w fun e w'=>e=.returned (.tuple #[.string (mkB ((powered (bl s) (Lib.itoa (x + s.size - 1))))),.int .i64 0])∧Below w.heap.size w w':=by
 have ml:maxLen=2 ^ 63 - 1:=rfl
 have ht:=hide ht
 obtain ⟨had,hl1,hl40,hx1,hx2,hdg⟩:=isN_all h
 clear had hdg
 have hB:=hide (box_new w false s x)
 have hg0:decide ((0:Int)≤x)=true:=decide_eq_true hx0
 have hg1:decide ((s.size:Int) + x≤21)=false:=decide_eq_false (by omega)
 have hg2:decide (x<0)=false:=decide_eq_false (by omega)
 go_enter Tryz.func43, Tryz.ntmps43
 go_wp2_with fail
 refine (check_ok false s _ _ (by omega) h).mono ?_
 rintro e w1 ⟨rfl,hb1⟩
 have hB1:=hide (hB.out.below hb1 (by simp))
 have hlw:=hB1.out.lt
 obtain ⟨c0,c1,c2,f0,f1,f2⟩:=hB1.out.cells
 have hb:=hide (below_alloc hb1)
 clear hb1 hB
 have ht1:Hid (Tab w1.heap.size w1):=Tab.up (ht.out.on hb.out) hb.out.size
 go_wp2_with fail
 go_fit (appendPower_any w1.heap.size (.slice none 0 0) [] s (x + s.size - 1) w1 (own_nil _ _) (by have:=(Below.refl w1.heap.size w1).size;omega) (by simp) (by omega) (by omega) (by omega) (by omega) (Lib.TabBelow.on ht1.out (Below.refl w1.heap.size w1)))
 rintro e w4 ⟨v4,rfl,h8,h9⟩
 have hcv:=own_conv h8.out
 have hbz:=hide ((Below.refl w1.heap.size w1).trans h9.out)
 rw [List.nil_append] at hcv
 go_wp2
 go_ret2
 exact ⟨rfl,hb.out.trans (hbz.out.mono hb.out.size)⟩
theorem print_down_false (s:ByteArray) (x:Int) (w:World) (h:isN false s x=true) (hx0:x<0) (hx21:x < -21) (ht:Tab w.heap.size w) :
  Calls Tryz.prog 43 #[.agg #[.bool false,.string s,.int .i64 x]] w fun e w'=>e=.returned (.tuple #[.string (mkB ((powered (bl s) (Lib.itoa (x + s.size - 1))))),.int .i64 0])∧Below w.heap.size w w':=by
 have ml:maxLen=2 ^ 63 - 1:=rfl
 have ht:=hide ht
 obtain ⟨had,hl1,hl40,hx1,hx2,hdg⟩:=isN_all h
 clear had hdg
 have hB:=hide (box_new w false s x)
 have hg0:decide ((0:Int)≤x)=false:=decide_eq_false (by omega)
 have hg1:decide (x<0)=true:=decide_eq_true hx0
 have hg2:decide (-x≤21)=false:=decide_eq_false (by omega)
 go_enter Tryz.func43, Tryz.ntmps43
 go_wp2_with fail
 refine (check_ok false s _ _ (by omega) h).mono ?_
 rintro e w1 ⟨rfl,hb1⟩
 have hB1:=hide (hB.out.below hb1 (by simp))
 have hlw:=hB1.out.lt
 obtain ⟨c0,c1,c2,f0,f1,f2⟩:=hB1.out.cells
 have hb:=hide (below_alloc hb1)
 clear hb1 hB
 have ht1:Hid (Tab w1.heap.size w1):=Tab.up (ht.out.on hb.out) hb.out.size
 go_wp2_with fail
 go_fit (appendPower_any w1.heap.size (.slice none 0 0) [] s (x + s.size - 1) w1 (own_nil _ _) (by have:=(Below.refl w1.heap.size w1).size;omega) (by simp) (by omega) (by omega) (by omega) (by omega) (Lib.TabBelow.on ht1.out (Below.refl w1.heap.size w1)))
 rintro e w4 ⟨v4,rfl,h8,h9⟩
 have hcv:=own_conv h8.out
 have hbz:=hide ((Below.refl w1.heap.size w1).trans h9.out)
 rw [List.nil_append] at hcv
 go_wp2
 go_ret2
 exact ⟨rfl,hb.out.trans (hbz.out.mono hb.out.size)⟩
theorem print_plain_true (s:ByteArray) (x:Int) (w:World) (h:isN true s x=true) (hx0:0≤x) (hx21:(s.size:Int) + x≤21) (ht:Tab w.heap.size w) :
  Calls Tryz.prog 43 #[.agg #[.bool true,.string s,.int .i64 x]] w fun e w'=>e=.returned (.tuple #[.string (mkB ([45]++(bl s++List.replicate x.toNat 48))),.int .i64 0])∧Below w.heap.size w w':=by
 have ml:maxLen=2 ^ 63 - 1:=rfl
 have ht:=hide ht
 obtain ⟨had,hl1,hl40,hx1,hx2,hdg⟩:=isN_all h
 clear had hdg
 have hB:=hide (box_new w true s x)
 have hg0:decide ((0:Int)≤x)=true:=decide_eq_true hx0
 have hg1:decide ((s.size:Int) + x≤21)=true:=decide_eq_true hx21
 go_enter Tryz.func43, Tryz.ntmps43
 go_wp2_with fail
 refine (check_ok true s _ _ (by omega) h).mono ?_
 rintro e w1 ⟨rfl,hb1⟩
 have hB1:=hide (hB.out.below hb1 (by simp))
 have hlw:=hB1.out.lt
 obtain ⟨c0,c1,c2,f0,f1,f2⟩:=hB1.out.cells
 have hb:=hide (below_alloc hb1)
 clear hb1 hB
 have ht1:Hid (Tab w1.heap.size w1):=Tab.up (ht.out.on hb.out) hb.out.size
 have hn1:=hide (news_one w1 45 5)
 go_wp2_with (first|(at_builtin;refine app_bytes rfl _ _ rfl w1.heap.size _ [] rfl ((own_nil _ _).alloc _) ⟨w1.heap.size,0,none⟩ 1 1 [45] rfl rfl hn1.out (by simp) (by simp) ?_;intro v2 w2 h2 h3 h4;simp at h4;have hb2:=hide (((Below.refl w1.heap.size w1).alloc (Nat.le_refl _) _).trans h3.out);have hB2:=hide (hB1.out.below hb2.out hlw);have hl2:=hB2.out.lt;obtain ⟨d0,d1,d2,g0,g1,g2⟩:=hB2.out.cells)|(at_builtin;refine app_str rfl _ _ rfl w1.heap.size _ [45] rfl h2.out s rfl (by simp;omega) (by have:=hb2.out.size;omega) ?_;intro v3 w3 h5 h6 h7;have hb3:=hide (hb2.out.trans h6.out);have hB3:=hide (hB1.out.below hb3.out hlw);have hl3:=hB3.out.lt;obtain ⟨k0,k1,k2,m0,m1,m2⟩:=hB3.out.cells))
 go_wp2_with fail
 go_fit (appendNoughts_any w1.heap.size v3 ([45]++bl s) x w3 h5.out (by have:=hb3.out.size;omega) (by simp [bl_length];omega) (by omega))
 rintro e w4 ⟨v4,rfl,h8,h9⟩
 have hcv:=own_conv h8.out
 have hbz:=hide (hb3.out.trans h9.out)
 rw [List.append_assoc] at hcv
 go_wp2
 go_ret2
 exact ⟨rfl,hb.out.trans (hbz.out.mono hb.out.size)⟩
theorem print_point_true (s:ByteArray) (x:Int) (w:World) (h:isN true s x=true) (hx0:x<0) (hx21:-21≤x) (ht:Tab w.heap.size w) :
  Calls Tryz.prog 43 #[.agg #[.bool true,.string s,.int .i64 x]] w fun e w'=>e=.returned (.tuple #[.string (mkB ([45]++(pointed (bl s) (-x).toNat))),.int .i64 0])∧Below w.heap.size w w':=by
 have ml:maxLen=2 ^ 63 - 1:=rfl
 have ht:=hide ht
 obtain ⟨had,hl1,hl40,hx1,hx2,hdg⟩:=isN_all h
 clear had hdg
 have hB:=hide (box_new w true s x)
 obtain ⟨bh,hbh⟩:∃ bh:Nat,x=-(bh:Int):=⟨(-x).toNat,by omega⟩
 subst hbh
 have hbn:(- -(bh:Int))=(bh:Int):=by omega
 have hg0:decide ((0:Int)≤-(bh:Int))=false:=decide_eq_false (by omega)
 rw [hbn,Int.toNat_natCast]
 go_enter Tryz.func43, Tryz.ntmps43
 go_wp2_with fail
 refine (check_ok true s _ _ (by omega) h).mono ?_
 rintro e w1 ⟨rfl,hb1⟩
 have hB1:=hide (hB.out.below hb1 (by simp))
 have hlw:=hB1.out.lt
 obtain ⟨c0,c1,c2,f0,f1,f2⟩:=hB1.out.cells
 have hb:=hide (below_alloc hb1)
 clear hb1 hB
 have ht1:Hid (Tab w1.heap.size w1):=Tab.up (ht.out.on hb.out) hb.out.size
 have hn1:=hide (news_one w1 45 5)
 go_wp2_with (first|(at_builtin;refine app_bytes rfl _ _ rfl w1.heap.size _ [] rfl ((own_nil _ _).alloc _) ⟨w1.heap.size,0,none⟩ 1 1 [45] rfl rfl hn1.out (by simp) (by simp) ?_;intro v2 w2 h2 h3 h4;simp at h4;have hb2:=hide (((Below.refl w1.heap.size w1).alloc (Nat.le_refl _) _).trans h3.out);have hB2:=hide (hB1.out.below hb2.out hlw);have hl2:=hB2.out.lt;obtain ⟨d0,d1,d2,g0,g1,g2⟩:=hB2.out.cells))
 go_wp2_with fail
 go_fit (appendPointed_any w1.heap.size v2 [45] s bh w2 h2.out (by have:=hb2.out.size;omega) (by simp) (by omega) (by omega))
 rintro e w4 ⟨v4,rfl,h8,h9⟩
 have hcv:=own_conv h8.out
 have hbz:=hide (hb2.out.trans h9.out)
 go_wp2
 go_ret2
 exact ⟨rfl,hb.out.trans (hbz.out.mono hb.out.size)⟩
theorem print_up_true (s:ByteArray) (x:Int) (w:World) (h:isN true s x=true) (hx0:0≤x) (hx21:21<(s.size:Int) + x) (ht:Tab w.heap.size w) :
  Calls Tryz.prog 43 #[.agg #[.bool true,.string s,.int .i64 x]] w fun e w'=>e=.returned (.tuple #[.string (mkB ([45]++(powered (bl s) (Lib.itoa (x + s.size - 1))))),.int .i64 0])∧Below w.heap.size w w':=by
 have ml:maxLen=2 ^ 63 - 1:=rfl
 have ht:=hide ht
 obtain ⟨had,hl1,hl40,hx1,hx2,hdg⟩:=isN_all h
 clear had hdg
 have hB:=hide (box_new w true s x)
 have hg0:decide ((0:Int)≤x)=true:=decide_eq_true hx0
 have hg1:decide ((s.size:Int) + x≤21)=false:=decide_eq_false (by omega)
 have hg2:decide (x<0)=false:=decide_eq_false (by omega)
 go_enter Tryz.func43, Tryz.ntmps43
 go_wp2_with fail
 refine (check_ok true s _ _ (by omega) h).mono ?_
 rintro e w1 ⟨rfl,hb1⟩
 have hB1:=hide (hB.out.below hb1 (by simp))
 have hlw:=hB1.out.lt
 obtain ⟨c0,c1,c2,f0,f1,f2⟩:=hB1.out.cells
 have hb:=hide (below_alloc hb1)
 clear hb1 hB
 have ht1:Hid (Tab w1.heap.size w1):=Tab.up (ht.out.on hb.out) hb.out.size
 have hn1:=hide (news_one w1 45 5)
 go_wp2_with (first|(at_builtin;refine app_bytes rfl _ _ rfl w1.heap.size _ [] rfl ((own_nil _ _).alloc _) ⟨w1.heap.size,0,none⟩ 1 1 [45] rfl rfl hn1.out (by simp) (by simp) ?_;intro v2 w2 h2 h3 h4;simp at h4;have hb2:=hide (((Below.refl w1.heap.size w1).alloc (Nat.le_refl _) _).trans h3.out);have hB2:=hide (hB1.out.below hb2.out hlw);have hl2:=hB2.out.lt;obtain ⟨d0,d1,d2,g0,g1,g2⟩:=hB2.out.cells))
 go_wp2_with fail
 go_fit (appendPower_any w1.heap.size v2 [45] s (x + s.size - 1) w2 h2.out (by have:=hb2.out.size;omega) (by simp) (by omega) (by omega) (by omega) (by omega) (Lib.TabBelow.on ht1.out hb2.out))
 rintro e w4 ⟨v4,rfl,h8,h9⟩
 have hcv:=own_conv h8.out
 have hbz:=hide (hb2.out.trans h9.out)
 go_wp2
 go_ret2
 exact ⟨rfl,hb.out.trans (hbz.out.mono hb.out.size)⟩
theorem print_down_true (s:ByteArray) (x:Int) (w:World) (h:isN true s x=true) (hx0:x<0) (hx21:x < -21) (ht:Tab w.heap.size w) :
  Calls Tryz.prog 43 #[.agg #[.bool true,.string s,.int .i64 x]] w fun e w'=>e=.returned (.tuple #[.string (mkB ([45]++(powered (bl s) (Lib.itoa (x + s.size - 1))))),.int .i64 0])∧Below w.heap.size w w':=by
 have ml:maxLen=2 ^ 63 - 1:=rfl
 have ht:=hide ht
 obtain ⟨had,hl1,hl40,hx1,hx2,hdg⟩:=isN_all h
 clear had hdg
 have hB:=hide (box_new w true s x)
 have hg0:decide ((0:Int)≤x)=false:=decide_eq_false (by omega)
 have hg1:decide (x<0)=true:=decide_eq_true hx0
 have hg2:decide (-x≤21)=false:=decide_eq_false (by omega)
 go_enter Tryz.func43, Tryz.ntmps43
 go_wp2_with fail
 refine (check_ok true s _ _ (by omega) h).mono ?_
 rintro e w1 ⟨rfl,hb1⟩
 have hB1:=hide (hB.out.below hb1 (by simp))
 have hlw:=hB1.out.lt
 obtain ⟨c0,c1,c2,f0,f1,f2⟩:=hB1.out.cells
 have hb:=hide (below_alloc hb1)
 clear hb1 hB
 have ht1:Hid (Tab w1.heap.size w1):=Tab.up (ht.out.on hb.out) hb.out.size
 have hn1:=hide (news_one w1 45 5)
 go_wp2_with (first|(at_builtin;refine app_bytes rfl _ _ rfl w1.heap.size _ [] rfl ((own_nil _ _).alloc _) ⟨w1.heap.size,0,none⟩ 1 1 [45] rfl rfl hn1.out (by simp) (by simp) ?_;intro v2 w2 h2 h3 h4;simp at h4;have hb2:=hide (((Below.refl w1.heap.size w1).alloc (Nat.le_refl _) _).trans h3.out);have hB2:=hide (hB1.out.below hb2.out hlw);have hl2:=hB2.out.lt;obtain ⟨d0,d1,d2,g0,g1,g2⟩:=hB2.out.cells))
 go_wp2_with fail
 go_fit (appendPower_any w1.heap.size v2 [45] s (x + s.size - 1) w2 h2.out (by have:=hb2.out.size;omega) (by simp) (by omega) (by omega) (by omega) (by omega) (Lib.TabBelow.on ht1.out hb2.out))
 rintro e w4 ⟨v4,rfl,h8,h9⟩
 have hcv:=own_conv h8.out
 have hbz:=hide (hb2.out.trans h9.out)
 go_wp2
 go_ret2
 exact ⟨rfl,hb.out.trans (hbz.out.mono hb.out.size)⟩
theorem print_any (n:Bool) (s:ByteArray) (x:Int) (w:World) (h:isN n s x=true) (ht:Tab w.heap.size w) :
  Calls Tryz.prog 43 #[.agg #[.bool n,.string s,.int .i64 x]] w fun e w'=>e=.returned (.tuple #[.string (mkB (printL n (bl s) x)),.int .i64 0])∧Below w.heap.size w w':=by
 unfold printL
 rw [bl_length]
 by_cases h1:0≤x∧(s.size:Int) + x≤21
 ·rw [if_pos h1]
  cases n
  ·exact print_plain_false s x w h h1.1 h1.2 ht
  ·exact print_plain_true s x w h h1.1 h1.2 ht
 ·rw [if_neg h1]
  by_cases h2:x<0∧-21≤x
  ·rw [if_pos h2]
   cases n
   ·exact print_point_false s x w h h2.1 h2.2 ht
   ·exact print_point_true s x w h h2.1 h2.2 ht
  ·rw [if_neg h2]
   by_cases h3:x<0
   ·cases n
    ·exact print_down_false s x w h h3 (by omega) ht
    ·exact print_down_true s x w h h3 (by omega) ht
   ·cases n
    ·exact print_up_false s x w h (by omega) (by omega) ht
    ·exact print_up_true s x w h (by omega) (by omega) ht
def dby (l:List Nat):List UInt8:=l.map fun v=>UInt8.ofNat (v + 48)
theorem mkS_dby (l:List Nat):mkS l=mkB (dby l):=by
 rw [←mkB_bl (mkS l),mkS_bl];rfl
structure SmJ (n k m:Nat) (l:List Nat):Prop where
 base:SmI n k m l
 dec:Lib.decDigits n=(if k=0∨0<m then Lib.decDigits m else [])++dby l
theorem SmJ.len {n k m:Nat} {l:List Nat} (h:SmJ n k m l):l.length=k:=h.base.len
theorem SmJ.le {n k m:Nat} {l:List Nat} (h:SmJ n k m l):k≤13:=h.base.le
theorem SmJ.start (n:Nat):SmJ n 0 n []:=⟨⟨rfl,fun x hx=>by simp at hx,by omega,by simp [val]⟩,by simp [dby]⟩
theorem SmJ.step {n k m:Nat} {l:List Nat} (h:SmJ n k m l) (hn:n<10000000000000) (hk:k=0∨0<m):SmJ n (k + 1) (m / 10) (m % 10 :: l):=by
 refine ⟨h.base.step hn hk,?_⟩
 rw [h.dec,if_pos hk,Lib.decDigits]
 have e:dby (m % 10 :: l)=UInt8.ofNat (48 + m % 10) :: dby l:=by rw [Nat.add_comm];rfl
 rw [e]
 split
 ·rename_i q
  rw [if_neg (by omega),Nat.mod_eq_of_lt q]
  simp
 ·rename_i q
  rw [if_pos (by omega)]
  simp
theorem rsmall_dec (n:Nat) (w:World) (hn:n<10000000000000) :
  Calls Tryz.prog 85 #[.int .i64 n] w fun e w'=>e=.returned (.string (mkB (Lib.decDigits n)))∧w'=w:=by
 go_enter Tryz.func85, Tryz.ntmps85
 go_wp2
 go_loop [0,4] (fun x s=>∃ (k m:Nat) (l:List Nat),m≤n∧x=.int .i64 m∧s=.string (mkS l)∧Hid (SmJ n k m l)) (fun x s=>natOf x + (if lenS s=0 then 1 else 0))
 case atStart=>exact ⟨0,n,[],Nat.le_refl _,rfl,rfl,SmJ.start n⟩
 case round =>
  obtain ⟨k,m,l,hm,rfl,rfl,hI⟩:=hrel
  have hk13:k≤13:=hI.out.le
  have hsz:(mkS l).size=k:=by rw [mkS_size];exact hI.out.len
  have hemp:=mkS_isEmpty l
  by_cases hgo:k=0∨0<m
  ·have hst:=hide (hI.out.step hn hgo)
   obtain ⟨r,hr⟩:∃ r,m % 10=r:=⟨_,rfl⟩
   have hr9:r≤9:=by omega
   have t1:(m:Int).tdiv 10=((m / 10:Nat):Int):=by rw [Int.tdiv_eq_ediv_of_nonneg (by omega)];omega
   have t2:(m:Int).tmod 10=(r:Int):=by rw [Int.tmod_eq_emod_of_nonneg (by omega)];omega
   have hp:=hide (dig_piece r hr9)
   rw [hr] at hst
   have hmeas:=hide (show m / 10<m + (if k=0 then 1 else 0) by
    rcases hgo with rfl|h
    ·simp;omega
    ·split <;> omega)
   have hdiv:=hide (show m / 10≤n by omega)
   have hes:=hide (show (⟨#[48,49,50,51,52,53,54,55,56,57]⟩:ByteArray).extract r (r + 1)++mkS l=mkS (r :: l) by rw [hp.out,mkS_app];rfl)
   have hfin:Hid ((∃ (k' m':Nat) (l':List Nat),m'≤n∧Value.int IntKind.i64 ((m:Int) / 10)=.int .i64 m'∧Value.string ((⟨#[48,49,50,51,52,53,54,55,56,57]⟩:ByteArray).extract r (r + 1)++mkS l)=.string (mkS l')∧Hid (SmJ n k' m' l')) ∧
     (natOf (Value.int IntKind.i64 ((m:Int) / 10)) + if lenS (Value.string ((⟨#[48,49,50,51,52,53,54,55,56,57]⟩:ByteArray).extract r (r + 1)++mkS l))=0 then 1 else 0)<natOf (Value.int IntKind.i64 (m:Int)) + if lenS (Value.string (mkS l))=0 then 1 else 0):=by
    refine ⟨⟨k + 1,m / 10,r :: l,hdiv.out,rfl,congrArg Value.string hes.out,hst.out⟩,?_⟩
    rw [hes.out]
    have e1:lenS (Value.string (mkS (r :: l)))=k + 1:=by show (mkS _).size=_;rw [mkS_size];simp [hI.out.len]
    have e2:lenS (Value.string (mkS l))=k:=hsz
    have e3:natOf (Value.int IntKind.i64 ((m:Int) / 10))=m / 10:=by show ((m:Int) / 10).toNat=_;omega
    have e4:natOf (Value.int IntKind.i64 (m:Int))=m:=by show ((m:Int)).toNat=_;omega
    rw [e1,e2,e3,e4,if_neg (by omega)]
    exact hmeas.out
   by_cases hk0:k=0
   ·have hl0:l=[]:=by
     have:=hI.out.len
     rw [hk0] at this
     exact List.length_eq_zero_iff.1 this
    subst hl0
    simp only [List.isEmpty_nil] at hemp
    clear hr hgo
    go_wp2
    exact hfin.out
   ·have hm0:0<m:=by omega
    have hm0':(0:Int)<m:=by omega
    have hne:l.isEmpty=false:=by
     cases l with
     | nil=>have:=hI.out.len;simp at this;omega
     | cons=>rfl
    rw [hne] at hemp
    clear hr hgo hne
    go_wp2
    exact hfin.out
  ·have hm0:m=0:=by omega
   subst hm0
   have hne:l.isEmpty=false:=by
    cases l with
    | nil=>have:=hI.out.len;simp at this;omega
    | cons=>rfl
   rw [hne] at hemp
   have hdec:=hide (show mkS l=mkB (Lib.decDigits n) by rw [hI.out.dec,if_neg hgo,mkS_dby];rfl)
   clear hne hgo
   go_wp2
   go_ret
   refine ⟨?_,rfl⟩
   exact congrArg (fun s=>Ending.returned (Value.string s)) ((mkS_app [] l).trans hdec.out)
theorem rsmall_neg (n:Nat) (w:World) (h0:0<n) (hn:n<10000000000000) :
  Calls Tryz.prog 85 #[.int .i64 (-(n:Int))] w fun e w'=>e=.returned (.string (mkB (45 :: Lib.decDigits n)))∧w'=w:=by
 have h0':(0:Int)<(n:Int):=by omega
 go_enter Tryz.func85, Tryz.ntmps85
 go_wp2
 go_loop [0,4] (fun x s=>∃ (k m:Nat) (l:List Nat),m≤n∧x=.int .i64 m∧s=.string (mkS l)∧Hid (SmJ n k m l)) (fun x s=>natOf x + (if lenS s=0 then 1 else 0))
 case atStart=>exact ⟨0,n,[],Nat.le_refl _,rfl,rfl,SmJ.start n⟩
 case round =>
  obtain ⟨k,m,l,hm,rfl,rfl,hI⟩:=hrel
  have hk13:k≤13:=hI.out.le
  have hsz:(mkS l).size=k:=by rw [mkS_size];exact hI.out.len
  have hemp:=mkS_isEmpty l
  by_cases hgo:k=0∨0<m
  ·have hst:=hide (hI.out.step hn hgo)
   obtain ⟨r,hr⟩:∃ r,m % 10=r:=⟨_,rfl⟩
   have hr9:r≤9:=by omega
   have t1:(m:Int).tdiv 10=((m / 10:Nat):Int):=by rw [Int.tdiv_eq_ediv_of_nonneg (by omega)];omega
   have t2:(m:Int).tmod 10=(r:Int):=by rw [Int.tmod_eq_emod_of_nonneg (by omega)];omega
   have hp:=hide (dig_piece r hr9)
   rw [hr] at hst
   have hmeas:=hide (show m / 10<m + (if k=0 then 1 else 0) by
    rcases hgo with rfl|h
    ·simp;omega
    ·split <;> omega)
   have hdiv:=hide (show m / 10≤n by omega)
   have hes:=hide (show (⟨#[48,49,50,51,52,53,54,55,56,57]⟩:ByteArray).extract r (r + 1)++mkS l=mkS (r :: l) by rw [hp.out,mkS_app];rfl)
   have hfin:Hid ((∃ (k' m':Nat) (l':List Nat),m'≤n∧Value.int IntKind.i64 ((m:Int) / 10)=.int .i64 m'∧Value.string ((⟨#[48,49,50,51,52,53,54,55,56,57]⟩:ByteArray).extract r (r + 1)++mkS l)=.string (mkS l')∧Hid (SmJ n k' m' l')) ∧
     (natOf (Value.int IntKind.i64 ((m:Int) / 10)) + if lenS (Value.string ((⟨#[48,49,50,51,52,53,54,55,56,57]⟩:ByteArray).extract r (r + 1)++mkS l))=0 then 1 else 0)<natOf (Value.int IntKind.i64 (m:Int)) + if lenS (Value.string (mkS l))=0 then 1 else 0):=by
    refine ⟨⟨k + 1,m / 10,r :: l,hdiv.out,rfl,congrArg Value.string hes.out,hst.out⟩,?_⟩
    rw [hes.out]
    have e1:lenS (Value.string (mkS (r :: l)))=k + 1:=by show (mkS _).size=_;rw [mkS_size];simp [hI.out.len]
    have e2:lenS (Value.string (mkS l))=k:=hsz
    have e3:natOf (Value.int IntKind.i64 ((m:Int) / 10))=m / 10:=by show ((m:Int) / 10).toNat=_;omega
    have e4:natOf (Value.int IntKind.i64 (m:Int))=m:=by show ((m:Int)).toNat=_;omega
    rw [e1,e2,e3,e4,if_neg (by omega)]
    exact hmeas.out
   by_cases hk0:k=0
   ·have hl0:l=[]:=by
     have:=hI.out.len
     rw [hk0] at this
     exact List.length_eq_zero_iff.1 this
    subst hl0
    simp only [List.isEmpty_nil] at hemp
    clear hr hgo
    go_wp2
    exact hfin.out
   ·have hm0:0<m:=by omega
    have hm0':(0:Int)<m:=by omega
    have hne:l.isEmpty=false:=by
     cases l with
     | nil=>have:=hI.out.len;simp at this;omega
     | cons=>rfl
    rw [hne] at hemp
    clear hr hgo hne
    go_wp2
    exact hfin.out
  ·have hm0:m=0:=by omega
   subst hm0
   have hne:l.isEmpty=false:=by
    cases l with
    | nil=>have:=hI.out.len;simp at this;omega
    | cons=>rfl
   rw [hne] at hemp
   have hdec:=hide (show mkS l=mkB (Lib.decDigits n) by rw [hI.out.dec,if_neg hgo,mkS_dby];rfl)
   clear hne hgo
   go_wp2
   go_ret
   refine ⟨?_,rfl⟩
   refine congrArg (fun s=>Ending.returned (Value.string s)) ?_
   rw [hdec.out]
   exact mkB_app [45] _
theorem rsmall_itoa (n:Int) (w:World) (h0:-10000≤n) (h1:n≤10000) :
  Calls Tryz.prog 85 #[.int .i64 n] w fun e w'=>e=.returned (.string (mkB (Lib.itoa n)))∧w'=w:=by
 by_cases h:n<0
 ·obtain ⟨u,rfl⟩:∃ u:Nat,n=-(u:Int):=⟨n.natAbs,by omega⟩
  rw [Lib.itoa_neg u (by omega)]
  exact rsmall_neg u w (by omega) (by omega)
 ·obtain ⟨u,rfl⟩:∃ u:Nat,n=u:=⟨n.toNat,by omega⟩
  rw [Lib.itoa_nonneg u]
  exact rsmall_dec u w (by omega)
end Go.Proofs.YtpimjkdakjhoaaaGreatDoor
