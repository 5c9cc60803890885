/- Merged by program: RfInt, RgPower, RhPrint. -/
import Derived.Shelf.Strconv.AppendIntPublic10
import Derived.Test.YtgicnopppgnjjaaGreatDoorRfShelf
import Derived.Lib.AppendIntMem
import Derived.Lib.ItoaLen
import Derived.Test.YtgicnopppgnjjaaGreatDoorZd05
import Derived.Outline
set_option linter.unusedSimpArgs false
set_option linter.unusedVariables false
namespace Go.Proofs.YtgicnopppgnjjaaGreatDoor
open Go.Shelf Go.RowKit
abbrev Tab (B : Nat) (w : World) : Prop := Lib.TabBelow Tryz.prog B w "internal/strconv.uint64pow10" .u64 Lib.pow10Tab
theorem appendInt_any (B:Nat) (v:Value) (l:List UInt8) (n:Int) (w:World) (hown:Own w B v l) (hB:B≤w.heap.size) (hl:l.length≤1000) (h0:-100000≤n) (h1:n≤100000) (ht:Tab B w) :
  Calls Tryz.prog 234 #[v,.int .i64 n,.int .i64 10] w fun e w'=>∃ v',e=.returned v'∧Hid (Own w' B v' (l++Lib.itoa n))∧Hid (Below B w w'):=by
 refine (Any.strconv_AppendInt_10 laysAI B l.length n (by omega) (by omega) v (bcs l) w hown hB (by omega) ht).mono ?_
 rintro e w' ⟨v',rfl,h2,h3,_⟩
 refine ⟨v',rfl,?_,h3⟩
 show Own _ _ _ _
 unfold Own
 rw [bcs_append,List.length_append]
 exact h2
end Go.Proofs.YtgicnopppgnjjaaGreatDoor
namespace Go.Proofs.YtgicnopppgnjjaaGreatDoor
open Go.RowKit
set_option maxHeartbeats 1000000 in
theorem appendPower_more (B:Nat) (v:Value) (l:List UInt8) (s:ByteArray) (p:Int) (w:World) (hown:Own w B v l) (hB:B≤w.heap.size) (hl:l.length≤100) (hs:1<s.size) (hs':s.size≤100) (hp0:-100000≤p) (hp1:p≤100000) (ht:Tab B w) :
  Calls Tryz.prog 211 #[v,.string s,.int .i64 p] w fun e w'=>∃ v',e=.returned v'∧Hid (Own w' B v' (l++powered (bl s) (Lib.itoa p)))∧Hid (Below B w w'):=by
 have hown:=hide hown
 have ht:=hide ht
 have hn:=hide (news_one w s[0] 5)
 have hsi:(1:Int)<s.size:=by omega
 have hfin:=hide (show l++powered (bl s) (Lib.itoa p)=l++[s[0]]++[46]++bl (s.extract 1 s.size)++[101]++Lib.itoa p by
  unfold powered;rw [bl_length,if_pos hs,drop_mkB,bl_mkB]
  have e:(bl s).take 1=[s[0]]:=by
   rw [List.take_one,head_bl s (by omega)];rfl
  rw [e];simp)
 have hx2:=hide (show (s.extract 1 s.size).size=s.size - 1 by rw [drop_mkB,mkB_size];simp [bl_length])
 have hx2b:=hide (show (bl (s.extract 1 s.size)).length=s.size - 1 by rw [bl_length];exact hx2.out)
 go_enter Tryz.func211, Tryz.ntmps211
 go_wp2_with (first|(at_builtin;refine app_bytes rfl (.tmp 7) (.tmp 10) rfl B _ l rfl (hown.out.alloc _) ⟨w.heap.size,0,none⟩ 1 1 [s[0]] rfl rfl hn.out (by omega) (by simp;omega) ?_;intro v1 w1 h1 h2 h3;simp at h3;have hn1:=hide (news_one w1 46 5);have hB1:B≤w1.heap.size:=(by omega))|(at_builtin;refine app_bytes rfl (.tmp 15) (.tmp 16) rfl B _ _ rfl (h1.out.alloc _) ⟨w1.heap.size,0,none⟩ 1 1 [46] rfl rfl hn1.out (by simp;omega) (by simp;omega) ?_;intro v2 w2 h4 h5 h6;simp at h6;have hB2:B≤w2.heap.size:=(by omega))|(at_builtin;refine app_str rfl (.tmp 18) (.tmp 20) rfl B _ _ rfl h4.out (s.extract 1 s.size) rfl (by rw [hx2.out];simp;omega) hB2 ?_;intro v3 w3 h7 h8 h9;have hn3:=hide (news_one w3 101 5);have hB3:B≤w3.heap.size:=(by omega))|(at_builtin;refine app_bytes rfl (.tmp 22) (.tmp 23) rfl B _ _ rfl (h7.out.alloc _) ⟨w3.heap.size,0,none⟩ 1 1 [101] rfl rfl hn3.out (by have:=hx2b.out;simp;omega) (by simp;omega) ?_;intro v4 w4 h10 h11 h12;simp at h12;have hB4:B≤w4.heap.size:=(by omega)))
 go_wp2_with fail
 have hb4:=hide (((((((Below.refl B w).alloc hB _).trans h2.out).alloc hB1 _).trans h5.out).trans h8.out).alloc hB3 _ |>.trans h11.out)
 go_fit (appendInt_any B v4 _ p w4 h10.out hB4 (by have:=hx2b.out;simp;omega) hp0 hp1 (ht.out.on hb4.out))
 rintro e w5 ⟨v5,rfl,h13,h14⟩
 go_wp2
 go_ret
 refine ⟨_,rfl,?_,?_⟩
 ·show Own _ _ _ _
  rw [hfin.out];exact h13.out
 ·exact (((((((Below.refl B w).alloc hB _).trans h2.out).alloc hB1 _).trans h5.out).trans h8.out).alloc hB3 _).trans (h11.out.trans h14.out)
set_option maxHeartbeats 1000000 in
theorem appendPower_one (B:Nat) (v:Value) (l:List UInt8) (s:ByteArray) (p:Int) (w:World) (hown:Own w B v l) (hB:B≤w.heap.size) (hl:l.length≤100) (hs:s.size=1) (hp0:-100000≤p) (hp1:p≤100000) (ht:Tab B w) :
  Calls Tryz.prog 211 #[v,.string s,.int .i64 p] w fun e w'=>∃ v',e=.returned v'∧Hid (Own w' B v' (l++powered (bl s) (Lib.itoa p)))∧Hid (Below B w w'):=by
 have hown:=hide hown
 have ht:=hide ht
 have hs0:0<s.size:=by omega
 have hn:=hide (news_one w s[0] 5)
 have hfin:=hide (show l++powered (bl s) (Lib.itoa p)=l++[s[0]]++[101]++Lib.itoa p by
  unfold powered;rw [bl_length,if_neg (by omega)]
  have e:(bl s).take 1=[s[0]]:=by
   rw [List.take_one,head_bl s (by omega)];rfl
  rw [e];simp)
 go_enter Tryz.func211, Tryz.ntmps211
 go_wp2_with (first|(at_builtin;refine app_bytes rfl (.tmp 7) (.tmp 10) rfl B _ l rfl (hown.out.alloc _) ⟨w.heap.size,0,none⟩ 1 1 [s[0]] rfl rfl hn.out (by omega) (by simp;omega) ?_;intro v1 w1 h1 h2 h3;simp at h3;have hn1:=hide (news_one w1 101 5);have hB1:B≤w1.heap.size:=(by omega))|(at_builtin;refine app_bytes rfl (.tmp 22) (.tmp 23) rfl B _ _ rfl (h1.out.alloc _) ⟨w1.heap.size,0,none⟩ 1 1 [101] rfl rfl hn1.out (by simp;omega) (by simp;omega) ?_;intro v4 w4 h10 h11 h12;simp at h12;have hB4:B≤w4.heap.size:=(by omega)))
 go_wp2_with fail
 have hb4:=hide (((((Below.refl B w).alloc hB _).trans h2.out).alloc hB1 _).trans h11.out)
 go_fit (appendInt_any B v4 _ p w4 h10.out hB4 (by simp;omega) hp0 hp1 (ht.out.on hb4.out))
 rintro e w5 ⟨v5,rfl,h13,h14⟩
 go_wp2
 go_ret
 refine ⟨_,rfl,?_,?_⟩
 ·show Own _ _ _ _
  rw [hfin.out];exact h13.out
 ·exact hb4.out.trans h14.out
theorem appendPower_any (B:Nat) (v:Value) (l:List UInt8) (s:ByteArray) (p:Int) (w:World) (hown:Own w B v l) (hB:B≤w.heap.size) (hl:l.length≤100) (hs:0<s.size) (hs':s.size≤100) (hp0:-100000≤p) (hp1:p≤100000) (ht:Tab B w) :
  Calls Tryz.prog 211 #[v,.string s,.int .i64 p] w fun e w'=>∃ v',e=.returned v'∧Hid (Own w' B v' (l++powered (bl s) (Lib.itoa p)))∧Hid (Below B w w'):=by
 by_cases h:1<s.size
 ·exact appendPower_more B v l s p w hown hB hl h hs' hp0 hp1 ht
 ·exact appendPower_one B v l s p w hown hB hl (by omega) hp0 hp1 ht
end Go.Proofs.YtgicnopppgnjjaaGreatDoor
namespace Go.Proofs.YtgicnopppgnjjaaGreatDoor
open Go.RowKit
def printL (n:Bool) (l:List UInt8) (x:Int):List UInt8 :=
 sgnB n++(if 0≤x∧(l.length:Int) + x≤21 then l++List.replicate x.toNat 48 else if x<0∧-21≤x then pointed l (-x).toNat else powered l (Lib.itoa (x + l.length - 1)))
theorem Tab.up {B B':Nat} {w:World} (h:Tab B w) (hb:B≤B'):Tab B' w:=fun W hW=>h W (hW.mono hb)
set_option maxHeartbeats 1000000 in
theorem print_no (n:Bool) (s:ByteArray) (x:Int) (w:World) (hs:s.size≤100000) (h:isN n s x=false) :
  Calls Tryz.prog 177 #[.agg #[.bool n,.string s,.int .i64 x]] w fun e w'=>e=.returned (.tuple #[.string ⟨#[]⟩,.int .i64 10])∧Below w.heap.size w w':=by
 have ml:maxLen=2 ^ 63 - 1:=rfl
 have hB:=hide (box_new w n s x)
 go_enter Tryz.func177, Tryz.ntmps177
 go_wp2_with fail
 refine (check_no n s _ _ (by omega) h).mono ?_
 rintro e w1 ⟨rfl,hb1⟩
 have hb:=hide (below_alloc hb1)
 clear hb1 hB
 go_wp2
 go_ret2
 exact ⟨rfl,hb.out⟩
set_option maxHeartbeats 1000000 in
theorem print_plain_false (s:ByteArray) (x:Int) (w:World) (h:isN false s x=true) (hx0:0≤x) (hx21:(s.size:Int) + x≤21) (ht:Tab w.heap.size w) :
  Calls Tryz.prog 177 #[.agg #[.bool false,.string s,.int .i64 x]] w fun e w'=>e=.returned (.tuple #[.string (mkB ((bl s++List.replicate x.toNat 48))),.int .i64 0])∧Below w.heap.size w w':=by
 have ml:maxLen=2 ^ 63 - 1:=rfl
 have ht:=hide ht
 obtain ⟨had,hl1,hl40,hx1,hx2,hdg⟩:=isN_all h
 clear had hdg
 have hB:=hide (box_new w false s x)
 have hg0:decide ((0:Int)≤x)=true:=decide_eq_true hx0
 have hg1:decide ((s.size:Int) + x≤21)=true:=decide_eq_true hx21
 go_enter Tryz.func177, Tryz.ntmps177
 go_wp2_with fail
 refine (check_ok false s _ _ (by omega) h).mono ?_
 rintro e w1 ⟨rfl,hb1⟩
 have hB1:=hide (hB.out.below hb1 (by simp))
 have hlw:=hB1.out.lt
 obtain ⟨c0,c1,c2,f0,f1,f2⟩:=hB1.out.cells
 have hb:=hide (below_alloc hb1)
 clear hb1 hB
 have ht1:Hid (Tab w1.heap.size w1):=Tab.up (ht.out.on hb.out) hb.out.size
 go_wp2_with (first|(at_builtin;refine app_str rfl _ _ rfl w1.heap.size _ [] rfl (own_nil _ _) s rfl (by simp;omega) (by have:=(Below.refl w1.heap.size w1).size;omega) ?_;intro v3 w3 h5 h6 h7;have hb3:=hide ((Below.refl w1.heap.size w1).trans h6.out);have hB3:=hide (hB1.out.below hb3.out hlw);have hl3:=hB3.out.lt;obtain ⟨k0,k1,k2,m0,m1,m2⟩:=hB3.out.cells))
 go_wp2_with fail
 go_fit (appendNoughts_any w1.heap.size v3 ([]++bl s) x w3 h5.out (by have:=hb3.out.size;omega) (by simp [bl_length];omega) (by omega))
 rintro e w4 ⟨v4,rfl,h8,h9⟩
 have hcv:=own_conv h8.out
 have hbz:=hide (hb3.out.trans h9.out)
 rw [List.nil_append] at hcv
 go_wp2
 go_ret2
 exact ⟨rfl,hb.out.trans (hbz.out.mono hb.out.size)⟩
set_option maxHeartbeats 1000000 in
theorem print_point_false (s:ByteArray) (x:Int) (w:World) (h:isN false s x=true) (hx0:x<0) (hx21:-21≤x) (ht:Tab w.heap.size w) :
  Calls Tryz.prog 177 #[.agg #[.bool false,.string s,.int .i64 x]] w fun e w'=>e=.returned (.tuple #[.string (mkB ((pointed (bl s) (-x).toNat))),.int .i64 0])∧Below w.heap.size w w':=by
 have ml:maxLen=2 ^ 63 - 1:=rfl
 have ht:=hide ht
 obtain ⟨had,hl1,hl40,hx1,hx2,hdg⟩:=isN_all h
 clear had hdg
 have hB:=hide (box_new w false s x)
 obtain ⟨bh,hbh⟩:∃ bh:Nat,x=-(bh:Int):=⟨(-x).toNat,by omega⟩
 subst hbh
 have hbn:(- -(bh:Int))=(bh:Int):=by omega
 have hg0:decide ((0:Int)≤-(bh:Int))=false:=decide_eq_false (by omega)
 rw [hbn,Int.toNat_natCast]
 go_enter Tryz.func177, Tryz.ntmps177
 go_wp2_with fail
 refine (check_ok false s _ _ (by omega) h).mono ?_
 rintro e w1 ⟨rfl,hb1⟩
 have hB1:=hide (hB.out.below hb1 (by simp))
 have hlw:=hB1.out.lt
 obtain ⟨c0,c1,c2,f0,f1,f2⟩:=hB1.out.cells
 have hb:=hide (below_alloc hb1)
 clear hb1 hB
 have ht1:Hid (Tab w1.heap.size w1):=Tab.up (ht.out.on hb.out) hb.out.size
 go_wp2_with fail
 go_fit (appendPointed_any w1.heap.size (.slice none 0 0) [] s bh w1 (own_nil _ _) (by have:=(Below.refl w1.heap.size w1).size;omega) (by simp) (by omega) (by omega))
 rintro e w4 ⟨v4,rfl,h8,h9⟩
 have hcv:=own_conv h8.out
 have hbz:=hide ((Below.refl w1.heap.size w1).trans h9.out)
 rw [List.nil_append] at hcv
 go_wp2
 go_ret2
 exact ⟨rfl,hb.out.trans (hbz.out.mono hb.out.size)⟩
set_option maxHeartbeats 1000000 in
theorem print_up_false (s:ByteArray) (x:Int) (w:World) (h:isN false s x=true) (hx0:0≤x) (hx21:21<(s.size:Int) + x) (ht:Tab w.heap.size w) :
  Calls Tryz.prog 177 #[.agg #[.bool false,.string s,.int .i64 x]] w fun e w'=>e=.returned (.tuple #[.string (mkB ((powered (bl s) (Lib.itoa (x + s.size - 1))))),.int .i64 0])∧Below w.heap.size w w':=by
 have ml:maxLen=2 ^ 63 - 1:=rfl
 have ht:=hide ht
 obtain ⟨had,hl1,hl40,hx1,hx2,hdg⟩:=isN_all h
 clear had hdg
 have hB:=hide (box_new w false s x)
 have hg0:decide ((0:Int)≤x)=true:=decide_eq_true hx0
 have hg1:decide ((s.size:Int) + x≤21)=false:=decide_eq_false (by omega)
 have hg2:decide (x<0)=false:=decide_eq_false (by omega)
 go_enter Tryz.func177, Tryz.ntmps177
 go_wp2_with fail
 refine (check_ok false s _ _ (by omega) h).mono ?_
 rintro e w1 ⟨rfl,hb1⟩
 have hB1:=hide (hB.out.below hb1 (by simp))
 have hlw:=hB1.out.lt
 obtain ⟨c0,c1,c2,f0,f1,f2⟩:=hB1.out.cells
 have hb:=hide (below_alloc hb1)
 clear hb1 hB
 have ht1:Hid (Tab w1.heap.size w1):=Tab.up (ht.out.on hb.out) hb.out.size
 go_wp2_with fail
 go_fit (appendPower_any w1.heap.size (.slice none 0 0) [] s (x + s.size - 1) w1 (own_nil _ _) (by have:=(Below.refl w1.heap.size w1).size;omega) (by simp) (by omega) (by omega) (by omega) (by omega) (Lib.TabBelow.on ht1.out (Below.refl w1.heap.size w1)))
 rintro e w4 ⟨v4,rfl,h8,h9⟩
 have hcv:=own_conv h8.out
 have hbz:=hide ((Below.refl w1.heap.size w1).trans h9.out)
 rw [List.nil_append] at hcv
 go_wp2
 go_ret2
 exact ⟨rfl,hb.out.trans (hbz.out.mono hb.out.size)⟩
set_option maxHeartbeats 1000000 in
theorem print_down_false (s:ByteArray) (x:Int) (w:World) (h:isN false s x=true) (hx0:x<0) (hx21:x < -21) (ht:Tab w.heap.size w) :
  Calls Tryz.prog 177 #[.agg #[.bool false,.string s,.int .i64 x]] w fun e w'=>e=.returned (.tuple #[.string (mkB ((powered (bl s) (Lib.itoa (x + s.size - 1))))),.int .i64 0])∧Below w.heap.size w w':=by
 have ml:maxLen=2 ^ 63 - 1:=rfl
 have ht:=hide ht
 obtain ⟨had,hl1,hl40,hx1,hx2,hdg⟩:=isN_all h
 clear had hdg
 have hB:=hide (box_new w false s x)
 have hg0:decide ((0:Int)≤x)=false:=decide_eq_false (by omega)
 have hg1:decide (x<0)=true:=decide_eq_true hx0
 have hg2:decide (-x≤21)=false:=decide_eq_false (by omega)
 go_enter Tryz.func177, Tryz.ntmps177
 go_wp2_with fail
 refine (check_ok false s _ _ (by omega) h).mono ?_
 rintro e w1 ⟨rfl,hb1⟩
 have hB1:=hide (hB.out.below hb1 (by simp))
 have hlw:=hB1.out.lt
 obtain ⟨c0,c1,c2,f0,f1,f2⟩:=hB1.out.cells
 have hb:=hide (below_alloc hb1)
 clear hb1 hB
 have ht1:Hid (Tab w1.heap.size w1):=Tab.up (ht.out.on hb.out) hb.out.size
 go_wp2_with fail
 go_fit (appendPower_any w1.heap.size (.slice none 0 0) [] s (x + s.size - 1) w1 (own_nil _ _) (by have:=(Below.refl w1.heap.size w1).size;omega) (by simp) (by omega) (by omega) (by omega) (by omega) (Lib.TabBelow.on ht1.out (Below.refl w1.heap.size w1)))
 rintro e w4 ⟨v4,rfl,h8,h9⟩
 have hcv:=own_conv h8.out
 have hbz:=hide ((Below.refl w1.heap.size w1).trans h9.out)
 rw [List.nil_append] at hcv
 go_wp2
 go_ret2
 exact ⟨rfl,hb.out.trans (hbz.out.mono hb.out.size)⟩
set_option maxHeartbeats 1000000 in
theorem print_plain_true (s:ByteArray) (x:Int) (w:World) (h:isN true s x=true) (hx0:0≤x) (hx21:(s.size:Int) + x≤21) (ht:Tab w.heap.size w) :
  Calls Tryz.prog 177 #[.agg #[.bool true,.string s,.int .i64 x]] w fun e w'=>e=.returned (.tuple #[.string (mkB ([45]++(bl s++List.replicate x.toNat 48))),.int .i64 0])∧Below w.heap.size w w':=by
 have ml:maxLen=2 ^ 63 - 1:=rfl
 have ht:=hide ht
 obtain ⟨had,hl1,hl40,hx1,hx2,hdg⟩:=isN_all h
 clear had hdg
 have hB:=hide (box_new w true s x)
 have hg0:decide ((0:Int)≤x)=true:=decide_eq_true hx0
 have hg1:decide ((s.size:Int) + x≤21)=true:=decide_eq_true hx21
 go_enter Tryz.func177, Tryz.ntmps177
 go_wp2_with fail
 refine (check_ok true s _ _ (by omega) h).mono ?_
 rintro e w1 ⟨rfl,hb1⟩
 have hB1:=hide (hB.out.below hb1 (by simp))
 have hlw:=hB1.out.lt
 obtain ⟨c0,c1,c2,f0,f1,f2⟩:=hB1.out.cells
 have hb:=hide (below_alloc hb1)
 clear hb1 hB
 have ht1:Hid (Tab w1.heap.size w1):=Tab.up (ht.out.on hb.out) hb.out.size
 have hn1:=hide (news_one w1 45 5)
 go_wp2_with (first|(at_builtin;refine app_bytes rfl _ _ rfl w1.heap.size _ [] rfl ((own_nil _ _).alloc _) ⟨w1.heap.size,0,none⟩ 1 1 [45] rfl rfl hn1.out (by simp) (by simp) ?_;intro v2 w2 h2 h3 h4;simp at h4;have hb2:=hide (((Below.refl w1.heap.size w1).alloc (Nat.le_refl _) _).trans h3.out);have hB2:=hide (hB1.out.below hb2.out hlw);have hl2:=hB2.out.lt;obtain ⟨d0,d1,d2,g0,g1,g2⟩:=hB2.out.cells)|(at_builtin;refine app_str rfl _ _ rfl w1.heap.size _ [45] rfl h2.out s rfl (by simp;omega) (by have:=hb2.out.size;omega) ?_;intro v3 w3 h5 h6 h7;have hb3:=hide (hb2.out.trans h6.out);have hB3:=hide (hB1.out.below hb3.out hlw);have hl3:=hB3.out.lt;obtain ⟨k0,k1,k2,m0,m1,m2⟩:=hB3.out.cells))
 go_wp2_with fail
 go_fit (appendNoughts_any w1.heap.size v3 ([45]++bl s) x w3 h5.out (by have:=hb3.out.size;omega) (by simp [bl_length];omega) (by omega))
 rintro e w4 ⟨v4,rfl,h8,h9⟩
 have hcv:=own_conv h8.out
 have hbz:=hide (hb3.out.trans h9.out)
 rw [List.append_assoc] at hcv
 go_wp2
 go_ret2
 exact ⟨rfl,hb.out.trans (hbz.out.mono hb.out.size)⟩
set_option maxHeartbeats 1000000 in
theorem print_point_true (s:ByteArray) (x:Int) (w:World) (h:isN true s x=true) (hx0:x<0) (hx21:-21≤x) (ht:Tab w.heap.size w) :
  Calls Tryz.prog 177 #[.agg #[.bool true,.string s,.int .i64 x]] w fun e w'=>e=.returned (.tuple #[.string (mkB ([45]++(pointed (bl s) (-x).toNat))),.int .i64 0])∧Below w.heap.size w w':=by
 have ml:maxLen=2 ^ 63 - 1:=rfl
 have ht:=hide ht
 obtain ⟨had,hl1,hl40,hx1,hx2,hdg⟩:=isN_all h
 clear had hdg
 have hB:=hide (box_new w true s x)
 obtain ⟨bh,hbh⟩:∃ bh:Nat,x=-(bh:Int):=⟨(-x).toNat,by omega⟩
 subst hbh
 have hbn:(- -(bh:Int))=(bh:Int):=by omega
 have hg0:decide ((0:Int)≤-(bh:Int))=false:=decide_eq_false (by omega)
 rw [hbn,Int.toNat_natCast]
 go_enter Tryz.func177, Tryz.ntmps177
 go_wp2_with fail
 refine (check_ok true s _ _ (by omega) h).mono ?_
 rintro e w1 ⟨rfl,hb1⟩
 have hB1:=hide (hB.out.below hb1 (by simp))
 have hlw:=hB1.out.lt
 obtain ⟨c0,c1,c2,f0,f1,f2⟩:=hB1.out.cells
 have hb:=hide (below_alloc hb1)
 clear hb1 hB
 have ht1:Hid (Tab w1.heap.size w1):=Tab.up (ht.out.on hb.out) hb.out.size
 have hn1:=hide (news_one w1 45 5)
 go_wp2_with (first|(at_builtin;refine app_bytes rfl _ _ rfl w1.heap.size _ [] rfl ((own_nil _ _).alloc _) ⟨w1.heap.size,0,none⟩ 1 1 [45] rfl rfl hn1.out (by simp) (by simp) ?_;intro v2 w2 h2 h3 h4;simp at h4;have hb2:=hide (((Below.refl w1.heap.size w1).alloc (Nat.le_refl _) _).trans h3.out);have hB2:=hide (hB1.out.below hb2.out hlw);have hl2:=hB2.out.lt;obtain ⟨d0,d1,d2,g0,g1,g2⟩:=hB2.out.cells))
 go_wp2_with fail
 go_fit (appendPointed_any w1.heap.size v2 [45] s bh w2 h2.out (by have:=hb2.out.size;omega) (by simp) (by omega) (by omega))
 rintro e w4 ⟨v4,rfl,h8,h9⟩
 have hcv:=own_conv h8.out
 have hbz:=hide (hb2.out.trans h9.out)
 go_wp2
 go_ret2
 exact ⟨rfl,hb.out.trans (hbz.out.mono hb.out.size)⟩
set_option maxHeartbeats 1000000 in
theorem print_up_true (s:ByteArray) (x:Int) (w:World) (h:isN true s x=true) (hx0:0≤x) (hx21:21<(s.size:Int) + x) (ht:Tab w.heap.size w) :
  Calls Tryz.prog 177 #[.agg #[.bool true,.string s,.int .i64 x]] w fun e w'=>e=.returned (.tuple #[.string (mkB ([45]++(powered (bl s) (Lib.itoa (x + s.size - 1))))),.int .i64 0])∧Below w.heap.size w w':=by
 have ml:maxLen=2 ^ 63 - 1:=rfl
 have ht:=hide ht
 obtain ⟨had,hl1,hl40,hx1,hx2,hdg⟩:=isN_all h
 clear had hdg
 have hB:=hide (box_new w true s x)
 have hg0:decide ((0:Int)≤x)=true:=decide_eq_true hx0
 have hg1:decide ((s.size:Int) + x≤21)=false:=decide_eq_false (by omega)
 have hg2:decide (x<0)=false:=decide_eq_false (by omega)
 go_enter Tryz.func177, Tryz.ntmps177
 go_wp2_with fail
 refine (check_ok true s _ _ (by omega) h).mono ?_
 rintro e w1 ⟨rfl,hb1⟩
 have hB1:=hide (hB.out.below hb1 (by simp))
 have hlw:=hB1.out.lt
 obtain ⟨c0,c1,c2,f0,f1,f2⟩:=hB1.out.cells
 have hb:=hide (below_alloc hb1)
 clear hb1 hB
 have ht1:Hid (Tab w1.heap.size w1):=Tab.up (ht.out.on hb.out) hb.out.size
 have hn1:=hide (news_one w1 45 5)
 go_wp2_with (first|(at_builtin;refine app_bytes rfl _ _ rfl w1.heap.size _ [] rfl ((own_nil _ _).alloc _) ⟨w1.heap.size,0,none⟩ 1 1 [45] rfl rfl hn1.out (by simp) (by simp) ?_;intro v2 w2 h2 h3 h4;simp at h4;have hb2:=hide (((Below.refl w1.heap.size w1).alloc (Nat.le_refl _) _).trans h3.out);have hB2:=hide (hB1.out.below hb2.out hlw);have hl2:=hB2.out.lt;obtain ⟨d0,d1,d2,g0,g1,g2⟩:=hB2.out.cells))
 go_wp2_with fail
 go_fit (appendPower_any w1.heap.size v2 [45] s (x + s.size - 1) w2 h2.out (by have:=hb2.out.size;omega) (by simp) (by omega) (by omega) (by omega) (by omega) (Lib.TabBelow.on ht1.out hb2.out))
 rintro e w4 ⟨v4,rfl,h8,h9⟩
 have hcv:=own_conv h8.out
 have hbz:=hide (hb2.out.trans h9.out)
 go_wp2
 go_ret2
 exact ⟨rfl,hb.out.trans (hbz.out.mono hb.out.size)⟩
set_option maxHeartbeats 1000000 in
theorem print_down_true (s:ByteArray) (x:Int) (w:World) (h:isN true s x=true) (hx0:x<0) (hx21:x < -21) (ht:Tab w.heap.size w) :
  Calls Tryz.prog 177 #[.agg #[.bool true,.string s,.int .i64 x]] w fun e w'=>e=.returned (.tuple #[.string (mkB ([45]++(powered (bl s) (Lib.itoa (x + s.size - 1))))),.int .i64 0])∧Below w.heap.size w w':=by
 have ml:maxLen=2 ^ 63 - 1:=rfl
 have ht:=hide ht
 obtain ⟨had,hl1,hl40,hx1,hx2,hdg⟩:=isN_all h
 clear had hdg
 have hB:=hide (box_new w true s x)
 have hg0:decide ((0:Int)≤x)=false:=decide_eq_false (by omega)
 have hg1:decide (x<0)=true:=decide_eq_true hx0
 have hg2:decide (-x≤21)=false:=decide_eq_false (by omega)
 go_enter Tryz.func177, Tryz.ntmps177
 go_wp2_with fail
 refine (check_ok true s _ _ (by omega) h).mono ?_
 rintro e w1 ⟨rfl,hb1⟩
 have hB1:=hide (hB.out.below hb1 (by simp))
 have hlw:=hB1.out.lt
 obtain ⟨c0,c1,c2,f0,f1,f2⟩:=hB1.out.cells
 have hb:=hide (below_alloc hb1)
 clear hb1 hB
 have ht1:Hid (Tab w1.heap.size w1):=Tab.up (ht.out.on hb.out) hb.out.size
 have hn1:=hide (news_one w1 45 5)
 go_wp2_with (first|(at_builtin;refine app_bytes rfl _ _ rfl w1.heap.size _ [] rfl ((own_nil _ _).alloc _) ⟨w1.heap.size,0,none⟩ 1 1 [45] rfl rfl hn1.out (by simp) (by simp) ?_;intro v2 w2 h2 h3 h4;simp at h4;have hb2:=hide (((Below.refl w1.heap.size w1).alloc (Nat.le_refl _) _).trans h3.out);have hB2:=hide (hB1.out.below hb2.out hlw);have hl2:=hB2.out.lt;obtain ⟨d0,d1,d2,g0,g1,g2⟩:=hB2.out.cells))
 go_wp2_with fail
 go_fit (appendPower_any w1.heap.size v2 [45] s (x + s.size - 1) w2 h2.out (by have:=hb2.out.size;omega) (by simp) (by omega) (by omega) (by omega) (by omega) (Lib.TabBelow.on ht1.out hb2.out))
 rintro e w4 ⟨v4,rfl,h8,h9⟩
 have hcv:=own_conv h8.out
 have hbz:=hide (hb2.out.trans h9.out)
 go_wp2
 go_ret2
 exact ⟨rfl,hb.out.trans (hbz.out.mono hb.out.size)⟩
theorem print_any (n:Bool) (s:ByteArray) (x:Int) (w:World) (h:isN n s x=true) (ht:Tab w.heap.size w) :
  Calls Tryz.prog 177 #[.agg #[.bool n,.string s,.int .i64 x]] w fun e w'=>e=.returned (.tuple #[.string (mkB (printL n (bl s) x)),.int .i64 0])∧Below w.heap.size w w':=by
 unfold printL
 rw [bl_length]
 by_cases h1:0≤x∧(s.size:Int) + x≤21
 ·rw [if_pos h1]
  cases n
  ·exact print_plain_false s x w h h1.1 h1.2 ht
  ·exact print_plain_true s x w h h1.1 h1.2 ht
 ·rw [if_neg h1]
  by_cases h2:x<0∧-21≤x
  ·rw [if_pos h2]
   cases n
   ·exact print_point_false s x w h h2.1 h2.2 ht
   ·exact print_point_true s x w h h2.1 h2.2 ht
  ·rw [if_neg h2]
   by_cases h3:x<0
   ·cases n
    ·exact print_down_false s x w h h3 (by omega) ht
    ·exact print_down_true s x w h h3 (by omega) ht
   ·cases n
    ·exact print_up_false s x w h (by omega) (by omega) ht
    ·exact print_up_true s x w h (by omega) (by omega) ht
end Go.Proofs.YtgicnopppgnjjaaGreatDoor
