/- Merged by program: RfInt, RgPower, RhPrint, SgParse. -/
import Derived.Shelf.Strconv.AppendIntPublic10
import Derived.Test.YtcnfchblfcfimaaGreatDoorRfShelf
import Derived.Lib.AppendIntMem
import Derived.Lib.ItoaLen
import Derived.Test.YtcnfchblfcfimaaGreatDoorZr04
import Derived.Outline
set_option linter.unusedSimpArgs false
set_option linter.unusedVariables false
namespace Go.Proofs.YtcnfchblfcfimaaGreatDoor
open Go.Shelf Go.RowKit
abbrev Tab (B : Nat) (w : World) : Prop := Lib.TabBelow Tryz.prog B w "internal/strconv.uint64pow10" .u64 Lib.pow10Tab
theorem appendInt_any (B:Nat) (v:Value) (l:List UInt8) (n:Int) (w:World) (hown:Own w B v l) (hB:B≤w.heap.size) (hl:l.length≤1000) (h0:-100000≤n) (h1:n≤100000) (ht:Tab B w) :
  Calls Tryz.prog 198 #[v,.int .i64 n,.int .i64 10] w fun e w'=>∃ v',e=.returned v'∧Hid (Own w' B v' (l++Lib.itoa n))∧Hid (Below B w w'):=by
 refine (Any.strconv_AppendInt_10 laysAI B l.length n (by omega) (by omega) v (bcs l) w hown hB (by omega) ht).mono ?_
 rintro e w' ⟨v',rfl,h2,h3,_⟩
 refine ⟨v',rfl,?_,h3⟩
 show Own _ _ _ _
 unfold Own
 rw [bcs_append,List.length_append]
 exact h2
end Go.Proofs.YtcnfchblfcfimaaGreatDoor
namespace Go.Proofs.YtcnfchblfcfimaaGreatDoor
open Go.RowKit
set_option maxHeartbeats 1000000 in
theorem appendPower_more (B:Nat) (v:Value) (l:List UInt8) (s:ByteArray) (p:Int) (w:World) (hown:Own w B v l) (hB:B≤w.heap.size) (hl:l.length≤100) (hs:1<s.size) (hs':s.size≤100) (hp0:-100000≤p) (hp1:p≤100000) (ht:Tab B w) :
  Calls Tryz.prog 163 #[v,.string s,.int .i64 p] w fun e w'=>∃ v',e=.returned v'∧Hid (Own w' B v' (l++powered (bl s) (Lib.itoa p)))∧Hid (Below B w w'):=by
 have hown:=hide hown
 have ht:=hide ht
 have hn:=hide (news_one w s[0] 5)
 have hsi:(1:Int)<s.size:=by omega
 have hfin:=hide (show l++powered (bl s) (Lib.itoa p)=l++[s[0]]++[46]++bl (s.extract 1 s.size)++[101]++Lib.itoa p by
  unfold powered;rw [bl_length,if_pos hs,drop_mkB,bl_mkB]
  have e:(bl s).take 1=[s[0]]:=by
   rw [List.take_one,head_bl s (by omega)];rfl
  rw [e];simp)
 have hx2:=hide (show (s.extract 1 s.size).size=s.size - 1 by rw [drop_mkB,mkB_size];simp [bl_length])
 have hx2b:=hide (show (bl (s.extract 1 s.size)).length=s.size - 1 by rw [bl_length];exact hx2.out)
 go_enter Tryz.func163, Tryz.ntmps163
 go_wp2_with (first|(at_builtin;refine app_bytes rfl (.tmp 7) (.tmp 10) rfl B _ l rfl (hown.out.alloc _) ⟨w.heap.size,0,none⟩ 1 1 [s[0]] rfl rfl hn.out (by omega) (by simp;omega) ?_;intro v1 w1 h1 h2 h3;simp at h3;have hn1:=hide (news_one w1 46 5);have hB1:B≤w1.heap.size:=(by omega))|(at_builtin;refine app_bytes rfl (.tmp 15) (.tmp 16) rfl B _ _ rfl (h1.out.alloc _) ⟨w1.heap.size,0,none⟩ 1 1 [46] rfl rfl hn1.out (by simp;omega) (by simp;omega) ?_;intro v2 w2 h4 h5 h6;simp at h6;have hB2:B≤w2.heap.size:=(by omega))|(at_builtin;refine app_str rfl (.tmp 18) (.tmp 20) rfl B _ _ rfl h4.out (s.extract 1 s.size) rfl (by rw [hx2.out];simp;omega) hB2 ?_;intro v3 w3 h7 h8 h9;have hn3:=hide (news_one w3 101 5);have hB3:B≤w3.heap.size:=(by omega))|(at_builtin;refine app_bytes rfl (.tmp 22) (.tmp 23) rfl B _ _ rfl (h7.out.alloc _) ⟨w3.heap.size,0,none⟩ 1 1 [101] rfl rfl hn3.out (by have:=hx2b.out;simp;omega) (by simp;omega) ?_;intro v4 w4 h10 h11 h12;simp at h12;have hB4:B≤w4.heap.size:=(by omega)))
 go_wp2_with fail
 have hb4:=hide (((((((Below.refl B w).alloc hB _).trans h2.out).alloc hB1 _).trans h5.out).trans h8.out).alloc hB3 _ |>.trans h11.out)
 go_fit (appendInt_any B v4 _ p w4 h10.out hB4 (by have:=hx2b.out;simp;omega) hp0 hp1 (ht.out.on hb4.out))
 rintro e w5 ⟨v5,rfl,h13,h14⟩
 go_wp2
 go_ret
 refine ⟨_,rfl,?_,?_⟩
 ·show Own _ _ _ _
  rw [hfin.out];exact h13.out
 ·exact (((((((Below.refl B w).alloc hB _).trans h2.out).alloc hB1 _).trans h5.out).trans h8.out).alloc hB3 _).trans (h11.out.trans h14.out)
set_option maxHeartbeats 1000000 in
theorem appendPower_one (B:Nat) (v:Value) (l:List UInt8) (s:ByteArray) (p:Int) (w:World) (hown:Own w B v l) (hB:B≤w.heap.size) (hl:l.length≤100) (hs:s.size=1) (hp0:-100000≤p) (hp1:p≤100000) (ht:Tab B w) :
  Calls Tryz.prog 163 #[v,.string s,.int .i64 p] w fun e w'=>∃ v',e=.returned v'∧Hid (Own w' B v' (l++powered (bl s) (Lib.itoa p)))∧Hid (Below B w w'):=by
 have hown:=hide hown
 have ht:=hide ht
 have hs0:0<s.size:=by omega
 have hn:=hide (news_one w s[0] 5)
 have hfin:=hide (show l++powered (bl s) (Lib.itoa p)=l++[s[0]]++[101]++Lib.itoa p by
  unfold powered;rw [bl_length,if_neg (by omega)]
  have e:(bl s).take 1=[s[0]]:=by
   rw [List.take_one,head_bl s (by omega)];rfl
  rw [e];simp)
 go_enter Tryz.func163, Tryz.ntmps163
 go_wp2_with (first|(at_builtin;refine app_bytes rfl (.tmp 7) (.tmp 10) rfl B _ l rfl (hown.out.alloc _) ⟨w.heap.size,0,none⟩ 1 1 [s[0]] rfl rfl hn.out (by omega) (by simp;omega) ?_;intro v1 w1 h1 h2 h3;simp at h3;have hn1:=hide (news_one w1 101 5);have hB1:B≤w1.heap.size:=(by omega))|(at_builtin;refine app_bytes rfl (.tmp 22) (.tmp 23) rfl B _ _ rfl (h1.out.alloc _) ⟨w1.heap.size,0,none⟩ 1 1 [101] rfl rfl hn1.out (by simp;omega) (by simp;omega) ?_;intro v4 w4 h10 h11 h12;simp at h12;have hB4:B≤w4.heap.size:=(by omega)))
 go_wp2_with fail
 have hb4:=hide (((((Below.refl B w).alloc hB _).trans h2.out).alloc hB1 _).trans h11.out)
 go_fit (appendInt_any B v4 _ p w4 h10.out hB4 (by simp;omega) hp0 hp1 (ht.out.on hb4.out))
 rintro e w5 ⟨v5,rfl,h13,h14⟩
 go_wp2
 go_ret
 refine ⟨_,rfl,?_,?_⟩
 ·show Own _ _ _ _
  rw [hfin.out];exact h13.out
 ·exact hb4.out.trans h14.out
theorem appendPower_any (B:Nat) (v:Value) (l:List UInt8) (s:ByteArray) (p:Int) (w:World) (hown:Own w B v l) (hB:B≤w.heap.size) (hl:l.length≤100) (hs:0<s.size) (hs':s.size≤100) (hp0:-100000≤p) (hp1:p≤100000) (ht:Tab B w) :
  Calls Tryz.prog 163 #[v,.string s,.int .i64 p] w fun e w'=>∃ v',e=.returned v'∧Hid (Own w' B v' (l++powered (bl s) (Lib.itoa p)))∧Hid (Below B w w'):=by
 by_cases h:1<s.size
 ·exact appendPower_more B v l s p w hown hB hl h hs' hp0 hp1 ht
 ·exact appendPower_one B v l s p w hown hB hl (by omega) hp0 hp1 ht
end Go.Proofs.YtcnfchblfcfimaaGreatDoor
namespace Go.Proofs.YtcnfchblfcfimaaGreatDoor
open Go.RowKit
def printL (n:Bool) (l:List UInt8) (x:Int):List UInt8 :=
 sgnB n++(if 0≤x∧(l.length:Int) + x≤21 then l++List.replicate x.toNat 48 else if x<0∧-21≤x then pointed l (-x).toNat else powered l (Lib.itoa (x + l.length - 1)))
theorem Tab.up {B B':Nat} {w:World} (h:Tab B w) (hb:B≤B'):Tab B' w:=fun W hW=>h W (hW.mono hb)
set_option maxHeartbeats 1000000 in
theorem print_no (n:Bool) (s:ByteArray) (x:Int) (w:World) (hs:s.size≤100000) (h:isN n s x=false) :
  Calls Tryz.prog 131 #[.agg #[.bool n,.string s,.int .i64 x]] w fun e w'=>e=.returned (.tuple #[.string ⟨#[]⟩,.int .i64 10])∧Below w.heap.size w w':=by
 have ml:maxLen=2 ^ 63 - 1:=rfl
 have hB:=hide (box_new w n s x)
 go_enter Tryz.func131, Tryz.ntmps131
 go_wp2_with fail
 refine (check_no n s _ _ (by omega) h).mono ?_
 rintro e w1 ⟨rfl,hb1⟩
 have hb:=hide (below_alloc hb1)
 clear hb1 hB
 go_wp2
 go_ret2
 exact ⟨rfl,hb.out⟩
set_option maxHeartbeats 1000000 in
theorem print_plain_false (s:ByteArray) (x:Int) (w:World) (h:isN false s x=true) (hx0:0≤x) (hx21:(s.size:Int) + x≤21) (ht:Tab w.heap.size w) :
  Calls Tryz.prog 131 #[.agg #[.bool false,.string s,.int .i64 x]] w fun e w'=>e=.returned (.tuple #[.string (mkB ((bl s++List.replicate x.toNat 48))),.int .i64 0])∧Below w.heap.size w w':=by
 have ml:maxLen=2 ^ 63 - 1:=rfl
 have ht:=hide ht
 obtain ⟨had,hl1,hl40,hx1,hx2,hdg⟩:=isN_all h
 clear had hdg
 have hB:=hide (box_new w false s x)
 have hg0:decide ((0:Int)≤x)=true:=decide_eq_true hx0
 have hg1:decide ((s.size:Int) + x≤21)=true:=decide_eq_true hx21
 go_enter Tryz.func131, Tryz.ntmps131
 go_wp2_with fail
 refine (check_ok false s _ _ (by omega) h).mono ?_
 rintro e w1 ⟨rfl,hb1⟩
 have hB1:=hide (hB.out.below hb1 (by simp))
 have hlw:=hB1.out.lt
 obtain ⟨c0,c1,c2,f0,f1,f2⟩:=hB1.out.cells
 have hb:=hide (below_alloc hb1)
 clear hb1 hB
 have ht1:Hid (Tab w1.heap.size w1):=Tab.up (ht.out.on hb.out) hb.out.size
 go_wp2_with (first|(at_builtin;refine app_str rfl _ _ rfl w1.heap.size _ [] rfl (own_nil _ _) s rfl (by simp;omega) (by have:=(Below.refl w1.heap.size w1).size;omega) ?_;intro v3 w3 h5 h6 h7;have hb3:=hide ((Below.refl w1.heap.size w1).trans h6.out);have hB3:=hide (hB1.out.below hb3.out hlw);have hl3:=hB3.out.lt;obtain ⟨k0,k1,k2,m0,m1,m2⟩:=hB3.out.cells))
 go_wp2_with fail
 go_fit (appendNoughts_any w1.heap.size v3 ([]++bl s) x w3 h5.out (by have:=hb3.out.size;omega) (by simp [bl_length];omega) (by omega))
 rintro e w4 ⟨v4,rfl,h8,h9⟩
 have hcv:=own_conv h8.out
 have hbz:=hide (hb3.out.trans h9.out)
 rw [List.nil_append] at hcv
 go_wp2
 go_ret2
 exact ⟨rfl,hb.out.trans (hbz.out.mono hb.out.size)⟩
set_option maxHeartbeats 1000000 in
theorem print_point_false (s:ByteArray) (x:Int) (w:World) (h:isN false s x=true) (hx0:x<0) (hx21:-21≤x) (ht:Tab w.heap.size w) :
  Calls Tryz.prog 131 #[.agg #[.bool false,.string s,.int .i64 x]] w fun e w'=>e=.returned (.tuple #[.string (mkB ((pointed (bl s) (-x).toNat))),.int .i64 0])∧Below w.heap.size w w':=by
 have ml:maxLen=2 ^ 63 - 1:=rfl
 have ht:=hide ht
 obtain ⟨had,hl1,hl40,hx1,hx2,hdg⟩:=isN_all h
 clear had hdg
 have hB:=hide (box_new w false s x)
 obtain ⟨bh,hbh⟩:∃ bh:Nat,x=-(bh:Int):=⟨(-x).toNat,by omega⟩
 subst hbh
 have hbn:(- -(bh:Int))=(bh:Int):=by omega
 have hg0:decide ((0:Int)≤-(bh:Int))=false:=decide_eq_false (by omega)
 rw [hbn,Int.toNat_natCast]
 go_enter Tryz.func131, Tryz.ntmps131
 go_wp2_with fail
 refine (check_ok false s _ _ (by omega) h).mono ?_
 rintro e w1 ⟨rfl,hb1⟩
 have hB1:=hide (hB.out.below hb1 (by simp))
 have hlw:=hB1.out.lt
 obtain ⟨c0,c1,c2,f0,f1,f2⟩:=hB1.out.cells
 have hb:=hide (below_alloc hb1)
 clear hb1 hB
 have ht1:Hid (Tab w1.heap.size w1):=Tab.up (ht.out.on hb.out) hb.out.size
 go_wp2_with fail
 go_fit (appendPointed_any w1.heap.size (.slice none 0 0) [] s bh w1 (own_nil _ _) (by have:=(Below.refl w1.heap.size w1).size;omega) (by simp) (by omega) (by omega))
 rintro e w4 ⟨v4,rfl,h8,h9⟩
 have hcv:=own_conv h8.out
 have hbz:=hide ((Below.refl w1.heap.size w1).trans h9.out)
 rw [List.nil_append] at hcv
 go_wp2
 go_ret2
 exact ⟨rfl,hb.out.trans (hbz.out.mono hb.out.size)⟩
set_option maxHeartbeats 1000000 in
theorem print_up_false (s:ByteArray) (x:Int) (w:World) (h:isN false s x=true) (hx0:0≤x) (hx21:21<(s.size:Int) + x) (ht:Tab w.heap.size w) :
  Calls Tryz.prog 131 #[.agg #[.bool false,.string s,.int .i64 x]] w fun e w'=>e=.returned (.tuple #[.string (mkB ((powered (bl s) (Lib.itoa (x + s.size - 1))))),.int .i64 0])∧Below w.heap.size w w':=by
 have ml:maxLen=2 ^ 63 - 1:=rfl
 have ht:=hide ht
 obtain ⟨had,hl1,hl40,hx1,hx2,hdg⟩:=isN_all h
 clear had hdg
 have hB:=hide (box_new w false s x)
 have hg0:decide ((0:Int)≤x)=true:=decide_eq_true hx0
 have hg1:decide ((s.size:Int) + x≤21)=false:=decide_eq_false (by omega)
 have hg2:decide (x<0)=false:=decide_eq_false (by omega)
 go_enter Tryz.func131, Tryz.ntmps131
 go_wp2_with fail
 refine (check_ok false s _ _ (by omega) h).mono ?_
 rintro e w1 ⟨rfl,hb1⟩
 have hB1:=hide (hB.out.below hb1 (by simp))
 have hlw:=hB1.out.lt
 obtain ⟨c0,c1,c2,f0,f1,f2⟩:=hB1.out.cells
 have hb:=hide (below_alloc hb1)
 clear hb1 hB
 have ht1:Hid (Tab w1.heap.size w1):=Tab.up (ht.out.on hb.out) hb.out.size
 go_wp2_with fail
 go_fit (appendPower_any w1.heap.size (.slice none 0 0) [] s (x + s.size - 1) w1 (own_nil _ _) (by have:=(Below.refl w1.heap.size w1).size;omega) (by simp) (by omega) (by omega) (by omega) (by omega) (Lib.TabBelow.on ht1.out (Below.refl w1.heap.size w1)))
 rintro e w4 ⟨v4,rfl,h8,h9⟩
 have hcv:=own_conv h8.out
 have hbz:=hide ((Below.refl w1.heap.size w1).trans h9.out)
 rw [List.nil_append] at hcv
 go_wp2
 go_ret2
 exact ⟨rfl,hb.out.trans (hbz.out.mono hb.out.size)⟩
set_option maxHeartbeats 1000000 in
theorem print_down_false (s:ByteArray) (x:Int) (w:World) (h:isN false s x=true) (hx0:x<0) (hx21:x < -21) (ht:Tab w.heap.size w) :
  Calls Tryz.prog 131 #[.agg #[.bool false,.string s,.int .i64 x]] w fun e w'=>e=.returned (.tuple #[.string (mkB ((powered (bl s) (Lib.itoa (x + s.size - 1))))),.int .i64 0])∧Below w.heap.size w w':=by
 have ml:maxLen=2 ^ 63 - 1:=rfl
 have ht:=hide ht
 obtain ⟨had,hl1,hl40,hx1,hx2,hdg⟩:=isN_all h
 clear had hdg
 have hB:=hide (box_new w false s x)
 have hg0:decide ((0:Int)≤x)=false:=decide_eq_false (by omega)
 have hg1:decide (x<0)=true:=decide_eq_true hx0
 have hg2:decide (-x≤21)=false:=decide_eq_false (by omega)
 go_enter Tryz.func131, Tryz.ntmps131
 go_wp2_with fail
 refine (check_ok false s _ _ (by omega) h).mono ?_
 rintro e w1 ⟨rfl,hb1⟩
 have hB1:=hide (hB.out.below hb1 (by simp))
 have hlw:=hB1.out.lt
 obtain ⟨c0,c1,c2,f0,f1,f2⟩:=hB1.out.cells
 have hb:=hide (below_alloc hb1)
 clear hb1 hB
 have ht1:Hid (Tab w1.heap.size w1):=Tab.up (ht.out.on hb.out) hb.out.size
 go_wp2_with fail
 go_fit (appendPower_any w1.heap.size (.slice none 0 0) [] s (x + s.size - 1) w1 (own_nil _ _) (by have:=(Below.refl w1.heap.size w1).size;omega) (by simp) (by omega) (by omega) (by omega) (by omega) (Lib.TabBelow.on ht1.out (Below.refl w1.heap.size w1)))
 rintro e w4 ⟨v4,rfl,h8,h9⟩
 have hcv:=own_conv h8.out
 have hbz:=hide ((Below.refl w1.heap.size w1).trans h9.out)
 rw [List.nil_append] at hcv
 go_wp2
 go_ret2
 exact ⟨rfl,hb.out.trans (hbz.out.mono hb.out.size)⟩
set_option maxHeartbeats 1000000 in
theorem print_plain_true (s:ByteArray) (x:Int) (w:World) (h:isN true s x=true) (hx0:0≤x) (hx21:(s.size:Int) + x≤21) (ht:Tab w.heap.size w) :
  Calls Tryz.prog 131 #[.agg #[.bool true,.string s,.int .i64 x]] w fun e w'=>e=.returned (.tuple #[.string (mkB ([45]++(bl s++List.replicate x.toNat 48))),.int .i64 0])∧Below w.heap.size w w':=by
 have ml:maxLen=2 ^ 63 - 1:=rfl
 have ht:=hide ht
 obtain ⟨had,hl1,hl40,hx1,hx2,hdg⟩:=isN_all h
 clear had hdg
 have hB:=hide (box_new w true s x)
 have hg0:decide ((0:Int)≤x)=true:=decide_eq_true hx0
 have hg1:decide ((s.size:Int) + x≤21)=true:=decide_eq_true hx21
 go_enter Tryz.func131, Tryz.ntmps131
 go_wp2_with fail
 refine (check_ok true s _ _ (by omega) h).mono ?_
 rintro e w1 ⟨rfl,hb1⟩
 have hB1:=hide (hB.out.below hb1 (by simp))
 have hlw:=hB1.out.lt
 obtain ⟨c0,c1,c2,f0,f1,f2⟩:=hB1.out.cells
 have hb:=hide (below_alloc hb1)
 clear hb1 hB
 have ht1:Hid (Tab w1.heap.size w1):=Tab.up (ht.out.on hb.out) hb.out.size
 have hn1:=hide (news_one w1 45 5)
 go_wp2_with (first|(at_builtin;refine app_bytes rfl _ _ rfl w1.heap.size _ [] rfl ((own_nil _ _).alloc _) ⟨w1.heap.size,0,none⟩ 1 1 [45] rfl rfl hn1.out (by simp) (by simp) ?_;intro v2 w2 h2 h3 h4;simp at h4;have hb2:=hide (((Below.refl w1.heap.size w1).alloc (Nat.le_refl _) _).trans h3.out);have hB2:=hide (hB1.out.below hb2.out hlw);have hl2:=hB2.out.lt;obtain ⟨d0,d1,d2,g0,g1,g2⟩:=hB2.out.cells)|(at_builtin;refine app_str rfl _ _ rfl w1.heap.size _ [45] rfl h2.out s rfl (by simp;omega) (by have:=hb2.out.size;omega) ?_;intro v3 w3 h5 h6 h7;have hb3:=hide (hb2.out.trans h6.out);have hB3:=hide (hB1.out.below hb3.out hlw);have hl3:=hB3.out.lt;obtain ⟨k0,k1,k2,m0,m1,m2⟩:=hB3.out.cells))
 go_wp2_with fail
 go_fit (appendNoughts_any w1.heap.size v3 ([45]++bl s) x w3 h5.out (by have:=hb3.out.size;omega) (by simp [bl_length];omega) (by omega))
 rintro e w4 ⟨v4,rfl,h8,h9⟩
 have hcv:=own_conv h8.out
 have hbz:=hide (hb3.out.trans h9.out)
 rw [List.append_assoc] at hcv
 go_wp2
 go_ret2
 exact ⟨rfl,hb.out.trans (hbz.out.mono hb.out.size)⟩
set_option maxHeartbeats 1000000 in
theorem print_point_true (s:ByteArray) (x:Int) (w:World) (h:isN true s x=true) (hx0:x<0) (hx21:-21≤x) (ht:Tab w.heap.size w) :
  Calls Tryz.prog 131 #[.agg #[.bool true,.string s,.int .i64 x]] w fun e w'=>e=.returned (.tuple #[.string (mkB ([45]++(pointed (bl s) (-x).toNat))),.int .i64 0])∧Below w.heap.size w w':=by
 have ml:maxLen=2 ^ 63 - 1:=rfl
 have ht:=hide ht
 obtain ⟨had,hl1,hl40,hx1,hx2,hdg⟩:=isN_all h
 clear had hdg
 have hB:=hide (box_new w true s x)
 obtain ⟨bh,hbh⟩:∃ bh:Nat,x=-(bh:Int):=⟨(-x).toNat,by omega⟩
 subst hbh
 have hbn:(- -(bh:Int))=(bh:Int):=by omega
 have hg0:decide ((0:Int)≤-(bh:Int))=false:=decide_eq_false (by omega)
 rw [hbn,Int.toNat_natCast]
 go_enter Tryz.func131, Tryz.ntmps131
 go_wp2_with fail
 refine (check_ok true s _ _ (by omega) h).mono ?_
 rintro e w1 ⟨rfl,hb1⟩
 have hB1:=hide (hB.out.below hb1 (by simp))
 have hlw:=hB1.out.lt
 obtain ⟨c0,c1,c2,f0,f1,f2⟩:=hB1.out.cells
 have hb:=hide (below_alloc hb1)
 clear hb1 hB
 have ht1:Hid (Tab w1.heap.size w1):=Tab.up (ht.out.on hb.out) hb.out.size
 have hn1:=hide (news_one w1 45 5)
 go_wp2_with (first|(at_builtin;refine app_bytes rfl _ _ rfl w1.heap.size _ [] rfl ((own_nil _ _).alloc _) ⟨w1.heap.size,0,none⟩ 1 1 [45] rfl rfl hn1.out (by simp) (by simp) ?_;intro v2 w2 h2 h3 h4;simp at h4;have hb2:=hide (((Below.refl w1.heap.size w1).alloc (Nat.le_refl _) _).trans h3.out);have hB2:=hide (hB1.out.below hb2.out hlw);have hl2:=hB2.out.lt;obtain ⟨d0,d1,d2,g0,g1,g2⟩:=hB2.out.cells))
 go_wp2_with fail
 go_fit (appendPointed_any w1.heap.size v2 [45] s bh w2 h2.out (by have:=hb2.out.size;omega) (by simp) (by omega) (by omega))
 rintro e w4 ⟨v4,rfl,h8,h9⟩
 have hcv:=own_conv h8.out
 have hbz:=hide (hb2.out.trans h9.out)
 go_wp2
 go_ret2
 exact ⟨rfl,hb.out.trans (hbz.out.mono hb.out.size)⟩
set_option maxHeartbeats 1000000 in
theorem print_up_true (s:ByteArray) (x:Int) (w:World) (h:isN true s x=true) (hx0:0≤x) (hx21:21<(s.size:Int) + x) (ht:Tab w.heap.size w) :
  Calls Tryz.prog 131 #[.agg #[.bool true,.string s,.int .i64 x]] w fun e w'=>e=.returned (.tuple #[.string (mkB ([45]++(powered (bl s) (Lib.itoa (x + s.size - 1))))),.int .i64 0])∧Below w.heap.size w w':=by
 have ml:maxLen=2 ^ 63 - 1:=rfl
 have ht:=hide ht
 obtain ⟨had,hl1,hl40,hx1,hx2,hdg⟩:=isN_all h
 clear had hdg
 have hB:=hide (box_new w true s x)
 have hg0:decide ((0:Int)≤x)=true:=decide_eq_true hx0
 have hg1:decide ((s.size:Int) + x≤21)=false:=decide_eq_false (by omega)
 have hg2:decide (x<0)=false:=decide_eq_false (by omega)
 go_enter Tryz.func131, Tryz.ntmps131
 go_wp2_with fail
 refine (check_ok true s _ _ (by omega) h).mono ?_
 rintro e w1 ⟨rfl,hb1⟩
 have hB1:=hide (hB.out.below hb1 (by simp))
 have hlw:=hB1.out.lt
 obtain ⟨c0,c1,c2,f0,f1,f2⟩:=hB1.out.cells
 have hb:=hide (below_alloc hb1)
 clear hb1 hB
 have ht1:Hid (Tab w1.heap.size w1):=Tab.up (ht.out.on hb.out) hb.out.size
 have hn1:=hide (news_one w1 45 5)
 go_wp2_with (first|(at_builtin;refine app_bytes rfl _ _ rfl w1.heap.size _ [] rfl ((own_nil _ _).alloc _) ⟨w1.heap.size,0,none⟩ 1 1 [45] rfl rfl hn1.out (by simp) (by simp) ?_;intro v2 w2 h2 h3 h4;simp at h4;have hb2:=hide (((Below.refl w1.heap.size w1).alloc (Nat.le_refl _) _).trans h3.out);have hB2:=hide (hB1.out.below hb2.out hlw);have hl2:=hB2.out.lt;obtain ⟨d0,d1,d2,g0,g1,g2⟩:=hB2.out.cells))
 go_wp2_with fail
 go_fit (appendPower_any w1.heap.size v2 [45] s (x + s.size - 1) w2 h2.out (by have:=hb2.out.size;omega) (by simp) (by omega) (by omega) (by omega) (by omega) (Lib.TabBelow.on ht1.out hb2.out))
 rintro e w4 ⟨v4,rfl,h8,h9⟩
 have hcv:=own_conv h8.out
 have hbz:=hide (hb2.out.trans h9.out)
 go_wp2
 go_ret2
 exact ⟨rfl,hb.out.trans (hbz.out.mono hb.out.size)⟩
set_option maxHeartbeats 1000000 in
theorem print_down_true (s:ByteArray) (x:Int) (w:World) (h:isN true s x=true) (hx0:x<0) (hx21:x < -21) (ht:Tab w.heap.size w) :
  Calls Tryz.prog 131 #[.agg #[.bool true,.string s,.int .i64 x]] w fun e w'=>e=.returned (.tuple #[.string (mkB ([45]++(powered (bl s) (Lib.itoa (x + s.size - 1))))),.int .i64 0])∧Below w.heap.size w w':=by
 have ml:maxLen=2 ^ 63 - 1:=rfl
 have ht:=hide ht
 obtain ⟨had,hl1,hl40,hx1,hx2,hdg⟩:=isN_all h
 clear had hdg
 have hB:=hide (box_new w true s x)
 have hg0:decide ((0:Int)≤x)=false:=decide_eq_false (by omega)
 have hg1:decide (x<0)=true:=decide_eq_true hx0
 have hg2:decide (-x≤21)=false:=decide_eq_false (by omega)
 go_enter Tryz.func131, Tryz.ntmps131
 go_wp2_with fail
 refine (check_ok true s _ _ (by omega) h).mono ?_
 rintro e w1 ⟨rfl,hb1⟩
 have hB1:=hide (hB.out.below hb1 (by simp))
 have hlw:=hB1.out.lt
 obtain ⟨c0,c1,c2,f0,f1,f2⟩:=hB1.out.cells
 have hb:=hide (below_alloc hb1)
 clear hb1 hB
 have ht1:Hid (Tab w1.heap.size w1):=Tab.up (ht.out.on hb.out) hb.out.size
 have hn1:=hide (news_one w1 45 5)
 go_wp2_with (first|(at_builtin;refine app_bytes rfl _ _ rfl w1.heap.size _ [] rfl ((own_nil _ _).alloc _) ⟨w1.heap.size,0,none⟩ 1 1 [45] rfl rfl hn1.out (by simp) (by simp) ?_;intro v2 w2 h2 h3 h4;simp at h4;have hb2:=hide (((Below.refl w1.heap.size w1).alloc (Nat.le_refl _) _).trans h3.out);have hB2:=hide (hB1.out.below hb2.out hlw);have hl2:=hB2.out.lt;obtain ⟨d0,d1,d2,g0,g1,g2⟩:=hB2.out.cells))
 go_wp2_with fail
 go_fit (appendPower_any w1.heap.size v2 [45] s (x + s.size - 1) w2 h2.out (by have:=hb2.out.size;omega) (by simp) (by omega) (by omega) (by omega) (by omega) (Lib.TabBelow.on ht1.out hb2.out))
 rintro e w4 ⟨v4,rfl,h8,h9⟩
 have hcv:=own_conv h8.out
 have hbz:=hide (hb2.out.trans h9.out)
 go_wp2
 go_ret2
 exact ⟨rfl,hb.out.trans (hbz.out.mono hb.out.size)⟩
theorem print_any (n:Bool) (s:ByteArray) (x:Int) (w:World) (h:isN n s x=true) (ht:Tab w.heap.size w) :
  Calls Tryz.prog 131 #[.agg #[.bool n,.string s,.int .i64 x]] w fun e w'=>e=.returned (.tuple #[.string (mkB (printL n (bl s) x)),.int .i64 0])∧Below w.heap.size w w':=by
 unfold printL
 rw [bl_length]
 by_cases h1:0≤x∧(s.size:Int) + x≤21
 ·rw [if_pos h1]
  cases n
  ·exact print_plain_false s x w h h1.1 h1.2 ht
  ·exact print_plain_true s x w h h1.1 h1.2 ht
 ·rw [if_neg h1]
  by_cases h2:x<0∧-21≤x
  ·rw [if_pos h2]
   cases n
   ·exact print_point_false s x w h h2.1 h2.2 ht
   ·exact print_point_true s x w h h2.1 h2.2 ht
  ·rw [if_neg h2]
   by_cases h3:x<0
   ·cases n
    ·exact print_down_false s x w h h3 (by omega) ht
    ·exact print_down_true s x w h h3 (by omega) ht
   ·cases n
    ·exact print_up_false s x w h (by omega) (by omega) ht
    ·exact print_up_true s x w h (by omega) (by omega) ht
end Go.Proofs.YtcnfchblfcfimaaGreatDoor
namespace Go.Proofs.YtcnfchblfcfimaaGreatDoor
open Go.RowKit
theorem tw_stop (d r:List UInt8) (hd:allD d=true) (hr:r.takeWhile isDig=[]):(d++r).takeWhile isDig=d∧(d++r).dropWhile isDig=r:=by
 induction d with
 | nil =>
  refine ⟨by simpa using hr,?_⟩
  have:=List.takeWhile_append_dropWhile (p:=isDig) (l:=r)
  rw [hr] at this
  simpa using this
 | cons c d ih =>
  simp only [allD,List.all_cons,Bool.and_eq_true] at hd
  obtain ⟨h1,h2⟩:=ih hd.2
  simp [hd.1,h1,h2]
theorem hdB_cons (c a:UInt8) (l:List UInt8):hdB c (a :: l)=(a==c):=by simp [hdB]
theorem dig_ne {a c:UInt8} (h:isDig a=true) (hc:isDig c=false):(a==c)=false:=by
 rw [beq_eq_false_iff_ne]
 intro e;subst e;rw [h] at hc;cases hc
theorem sgn_hd (n:Bool) (a:UInt8) (l:List UInt8) (h:isDig a=true):hdB 45 (sgnB n++(a :: l))=n∧tlB 45 (sgnB n++(a :: l))=a :: l:=by
 cases n
 ·have e:hdB 45 (a :: l)=false:=by rw [hdB_cons];exact dig_ne h rfl
  exact ⟨e,tlB_no e⟩
 ·exact ⟨rfl,rfl⟩
theorem split_made (n:Bool) (wh r:List UInt8) (hw:allD wh=true) (hb:badW wh=false) (hr:r.takeWhile isDig=[]) :
  splitL (sgnB n++(wh++r))=if hdB 46 r then (if ((tlB 46 r).takeWhile isDig).isEmpty then none else splitT n wh ((tlB 46 r).takeWhile isDig) ((tlB 46 r).dropWhile isDig)) else splitT n wh [] r:=by
 cases wh with
 | nil=>simp [badW] at hb
 | cons a wh =>
  have ha:isDig a=true:=by simp only [allD,List.all_cons,Bool.and_eq_true] at hw;exact hw.1
  obtain ⟨e1,e2⟩:=sgn_hd n a (wh++r) ha
  have e3:=tw_stop (a :: wh) r hw hr
  unfold splitL
  rw [List.cons_append,e1,e2,←List.cons_append,e3.1,e3.2,hb]
  rfl
theorem tw_nil {c:UInt8} {r:List UInt8} (h:isDig c=false):(c :: r).takeWhile isDig=[]:=by simp [h]
theorem split_whole (n:Bool) (wh:List UInt8) (hw:allD wh=true) (hb:badW wh=false):splitL (sgnB n++wh)=some (n,wh,[],false,[]):=by
 have:=split_made n wh [] hw hb rfl
 rw [List.append_nil] at this
 rw [this]
 rfl
theorem split_point (n:Bool) (wh fr l4:List UInt8) (hw:allD wh=true) (hb:badW wh=false) (hf:allD fr=true) (hne:fr≠[]) (h4:l4.takeWhile isDig=[]) :
  splitL (sgnB n++(wh++46 :: (fr++l4)))=splitT n wh fr l4:=by
 rw [split_made n wh _ hw hb (tw_nil rfl),if_pos (by rw [hdB_cons];rfl)]
 have e:tlB 46 (46 :: (fr++l4))=fr++l4:=rfl
 obtain ⟨e1,e2⟩:=tw_stop fr l4 hf h4
 rw [e,e1,e2,if_neg (by cases fr <;> simp_all)]
theorem split_pow (n:Bool) (wh r:List UInt8) (hw:allD wh=true) (hb:badW wh=false):splitL (sgnB n++(wh++101 :: r))=splitT n wh [] (101 :: r):=by
 rw [split_made n wh _ hw hb (tw_nil rfl),if_neg (by rw [hdB_cons];decide)]
set_option maxRecDepth 100000 in
theorem dec_facts:∀ u<440,pwA 0 (Lib.decDigits u)=u∧allD (Lib.decDigits u)=true∧(Lib.decDigits u).isEmpty=false∧(Lib.decDigits u).length≤4∧hdB 43 (Lib.decDigits u)=false∧hdB 45 (Lib.decDigits u)=false:=by decide +kernel
theorem itoa_split (n:Bool) (wh fr:List UInt8) (p:Int) (h1:-439≤p) (h2:p≤439):∃ pn pw,splitT n wh fr (101 :: Lib.itoa p)=some (n,wh,fr,pn,pw)∧powF pn pw=p∧(Lib.itoa p).length≤5:=by
 by_cases h:p<0
 ·obtain ⟨u,rfl⟩:∃ u:Nat,p=-(u:Int):=⟨p.natAbs,by omega⟩
  have hu:1≤u:=by omega
  obtain ⟨a1,a2,a3,a4,a5,a6⟩:=dec_facts u (by omega)
  rw [Lib.itoa_neg u hu]
  refine ⟨true,Lib.decDigits u,?_,?_,by simp;omega⟩
  ·have e1:spL (45 :: Lib.decDigits u)=Lib.decDigits u:=rfl
   have e2:spPn (45 :: Lib.decDigits u)=true:=rfl
   have e3:spOk (45 :: Lib.decDigits u)=true:=by unfold spOk;rw [e1,a2,a3];rfl
   simp [splitT,e1,e2,e3]
  ·simp [powF,a1]
 ·obtain ⟨u,rfl⟩:∃ u:Nat,p=(u:Int):=⟨p.toNat,by omega⟩
  obtain ⟨a1,a2,a3,a4,a5,a6⟩:=dec_facts u (by omega)
  rw [Lib.itoa_nonneg u]
  refine ⟨false,Lib.decDigits u,?_,?_,by omega⟩
  ·have e1:spL (Lib.decDigits u)=Lib.decDigits u:=by unfold spL;rw [a5];exact tlB_no a6
   have e2:spPn (Lib.decDigits u)=false:=by unfold spPn;rw [a5];exact a6
   have e3:spOk (Lib.decDigits u)=true:=by unfold spOk;rw [e1,a2,a3];rfl
   simp [splitT,e1,e2,e3]
  ·simp [powF,a1]
theorem dlu_app (a b:List UInt8):dlu (a++b)=dlu a++dlu b:=by simp [dlu]
theorem dlu_rep (k:Nat):dlu (List.replicate k 48)=List.replicate k 0:=by simp [dlu]
theorem val_rep_left (k:Nat) (l:List Nat):val (List.replicate k 0++l)=val l:=by rw [val_append,val_zeros];simp
theorem val_rep_right (k:Nat) (l:List Nat):val (l++List.replicate k 0)=val l * 10 ^ k:=by rw [val_append,val_zeros];simp
theorem parse_of (n:Bool) (s:ByteArray) (x:Int) (h:isN n s x=true) (l:List UInt8) (hl:l.length≤512) (wh fr:List UInt8) (pn:Bool) (pw:List UInt8) (hs:splitL l=some (n,wh,fr,pn,pw))
  (hx:-400≤powF pn pw - fr.length) (hv:val (dlu wh++dlu fr) * 10 ^ (powF pn pw - fr.length + 400).toNat=val (dg s) * 10 ^ (x + 400).toNat):parseF l=(n,s,x,0):=by
 obtain ⟨f1,f2,_⟩:=splitL_facts hs
 have hD:Dgs (dlu wh++dlu fr):=by
  intro d hd
  rcases List.mem_append.1 hd with q|q
  ·exact dlu_dgs wh f1 d q
  ·exact dlu_dgs fr f2 d q
 have e:parseF l=formF n (dlu wh++dlu fr) (powF pn pw - fr.length):=by
  unfold parseF
  rw [hs]
  simp only
  rw [if_neg (by omega)]
 rw [e]
 have h1:=formF_sum n (dlu wh++dlu fr) (powF pn pw - fr.length) hD hx
 rw [hv] at h1
 refine isSum_unique h1 (Or.inl ⟨rfl,h,?_⟩)
 show Zv n s x=_
 unfold Zv mag
 rfl
theorem dlu_bl (s:ByteArray):dlu (bl s)=dg s:=rfl
theorem allD_app (a b:List UInt8):allD (a++b)=(allD a && allD b):=by simp [allD]
theorem allD_rep (k:Nat):allD (List.replicate k 48)=true:=by
 simp only [allD,List.all_eq_true];intro c hc;rw [List.eq_of_mem_replicate hc];rfl
theorem badW_head (a:UInt8) (l:List UInt8) (h:a≠48):badW (a :: l)=false:=by simp [badW,h]
theorem sgn_len (n:Bool):(sgnB n).length≤1:=by cases n <;> simp [sgnB]
theorem parse_print_o (n:Bool) (s:ByteArray) (x:Int) (h:isO (bl s) x=true):parseF (printL n (bl s) x)=(n,s,x,0):=by
 have hN:isN n s x=true:=by simp [isN,h]
 obtain ⟨b1,b2,b3,b4,b5,b6,b7⟩:=isO_facts h
 have hhd:(bl s).head?≠some 48:=by simp only [isO,Bool.and_eq_true,bne_iff_ne] at h;exact h.1.2
 have hdl:=dlu_bl s
 have hll:=bl_length s
 generalize hl:bl s=l at *
 cases l with
 | nil=>simp at hll;omega
 | cons a r =>
  have ha:a≠48:=by simpa using hhd
  have had:isDig a=true∧allD r=true:=by simpa only [allD,List.all_cons,Bool.and_eq_true] using b5
  have hsg:=sgn_len n
  unfold printL
  by_cases hp:0≤x∧((a :: r).length:Int) + x≤21
  ·rw [if_pos hp]
   have hw:allD (a :: r++List.replicate x.toNat 48)=true:=by rw [allD_app,b5,allD_rep];rfl
   refine parse_of n s x hN _ ?_ _ _ _ _ (split_whole n _ hw (badW_head a _ ha)) ?_ ?_
   ·simp at hp ⊢;omega
   ·simp [powF,pwA]
   ·simp only [powF,pwA,List.length_nil,dlu,List.map_nil,List.append_nil]
    rw [show List.map (fun c:UInt8=>c.toNat - 48) (a :: r++List.replicate x.toNat 48)=dg s++List.replicate x.toNat 0 by rw [←hdl];exact (dlu_app _ _).trans (by rw [dlu_rep]),val_rep_right,Nat.mul_assoc,←Nat.pow_add]
    congr 2
    simp
    omega
  ·rw [if_neg hp]
   by_cases hq:x<0∧-21≤x
   ·rw [if_pos hq]
    obtain ⟨bh,rfl⟩:∃ bh:Nat,x=-(bh:Int):=⟨(-x).toNat,by omega⟩
    rw [Int.neg_neg,Int.toNat_natCast]
    unfold pointed
    by_cases hk:(a :: r).length≤bh
    ·rw [if_pos hk]
     have hf:allD (List.replicate (bh - (a :: r).length) 48++(a :: r))=true:=by rw [allD_app,b5,allD_rep];rfl
     have e:=split_point n [48] (List.replicate (bh - (a :: r).length) 48++(a :: r)) [] rfl rfl hf (by simp) rfl
     rw [List.append_nil] at e
     have fl:(List.replicate (bh - (a :: r).length) (48:UInt8)++(a :: r)).length=bh:=by simp at hk ⊢;omega
     refine parse_of n s _ hN _ ?_ _ _ _ _ e ?_ ?_
     ·simp at hk ⊢;omega
     ·rw [fl];simp [powF,pwA];omega
     ·rw [fl,dlu_app,dlu_rep,hdl]
      show val ([0]++_) * _=_
      rw [show ([0]:List Nat)=List.replicate 1 0 from rfl,val_rep_left,val_rep_left]
      simp [powF,pwA]
    ·rw [if_neg hk]
     have hta:(a :: r).take ((a :: r).length - bh)=a :: r.take (r.length - bh):=by
      rw [show (a :: r).length - bh=(r.length - bh) + 1 by simp at hk ⊢;omega];rfl
     have hsp:(a :: r).take ((a :: r).length - bh)++(a :: r).drop ((a :: r).length - bh)=a :: r:=List.take_append_drop _ _
     have hd1:allD ((a :: r).take ((a :: r).length - bh))=true∧allD ((a :: r).drop ((a :: r).length - bh))=true:=by
      have:=allD_app ((a :: r).take ((a :: r).length - bh)) ((a :: r).drop ((a :: r).length - bh))
      rw [hsp,b5] at this
      simpa using this.symm
     have fl:((a :: r).drop ((a :: r).length - bh)).length=bh:=by rw [List.length_drop];omega
     have e:=split_point n ((a :: r).take ((a :: r).length - bh)) ((a :: r).drop ((a :: r).length - bh)) [] hd1.1 (by rw [hta];exact badW_head a _ ha) hd1.2 (by intro q;rw [q] at fl;simp at fl;omega) rfl
     rw [List.append_nil] at e
     refine parse_of n s _ hN _ ?_ _ _ _ _ e ?_ ?_
     ·have:=congrArg List.length hsp
      simp only [List.length_append,List.length_cons] at this ⊢ hll
      omega
     ·rw [fl];simp [powF,pwA];omega
     ·rw [fl,←dlu_app,hsp,hdl]
      simp [powF,pwA]
   ·rw [if_neg hq]
    have hxr:¬ (x<0∧-21≤x):=hq
    unfold powered
    have hlr:((a :: r).length:Int)=r.length + 1:=by simp
    have hb39:(r.length:Int)≤39:=by simp at hll;omega
    obtain ⟨pn,pw,e1,e2,e3⟩:=itoa_split n [a] r (x + ((a :: r).length:Int) - 1) (by omega) (by omega)
    have hA:allD [a]=true:=by simp [allD,had.1]
    generalize Lib.itoa (x + ((a :: r).length:Int) - 1)=I at *
    have key:∀ t:List UInt8,t.length≤512→splitL t=some (n,[a],r,pn,pw)→parseF t=(n,s,x,0):=by
     intro t ht hs
     refine parse_of n s x hN t ht _ _ _ _ hs ?_ ?_
     ·rw [e2,hlr];omega
     ·rw [e2,←dlu_app,show [a]++r=a :: r from rfl,hdl,hlr]
      congr 2
      congr 1
      omega
    by_cases h1:1<(a :: r).length
    ·rw [if_pos h1]
     refine key _ ?_ ?_
     ·simp at hll ⊢;omega
     ·show splitL (sgnB n++([a]++46 :: r++101 :: _))=_
      rw [←e1,←split_point n [a] r (101 :: I) hA (badW_head a _ ha) had.2 (by intro q;subst q;simp at h1) (tw_nil rfl)]
      simp
    ·have hr:r=[]:=List.length_eq_zero_iff.1 (by simp only [List.length_cons] at h1;omega)
     rw [if_neg h1]
     subst hr
     refine key _ ?_ ?_
     ·simp at hll ⊢;omega
     ·show splitL (sgnB n++([a]++[]++101 :: _))=_
      rw [←e1,List.append_nil]
      exact split_pow n [a] _ hA (badW_head a _ ha)
theorem parse_print (n:Bool) (s:ByteArray) (x:Int) (h:isN n s x=true):parseF (printL n (bl s) x)=(n,s,x,0):=by
 cases hz:isZ n s x
 ·exact parse_print_o n s x (by simpa [isN,hz] using h)
 ·obtain ⟨h1,h2,h3⟩:=isZ_facts hz
  have hs:s=mkB [48]:=by rw [←h2,mkB_bl]
  subst h1 h3 hs
  decide +kernel
end Go.Proofs.YtcnfchblfcfimaaGreatDoor
