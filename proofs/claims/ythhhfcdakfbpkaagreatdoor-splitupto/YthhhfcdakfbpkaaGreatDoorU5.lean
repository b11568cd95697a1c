/- Parts of the proof -/
import Derived.Test.YthhhfcdakfbpkaaGreatDoorU2
import Derived.Recover
import Derived.Defers
open Go.Value renaming int -> Yg, string -> Yi, agg -> Yj, pointer -> Ym, tuple -> Yn, iface -> Yo, slice -> Yp, nilIface -> Yq
open Go.IntKind renaming i64 -> Yh
open Go.Obj renaming cells -> Yk
open Go.Ending renaming returned -> Yl
open Go.Proofs.YthhhfcdakfbpkaaGreatDoor.Lx renaming jy -> acH, aR -> acI, ma -> acK, cnt -> acL, isSp -> acM, iH -> acN, aP -> ZL, dx -> acO, isLet -> acP, Tok -> Zj, Bs -> Y6, dW -> adr, bC -> adu, keys -> Y7, hasB -> adE, gD -> adF, Mo -> adJ, bZ -> adK, eH -> adL, ones -> adN, eQ -> adQ, qc -> adR, dh -> adS, iQ -> adU, lex -> adX
open List renaming length_drop -> Yv, take_of_length_le -> acU, length_append -> aaN, length_singleton -> aaL, any_append -> acY, any_cons -> acZ, map_cons -> YZ, drop_succ_cons -> Yr, drop_zero -> ads, isPrefixOf -> adt, drop_drop -> Yx, getD_eq_getElem?_getD -> adw, getElem?_eq_getElem -> YP, getElem?_toArray -> adx, getElem?_map -> ady, drop_eq_nil_of_le -> YN, take_succ_cons -> adI, dropWhile -> adM, length_take -> adO, drop_eq_getElem_cons -> YM, getElem?_cons_succ -> adV, head?_cons -> adW
open Go.Proofs.Tryz renaming prog -> Zc, func110 -> acQ, ntmps110 -> acR, results59 -> acX, results60 -> ade, results61 -> adj, func28 -> adm, ntmps28 -> adn, underlying383 -> adA, isAgg9 -> adB, sizeOf9 -> adC, underlying338 -> adD, func230 -> adG, ntmps230 -> adH, func27 -> adY, ntmps27 -> adZ
open Go.Proofs.YthhhfcdakfbpkaaGreatDoor.Below renaming grownBy -> Y9
open Nat renaming add_zero -> acJ, le_trans -> YB, zero_add -> Ze, min_eq_left -> adP, sub_self -> adT
open Bool renaming eq_iff_iff -> Zd, false_eq_true -> YS, and_eq_true -> YD
open Go.RowKit.Below renaming refl -> Zh, heap_setCell -> Zb
open Go.Instr renaming next -> acS, makeFunc -> ada, index -> adv
open Go.World renaming iterPos_iter -> acT, setCell -> Za, size_alloc -> ZC, ownsRow_nil -> adi, cell?_of_block -> Y8
open Go.Proofs.YthhhfcdakfbpkaaGreatDoor.Px renaming kV -> acV, Sep -> aaH, sees -> Zm, St -> acW, E -> ZU, nM -> adf, DK -> adg, fZ -> adh, iq -> adk, bM -> adl, oM -> ado, jw -> adp, iw -> adq, deepest -> aea, bL -> aeb
open Go.Proofs.YthhhfcdakfbpkaaGreatDoor.Cx renaming below -> adb
open Option renaming map_some -> adz, map_eq_some_iff -> Yt, none -> Y1, some -> Y2
open Go renaming Value -> Y3, World -> Y4, TypeId -> Y5, Calls -> aaT, bodyPost_ret -> aaU, maxLen -> aaV, results -> aaW, Ending -> aaY
open Go.RowKit renaming Below -> aaS
namespace Go.Proofs.YthhhfcdakfbpkaaGreatDoor
set_option linter.unusedSimpArgs false
set_option linter.unusedVariables false
set_option maxRecDepth 100000
set_option maxHeartbeats 16000000
open Go.RowKit
variable {w w' w1 w2:Y4}{B C N j k size st sz:Nat}{s:ByteArray}{T e:Y5}{v:Y3}
theorem Ps(s:ByteArray)(k:Nat)(h:k<=s.size):k+(bQ s k).2<=s.size:=by
 unfold bQ
 split
 · rename_i hk
   split
   · simp;omega
   have hle:=acH (s.data.toList.drop k);rw[Yv,show s.data.toList.length=s.size from by simp]at hle;simp;omega
 simp;omega
theorem yu(w:Y4)(B:Nat)(s:ByteArray)(k st:Nat)(h:Rd w B s k st):
   aaT Zc 234 #[Ym (Y2 ⟨B,0,Y1⟩)] w fun e w'=>e=Yl (.int .i32 (bQ s k).1)/\Rd w' B s (k+(bQ s k).2) st/\w.grownBy w' (Y2 B):=by
 have hpl:=Ps s k h.le;have hsm:=h.small;obtain⟨c,n,hpk⟩:∃c n,bQ s k=(c,n):=⟨_,_,rfl⟩;rw[hpk]at hpl⊢;have HPK:Yf _:=hpk;simp only at hpl⊢;go_enter Tryz.func234,Tryz.ntmps234;go_wp2_with fail;refine(sO w B s k st h).mono ?_;rintro e w1 ⟨rfl,hb1⟩;rw[HPK.o];have h1:=h.below hb1;obtain⟨⟨b0,b1,b2⟩,b3,b4,b5⟩:=h1.blk.three;go_wp2;go_ret;refine⟨rfl,?_,?_⟩
 · exact h1.set1 (k+n) hpl
 exact aI (Y9 hb1) (qI w1 B 1 _)
theorem Be(s:ByteArray)(i:Nat)(h:i<s.size)(hb:128<=s[i].toNat):i+(Utf8.decode s i).2<=s.size/\1<=(Utf8.decode s i).2/\∀j,j<(Utf8.decode s i).2->128<=(s.get! (i+j)).toNat:=by
 by_cases hc:acI (s.data.toList.drop i)=0
 · rw[(rY s i h hc).1];refine⟨by simp;omega,by simp,?_⟩;intro j hj
   have:j=0:=by simp at hj;exact hj
   subst this;rw[acJ,dH s i h];exact hb
 have hle:=acH (s.data.toList.drop i);rw[Yv,show s.data.toList.length=s.size from by simp]at hle;have hg:=mh s i h hc;have hcls:=vw s i h;rw[dH s i h]at hcls;rw[hg.1];refine⟨by omega,by omega,?_⟩;intro j hj;rcases hg.2.2 with⟨q,_,q2⟩|⟨q,_⟩
 · omega
 have hn:acI (s.data.toList.drop i)=2\/acI (s.data.toList.drop i)=3\/acI (s.data.toList.drop i)=4:=by
  have:∀n b0 b1 b2 b3,lY n b0 b1 b2 b3<=4:=by
   intro n b0 b1 b2 b3;unfold lY
   repeat' split
   all_goals omega
  have:=this (s.size-i) s[i].toNat (s.get! (i+1)).toNat (s.get! (i+2)).toNat (s.get! (i+3)).toNat;rw[<-hcls]at this;omega
 have lo:∀b,128<=acK b:=by
  intro b;unfold acK
  repeat' split
  all_goals omega
 have hj0:j=0->128<=(s.get! (i+j)).toNat:=by rintro rfl;rw[acJ,dH s i h];exact hb
 rcases hn with e|e|e
 · rw[e]at hcls hj;obtain⟨_,q1,_⟩:=JS _ _ _ _ _ hcls.symm
   have:j=0\/j=1:=by omega
   rcases this with rfl|rfl
   · exact hj0 rfl
   exact q1.2.1
 · rw[e]at hcls hj;obtain⟨_,q1,q2,_⟩:=BF _ _ _ _ _ hcls.symm;have:=lo s[i].toNat
   have:j=0\/j=1\/j=2:=by omega
   rcases this with rfl|rfl|rfl
   · exact hj0 rfl
   · omega
   exact q2.2.1
 rw[e]at hcls hj;obtain⟨_,q1,q2,q3,_⟩:=Ei _ _ _ _ _ hcls.symm;have:=lo s[i].toNat
 have:j=0\/j=1\/j=2\/j=3:=by omega
 rcases this with rfl|rfl|rfl|rfl
 · exact hj0 rfl
 · omega
 · exact q2.2.1
 exact q3.2.1
structure Fits(p:Int->Bool)(q:UInt8->Bool):Prop where
 low:∀b:UInt8,b.toNat<128->p (b.toNat:Int)=q b
 high:(∀r:Int,128<=r->p r=false)/\(∀b:UInt8,128<=b.toNat->q b=false)\/(∀r:Int,128<=r->p r=true)/\(∀b:UInt8,128<=b.toNat->q b=true)
theorem JU(q:UInt8->Bool)(s:ByteArray):∀(n i:Nat),i+n<=s.size->(∀j,j<n->q (s.get! (i+j))=true)->acL q (s.data.toList.drop i)=n+acL q (s.data.toList.drop (i+n))
 |0,i,_,_=>by simp
 |n+1,i,h,hq=>by
  rw[DF q s i (by omega),if_pos (by have:=hq 0 (by omega);rwa [acJ,dH s i (by omega)]at this)];rw[JU q s n (i+1) (by omega) (fun j hj=>by have:=hq (j+1) (by omega);rwa [show i+(j+1)=i+1+j from by omega]at this)];rw[show i+1+n=i+(n+1)from by omega];omega
theorem Fits.yes{p:Int->Bool}{q:UInt8->Bool}(hf:Fits p q)(s:ByteArray)(i:Nat)(h:i<s.size)(hp:p ((Utf8.decode s i).1:Int)=true):
   acL q (s.data.toList.drop i)=(Utf8.decode s i).2+acL q (s.data.toList.drop (i+(Utf8.decode s i).2))/\i+(Utf8.decode s i).2<=s.size/\1<=(Utf8.decode s i).2:=by
 by_cases hb:s[i].toNat<128
 · rw[decode_ascii s i h hb]at hp⊢;simp only at hp⊢;rw[hf.low _ hb]at hp;refine⟨?_,by omega,by omega⟩;rw[DF q s i h,if_pos hp];omega
 have hh:=Be s i h (by omega);have hr:=(decode_high s i h (by omega)).1;refine⟨?_,hh.1,hh.2.1⟩;rcases hf.high with⟨h1,_⟩|⟨_,h2⟩
 · rw[h1 _ (by omega)]at hp;cases hp
 exact JU q s _ i hh.1 (fun j hj=>h2 _ (hh.2.2 j hj))
theorem Fits.no{p:Int->Bool}{q:UInt8->Bool}(hf:Fits p q)(s:ByteArray)(i:Nat)(h:i<s.size)(hp:p ((Utf8.decode s i).1:Int)=false):acL q (s.data.toList.drop i)=0:=by
 rw[DF q s i h,if_neg];intro hq;by_cases hb:s[i].toNat<128
 · rw[decode_ascii s i h hb]at hp;rw[hf.low _ hb,hq]at hp
   cases hp
 have hr:=(decode_high s i h (by omega)).1;rcases hf.high with⟨_,h2⟩|⟨h1,_⟩
 · rw[h2 _ (by omega)]at hq;cases hq
 rw[h1 _ (by omega)]at hp;cases hp
theorem JR:Fits UC acM:=by
 refine⟨fun b hb=> ?_,.inl ⟨fun r hr=> ?_,fun b hb=> ?_⟩⟩
 · unfold UC acM;rw[Zd];simp;omega
 · unfold UC;simp;omega
 unfold acM;simp;omega
theorem AY:Fits Bu acN:=by
 refine⟨fun b hb=> ?_,.inr ⟨fun r hr=> ?_,fun b hb=> ?_⟩⟩
 · unfold Bu acN;rw[Zd];simp;omega
 · unfold Bu;simp;omega
 unfold acN;simp;omega
theorem EC:Fits yQ ZL:=by
 refine⟨fun b hb=> ?_,.inl ⟨fun r hr=> ?_,fun b hb=> ?_⟩⟩
 · unfold yQ ZL;rw[Zd];simp;omega
 · unfold yQ;simp;omega
 unfold ZL;simp;omega
theorem De:Fits Ql acO:=by
 refine⟨fun b hb=> ?_,.inl ⟨fun r hr=> ?_,fun b hb=> ?_⟩⟩
 · unfold Ql acO ZL acP;rw[Zd];simp;omega
 · unfold Ql;simp;omega
 unfold acO ZL acP;simp;omega
theorem Rd.iter(h:Rd w B s k st)(t:ByteArray)(p:Nat):Rd (w.drew.iter t p) B s k st:=
 h.drew.below ((Zh _ _).alloc (nlr _) _)
theorem dG(w:Y4)(t:ByteArray)(p B:Nat):w.grownBy (w.drew.iter t p) (Y2 B):=
 aI (grownBy_drew (grownBy_refl w _)) (Y9 ((Zh _ _).alloc (nlr _) _))
theorem wD(w:Y4)(B:Nat)(s:ByteArray)(k st:Nat)(h:Rd w B s k st):
   aaT Zc 110 #[Ym (Y2 ⟨B,0,Y1⟩),.func (.func 173) #[] #[]] w fun e w'=>∃u:ByteArray,e=Yl (.string u)/\u.data.toList=(s.data.toList.drop k).take (acL ZL (s.data.toList.drop k))/\Rd w' B s (k+acL ZL (s.data.toList.drop k)) st/\w.grownBy w' (Y2 B):=by
 obtain⟨⟨b0,b1,b2⟩,b3,b4,b5⟩:=h.blk.three;have hle:=h.le;have hsm:=h.small;obtain⟨t,ht⟩:∃t,t=s.extract k s.size:=⟨_,rfl⟩
 have hT:t.data.toList=s.data.toList.drop k:=by rw[ht];exact Lib.extract_to_end s k
 have hts:t.size+k=s.size:=by rw[ht];simp;omega
 rw[<-hT];have HT:=hd hT;have HTT:=hd ht;clear ht hT
 have hI1:∀p,(w.drew.iter t p).cell? ⟨B,1,Y1⟩=Y2 (Yg Yh (k:Int)):=fun p=>(h.iter t p).blk.cell 1
 have hI2:∀p,(w.drew.iter t p).frozen? ⟨B,1,Y1⟩=false:=fun p=>(h.iter t p).blk.free 1
 go_enter acQ,acR;go_wp2
 go_region
 all_goals go_wp2
 rw[<-HTT.o];go_loopw [6] (fun v wr=>∃pos:Nat,v=Yg Yh (t.size:Int)/\wr=w.drew.iter t pos/\pos<=t.size/\Yf (acL ZL t.data.toList=pos+acL ZL (t.data.toList.drop pos))) (fun _ wr=>t.size-wr.iterPos w.heap.size)
 case atStart=>exact⟨0,by rw[show s.size-k=t.size from by omega],rfl,by omega,by show _=_;simp⟩
 case round=>
  obtain⟨pos,rfl,rfl,hpos,HK⟩:=hrel;by_cases hlt:pos<t.size
  · have hnx:∀ty,(acS (Ym (Y2 ⟨w.heap.size,0,Y1⟩)) true ty).run Zc (w.drew.iter t pos)=.ok (Yn #[.bool true,Yg Yh pos,.int .i32 (Utf8.decode t pos).1]) (w.drew.iter t (pos+(Utf8.decode t pos).2)):=fun ty=>run_next_any (P:=Zc) w.drew t pos ty hlt
    cases hp:yQ ((Utf8.decode t pos).1:Int)
    · have HN:=hd (EC.no t pos hlt hp);generalize (Utf8.decode t pos)=d at*;obtain⟨c,n⟩:=d;go_wp2_with(go_at_call 173;refine(lC _ _).mono ?_;rintro e w' ⟨rfl,rfl⟩);go_ret
      have hc:acL ZL t.data.toList=pos:=by rw[HK.o,HN.o];rfl
      rw[hc];refine⟨_,rfl,?_,(h.iter t (pos+n)).set1 (k+pos) (by omega),aI (dG w t (pos+n) B) (qI _ B 1 _)⟩;rw[Lib.extract_data];simp
    have HY:=hd (EC.yes t pos hlt hp);generalize (Utf8.decode t pos)=d at*;obtain⟨c,n⟩:=d;go_wp2_with(go_at_call 173;refine(lC _ _).mono ?_;rintro e w' ⟨rfl,rfl⟩);go_roundw
    case rel=>
     obtain⟨y1,y2,y3⟩:=HY.o
     try simp only at y1 y2 y3
     exact⟨pos+n,rfl,rfl,y2,by have h1:=HK.o;show _=_;omega⟩
    case measure=>
     obtain⟨y1,y2,y3⟩:=HY.o
     try simp only at y1 y2 y3
     show t.size-(w.drew.iter t (pos+n)).iterPos w.drew.heap.size<t.size-(w.drew.iter t pos).iterPos w.drew.heap.size;rw[acT,acT];omega
  have hnx:∀ty,(acS (Ym (Y2 ⟨w.heap.size,0,Y1⟩)) true ty).run Zc (w.drew.iter t pos)=.ok (Yn #[.bool false]) (w.drew.iter t pos):=fun ty=>run_next_end (P:=Zc) w.drew t pos ty hlt
  go_wp2;go_ret
  have hc:acL ZL t.data.toList=t.size:=by rw[HK.o,rQ ZL t pos (by omega)];omega
  rw[hc];refine⟨_,rfl,?_,(h.iter t pos).set1 (k+t.size) (by omega),aI (dG w t pos B) (qI _ B 1 _)⟩;rw[acU (by simp)]
theorem wS(w:Y4)(B:Nat)(s:ByteArray)(k st:Nat)(h:Rd w B s k st):
   aaT Zc 110 #[Ym (Y2 ⟨B,0,Y1⟩),.func (.func 111) #[] #[]] w fun e w'=>∃u:ByteArray,e=Yl (.string u)/\u.data.toList=(s.data.toList.drop k).take (acL acM (s.data.toList.drop k))/\Rd w' B s (k+acL acM (s.data.toList.drop k)) st/\w.grownBy w' (Y2 B):=by
 obtain⟨⟨b0,b1,b2⟩,b3,b4,b5⟩:=h.blk.three;have hle:=h.le;have hsm:=h.small;obtain⟨t,ht⟩:∃t,t=s.extract k s.size:=⟨_,rfl⟩
 have hT:t.data.toList=s.data.toList.drop k:=by rw[ht];exact Lib.extract_to_end s k
 have hts:t.size+k=s.size:=by rw[ht];simp;omega
 rw[<-hT];have HT:=hd hT;have HTT:=hd ht;clear ht hT
 have hI1:∀p,(w.drew.iter t p).cell? ⟨B,1,Y1⟩=Y2 (Yg Yh (k:Int)):=fun p=>(h.iter t p).blk.cell 1
 have hI2:∀p,(w.drew.iter t p).frozen? ⟨B,1,Y1⟩=false:=fun p=>(h.iter t p).blk.free 1
 go_enter acQ,acR;go_wp2
 go_region
 all_goals go_wp2
 rw[<-HTT.o];go_loopw [6] (fun v wr=>∃pos:Nat,v=Yg Yh (t.size:Int)/\wr=w.drew.iter t pos/\pos<=t.size/\Yf (acL acM t.data.toList=pos+acL acM (t.data.toList.drop pos))) (fun _ wr=>t.size-wr.iterPos w.heap.size)
 case atStart=>exact⟨0,by rw[show s.size-k=t.size from by omega],rfl,by omega,by show _=_;simp⟩
 case round=>
  obtain⟨pos,rfl,rfl,hpos,HK⟩:=hrel;by_cases hlt:pos<t.size
  · have hnx:∀ty,(acS (Ym (Y2 ⟨w.heap.size,0,Y1⟩)) true ty).run Zc (w.drew.iter t pos)=.ok (Yn #[.bool true,Yg Yh pos,.int .i32 (Utf8.decode t pos).1]) (w.drew.iter t (pos+(Utf8.decode t pos).2)):=fun ty=>run_next_any (P:=Zc) w.drew t pos ty hlt
    cases hp:UC ((Utf8.decode t pos).1:Int)
    · have HN:=hd (JR.no t pos hlt hp);generalize (Utf8.decode t pos)=d at*;obtain⟨c,n⟩:=d;go_wp2_with(go_at_call 111;refine(vW _ _).mono ?_;rintro e w' ⟨rfl,rfl⟩);go_ret
      have hc:acL acM t.data.toList=pos:=by rw[HK.o,HN.o];rfl
      rw[hc];refine⟨_,rfl,?_,(h.iter t (pos+n)).set1 (k+pos) (by omega),aI (dG w t (pos+n) B) (qI _ B 1 _)⟩;rw[Lib.extract_data];simp
    have HY:=hd (JR.yes t pos hlt hp);generalize (Utf8.decode t pos)=d at*;obtain⟨c,n⟩:=d;go_wp2_with(go_at_call 111;refine(vW _ _).mono ?_;rintro e w' ⟨rfl,rfl⟩);go_roundw
    case rel=>
     obtain⟨y1,y2,y3⟩:=HY.o
     try simp only at y1 y2 y3
     exact⟨pos+n,rfl,rfl,y2,by have h1:=HK.o;show _=_;omega⟩
    case measure=>
     obtain⟨y1,y2,y3⟩:=HY.o
     try simp only at y1 y2 y3
     show t.size-(w.drew.iter t (pos+n)).iterPos w.drew.heap.size<t.size-(w.drew.iter t pos).iterPos w.drew.heap.size;rw[acT,acT];omega
  have hnx:∀ty,(acS (Ym (Y2 ⟨w.heap.size,0,Y1⟩)) true ty).run Zc (w.drew.iter t pos)=.ok (Yn #[.bool false]) (w.drew.iter t pos):=fun ty=>run_next_end (P:=Zc) w.drew t pos ty hlt
  go_wp2;go_ret
  have hc:acL acM t.data.toList=t.size:=by rw[HK.o,rQ acM t pos (by omega)];omega
  rw[hc];refine⟨_,rfl,?_,(h.iter t pos).set1 (k+t.size) (by omega),aI (dG w t pos B) (qI _ B 1 _)⟩;rw[acU (by simp)]
theorem zn(w:Y4)(B:Nat)(s:ByteArray)(k st:Nat)(h:Rd w B s k st):
   aaT Zc 110 #[Ym (Y2 ⟨B,0,Y1⟩),.func (.func 113) #[] #[]] w fun e w'=>∃u:ByteArray,e=Yl (.string u)/\u.data.toList=(s.data.toList.drop k).take (acL acN (s.data.toList.drop k))/\Rd w' B s (k+acL acN (s.data.toList.drop k)) st/\w.grownBy w' (Y2 B):=by
 obtain⟨⟨b0,b1,b2⟩,b3,b4,b5⟩:=h.blk.three;have hle:=h.le;have hsm:=h.small;obtain⟨t,ht⟩:∃t,t=s.extract k s.size:=⟨_,rfl⟩
 have hT:t.data.toList=s.data.toList.drop k:=by rw[ht];exact Lib.extract_to_end s k
 have hts:t.size+k=s.size:=by rw[ht];simp;omega
 rw[<-hT];have HT:=hd hT;have HTT:=hd ht;clear ht hT
 have hI1:∀p,(w.drew.iter t p).cell? ⟨B,1,Y1⟩=Y2 (Yg Yh (k:Int)):=fun p=>(h.iter t p).blk.cell 1
 have hI2:∀p,(w.drew.iter t p).frozen? ⟨B,1,Y1⟩=false:=fun p=>(h.iter t p).blk.free 1
 go_enter acQ,acR;go_wp2
 go_region
 all_goals go_wp2
 rw[<-HTT.o];go_loopw [6] (fun v wr=>∃pos:Nat,v=Yg Yh (t.size:Int)/\wr=w.drew.iter t pos/\pos<=t.size/\Yf (acL acN t.data.toList=pos+acL acN (t.data.toList.drop pos))) (fun _ wr=>t.size-wr.iterPos w.heap.size)
 case atStart=>exact⟨0,by rw[show s.size-k=t.size from by omega],rfl,by omega,by show _=_;simp⟩
 case round=>
  obtain⟨pos,rfl,rfl,hpos,HK⟩:=hrel;by_cases hlt:pos<t.size
  · have hnx:∀ty,(acS (Ym (Y2 ⟨w.heap.size,0,Y1⟩)) true ty).run Zc (w.drew.iter t pos)=.ok (Yn #[.bool true,Yg Yh pos,.int .i32 (Utf8.decode t pos).1]) (w.drew.iter t (pos+(Utf8.decode t pos).2)):=fun ty=>run_next_any (P:=Zc) w.drew t pos ty hlt
    cases hp:Bu ((Utf8.decode t pos).1:Int)
    · have HN:=hd (AY.no t pos hlt hp);generalize (Utf8.decode t pos)=d at*;obtain⟨c,n⟩:=d;go_wp2_with(go_at_call 113;refine(zI _ _).mono ?_;rintro e w' ⟨rfl,rfl⟩);go_ret
      have hc:acL acN t.data.toList=pos:=by rw[HK.o,HN.o];rfl
      rw[hc];refine⟨_,rfl,?_,(h.iter t (pos+n)).set1 (k+pos) (by omega),aI (dG w t (pos+n) B) (qI _ B 1 _)⟩;rw[Lib.extract_data];simp
    have HY:=hd (AY.yes t pos hlt hp);generalize (Utf8.decode t pos)=d at*;obtain⟨c,n⟩:=d;go_wp2_with(go_at_call 113;refine(zI _ _).mono ?_;rintro e w' ⟨rfl,rfl⟩);go_roundw
    case rel=>
     obtain⟨y1,y2,y3⟩:=HY.o
     try simp only at y1 y2 y3
     exact⟨pos+n,rfl,rfl,y2,by have h1:=HK.o;show _=_;omega⟩
    case measure=>
     obtain⟨y1,y2,y3⟩:=HY.o
     try simp only at y1 y2 y3
     show t.size-(w.drew.iter t (pos+n)).iterPos w.drew.heap.size<t.size-(w.drew.iter t pos).iterPos w.drew.heap.size;rw[acT,acT];omega
  have hnx:∀ty,(acS (Ym (Y2 ⟨w.heap.size,0,Y1⟩)) true ty).run Zc (w.drew.iter t pos)=.ok (Yn #[.bool false]) (w.drew.iter t pos):=fun ty=>run_next_end (P:=Zc) w.drew t pos ty hlt
  go_wp2;go_ret
  have hc:acL acN t.data.toList=t.size:=by rw[HK.o,rQ acN t pos (by omega)];omega
  rw[hc];refine⟨_,rfl,?_,(h.iter t pos).set1 (k+t.size) (by omega),aI (dG w t pos B) (qI _ B 1 _)⟩;rw[acU (by simp)]
theorem y7(w:Y4)(B:Nat)(s:ByteArray)(k st:Nat)(h:Rd w B s k st):
   aaT Zc 110 #[Ym (Y2 ⟨B,0,Y1⟩),.func (.func 175) #[] #[]] w fun e w'=>∃u:ByteArray,e=Yl (.string u)/\u.data.toList=(s.data.toList.drop k).take (acL acO (s.data.toList.drop k))/\Rd w' B s (k+acL acO (s.data.toList.drop k)) st/\w.grownBy w' (Y2 B):=by
 obtain⟨⟨b0,b1,b2⟩,b3,b4,b5⟩:=h.blk.three;have hle:=h.le;have hsm:=h.small;obtain⟨t,ht⟩:∃t,t=s.extract k s.size:=⟨_,rfl⟩
 have hT:t.data.toList=s.data.toList.drop k:=by rw[ht];exact Lib.extract_to_end s k
 have hts:t.size+k=s.size:=by rw[ht];simp;omega
 rw[<-hT];have HT:=hd hT;have HTT:=hd ht;clear ht hT
 have hI1:∀p,(w.drew.iter t p).cell? ⟨B,1,Y1⟩=Y2 (Yg Yh (k:Int)):=fun p=>(h.iter t p).blk.cell 1
 have hI2:∀p,(w.drew.iter t p).frozen? ⟨B,1,Y1⟩=false:=fun p=>(h.iter t p).blk.free 1
 go_enter acQ,acR;go_wp2
 go_region
 all_goals go_wp2
 rw[<-HTT.o];go_loopw [6] (fun v wr=>∃pos:Nat,v=Yg Yh (t.size:Int)/\wr=w.drew.iter t pos/\pos<=t.size/\Yf (acL acO t.data.toList=pos+acL acO (t.data.toList.drop pos))) (fun _ wr=>t.size-wr.iterPos w.heap.size)
 case atStart=>exact⟨0,by rw[show s.size-k=t.size from by omega],rfl,by omega,by show _=_;simp⟩
 case round=>
  obtain⟨pos,rfl,rfl,hpos,HK⟩:=hrel;by_cases hlt:pos<t.size
  · have hnx:∀ty,(acS (Ym (Y2 ⟨w.heap.size,0,Y1⟩)) true ty).run Zc (w.drew.iter t pos)=.ok (Yn #[.bool true,Yg Yh pos,.int .i32 (Utf8.decode t pos).1]) (w.drew.iter t (pos+(Utf8.decode t pos).2)):=fun ty=>run_next_any (P:=Zc) w.drew t pos ty hlt
    cases hp:Ql ((Utf8.decode t pos).1:Int)
    · have HN:=hd (De.no t pos hlt hp);generalize (Utf8.decode t pos)=d at*;obtain⟨c,n⟩:=d;go_wp2_with(go_at_call 175;refine(kS _ _).mono ?_;rintro e w' ⟨rfl,rfl⟩);go_ret
      have hc:acL acO t.data.toList=pos:=by rw[HK.o,HN.o];rfl
      rw[hc];refine⟨_,rfl,?_,(h.iter t (pos+n)).set1 (k+pos) (by omega),aI (dG w t (pos+n) B) (qI _ B 1 _)⟩;rw[Lib.extract_data];simp
    have HY:=hd (De.yes t pos hlt hp);generalize (Utf8.decode t pos)=d at*;obtain⟨c,n⟩:=d;go_wp2_with(go_at_call 175;refine(kS _ _).mono ?_;rintro e w' ⟨rfl,rfl⟩);go_roundw
    case rel=>
     obtain⟨y1,y2,y3⟩:=HY.o
     try simp only at y1 y2 y3
     exact⟨pos+n,rfl,rfl,y2,by have h1:=HK.o;show _=_;omega⟩
    case measure=>
     obtain⟨y1,y2,y3⟩:=HY.o
     try simp only at y1 y2 y3
     show t.size-(w.drew.iter t (pos+n)).iterPos w.drew.heap.size<t.size-(w.drew.iter t pos).iterPos w.drew.heap.size;rw[acT,acT];omega
  have hnx:∀ty,(acS (Ym (Y2 ⟨w.heap.size,0,Y1⟩)) true ty).run Zc (w.drew.iter t pos)=.ok (Yn #[.bool false]) (w.drew.iter t pos):=fun ty=>run_next_end (P:=Zc) w.drew t pos ty hlt
  go_wp2;go_ret
  have hc:acL acO t.data.toList=t.size:=by rw[HK.o,rQ acO t pos (by omega)];omega
  rw[hc];refine⟨_,rfl,?_,(h.iter t pos).set1 (k+t.size) (by omega),aI (dG w t pos B) (qI _ B 1 _)⟩;rw[acU (by simp)]
structure dQ(w w':Y4)(B C:Nat):Prop where
 os:w'.os=w.os
 tape:w'.tape=w.tape
 output:w'.output=w.output
 size:w.heap.size<=w'.heap.size
 block:∀k,k<w.heap.size->k≠B->k≠C->w'.heap[k]? =w.heap[k]?
theorem dQ.trans(h:dQ w w1 B C)(k:dQ w1 w2 B C):dQ w w2 B C:=
 ⟨k.os.trans h.os,k.tape.trans h.tape,k.output.trans h.output,YB h.size k.size,fun i hi h1 h2=>(k.block i (nlA hi h.size) h1 h2).trans (h.block i hi h1 h2)⟩
theorem dQ.of(h:w.grownBy w' (Y2 B)):dQ w w' B C:=⟨h.os,h.tape,h.output,h.size,fun k hk h1 _=>h.block k hk (by simpa using h1)⟩
theorem dQ.Yd(h:w.grownBy w' (Y2 C)):dQ w w' B C:=⟨h.os,h.tape,h.output,h.size,fun k hk _ h2=>h.block k hk (by simpa using h2)⟩
theorem dQ.blk{b:Nat}{cs:Array Y3}{t:Y5}(hg:dQ w w' B C)(h:ae w b cs t)(h1:b≠B)(h2:b≠C):ae w' b cs t:=by
 unfold ae at h⊢;rw[hg.block b (geA.1 h).1 h1 h2];exact h
theorem dQ.own{base:Nat}{n:Nat}{xs:List Y3}(hg:dQ w w' B C)(h:w.ownsRow base e size v n xs)(h1:B<base)(h2:C<base):w'.ownsRow base e size v n xs:=by
 refine⟨h.1,?_⟩;rcases h.2 with hn|⟨g,cap,cur,rfl,hb,hh,r⟩
 · exact .inl hn
 refine .inr ⟨g,cap,cur,rfl,hb,?_,r⟩;rw[hg.block g (geA.1 hh).1 (by omega) (by omega)];exact hh
def Wx(w:Y4)(B C D:Nat)(lv:Y3)(ts:List Zj)(sz:Nat)(dp:Bool)(i:Nat)(q:List Zj)(x:aaY)(w':Y4):Prop:=
 dQ w w' B C/\((∃p c,acV sz i q (.error (p,c))/\x=lL p c)\/∃n k q',acV sz i q (.ok ((n,k),q'))/\x=Yl (Yj #[Yi ⟨n.toArray⟩,Yg Yh (k:Int)])/\Cx w' B lv ts sz q' dp/\ae w' C #[Yg Yh ((i:Int)+1)] 3/\ae w' D #[Ym (Y2 ⟨B,0,Y1⟩)] 148)
theorem qF(B C D:Nat)(lv:Y3)(ts:List Zj)(sz:Nat)(dp dp0:Bool)(w0 w:Y4)(q0 q:List Zj)(h0:Cx w0 B lv ts sz q0 dp0)(hC0:w0.heap.size<=C)(hD0:w0.heap.size<=D)(hCD:C≠D)(h:Cx w B lv ts sz q dp)(i:Nat)(hi:i<=3000)(hC:ae w C #[Yg Yh (i:Int)] 3)(hD:ae w D #[Ym (Y2 ⟨B,0,Y1⟩)] 148):
   aaT Zc 118 #[Ym (Y2 ⟨C,0,Y1⟩),Ym (Y2 ⟨D,0,Y1⟩)] w (Wx w B C D lv ts sz dp i q):=by
 have hBlt:=h0.lt;have Vk:=hC.lt;have hDlt:=hD.lt
 have x1:¬C=w.heap.size:=by omega
 have x2:¬w.heap.size=C:=by omega
 have x3:¬D=w.heap.size:=by omega
 have x4:¬w.heap.size=D:=by omega
 have x5:¬C=D:=hCD
 have x6:¬D=C:=fun e=>hCD e.symm
 have c0:w.cell? ⟨C,0,Y1⟩=Y2 (Yg Yh (i:Int)):=hC.cell 0;have f0:=hC.free 0;have d0:w.cell? ⟨D,0,Y1⟩=Y2 (Ym (Y2 ⟨B,0,Y1⟩)):=hD.cell 0;have HC:=hd hC;have HD:=hd hD;have HX:=hd h;have H0:=hd h0;go_enter Tryz.func118,Tryz.ntmps118;go_wp2_with fail;have HE:Yf (Cx ((w.setCell ⟨C,0,Y1⟩ (Yg Yh ((i:Int)+1))).alloc (Yk #[Yi ⟨#[]⟩,Yg Yh 0] 220)) B lv ts sz q dp):=(HX.o.far H0.o hC0 0 _).below ((Zh _ _).alloc (nlr _) _);refine(Cw B lv ts sz dp _ q HE.o i (by omega)).mono ?_;rintro x w2 ho;have KC:=(HC.o.set 0 (Yg Yh ((i:Int)+1))).alloc (Yk #[Yi ⟨#[]⟩,Yg Yh 0] 220);have KD:=(HD.o.far ⟨C,0,Y1⟩ (Yg Yh ((i:Int)+1)) x5).alloc (Yk #[Yi ⟨#[]⟩,Yg Yh 0] 220);have KR:=ae.new (w.setCell ⟨C,0,Y1⟩ (Yg Yh ((i:Int)+1))) #[Yi ⟨#[]⟩,Yg Yh 0] 220
 have hsc:(w.setCell ⟨C,0,Y1⟩ (Yg Yh ((i:Int)+1))).heap.size=w.heap.size:=by simp[Za]
 rw[hsc]at KR;obtain⟨hg,hcase⟩:=ho.cases;have HG:=hd ((dQ.Yd (vM (qI w C 0 (Yg Yh ((i:Int)+1))) (Yk #[Yi ⟨#[]⟩,Yg Yh 0] 220))).trans (dQ.of hg));rcases hcase with⟨p,c,hr,rfl⟩|⟨⟨n,k⟩,q1,v,hr,rfl,hv,hx⟩
 · exact⟨rfl,HG.o,.inl ⟨p,c,hr,rfl⟩⟩
 cases hv
 have HR1:=hd hr;have HX1:=hd (hx);have HC2:=hd (KC.grown hg (by omega));have HD2:=hd (KD.grown hg (by omega));have HK2:=hd (KR.grown hg (by omega));have m0:w2.cell? ⟨w.heap.size,0,Y1⟩=Y2 (Yi ⟨#[]⟩):=HK2.o.cell 0;have m1:w2.cell? ⟨w.heap.size,1,Y1⟩=Y2 (Yg Yh 0):=HK2.o.cell 1;obtain⟨g0,g1⟩:=HK2.o.f2
 have hw0:w0.heap.size<=w.heap.size:=by omega
 go_wp2_with fail;have KF:=(HK2.o.set 0 (Yi ⟨n.toArray⟩)).set 1 (Yg Yh (k:Int));obtain⟨e0,e1⟩:=KF.d2;refine aaU (v:=Yj #[Yi ⟨n.toArray⟩,Yg Yh (k:Int)]) (by simp[aaW,Tryz.results118,go_sem,e0,e1]) rfl ?_;refine⟨?_,.inr ⟨n,k,q1,HR1.o,rfl,(HX1.o.far H0.o hw0 0 _).far H0.o hw0 1 _,(HC2.o.far ⟨w.heap.size,0,Y1⟩ _ x2).far ⟨w.heap.size,1,Y1⟩ _ x2,(HD2.o.far ⟨w.heap.size,0,Y1⟩ _ x4).far ⟨w.heap.size,1,Y1⟩ _ x4⟩⟩;refine⟨HG.o.os,HG.o.tape,HG.o.output,by simpa[Za]using HG.o.size,fun j hj h1 h2=> ?_⟩;rw[Zb _ _ _ _ (by show j≠w.heap.size;omega),Zb _ _ _ _ (by show j≠w.heap.size;omega)];exact HG.o.block j hj h1 h2
theorem Tryz.info220:(Tryz.prog.info? 220).map (fun i=>(i.zero,i.size,i.bytes))=Y2 (Y2 (Yj #[Yi ⟨#[]⟩,Yg Yh 0]),2,24):=by kernel_rfl
def UQ(w:Y4)(B C:Nat)(lv:Y3)(ts:List Zj)(sz:Nat)(dp:Bool)(q:List Zj)(x:aaY)(w':Y4):Prop:=
 dQ w w' B C/\((∃p c,aaH (acV sz) q (.error (p,c))/\x=lL p c)\/∃l q' v,aaH (acV sz) q (.ok (l,q'))/\x=Yl v/\w'.ownsRow w.heap.size 220 2 v l.length (l.flatMap qU)/\Cx w' B lv ts sz q' dp)
theorem uK(B C D:Nat)(lv:Y3)(ts:List Zj)(sz:Nat)(dp dp0:Bool)(w0 w:Y4)(q0 q:List Zj)(h0:Cx w0 B lv ts sz q0 dp0)(hC0:w0.heap.size<=C)(hD0:w0.heap.size<=D)(hCD:C≠D)(h:Cx w B lv ts sz q dp)(hC:ae w C #[Yg Yh 0] 3)(hD:ae w D #[Ym (Y2 ⟨B,0,Y1⟩)] 148):
   aaT Zc 117 #[Ym (Y2 ⟨B,0,Y1⟩),.func (.func 118) #[] #[Ym (Y2 ⟨C,0,Y1⟩),Ym (Y2 ⟨D,0,Y1⟩)]] w (UQ w B C lv ts sz dp q):=by
 obtain⟨i0,hi,hz0,hz1,hz2⟩:=info_parts Tryz.info220;have HX:=hd h;have H0:=hd h0;have hlt:=h.lt;have hBlt:=h0.lt;have Vk:=hC.lt;have hDlt:=hD.lt
 have zO:q.length<=2000:=by
  obtain⟨k,rfl,h⟩:=h;have:=h.len;simp;omega
 have HC:=hd hC;have HD:=hd hD;go_enter Tryz.func117,Tryz.ntmps117;go_wp2_with fail;refine(qF B C D lv ts sz dp dp0 w0 w q0 q H0.o hC0 hD0 hCD HX.o 0 (by omega) HC.o HD.o).mono ?_;rintro x w1 ⟨hg,⟨p,c,hr,rfl⟩|⟨n,k,q1,hr,rfl,hx,kC,kD⟩⟩
 · exact⟨rfl,hg,.inl ⟨p,c,Px.Sep.err0 hr,rfl⟩⟩
 have HR1:=hd (Px.Reach.first (x:=acV sz) hr);have hs1:=hg.size;have HO1:=hd (fw (tq w1 (Yi ⟨n.toArray⟩) (Yg Yh (k:Int)) 220) hs1);have wF:=hd (hx.below ((Zh _ _).alloc (nlr _) (Yk #[Yi ⟨n.toArray⟩,Yg Yh (k:Int)] 220)));have wT:Yf (dQ w (w1.alloc (Yk #[Yi ⟨n.toArray⟩,Yg Yh (k:Int)] 220)) B C):=hg.trans (dQ.of (vM (grownBy_refl w1 _) _));have HC1:=hd (kC.alloc (Yk #[Yi ⟨n.toArray⟩,Yg Yh (k:Int)] 220));have HD1:=hd (kD.alloc (Yk #[Yi ⟨n.toArray⟩,Yg Yh (k:Int)] 220));go_wp2_with fail;go_loopw [5] (fun v wr=>∃(l:List (Y6×Nat)) (q1:List Zj),Yf (wr.ownsRow w.heap.size 220 2 v l.length (l.flatMap qU))/\Yf (Cx wr B lv ts sz q1 dp)/\Yf (dQ w wr B C)/\Yf (Px.Reach (acV sz) q l q1)/\Yf (ae wr C #[Yg Yh (l.length:Int)] 3)/\Yf (ae wr D #[Ym (Y2 ⟨B,0,Y1⟩)] 148)) (fun _ wr=>ts.length-xq wr B)
 case atStart=>exact⟨[(n,k)],q1,HO1,wF,wT,HR1,HC1,HD1⟩
 case round=>
  obtain⟨l,q1,HO,HX1,HG1,HRe,HC1,HD1⟩:=hrel;have hll:q1.length+l.length<=q.length+1:=HRe.o.len (fun _=>Px.oW sz _)
  cases hs:Zm Px.ku q1 with
  |false=>
   go_wp2_with fail;refine(dZ ⟨#[44]⟩ wr B lv ts sz q1 _ HX1.o hs (by simp)).mono ?_;rintro x w2 ⟨rfl,hb⟩;have HO2:=hd (eO HO.o hb);have HB:=hd hb;go_wp2_with fail;go_ret;exact⟨HG1.o.trans (dQ.of (Y9 HB.o)),.inr ⟨l,q1,_,Px.Sep.stop HRe.o hs,rfl,HO2.o,HX1.o.below HB.o⟩⟩
  |true=>
   have hcl:=Px.bB hs;go_wp2_with fail;refine(uh ⟨#[44]⟩ wr B lv ts sz q1 _ HX1.o hs (by simp)).mono ?_;rintro x w2 ⟨rfl,hx2,hg2⟩;have HX2:=hd hx2;have HG2:=hd (HG1.o.trans (dQ.of hg2))
   have HO2:=hd (HO.o.kept hg2 (by
    cases hv:u5.ownBlock with
    |none=>exact .inl rfl
    |some g=>right;have:=(HO.o.lt g hv).1;simp;omega))
   have HC2:=hd (HC1.o.grown hg2 (by omega));have HD2:=hd (HD1.o.grown hg2 (by omega));have hl1:=HX1.o.xq;go_wp2_with fail;refine(qF B C D lv ts sz dp dp0 w0 w2 q0 q1.tail H0.o hC0 hD0 hCD HX2.o l.length (by omega) HC2.o HD2.o).mono ?_;rintro x w3 ⟨hg,⟨p,c,hr,rfl⟩|⟨n,k,q2,hr,rfl,hx,kC,kD⟩⟩
   · exact⟨rfl,HG2.o.trans hg,.inl ⟨p,c,Px.Sep.err HRe.o hs hr,rfl⟩⟩
   have HR3:=hd (HRe.o.step hs hr);have hsh:=Px.oW sz _ _ _ _ hr;have HG3:=hd (HG2.o.trans hg);have HO3:=hd (hg.own HO2.o (by omega) (by omega));have hs3:=HG3.o.size;have HX3':=hd (hx.below ((Zh _ _).alloc (nlr _) (Yk #[Yi ⟨n.toArray⟩,Yg Yh (k:Int)] 220)));have dF:Yf (dQ w (w3.alloc (Yk #[Yi ⟨n.toArray⟩,Yg Yh (k:Int)] 220)) B C):=HG3.o.trans (dQ.of (vM (grownBy_refl w3 _) _));have HC3:=hd (kC.alloc (Yk #[Yi ⟨n.toArray⟩,Yg Yh (k:Int)] 220));have HD3:=hd (kD.alloc (Yk #[Yi ⟨n.toArray⟩,Yg Yh (k:Int)] 220))
   go_wp2_with(first
    |(at_builtin;refine wpList_append_own _ rfl _ _ 84 rfl w.heap.size 220 i0 (Yj #[Yi ⟨#[]⟩,Yg Yh 0]) 2 24 Tryz.underlying84 hi hz0 hz1 hz2 rfl (by decide) _ _ _ rfl (HO3.o.alloc _) ⟨w3.heap.size,0,Y1⟩ 1 1 [Yi ⟨n.toArray⟩,Yg Yh (k:Int)] rfl rfl ?c1 ?c2 ?c3 ?c4 ?c5 ?_)
    |fail)
   case c1=>exact uB w3 (Yi ⟨n.toArray⟩) (Yg Yh (k:Int)) 220
   case c2=>intro u hu;simp at hu;rcases hu with rfl|rfl<;>rfl
   case c3=>unfold aaV;omega
   case c4=>omega
   case c5=>simp;omega
   intro v' w4 hown' hgrow _
   have HO4:Yf (w4.ownsRow w.heap.size 220 2 v' (l++[(n,k)]).length ((l++[(n,k)]).flatMap qU)):=by
    rw[aaN,aaL,mH];exact hown'
   have hrow:∀o,u5.ownBlock=Y2 o->w.heap.size<=o:=fun o ho=>(HO3.o.lt o ho).1
   have HX4:=hd (HX3'.o.kept HX.o hgrow hrow)
   have keepB:∀(b:Nat) (cs:Array Y3) (t:Y5),b<w.heap.size->ae (w3.alloc (Yk #[Yi ⟨n.toArray⟩,Yg Yh (k:Int)] 220)) b cs t->ae w4 b cs t:=by
    intro b cs t hb hB;unfold ae at hB⊢;rw[hgrow.block b (geA.1 hB).1 (by intro e;have:=hrow b e.symm;omega)];exact hB
   have HC4:Yf (ae w4 C #[Yg Yh ((l++[(n,k)]).length:Int)] 3):=by
    have:=keepB C _ _ Vk HC3.o;show ae _ _ _ _;rw[aaN,aaL,show((l.length+1:Nat):Int)=(l.length:Int)+1 by omega];exact this
   have HD4:=hd (keepB D _ _ hDlt HD3.o)
   have HG4:Yf (dQ w w4 B C):=by
    refine⟨hgrow.os.trans dF.o.os,hgrow.tape.trans dF.o.tape,hgrow.output.trans dF.o.output,YB dF.o.size hgrow.size,fun j hj h1 h2=> ?_⟩
    rw[hgrow.block j (nlA hj dF.o.size) (by
     intro e;have:=hrow j e.symm
     omega)]
    exact dF.o.block j hj h1 h2
   have hl4:=HX4.o.xq;go_wp2_with fail;go_roundw
   case rel=>exact⟨l++[(n,k)],q2,HO4,HX4,HG4,HR3,HC4,HD4⟩
   case measure=>omega
def Qj(B:Nat):acW->Y3->Y4->Prop
 |.create t c,v,w=>∃u,v=Yo 86 (Yj #[Yi ⟨t.toArray⟩,u])/\Ec B 220 2 qU c u w
 |.drop t,v,_=>v=Yo 89 (Yj #[Yi ⟨t.toArray⟩])
 |.insert t r,v,w=>∃u,v=Yo 93 (Yj #[Yi ⟨t.toArray⟩,u])/\Gi B r u w
 |.delete t o,v,_=>v=Yo 100 (Yj #[Yi ⟨t.toArray⟩,ev? o])
 |.update t s o,v,w=>∃u,v=Yo 104 (Yj #[Yi ⟨t.toArray⟩,u,ev? o])/\Ec B 223 2 KT s u w
 |.select i t o r l,v,w=>∃u u',v=Yo 109 (Yj #[u,Yi ⟨t.toArray⟩,ev? o,u',.bool l.isSome,Yg Yh ((l.getD 0:Nat):Int)])/\Ec B 225 2 iK i u w/\Ec B 227 2 dA r u' w
def BL(B:Nat)(T:Y5)(s:acW)(v:Y3)(w:Y4):Prop:=Qj B s (Yo T v) w
def bS(s:acW):Bool:=s.exprs.any gI
theorem bY(s:ByteArray)(w:Y4)(g:Nat)(hgs:g=w.heap.size)(B:Nat)(lv:Y3)(ts:List Zj)(sz:Nat)(q:List Zj)(dp:Bool)(h:Cx w B lv ts sz q dp)(hne:s.data.toList≠[]):
   aaT Zc 56 #[Ym (Y2 ⟨B,0,Y1⟩),Yp (Y2 ⟨g,0,Y1⟩) 1 1] (w.alloc (Yk #[.string s] 9)) (aj w B lv ts sz dp (Px.bU sz s.data.toList) q MS dM):=by
 subst hgs;exact bV s w B lv ts sz q dp h hne
theorem ev?_one(o:Option ZU):ev? o=Yq\/∃t x,ev? o=Yo t x:=by
 cases o with
 |none=>exact .inl rfl
 |some e=>exact .inr (jc e)
theorem Cv(B:Nat)(lv:Y3)(ts:List Zj)(sz:Nat)(dp:Bool)(w:Y4)(q:List Zj)(h:Cx w B lv ts sz q dp):
   aaT Zc 59 #[Ym (Y2 ⟨B,0,Y1⟩)] w (aj w B lv ts sz dp (Px.DN sz) q (BL B 100) bS):=by
 have HX:=hd h;have hlt:=h.lt;have HB0:Yf (aaS w.heap.size w (w.alloc (Yk #[Yi ⟨#[]⟩,Yq] 100))):=(Zh _ _).alloc (nlr _) _;have HKR:=hd (ae.new w #[Yi ⟨#[]⟩,Yq] 100);clear h;go_enter Tryz.func59,Tryz.ntmps59;go_wp2_with fail;refine(bY ⟨#[70,82,79,77]⟩ (w.alloc (Yk #[Yi ⟨#[]⟩,Yq] 100)) _ (by simp) B lv ts sz q dp (HX.o.below HB0.o) (by simp)).mono ?_;rintro x w1 ho;obtain⟨hg,⟨p,c,hr,rfl⟩|⟨_,q1,v,hr,rfl,hv,hx⟩⟩:=ho.cases
 · exact⟨rfl,aj.err (aI (Y9 HB0.o) hg) (Px.Rg.err hr)⟩
 cases hv
 have HR1:=hd hr;have HX1:Yf (Cx w1 B lv ts sz q1 dp):=hx;have HG1:=hd (aI (Y9 HB0.o) hg);have HK1:=hd (HKR.o.grown hg (by omega));clear hr hx hg ho HB0 HKR;go_wp2_with fail;refine(eD w1 B lv ts sz q1 dp HX1.o).mono ?_;rintro x w2 ho;obtain⟨hg,⟨p,c,hr,rfl⟩|⟨n,q2,v,hr,rfl,hv,hx⟩⟩:=ho.cases
 · exact⟨rfl,aj.err (aI HG1.o hg) (Px.Rg.go HR1.o (Px.Rg.err hr))⟩
 cases hv
 have HR2:=hd hr;have HX2:Yf (Cx w2 B lv ts sz q2 dp):=hx;have HG2:=hd (aI HG1.o hg);have HK2:=hd (HK1.o.grown hg (by omega));clear hr hx hg ho HG1 HK1;go_wp2_with fail;refine(pK B lv ts sz dp w2 q2 HX2.o).mono ?_;rintro x w3 ho;obtain⟨hg,⟨p,c,hr,rfl⟩|⟨o,q3,v,hr,rfl,hv,hx⟩⟩:=ho.cases
 · exact⟨rfl,aj.err (aI HG2.o hg) (Px.Rg.go HR1.o (Px.Rg.go HR2.o (Px.Rg.err hr)))⟩
 have HR3:=hd hr
 have HX3:Yf (Cx w3 B lv ts sz q3 (bS (.delete n o)||dp)):=by
  show Cx _ _ _ _ _ _ _
  have:bS (.delete n o)=iO o:=by cases o<;>simp[bS,Px.St.exprs,iO]
  rw[this];exact hx
 have HG3:=hd (aI HG2.o hg);have HK3:=hd (HK2.o.grown hg (by omega));have HV:=hd hv
 have hv1:v=Yq\/∃t x,v=Yo t x:=by
  have:=ev?_one o
  rwa [<-show v=ev? o from hv]at this
 have m0:w3.cell? ⟨w.heap.size,0,Y1⟩=Y2 (Yi ⟨#[]⟩):=HK3.o.cell 0;have m1:w3.cell? ⟨w.heap.size,1,Y1⟩=Y2 Yq:=HK3.o.cell 1;have g0:=HK3.o.free 0;have g1:=HK3.o.free 1;clear hr hx hg ho HG2 HK2 hv;rcases hv1 with rfl|⟨et,ex,rfl⟩
 all_goals
  go_wp2_with fail
 · have KF:=(HK3.o.set 0 (Yi ⟨n.toArray⟩)).set 1 Yq;have e0:=KF.cell 0;have e1:=KF.cell 1;simp at e0 e1;refine aaU (v:=Yj #[Yi ⟨n.toArray⟩,Yq]) (by simp[aaW,acX,go_sem,e0,e1]) rfl ?_;exact aj.ok (a:=Px.St.delete n o) (q':=q3) (fq (fq HG3.o (nlr _) 0 _) (nlr _) 1 _) (Px.Rg.go HR1.o (Px.Rg.go HR2.o (Px.Rg.go HR3.o rfl))) (by show _=Yo _ (Yj #[_,ev? o]);rw[<-show(Yq)=ev? o from HV.o]) ((HX3.o.far HX.o (nlr _) 0 _).far HX.o (nlr _) 1 _)
 have KF:=(HK3.o.set 0 (Yi ⟨n.toArray⟩)).set 1 (Yo et ex);have e0:=KF.cell 0;have e1:=KF.cell 1;simp at e0 e1;refine aaU (v:=Yj #[Yi ⟨n.toArray⟩,Yo et ex]) (by simp[aaW,acX,go_sem,e0,e1]) rfl ?_;exact aj.ok (a:=Px.St.delete n o) (q':=q3) (fq (fq HG3.o (nlr _) 0 _) (nlr _) 1 _) (Px.Rg.go HR1.o (Px.Rg.go HR2.o (Px.Rg.go HR3.o rfl))) (by show _=Yo _ (Yj #[_,ev? o]);rw[<-show(Yo et ex)=ev? o from HV.o]) ((HX3.o.far HX.o (nlr _) 0 _).far HX.o (nlr _) 1 _)
theorem any_flatten:∀l:List (List ZU),l.flatten.any gI=l.any ED
 |[]=>rfl
 |r::l=>by
  rw[List.flatten_cons,acY,acZ,any_flatten l]
  rfl
theorem xw{M:Nat}{l:List (List ZU)}(h:Gi B l v w)(i:Nat)(x:Y3)(hM:∃cs t,w.heap[M]? =Y2 (.cells cs t (0,0))/\t≠132/\t≠98):Gi B l v (w.setCell ⟨M,i,Y1⟩ x):=by
 obtain⟨vs,h1,h2⟩:=h;obtain⟨cs,t,hh,ht1,ht2⟩:=hM
 have key:∀{e:Y5} {size:Nat} {v:Y3} {n:Nat} {xs:List Y3},e≠t->w.ownsRow (B+1) e size v n xs->(w.setCell ⟨M,i,Y1⟩ x).ownsRow (B+1) e size v n xs:=by
  intro e size v n xs hne ho;refine ho.kept (qI w M i x) ?_
  cases hv:v.ownBlock with
  |none=>exact .inl rfl
  |some g=>
   right
   intro e1;simp only[Option.some.injEq]at e1;subst e1;obtain⟨c1,k1⟩:=tL ho _ hv;rw[k1]at hh;simp only[Option.some.injEq,Obj.cells.injEq]at hh;exact hne hh.2.1
 exact⟨vs,key (fun e=>ht1 e.symm) h1,h2.map fun r v hr=>key (fun e=>ht2 e.symm) hr⟩
theorem aB{α:Type}{M:Nat}{cl:α->List Y3}{l:List α}(h:Ec B T size cl l v w)(i:Nat)(x:Y3)(hM:∃cs t,w.heap[M]? =Y2 (.cells cs t (0,0))/\t≠T):Ec B T size cl l v (w.setCell ⟨M,i,Y1⟩ x):=by
 obtain⟨cs,t,hh,ht1⟩:=hM;refine World.ownsRow.kept h (qI w M i x) ?_
 cases hv:v.ownBlock with
 |none=>exact .inl rfl
 |some g=>
  right
  intro e1;simp only[Option.some.injEq]at e1;subst e1;obtain⟨c1,k1⟩:=tL h _ hv;rw[k1]at hh;simp only[Option.some.injEq,Obj.cells.injEq]at hh;exact ht1 hh.2.1.symm
theorem DT(B:Nat)(lv:Y3)(ts:List Zj)(sz:Nat)(dp:Bool)(w:Y4)(q:List Zj)(h:Cx w B lv ts sz q dp):
   aaT Zc 58 #[Ym (Y2 ⟨B,0,Y1⟩)] w (aj w B lv ts sz dp (Px.CU sz) q (BL B 93) bS):=by
 have hmf:∀(fn:Fn) (first cap:Array Y3) (w:Y4),(ada fn first cap).run Zc w=.ok (.func fn first cap) w:=fun _ _ _ _=>rfl
 have HX:=hd h;have hlt:=h.lt;have HB0:Yf (aaS w.heap.size w (w.alloc (Yk #[Yi ⟨#[]⟩,Yp Y1 0 0] 93))):=(Zh _ _).alloc (nlr _) _;have HKR:=hd (ae.new w #[Yi ⟨#[]⟩,Yp Y1 0 0] 93);go_enter Tryz.func58,Tryz.ntmps58;go_wp2_with fail;refine(bY ⟨#[73,78,84,79]⟩ (w.alloc (Yk #[Yi ⟨#[]⟩,Yp Y1 0 0] 93)) _ (by simp) B lv ts sz q dp (HX.o.below HB0.o) (by simp)).mono ?_;rintro x w1 ho;obtain⟨hg,⟨p,c,hr,rfl⟩|⟨_,q1,v,hr,rfl,hv,hx⟩⟩:=ho.cases
 · exact⟨rfl,aj.err (aI (Y9 HB0.o) hg) (Px.Rg.err hr)⟩
 cases hv
 have HR1:=hd hr;have HX1:=hd (hx);have HG1:=hd (aI (Y9 HB0.o) hg);have HK1:=hd (HKR.o.grown hg (by omega));go_wp2_with fail;refine(eD w1 B lv ts sz q1 dp HX1.o).mono ?_;rintro x w2 ho;obtain⟨hg,⟨p,c,hr,rfl⟩|⟨n,q2,v,hr,rfl,hv,hx⟩⟩:=ho.cases
 · exact⟨rfl,aj.err (aI HG1.o hg) (Px.Rg.go HR1.o (Px.Rg.err hr))⟩
 cases hv
 have HR2:=hd hr;have hs2:=(aI HG1.o hg).size
 have Qz:w.heap.size<w2.heap.size:=by have:=HK1.o.lt;have:=hg.size;omega
 have HX2:=hd (adb (w':=w2.alloc (Yk #[Yi ⟨n.toArray⟩,Yp Y1 0 0] 93)) (show Cx w2 B lv ts sz q2 dp from hx) ((Zh _ _).alloc (nlr _) _));have HG2:=hd (vM (aI HG1.o hg) (Yk #[Yi ⟨n.toArray⟩,Yp Y1 0 0] 93));have HK2:=hd ((HK1.o.grown hg (by omega)).alloc (Yk #[Yi ⟨n.toArray⟩,Yp Y1 0 0] 93));have HL2:=hd (ae.new w2 #[Yi ⟨n.toArray⟩,Yp Y1 0 0] 93)
 have d1:¬w2.heap.size=w.heap.size:=by omega
 have d2:¬w.heap.size=w2.heap.size:=by omega
 go_wp2_with fail;refine(bY ⟨#[86,65,76,85,69,83]⟩ (w2.alloc (Yk #[Yi ⟨n.toArray⟩,Yp Y1 0 0] 93)) _ (by simp) B lv ts sz q2 dp HX2.o (by simp)).mono ?_;rintro x w3 ho;obtain⟨hg,⟨p,c,hr,rfl⟩|⟨_,q3,v,hr,rfl,hv,hx⟩⟩:=ho.cases
 · exact⟨rfl,aj.err (aI HG2.o hg) (Px.Rg.go HR1.o (Px.Rg.go HR2.o (Px.Rg.err hr)))⟩
 cases hv
 have HR3:=hd hr;have HX3:=hd (hx);have HG3:=hd (aI HG2.o hg);have HK3:=hd (HK2.o.grown hg (by omega));have HL3:=hd (HL2.o.grown hg (by omega));go_wp2_with fail;refine(Aq B lv ts sz dp w3 q3 HX3.o).mono ?_;rintro x w4 ho;obtain⟨hg,⟨p,c,hr,rfl⟩|⟨l,q4,v,hr,rfl,hv,hx⟩⟩:=ho.cases
 · exact⟨rfl,aj.err (aI HG3.o hg) (Px.Rg.go HR1.o (Px.Rg.go HR2.o (Px.Rg.go HR3.o (Px.Rg.err hr))))⟩
 have HR4:=hd hr
 have HX4:Yf (Cx w4 B lv ts sz q4 (bS (.insert n l)||dp)):=by
  show Cx _ _ _ _ _ _ _;have:bS (.insert n l)=l.any ED:=any_flatten l;rw[this];exact hx
 have HG4:=hd (aI HG3.o hg);have HK4:=hd (HK3.o.grown hg (by omega));have HL4:=hd (HL3.o.grown hg (by omega));have HV:=hd hv
 obtain⟨ao,m,cp,rfl⟩:∃ao m cp,v=Yp ao m cp:=by obtain⟨vs,h1,_⟩:=hv;exact Ki h1
 have m0:w4.cell? ⟨w.heap.size,0,Y1⟩=Y2 (Yi ⟨#[]⟩):=HK4.o.cell 0;have m1:w4.cell? ⟨w.heap.size,1,Y1⟩=Y2 (Yp Y1 0 0):=HK4.o.cell 1;obtain⟨g0,g1⟩:=HK4.o.f2;have n0:w4.cell? ⟨w2.heap.size,0,Y1⟩=Y2 (Yi ⟨n.toArray⟩):=HL4.o.cell 0;have n1:w4.cell? ⟨w2.heap.size,1,Y1⟩=Y2 (Yp Y1 0 0):=HL4.o.cell 1;have f1:=HL4.o.free 1;go_wp2_with fail;have KF:=((HK4.o.far ⟨w2.heap.size,1,Y1⟩ (Yp ao m cp) d1).set 0 (Yi ⟨n.toArray⟩)).set 1 (Yp ao m cp);obtain⟨e0,e1⟩:=KF.d2;refine aaU (v:=Yj #[Yi ⟨n.toArray⟩,Yp ao m cp]) (by simp[aaW,Tryz.results58,go_sem,e0,e1]) rfl ?_;refine aj.ok (a:=Px.St.insert n l) (q':=q4) (fq (fq (fq HG4.o (by omega) 1 _) (nlr _) 0 _) (nlr _) 1 _) (Px.Rg.go HR1.o (Px.Rg.go HR2.o (Px.Rg.go HR3.o (Px.Rg.go HR4.o rfl)))) ⟨_,rfl,?_⟩ (((HX4.o.far HX.o (by omega) 1 _).far HX.o (nlr _) 0 _).far HX.o (nlr _) 1 _);have s1:=xw HV.o 1 (Yp ao m cp) ⟨_,_,HL4.o,by decide,by decide⟩;have s2:=xw s1 0 (Yi ⟨n.toArray⟩) ⟨_,_,HK4.o.far ⟨w2.heap.size,1,Y1⟩ (Yp ao m cp) d1,by decide,by decide⟩;exact xw s2 1 (Yp ao m cp) ⟨_,_,(HK4.o.far ⟨w2.heap.size,1,Y1⟩ (Yp ao m cp) d1).set 0 _,by decide,by decide⟩
theorem ER:∀(l:List (Y6×ZU)),(l.map (·.2)).any gI=l.any Bj
 |[]=>rfl
 |r::l=>by
  rw[YZ,acZ,acZ,ER l]
  rfl
theorem Jy(o:Option ZU):o.toList.any gI=iO o:=by cases o<;>simp[iO]
theorem Dr(B:Nat)(lv:Y3)(ts:List Zj)(sz:Nat)(dp:Bool)(w:Y4)(q:List Zj)(h:Cx w B lv ts sz q dp):
   aaT Zc 60 #[Ym (Y2 ⟨B,0,Y1⟩)] w (aj w B lv ts sz dp (Px.D8 sz) q (BL B 104) bS):=by
 have hmf:∀(fn:Fn) (first cap:Array Y3) (w:Y4),(ada fn first cap).run Zc w=.ok (.func fn first cap) w:=fun _ _ _ _=>rfl
 have HX:=hd h;have hlt:=h.lt;have HB0:Yf (aaS w.heap.size w (w.alloc (Yk #[Yi ⟨#[]⟩,Yp Y1 0 0,Yq] 104))):=(Zh _ _).alloc (nlr _) _;have HKR:=hd (ae.new w #[Yi ⟨#[]⟩,Yp Y1 0 0,Yq] 104);go_enter Tryz.func60,Tryz.ntmps60;go_wp2_with fail;refine(eD _ B lv ts sz q dp (HX.o.below HB0.o)).mono ?_;rintro x w2 ho;obtain⟨hg,⟨p,c,hr,rfl⟩|⟨n,q2,v,hr,rfl,hv,hx⟩⟩:=ho.cases
 · exact⟨rfl,aj.err (aI (Y9 HB0.o) hg) (Px.Rg.err hr)⟩
 cases hv
 have HR2:=hd hr
 have Qz:w.heap.size<w2.heap.size:=by have:=hg.size;simp only[ZC]at this;omega
 have HX2:=hd (adb (w':=w2.alloc (Yk #[Yi ⟨n.toArray⟩,Yp Y1 0 0,Yq] 104)) (show Cx w2 B lv ts sz q2 dp from hx) ((Zh _ _).alloc (nlr _) _));have HG2:=hd (vM (aI (Y9 HB0.o) hg) (Yk #[Yi ⟨n.toArray⟩,Yp Y1 0 0,Yq] 104));have HK2:=hd ((HKR.o.grown hg (by omega)).alloc (Yk #[Yi ⟨n.toArray⟩,Yp Y1 0 0,Yq] 104));have HL2:=hd (ae.new w2 #[Yi ⟨n.toArray⟩,Yp Y1 0 0,Yq] 104)
 have d1:¬w2.heap.size=w.heap.size:=by omega
 have d2:¬w.heap.size=w2.heap.size:=by omega
 go_wp2_with fail;refine(bY ⟨#[83,69,84]⟩ (w2.alloc (Yk #[Yi ⟨n.toArray⟩,Yp Y1 0 0,Yq] 104)) _ (by simp) B lv ts sz q2 dp HX2.o (by simp)).mono ?_;rintro x w3 ho;obtain⟨hg,⟨p,c,hr,rfl⟩|⟨_,q3,v,hr,rfl,hv,hx⟩⟩:=ho.cases
 · exact⟨rfl,aj.err (aI HG2.o hg) (Px.Rg.go HR2.o (Px.Rg.err hr))⟩
 cases hv
 have HR3:=hd hr;have HX3:=hd (hx);have HG3:=hd (aI HG2.o hg);have HK3:=hd (HK2.o.grown hg (by omega));have HL3:=hd (HL2.o.grown hg (by omega));go_wp2_with fail;refine(Ah B lv ts sz dp w3 q3 HX3.o).mono ?_;rintro x w4 ho;obtain⟨hg,⟨p,c,hr,rfl⟩|⟨l,q4,v,hr,rfl,hv,hx⟩⟩:=ho.cases
 · exact⟨rfl,aj.err (aI HG3.o hg) (Px.Rg.go HR2.o (Px.Rg.go HR3.o (Px.Rg.err hr)))⟩
 have HR4:=hd hr;have HG4:=hd (aI HG3.o hg);have HK4:=hd (HK3.o.grown hg (by omega));have HL4:=hd (HL3.o.grown hg (by omega));obtain⟨ao,m,cp,rfl⟩:=Ki hv;have n1:w4.cell? ⟨w2.heap.size,1,Y1⟩=Y2 (Yp Y1 0 0):=HL4.o.cell 1;have f1:=HL4.o.free 1;have HX5:=hd (hx.far HX.o (M:=w2.heap.size) (by omega) 1 (Yp ao m cp));have HG5:=hd (fq HG4.o (M:=w2.heap.size) (by omega) 1 (Yp ao m cp));have HK5:=hd (HK4.o.far ⟨w2.heap.size,1,Y1⟩ (Yp ao m cp) d1);have HL5:=hd (HL4.o.set 1 (Yp ao m cp));have HV5:=hd (aB hv 1 (Yp ao m cp) ⟨_,_,HL4.o,by decide⟩);go_wp2_with fail;refine(pK B lv ts sz _ _ q4 HX5.o).mono ?_;rintro x w6 ho;obtain⟨hg,⟨p,c,hr,rfl⟩|⟨o,q6,v,hr,rfl,hv,hx⟩⟩:=ho.cases
 · exact⟨rfl,aj.err (aI HG5.o hg) (Px.Rg.go HR2.o (Px.Rg.go HR3.o (Px.Rg.go HR4.o (Px.Rg.err hr))))⟩
 have HR6:=hd hr
 have HX6:Yf (Cx w6 B lv ts sz q6 (bS (.update n l o)||dp)):=by
  show Cx _ _ _ _ _ _ _
  have:(bS (.update n l o)||dp)=(iO o||(l.any Bj||dp)):=by
   simp only[bS,Px.St.exprs,acY,ER,Jy]
   cases l.any Bj<;>cases iO o<;>rfl
  rw[this];exact hx
 have HG6:=hd (aI HG5.o hg);have HK6:=hd (HK5.o.grown hg (by omega));have HL6:=hd (HL5.o.grown hg (by omega));have HV6:=hd (aW HV5.o hg);have HE:=hd hv
 have hv1:v=Yq\/∃t x,v=Yo t x:=by
  have:=ev?_one o
  rwa [<-show v=ev? o from hv]at this
 have m0:w6.cell? ⟨w.heap.size,0,Y1⟩=Y2 (Yi ⟨#[]⟩):=HK6.o.cell 0;have m1:w6.cell? ⟨w.heap.size,1,Y1⟩=Y2 (Yp Y1 0 0):=HK6.o.cell 1;have m2:w6.cell? ⟨w.heap.size,2,Y1⟩=Y2 Yq:=HK6.o.cell 2;obtain⟨g0,g1,g2⟩:=HK6.o.f3;have p0:w6.cell? ⟨w2.heap.size,0,Y1⟩=Y2 (Yi ⟨n.toArray⟩):=HL6.o.cell 0;have p1:w6.cell? ⟨w2.heap.size,1,Y1⟩=Y2 (Yp ao m cp):=HL6.o.cell 1;have p2:w6.cell? ⟨w2.heap.size,2,Y1⟩=Y2 Yq:=HL6.o.cell 2;have r2:=HL6.o.free 2;rcases hv1 with rfl|⟨et,ex,rfl⟩
 all_goals go_wp2_with fail
 · have KF:=(((HK6.o.far ⟨w2.heap.size,2,Y1⟩ Yq d1).set 0 (Yi ⟨n.toArray⟩)).set 1 (Yp ao m cp)).set 2 Yq;obtain⟨e0,e1,e2⟩:=KF.d3;refine aaU (v:=Yj #[Yi ⟨n.toArray⟩,Yp ao m cp,Yq]) (by simp[aaW,ade,go_sem,e0,e1,e2]) rfl ?_;refine aj.ok (a:=Px.St.update n l o) (q':=q6) (fq (fq (fq (fq HG6.o (by omega) 2 _) (nlr _) 0 _) (nlr _) 1 _) (nlr _) 2 _) (Px.Rg.go HR2.o (Px.Rg.go HR3.o (Px.Rg.go HR4.o (Px.Rg.go HR6.o rfl)))) ⟨Yp ao m cp,by rw[<-show(Yq)=ev? o from HE.o],?_⟩ ((((HX6.o.far HX.o (by omega) 2 _).far HX.o (nlr _) 0 _).far HX.o (nlr _) 1 _).far HX.o (nlr _) 2 _);have s1:=aB HV6.o 2 Yq ⟨_,_,HL6.o,by decide⟩;have t1:=HK6.o.far ⟨w2.heap.size,2,Y1⟩ Yq d1;have s2:=aB s1 0 (Yi ⟨n.toArray⟩) ⟨_,_,t1,by decide⟩;have s3:=aB s2 1 (Yp ao m cp) ⟨_,_,t1.set 0 _,by decide⟩;exact aB s3 2 Yq ⟨_,_,(t1.set 0 _).set 1 _,by decide⟩
 have KF:=(((HK6.o.far ⟨w2.heap.size,2,Y1⟩ (Yo et ex) d1).set 0 (Yi ⟨n.toArray⟩)).set 1 (Yp ao m cp)).set 2 (Yo et ex);obtain⟨e0,e1,e2⟩:=KF.d3;refine aaU (v:=Yj #[Yi ⟨n.toArray⟩,Yp ao m cp,Yo et ex]) (by simp[aaW,ade,go_sem,e0,e1,e2]) rfl ?_;refine aj.ok (a:=Px.St.update n l o) (q':=q6) (fq (fq (fq (fq HG6.o (by omega) 2 _) (nlr _) 0 _) (nlr _) 1 _) (nlr _) 2 _) (Px.Rg.go HR2.o (Px.Rg.go HR3.o (Px.Rg.go HR4.o (Px.Rg.go HR6.o rfl)))) ⟨Yp ao m cp,by rw[<-show(Yo et ex)=ev? o from HE.o],?_⟩ ((((HX6.o.far HX.o (by omega) 2 _).far HX.o (nlr _) 0 _).far HX.o (nlr _) 1 _).far HX.o (nlr _) 2 _);have s1:=aB HV6.o 2 (Yo et ex) ⟨_,_,HL6.o,by decide⟩;have t1:=HK6.o.far ⟨w2.heap.size,2,Y1⟩ (Yo et ex) d1;have s2:=aB s1 0 (Yi ⟨n.toArray⟩) ⟨_,_,t1,by decide⟩;have s3:=aB s2 1 (Yp ao m cp) ⟨_,_,t1.set 0 _,by decide⟩;exact aB s3 2 (Yo et ex) ⟨_,_,(t1.set 0 _).set 1 _,by decide⟩
theorem dQ.grown(h:w.grownBy w1 (Y2 B))(k:dQ w1 w2 B C)(hC:w.heap.size<=C):w.grownBy w2 (Y2 B):=
 ⟨k.os.trans h.os,k.tape.trans h.tape,k.output.trans h.output,YB h.size k.size,fun i hi hne=>(k.block i (nlA hi h.size) (by simpa using hne) (by omega)).trans (h.block i hi hne)⟩
theorem BR(B:Nat)(lv:Y3)(ts:List Zj)(sz:Nat)(dp:Bool)(w:Y4)(q:List Zj)(h:Cx w B lv ts sz q dp):
   aaT Zc 55 #[Ym (Y2 ⟨B,0,Y1⟩)] w (aj w B lv ts sz dp (Px.D7 sz) q (BL B 86) bS):=by
 have hmf:∀(fn:Fn) (first cap:Array Y3) (w:Y4),(ada fn first cap).run Zc w=.ok (.func fn first cap) w:=fun _ _ _ _=>rfl
 have HX:=hd h;have hlt:=h.lt;have HB0:Yf (aaS w.heap.size w ((w.alloc (Yk #[Ym (Y2 ⟨B,0,Y1⟩)] 148)).alloc (Yk #[Yi ⟨#[]⟩,Yp Y1 0 0] 86))):=((Zh _ _).alloc (nlr _) _).alloc (by simp) _;have HKD:=hd ((ae.new w #[Ym (Y2 ⟨B,0,Y1⟩)] 148).alloc (Yk #[Yi ⟨#[]⟩,Yp Y1 0 0] 86))
 have HKR:Yf (ae ((w.alloc (Yk #[Ym (Y2 ⟨B,0,Y1⟩)] 148)).alloc (Yk #[Yi ⟨#[]⟩,Yp Y1 0 0] 86)) (w.heap.size+1) #[Yi ⟨#[]⟩,Yp Y1 0 0] 86):=by
  have:=ae.new (w.alloc (Yk #[Ym (Y2 ⟨B,0,Y1⟩)] 148)) #[Yi ⟨#[]⟩,Yp Y1 0 0] 86
  rwa [ZC]at this
 go_enter Tryz.func55,Tryz.ntmps55;go_wp2_with fail;refine(bY ⟨#[84,65,66,76,69]⟩ ((w.alloc (Yk #[Ym (Y2 ⟨B,0,Y1⟩)] 148)).alloc (Yk #[Yi ⟨#[]⟩,Yp Y1 0 0] 86)) _ (by simp) B lv ts sz q dp (HX.o.below HB0.o) (by simp)).mono ?_;rintro x w1 ho;obtain⟨hg,⟨p,c,hr,rfl⟩|⟨_,q1,v,hr,rfl,hv,hx⟩⟩:=ho.cases
 · exact⟨rfl,aj.err (aI (Y9 HB0.o) hg) (Px.Rg.err hr)⟩
 cases hv
 have HR1:=hd hr;have HX1:=hd (hx);have HG1:=hd (aI (Y9 HB0.o) hg);have HK1:=hd (HKR.o.grown hg (by omega));have HD1:=hd (HKD.o.grown hg (by omega));have b1:w1.cell? ⟨w.heap.size,0,Y1⟩=Y2 (Ym (Y2 ⟨B,0,Y1⟩)):=HD1.o.cell 0;go_wp2_with fail;refine(eD w1 B lv ts sz q1 dp HX1.o).mono ?_;rintro x w2 ho;obtain⟨hg,⟨p,c,hr,rfl⟩|⟨n,q2,v,hr,rfl,hv,hx⟩⟩:=ho.cases
 · exact⟨rfl,aj.err (aI HG1.o hg) (Px.Rg.go HR1.o (Px.Rg.err hr))⟩
 cases hv
 have HR2:=hd hr
 have Qz:w.heap.size+1<w2.heap.size:=by have:=HK1.o.lt;have:=hg.size;omega
 have HX2:=hd (adb (w':=w2.alloc (Yk #[Yi ⟨n.toArray⟩,Yp Y1 0 0] 86)) (show Cx w2 B lv ts sz q2 dp from hx) ((Zh _ _).alloc (nlr _) _));have HG2:=hd (vM (aI HG1.o hg) (Yk #[Yi ⟨n.toArray⟩,Yp Y1 0 0] 86));have HK2:=hd ((HK1.o.grown hg (by omega)).alloc (Yk #[Yi ⟨n.toArray⟩,Yp Y1 0 0] 86));have HD20:=hd (HD1.o.grown hg (by omega));have HD2:=hd (HD20.o.alloc (Yk #[Yi ⟨n.toArray⟩,Yp Y1 0 0] 86));have HL2:=hd (ae.new w2 #[Yi ⟨n.toArray⟩,Yp Y1 0 0] 86);have b2:w2.cell? ⟨w.heap.size,0,Y1⟩=Y2 (Ym (Y2 ⟨B,0,Y1⟩)):=HD20.o.cell 0
 have d1:¬w2.heap.size=w.heap.size+1:=by omega
 have d2:¬w.heap.size+1=w2.heap.size:=by omega
 have d3:¬w2.heap.size=w.heap.size:=by omega
 have d4:¬w.heap.size=w2.heap.size:=by omega
 have lt4:w.heap.size<w2.heap.size:=by omega
 go_wp2_with fail;refine(bY ⟨#[40]⟩ (w2.alloc (Yk #[Yi ⟨n.toArray⟩,Yp Y1 0 0] 86)) _ (by simp) B lv ts sz q2 dp HX2.o (by simp)).mono ?_;rintro x w3 ho;obtain⟨hg,⟨p,c,hr,rfl⟩|⟨_,q3,v,hr,rfl,hv,hx⟩⟩:=ho.cases
 · exact⟨rfl,aj.err (aI HG2.o hg) (Px.Rg.go HR1.o (Px.Rg.go HR2.o (Px.Rg.err hr)))⟩
 cases hv
 have HR3:=hd hr
 have hszw3:w2.heap.size<w3.heap.size:=by have:=hg.size;simp only[ZC]at this;omega
 have HX3:=hd (adb (w':=w3.alloc (Yk #[Yg Yh 0] 3)) (show Cx w3 B lv ts sz q3 dp from hx) ((Zh _ _).alloc (nlr _) _));have HG3:=hd (vM (aI HG2.o hg) (Yk #[Yg Yh 0] 3));have HK3:=hd ((HK2.o.grown hg (by omega)).alloc (Yk #[Yg Yh 0] 3));have HL3:=hd ((HL2.o.grown hg (by omega)).alloc (Yk #[Yg Yh 0] 3));have HD30:=hd (HD2.o.grown hg (by omega));have HD3:=hd (HD30.o.alloc (Yk #[Yg Yh 0] 3));have HC3:=hd (ae.new w3 #[Yg Yh 0] 3);have b3:w3.cell? ⟨w.heap.size,0,Y1⟩=Y2 (Ym (Y2 ⟨B,0,Y1⟩)):=HD30.o.cell 0
 have d5:¬w.heap.size=w3.heap.size:=by omega
 have d6:¬w3.heap.size=w.heap.size:=by omega
 have lt6:w.heap.size<w3.heap.size:=by omega
 go_wp2_with fail;refine(uK B w3.heap.size w.heap.size lv ts sz dp dp w (w3.alloc (Yk #[Yg Yh 0] 3)) q q3 HX.o (by omega) (nlr _) (by omega) HX3.o HC3.o HD3.o).mono ?_;rintro x w4 ⟨hg,⟨p,c,hr,rfl⟩|⟨l,q4,v,hr,rfl,hv,hx⟩⟩
 · exact⟨rfl,aj.err (dQ.grown HG3.o hg (by omega)) (Px.Rg.go HR1.o (Px.Rg.go HR2.o (Px.Rg.go HR3.o (Px.Rg.err hr))))⟩
 have HR4:=hd hr;have HG4:=hd (dQ.grown HG3.o hg (by omega));have HK4:=hd (hg.blk HK3.o (by omega) (by omega));have HL4:=hd (hg.blk HL3.o (by omega) (by omega));have HD4:=hd (hg.blk HD3.o (by omega) (by omega));have HV4:Yf (Ec B 220 2 qU l v w4):=fw hv (by simp;omega)
 have hszw4:w3.heap.size<w4.heap.size:=by have:=hg.size;simp only[ZC]at this;omega
 obtain⟨ao,m,cp,rfl⟩:=Ki hv;have n1:w4.cell? ⟨w2.heap.size,1,Y1⟩=Y2 (Yp Y1 0 0):=HL4.o.cell 1;have f1:=HL4.o.free 1;have b4:w4.cell? ⟨w.heap.size,0,Y1⟩=Y2 (Ym (Y2 ⟨B,0,Y1⟩)):=HD4.o.cell 0;have HX5:=hd (hx.far HX.o (M:=w2.heap.size) (by omega) 1 (Yp ao m cp));have HG5:=hd (fq HG4.o (M:=w2.heap.size) (by omega) 1 (Yp ao m cp));have HK5:=hd (HK4.o.far ⟨w2.heap.size,1,Y1⟩ (Yp ao m cp) d1);have HL5:=hd (HL4.o.set 1 (Yp ao m cp));have HV5:=hd (aB HV4.o 1 (Yp ao m cp) ⟨_,_,HL4.o,by decide⟩);go_wp2_with fail;refine(bY ⟨#[41]⟩ (w4.setCell ⟨w2.heap.size,1,Y1⟩ (Yp ao m cp)) _ (by simp[Za]) B lv ts sz q4 dp HX5.o (by simp)).mono ?_;rintro x w6 ho;obtain⟨hg,⟨p,c,hr,rfl⟩|⟨_,q6,v,hr,rfl,hv,hx⟩⟩:=ho.cases
 · exact⟨rfl,aj.err (aI HG5.o hg) (Px.Rg.go HR1.o (Px.Rg.go HR2.o (Px.Rg.go HR3.o (Px.Rg.go HR4.o (Px.Rg.err hr)))))⟩
 cases hv
 have HR6:=hd hr;have HX6:=hd (hx);have HG6:=hd (aI HG5.o hg);have HK6:=hd (HK5.o.grown hg (by omega));have HL6:=hd (HL5.o.grown hg (by omega));have HV6:=hd (aW HV5.o hg);have m0:w6.cell? ⟨w.heap.size+1,0,Y1⟩=Y2 (Yi ⟨#[]⟩):=HK6.o.cell 0;have m1:w6.cell? ⟨w.heap.size+1,1,Y1⟩=Y2 (Yp Y1 0 0):=HK6.o.cell 1;obtain⟨g0,g1⟩:=HK6.o.f2;have p0:w6.cell? ⟨w2.heap.size,0,Y1⟩=Y2 (Yi ⟨n.toArray⟩):=HL6.o.cell 0;have p1:w6.cell? ⟨w2.heap.size,1,Y1⟩=Y2 (Yp ao m cp):=HL6.o.cell 1;go_wp2_with fail;have KF:=(HK6.o.set 0 (Yi ⟨n.toArray⟩)).set 1 (Yp ao m cp);obtain⟨e0,e1⟩:=KF.d2;refine aaU (v:=Yj #[Yi ⟨n.toArray⟩,Yp ao m cp]) (by simp[aaW,Tryz.results55,go_sem,e0,e1]) rfl ?_;refine aj.ok (a:=Px.St.create n l) (q':=q6) (fq (fq HG6.o (by omega) 0 _) (by omega) 1 _) (Px.Rg.go HR1.o (Px.Rg.go HR2.o (Px.Rg.go HR3.o (Px.Rg.go HR4.o (Px.Rg.go HR6.o rfl))))) ⟨Yp ao m cp,rfl,?_⟩ ((HX6.o.far HX.o (by omega) 0 _).far HX.o (by omega) 1 _);have s1:=aB HV6.o 0 (Yi ⟨n.toArray⟩) ⟨_,_,HK6.o,by decide⟩;exact aB s1 1 (Yp ao m cp) ⟨_,_,HK6.o.set 0 _,by decide⟩
theorem zy:∀(l:List (ZU×Bool)),(l.map (·.1)).any gI=l.any Bi
 |[]=>rfl
 |r::l=>by
  rw[YZ,acZ,acZ,zy l]
  rfl
theorem uG:∀(l:List (Option ZU)),(l.filterMap id).any gI=l.any iO
 |[]=>rfl
 |none::l=>by
  show(l.filterMap id).any gI=(false||l.any iO);rw[uG l];rfl
 |some e::l=>by
  show(gI e||(l.filterMap id).any gI)=(gI e||l.any iO);rw[uG l]
theorem lu(i:List (Option ZU))(t:Y6)(o:Option ZU)(r:List (ZU×Bool))(l:Option Nat)(dp:Bool):(bS (.select i t o r l)||dp)=(r.any Bi||(iO o||(i.any iO||dp))):=by
 simp only[bS,Px.St.exprs,acY,uG,zy,Jy]
 cases i.any iO<;>cases iO o<;>cases r.any Bi<;>rfl
theorem Ci{q:List Zj}{r:Px.kH Nat}(hs:Zm adf q=true)(h:DU sz 1000000000 q.tail r):adg sz q (Px.dD Y2 r):=by
 unfold adg;rw[if_pos hs]
 have hl:Px.limit sz q.tail=Y2 r:=by
  unfold DU at h
  cases hq:q.tail with
  |nil=>rw[hq]at h;simp only at h;subst h;rfl
  |cons t p=>
   rw[hq]at h;simp only at h;subst h;simp only[Px.limit]
   split
   · rfl
   split<;>rfl
 match r,hl with
 |.error e,hl=>exact Px.Rg.err hl
 |.ok (n,p),hl=>exact Px.Rg.go hl rfl
theorem OI{q:List Zj}(hs:Zm adf q=false):adg sz q (.ok (Y1,q)):=by
 unfold adg;rw[if_neg (by simp[hs])]
theorem wG(B:Nat)(lv:Y3)(ts:List Zj)(sz:Nat)(dp:Bool)(w:Y4)(q:List Zj)(h:Cx w B lv ts sz q dp):
   aaT Zc 61 #[Ym (Y2 ⟨B,0,Y1⟩)] w (aj w B lv ts sz dp (Px.Cn sz) q (BL B 109) bS):=by
 have hmf:∀(fn:Fn) (first cap:Array Y3) (w:Y4),(ada fn first cap).run Zc w=.ok (.func fn first cap) w:=fun _ _ _ _=>rfl
 have HX:=hd h;have hlt:=h.lt;have HB0:Yf (aaS w.heap.size w (w.alloc (Yk #[Yp Y1 0 0,Yi ⟨#[]⟩,Yq,Yp Y1 0 0,.bool false,Yg Yh 0] 109))):=(Zh _ _).alloc (nlr _) _;have HKR:=hd (ae.new w #[Yp Y1 0 0,Yi ⟨#[]⟩,Yq,Yp Y1 0 0,.bool false,Yg Yh 0] 109);clear h;go_enter Tryz.func61,Tryz.ntmps61;go_wp2_with fail;refine(yJ B lv ts sz dp _ q (HX.o.below HB0.o)).mono ?_;rintro x w1 ho;obtain⟨hg,⟨p,c,hr,rfl⟩|⟨its,q1,v,hr,rfl,hv,hx⟩⟩:=ho.cases
 · exact⟨rfl,aj.err (aI (Y9 HB0.o) hg) (Px.Rg.err hr)⟩
 have HR1:=hd hr;obtain⟨ao,m,cp,rfl⟩:=Ki hv
 have Qz:w.heap.size<w1.heap.size:=by have:=hg.size;simp only[ZC]at this;omega
 have HX1:=hd (adb (w':=w1.alloc (Yk #[Yp ao m cp,Yi ⟨#[]⟩,Yq,Yp Y1 0 0,.bool false,Yg Yh 0] 109)) hx ((Zh _ _).alloc (nlr _) _));have HG1:=hd (vM (aI (Y9 HB0.o) hg) (Yk #[Yp ao m cp,Yi ⟨#[]⟩,Yq,Yp Y1 0 0,.bool false,Yg Yh 0] 109));have HK1:=hd ((HKR.o.grown hg (by omega)).alloc (Yk #[Yp ao m cp,Yi ⟨#[]⟩,Yq,Yp Y1 0 0,.bool false,Yg Yh 0] 109));have HL1:=hd (ae.new w1 #[Yp ao m cp,Yi ⟨#[]⟩,Yq,Yp Y1 0 0,.bool false,Yg Yh 0] 109);have HV1:Yf (Ec B 225 2 iK its (Yp ao m cp) (w1.alloc (Yk #[Yp ao m cp,Yi ⟨#[]⟩,Yq,Yp Y1 0 0,.bool false,Yg Yh 0] 109))):=Ua hv _
 have d1:¬w1.heap.size=w.heap.size:=by omega
 have d2:¬w.heap.size=w1.heap.size:=by omega
 clear hr hx hg ho HB0 HKR hv;go_wp2_with fail;refine(bY ⟨#[70,82,79,77]⟩ (w1.alloc (Yk #[Yp ao m cp,Yi ⟨#[]⟩,Yq,Yp Y1 0 0,.bool false,Yg Yh 0] 109)) _ (by simp) B lv ts sz q1 _ HX1.o (by simp)).mono ?_;rintro x w2 ho;obtain⟨hg,⟨p,c,hr,rfl⟩|⟨_,q2,v,hr,rfl,hv,hx⟩⟩:=ho.cases
 · exact⟨rfl,aj.err (aI HG1.o hg) (Px.Rg.go HR1.o (Px.Rg.err hr))⟩
 cases hv
 have HR2:=hd hr;have HX2:Yf (Cx w2 B lv ts sz q2 (its.any iO||dp)):=hx;have HG2:=hd (aI HG1.o hg);have HK2:=hd (HK1.o.grown hg (by omega));have HL2:=hd (HL1.o.grown hg (by omega));have HV2:=hd (aW HV1.o hg);clear hr hx hg ho HX1 HG1 HK1 HL1 HV1;go_wp2_with fail;refine(eD w2 B lv ts sz q2 _ HX2.o).mono ?_;rintro x w3 ho;obtain⟨hg,⟨p,c,hr,rfl⟩|⟨n,q3,v,hr,rfl,hv,hx⟩⟩:=ho.cases
 · exact⟨rfl,aj.err (aI HG2.o hg) (Px.Rg.go HR1.o (Px.Rg.go HR2.o (Px.Rg.err hr)))⟩
 cases hv
 have HR3:=hd hr;have Nu:=hd (HL2.o.grown hg (by omega));have a1:w3.cell? ⟨w1.heap.size,1,Y1⟩=Y2 (Yi ⟨#[]⟩):=Nu.o.cell 1;have f1:=Nu.o.free 1;have HX3:=hd (Cx.far (show Cx w3 B lv ts sz q3 (its.any iO||dp)from hx) HX.o (M:=w1.heap.size) (by omega) 1 (Yi ⟨n.toArray⟩));have HG3:=hd (fq (aI HG2.o hg) (M:=w1.heap.size) (by omega) 1 (Yi ⟨n.toArray⟩));have HK3:=hd ((HK2.o.grown hg (by omega)).far ⟨w1.heap.size,1,Y1⟩ (Yi ⟨n.toArray⟩) d1);have HL3:Yf (ae (w3.setCell ⟨w1.heap.size,1,Y1⟩ (Yi ⟨n.toArray⟩)) w1.heap.size #[Yp ao m cp,Yi ⟨n.toArray⟩,Yq,Yp Y1 0 0,.bool false,Yg Yh 0] 109):=Nu.o.set 1 _;have HV3:=hd (aB (aW HV2.o hg) 1 (Yi ⟨n.toArray⟩) ⟨_,_,Nu.o,by decide⟩);clear hr hx hg ho HX2 HG2 HK2 HL2 HV2 Nu;go_wp2_with fail;refine(pK B lv ts sz _ _ q3 HX3.o).mono ?_;rintro x w4 ho;obtain⟨hg,⟨p,c,hr,rfl⟩|⟨o,q4,v,hr,rfl,hv,hx⟩⟩:=ho.cases
 · exact⟨rfl,aj.err (aI HG3.o hg) (Px.Rg.go HR1.o (Px.Rg.go HR2.o (Px.Rg.go HR3.o (Px.Rg.err hr))))⟩
 have HR4:=hd hr;have HE:=hd hv
 have hv1:v=Yq\/∃t x,v=Yo t x:=by
  have:=ev?_one o
  rwa [<-show v=ev? o from hv]at this
 have Nn:=hd (HL3.o.grown hg (by omega));have a2:w4.cell? ⟨w1.heap.size,2,Y1⟩=Y2 Yq:=Nn.o.cell 2;have f2:=Nn.o.free 2;have HX40:=hd hx;have Vx:=hd (aI HG3.o hg);have HK40:=hd (HK3.o.grown hg (by omega));have VC:=hd (aW HV3.o hg);clear hr hx hg ho hv HX3 HG3 HK3 HL3 HV3 a1 f1
 have hvc:v.cells=#[v]:=by rcases hv1 with rfl|⟨_,_,rfl⟩<;>rfl
 have hvo:v.oneCell'=true:=by rcases hv1 with rfl|⟨_,_,rfl⟩<;>rfl
 have hst:Sem.run Zc (storeCells (⟨w1.heap.size,2,Y1⟩:Addr) [v]) w4=.ok () (w4.setCell ⟨w1.heap.size,2,Y1⟩ v):=by
  rcases hv1 with rfl|⟨_,_,rfl⟩<;>simp[storeCells,go_sem,a2,f2]
 have HX4:=hd (HX40.o.far HX.o (M:=w1.heap.size) (by omega) 2 v);have HG4:=hd (fq Vx.o (M:=w1.heap.size) (by omega) 2 v);have HK4:=hd (HK40.o.far ⟨w1.heap.size,2,Y1⟩ v d1);have HL4:Yf (ae (w4.setCell ⟨w1.heap.size,2,Y1⟩ v) w1.heap.size #[Yp ao m cp,Yi ⟨n.toArray⟩,v,Yp Y1 0 0,.bool false,Yg Yh 0] 109):=Nn.o.set 2 _;have HV4:=hd (aB VC.o 2 v ⟨_,_,Nn.o,by decide⟩);clear HX40 Vx HK40 Nn VC
 cases hs:Zm Px.yK q4 with
 |false=>
  have HRO:Yf (adh sz q4 (.ok ([],q4))):=by show adh _ _ _;unfold adh;rw[if_neg (by simp[hs])]
  go_wp2_with fail;rw[hst];go_wp2_with fail;refine(dZ ⟨#[79,82,68,69,82]⟩ _ B lv ts sz q4 _ HX4.o hs (by simp)).mono ?_;rintro x w5 ⟨rfl,hb5⟩;have HX5:=hd (HX4.o.below hb5);have HG5:=hd (aI HG4.o (Y9 (row:=Y2 B) hb5));have HK5:=hd (HK4.o.below hb5 HK4.o.lt);have HL5:=hd (HL4.o.below hb5 HL4.o.lt);have HV5:Yf (Ec B 225 2 iK its (Yp ao m cp) w5):=eO HV4.o hb5;clear hb5 HX4 HG4 HK4 HL4 HV4
  cases hl:Zm adf q4 with
  |false=>
   go_wp2_with fail;refine(dZ ⟨#[76,73,77,73,84]⟩ _ B lv ts sz q4 _ HX5.o hl (by simp)).mono ?_;rintro x w9 ⟨rfl,hb9⟩;have HX9:=hd (HX5.o.below hb9);have HG9:=hd (aI HG5.o (Y9 (row:=Y2 B) hb9));have HK9:=hd (HK5.o.below hb9 HK5.o.lt);have HL9:=hd (HL5.o.below hb9 HL5.o.lt);have HV9:Yf (Ec B 225 2 iK its (Yp ao m cp) w9):=eO HV5.o hb9;have G9:Yf (Ec B 227 2 dA [] (Yp Y1 0 0) w9):=adi _ _ _ _
   have HXF:Yf (Cx w9 B lv ts sz q4 (bS (.select its n o [] Y1)||dp)):=by
    show Cx _ _ _ _ _ _ _;rw[lu];exact HX9.o
   clear hb9 HX9;have m0:w9.cell? ⟨w.heap.size,0,Y1⟩=Y2 (Yp Y1 0 0):=HK9.o.cell 0;have g0:=HK9.o.free 0;have p0:w9.cell? ⟨w1.heap.size,0,Y1⟩=Y2 (Yp ao m cp):=HL9.o.cell 0;have m1:w9.cell? ⟨w.heap.size,1,Y1⟩=Y2 (Yi ⟨#[]⟩):=HK9.o.cell 1;have g1:=HK9.o.free 1;have p1:w9.cell? ⟨w1.heap.size,1,Y1⟩=Y2 (Yi ⟨n.toArray⟩):=HL9.o.cell 1;have m2:w9.cell? ⟨w.heap.size,2,Y1⟩=Y2 (Yq):=HK9.o.cell 2;have g2:=HK9.o.free 2;have p2:w9.cell? ⟨w1.heap.size,2,Y1⟩=Y2 v:=HL9.o.cell 2;have m3:w9.cell? ⟨w.heap.size,3,Y1⟩=Y2 (Yp Y1 0 0):=HK9.o.cell 3;have g3:=HK9.o.free 3;have p3:w9.cell? ⟨w1.heap.size,3,Y1⟩=Y2 (Yp Y1 0 0):=HL9.o.cell 3;have m4:w9.cell? ⟨w.heap.size,4,Y1⟩=Y2 (.bool false):=HK9.o.cell 4;have g4:=HK9.o.free 4;have p4:w9.cell? ⟨w1.heap.size,4,Y1⟩=Y2 (.bool false):=HL9.o.cell 4;have m5:w9.cell? ⟨w.heap.size,5,Y1⟩=Y2 (Yg Yh 0):=HK9.o.cell 5;have g5:=HK9.o.free 5;have p5:w9.cell? ⟨w1.heap.size,5,Y1⟩=Y2 (Yg Yh 0):=HL9.o.cell 5;rcases hv1 with rfl|⟨et,ex,rfl⟩
   all_goals
    go_wp2_with fail
    first|generalize Yo et ex=v at* |generalize Yq=v at*
    have KF:=((((((HK9.o.set 0 (Yp ao m cp)).set 1 (Yi ⟨n.toArray⟩)).set 2 v).set 3 (Yp Y1 0 0)).set 4 (.bool false)).set 5 (Yg Yh 0));have e0:=KF.cell 0;have e1:=KF.cell 1;have e2:=KF.cell 2;have e3:=KF.cell 3;have e4:=KF.cell 4;have e5:=KF.cell 5;simp at e0 e1 e2 e3 e4 e5;refine aaU (v:=Yj #[Yp ao m cp,Yi ⟨n.toArray⟩,v,Yp Y1 0 0,.bool false,Yg Yh 0]) (by simp[aaW,adj,go_sem,e0,e1,e2,e3,e4,e5]) rfl ?_;refine aj.ok (a:=Px.St.select its n o [] Y1) (q':=q4) (fq (fq (fq (fq (fq (fq HG9.o (nlr _) 0 _) (nlr _) 1 _) (nlr _) 2 _) (nlr _) 3 _) (nlr _) 4 _) (nlr _) 5 _) (Px.Rg.go HR1.o (Px.Rg.go HR2.o (Px.Rg.go HR3.o (Px.Rg.go HR4.o (Px.Rg.go HRO.o (Px.Rg.go (OI hl) rfl)))))) ⟨Yp ao m cp,Yp Y1 0 0,by rw[<-show(v:Y3)=ev? o from HE.o];rfl,?_,?_⟩ ((((((HXF.o.far HX.o (nlr _) 0 _).far HX.o (nlr _) 1 _).far HX.o (nlr _) 2 _).far HX.o (nlr _) 3 _).far HX.o (nlr _) 4 _).far HX.o (nlr _) 5 _)
    · have s0:=aB HV9.o 0 (Yp ao m cp) ⟨_,_,HK9.o,by decide⟩;have s1:=aB s0 1 (Yi ⟨n.toArray⟩) ⟨_,_,(HK9.o.set 0 _),by decide⟩;have s2:=aB s1 2 v ⟨_,_,((HK9.o.set 0 _).set 1 _),by decide⟩;have s3:=aB s2 3 (Yp Y1 0 0) ⟨_,_,(((HK9.o.set 0 _).set 1 _).set 2 _),by decide⟩;have s4:=aB s3 4 (.bool false) ⟨_,_,((((HK9.o.set 0 _).set 1 _).set 2 _).set 3 _),by decide⟩;exact aB s4 5 (Yg Yh 0) ⟨_,_,(((((HK9.o.set 0 _).set 1 _).set 2 _).set 3 _).set 4 _),by decide⟩
    have s0:=aB G9.o 0 (Yp ao m cp) ⟨_,_,HK9.o,by decide⟩;have s1:=aB s0 1 (Yi ⟨n.toArray⟩) ⟨_,_,(HK9.o.set 0 _),by decide⟩;have s2:=aB s1 2 v ⟨_,_,((HK9.o.set 0 _).set 1 _),by decide⟩;have s3:=aB s2 3 (Yp Y1 0 0) ⟨_,_,(((HK9.o.set 0 _).set 1 _).set 2 _),by decide⟩;have s4:=aB s3 4 (.bool false) ⟨_,_,((((HK9.o.set 0 _).set 1 _).set 2 _).set 3 _),by decide⟩;exact aB s4 5 (Yg Yh 0) ⟨_,_,(((((HK9.o.set 0 _).set 1 _).set 2 _).set 3 _).set 4 _),by decide⟩
  |true=>
   go_wp2_with fail;refine(uh ⟨#[76,73,77,73,84]⟩ _ B lv ts sz q4 _ HX5.o hl (by simp)).mono ?_;rintro x w8 ⟨rfl,hx8,hg8⟩;have HX8:=hd hx8;have HG8:=hd (aI HG5.o hg8);have HK8:=hd (HK5.o.grown hg8 (by omega));have HL8:=hd (HL5.o.grown hg8 (by omega));have HV8:=hd (aW HV5.o hg8);have TM:Yf (Ec B 227 2 dA [] (Yp Y1 0 0) w8):=adi _ _ _ _;clear hx8 hg8;go_wp2_with fail;refine(mY w8 B lv ts sz q4.tail _ HX8.o 1000000000 (by omega)).mono ?_;rintro x w9 ho;obtain⟨hg,⟨p,c,hr,rfl⟩|⟨k,q9,v,hr,rfl,hv,hx⟩⟩:=ho.cases
   · exact⟨rfl,aj.err (aI HG8.o hg) (Px.Rg.go HR1.o (Px.Rg.go HR2.o (Px.Rg.go HR3.o (Px.Rg.go HR4.o (Px.Rg.go HRO.o (Px.Rg.err (Ci hl hr)))))))⟩
   cases hv
   have HRL:=hd (Ci hl hr);have HG9:=hd (aI HG8.o hg);have HK9:=hd (HK8.o.grown hg (by omega));have HL9:=hd (HL8.o.grown hg (by omega));have HV9:=hd (aW HV8.o hg);have G9:=hd (aW TM.o hg)
   have HXF:Yf (Cx w9 B lv ts sz q9 (bS (.select its n o [] (Y2 k))||dp)):=by
    show Cx _ _ _ _ _ _ _;rw[lu];exact hx
   have f4:=HL9.o.free 4;have f5:=HL9.o.free 5;have m0:w9.cell? ⟨w.heap.size,0,Y1⟩=Y2 (Yp Y1 0 0):=HK9.o.cell 0;have g0:=HK9.o.free 0;have p0:w9.cell? ⟨w1.heap.size,0,Y1⟩=Y2 (Yp ao m cp):=HL9.o.cell 0;have m1:w9.cell? ⟨w.heap.size,1,Y1⟩=Y2 (Yi ⟨#[]⟩):=HK9.o.cell 1;have g1:=HK9.o.free 1;have p1:w9.cell? ⟨w1.heap.size,1,Y1⟩=Y2 (Yi ⟨n.toArray⟩):=HL9.o.cell 1;have m2:w9.cell? ⟨w.heap.size,2,Y1⟩=Y2 (Yq):=HK9.o.cell 2;have g2:=HK9.o.free 2;have p2:w9.cell? ⟨w1.heap.size,2,Y1⟩=Y2 v:=HL9.o.cell 2;have m3:w9.cell? ⟨w.heap.size,3,Y1⟩=Y2 (Yp Y1 0 0):=HK9.o.cell 3;have g3:=HK9.o.free 3;have p3:w9.cell? ⟨w1.heap.size,3,Y1⟩=Y2 (Yp Y1 0 0):=HL9.o.cell 3;have m4:w9.cell? ⟨w.heap.size,4,Y1⟩=Y2 (.bool false):=HK9.o.cell 4;have g4:=HK9.o.free 4;have p4:w9.cell? ⟨w1.heap.size,4,Y1⟩=Y2 (.bool false):=HL9.o.cell 4;have m5:w9.cell? ⟨w.heap.size,5,Y1⟩=Y2 (Yg Yh 0):=HK9.o.cell 5;have g5:=HK9.o.free 5;have p5:w9.cell? ⟨w1.heap.size,5,Y1⟩=Y2 (Yg Yh 0):=HL9.o.cell 5;have HK9':=hd ((HK9.o.far ⟨w1.heap.size,4,Y1⟩ (.bool true) d1).far ⟨w1.heap.size,5,Y1⟩ (Yg Yh (k:Int)) d1);have Un:=hd (fq (fq HG9.o (M:=w1.heap.size) (by omega) 4 (.bool true)) (M:=w1.heap.size) (by omega) 5 (Yg Yh (k:Int)));have HXF':=hd ((HXF.o.far HX.o (M:=w1.heap.size) (by omega) 4 (.bool true)).far HX.o (M:=w1.heap.size) (by omega) 5 (Yg Yh (k:Int)));have TS:=hd (aB (aB HV9.o 4 (.bool true) ⟨_,_,HL9.o,by decide⟩) 5 (Yg Yh (k:Int)) ⟨_,_,HL9.o.set 4 _,by decide⟩);have MZ:=hd (aB (aB G9.o 4 (.bool true) ⟨_,_,HL9.o,by decide⟩) 5 (Yg Yh (k:Int)) ⟨_,_,HL9.o.set 4 _,by decide⟩);rcases hv1 with rfl|⟨et,ex,rfl⟩
   all_goals
    go_wp2_with fail
    first|generalize Yo et ex=v at* |generalize Yq=v at*
    have KF:=((((((HK9'.o.set 0 (Yp ao m cp)).set 1 (Yi ⟨n.toArray⟩)).set 2 v).set 3 (Yp Y1 0 0)).set 4 (.bool true)).set 5 (Yg Yh (k:Int)));have e0:=KF.cell 0;have e1:=KF.cell 1;have e2:=KF.cell 2;have e3:=KF.cell 3;have e4:=KF.cell 4;have e5:=KF.cell 5;simp at e0 e1 e2 e3 e4 e5;refine aaU (v:=Yj #[Yp ao m cp,Yi ⟨n.toArray⟩,v,Yp Y1 0 0,.bool true,Yg Yh (k:Int)]) (by simp[aaW,adj,go_sem,e0,e1,e2,e3,e4,e5]) rfl ?_;refine aj.ok (a:=Px.St.select its n o [] (Y2 k)) (q':=q9) (fq (fq (fq (fq (fq (fq Un.o (nlr _) 0 _) (nlr _) 1 _) (nlr _) 2 _) (nlr _) 3 _) (nlr _) 4 _) (nlr _) 5 _) (Px.Rg.go HR1.o (Px.Rg.go HR2.o (Px.Rg.go HR3.o (Px.Rg.go HR4.o (Px.Rg.go HRO.o (Px.Rg.go HRL.o rfl)))))) ⟨Yp ao m cp,Yp Y1 0 0,by rw[<-show(v:Y3)=ev? o from HE.o];rfl,?_,?_⟩ ((((((HXF'.o.far HX.o (nlr _) 0 _).far HX.o (nlr _) 1 _).far HX.o (nlr _) 2 _).far HX.o (nlr _) 3 _).far HX.o (nlr _) 4 _).far HX.o (nlr _) 5 _)
    · have s0:=aB TS.o 0 (Yp ao m cp) ⟨_,_,HK9'.o,by decide⟩;have s1:=aB s0 1 (Yi ⟨n.toArray⟩) ⟨_,_,(HK9'.o.set 0 _),by decide⟩;have s2:=aB s1 2 v ⟨_,_,((HK9'.o.set 0 _).set 1 _),by decide⟩;have s3:=aB s2 3 (Yp Y1 0 0) ⟨_,_,(((HK9'.o.set 0 _).set 1 _).set 2 _),by decide⟩;have s4:=aB s3 4 (.bool true) ⟨_,_,((((HK9'.o.set 0 _).set 1 _).set 2 _).set 3 _),by decide⟩;exact aB s4 5 (Yg Yh (k:Int)) ⟨_,_,(((((HK9'.o.set 0 _).set 1 _).set 2 _).set 3 _).set 4 _),by decide⟩
    have s0:=aB MZ.o 0 (Yp ao m cp) ⟨_,_,HK9'.o,by decide⟩;have s1:=aB s0 1 (Yi ⟨n.toArray⟩) ⟨_,_,(HK9'.o.set 0 _),by decide⟩;have s2:=aB s1 2 v ⟨_,_,((HK9'.o.set 0 _).set 1 _),by decide⟩;have s3:=aB s2 3 (Yp Y1 0 0) ⟨_,_,(((HK9'.o.set 0 _).set 1 _).set 2 _),by decide⟩;have s4:=aB s3 4 (.bool true) ⟨_,_,((((HK9'.o.set 0 _).set 1 _).set 2 _).set 3 _),by decide⟩;exact aB s4 5 (Yg Yh (k:Int)) ⟨_,_,(((((HK9'.o.set 0 _).set 1 _).set 2 _).set 3 _).set 4 _),by decide⟩
 |true=>
  have HRO:Yf (∀r,Px.Rg.seq (Px.bU sz Px.VH) (fun _=>aaH fun _=>Px.nG sz) q4.tail r->adh sz q4 r):=fun r hr=>by unfold adh;rw[if_pos hs];exact hr
  go_wp2_with fail;rw[hst];go_wp2_with fail;refine(uh ⟨#[79,82,68,69,82]⟩ _ B lv ts sz q4 _ HX4.o hs (by simp)).mono ?_;rintro x w5 ⟨rfl,hx5,hg5⟩;have HX5:=hd hx5;have HG5:=hd (aI HG4.o hg5);have HK5:=hd (HK4.o.grown hg5 (by omega));have HL5:=hd (HL4.o.grown hg5 (by omega));have HV5:=hd (aW HV4.o hg5);go_wp2_with fail;refine(bY ⟨#[66,89]⟩ w5 _ rfl B lv ts sz q4.tail _ HX5.o (by simp)).mono ?_;rintro x w6 ho;obtain⟨hg,⟨p,c,hr,rfl⟩|⟨_,q6,v,hr,rfl,hv,hx⟩⟩:=ho.cases
  · exact⟨rfl,aj.err (aI HG5.o hg) (Px.Rg.go HR1.o (Px.Rg.go HR2.o (Px.Rg.go HR3.o (Px.Rg.go HR4.o (Px.Rg.err (HRO.o _ (Px.Rg.err hr)))))))⟩
  cases hv
  have HR6:=hd hr;have HX6:=hd hx;have HG6:=hd (aI HG5.o hg);have HK6:=hd (HK5.o.grown hg (by omega));have HL6:=hd (HL5.o.grown hg (by omega));have HV6:=hd (aW HV5.o hg);go_wp2_with fail;refine(wU B lv ts sz _ w6 q6 HX6.o).mono ?_;rintro x w7 ho;obtain⟨hg,⟨p,c,hr,rfl⟩|⟨os,q7,v,hr,rfl,hv,hx⟩⟩:=ho.cases
  · exact⟨rfl,aj.err (aI HG6.o hg) (Px.Rg.go HR1.o (Px.Rg.go HR2.o (Px.Rg.go HR3.o (Px.Rg.go HR4.o (Px.Rg.err (HRO.o _ (Px.Rg.go HR6.o hr)))))))⟩
  have S9:=hd (HRO.o _ (Px.Rg.go HR6.o hr));obtain⟨bo,bm,bc,rfl⟩:=Ki hv;have MV:=hd (HL6.o.grown hg (by omega));have a3:w7.cell? ⟨w1.heap.size,3,Y1⟩=Y2 (Yp Y1 0 0):=MV.o.cell 3;have f3:=MV.o.free 3;have HX7:=hd (hx.far HX.o (M:=w1.heap.size) (by omega) 3 (Yp bo bm bc));have HG7:=hd (fq (aI HG6.o hg) (M:=w1.heap.size) (by omega) 3 (Yp bo bm bc));have HK7:=hd ((HK6.o.grown hg (by omega)).far ⟨w1.heap.size,3,Y1⟩ (Yp bo bm bc) d1);have HL7:Yf (ae (w7.setCell ⟨w1.heap.size,3,Y1⟩ (Yp bo bm bc)) w1.heap.size #[Yp ao m cp,Yi ⟨n.toArray⟩,v,Yp bo bm bc,.bool false,Yg Yh 0] 109):=MV.o.set 3 _;have HV7:=hd (aB (aW HV6.o hg) 3 (Yp bo bm bc) ⟨_,_,MV.o,by decide⟩);have U4:=hd (aB hv 3 (Yp bo bm bc) ⟨_,_,MV.o,by decide⟩)
  cases hl:Zm adf q7 with
  |false=>
   go_wp2_with fail;refine(dZ ⟨#[76,73,77,73,84]⟩ _ B lv ts sz q7 _ HX7.o hl (by simp)).mono ?_;rintro x w9 ⟨rfl,hb9⟩;have HX9:=hd (HX7.o.below hb9);have HG9:=hd (aI HG7.o (Y9 (row:=Y2 B) hb9));have HK9:=hd (HK7.o.below hb9 HK7.o.lt);have HL9:=hd (HL7.o.below hb9 HL7.o.lt);have HV9:Yf (Ec B 225 2 iK its (Yp ao m cp) w9):=eO HV7.o hb9;have G9:=hd (eO U4.o hb9)
   have HXF:Yf (Cx w9 B lv ts sz q7 (bS (.select its n o os Y1)||dp)):=by
    show Cx _ _ _ _ _ _ _;rw[lu];exact HX9.o
   have m0:w9.cell? ⟨w.heap.size,0,Y1⟩=Y2 (Yp Y1 0 0):=HK9.o.cell 0;have g0:=HK9.o.free 0;have p0:w9.cell? ⟨w1.heap.size,0,Y1⟩=Y2 (Yp ao m cp):=HL9.o.cell 0;have m1:w9.cell? ⟨w.heap.size,1,Y1⟩=Y2 (Yi ⟨#[]⟩):=HK9.o.cell 1;have g1:=HK9.o.free 1;have p1:w9.cell? ⟨w1.heap.size,1,Y1⟩=Y2 (Yi ⟨n.toArray⟩):=HL9.o.cell 1;have m2:w9.cell? ⟨w.heap.size,2,Y1⟩=Y2 (Yq):=HK9.o.cell 2;have g2:=HK9.o.free 2;have p2:w9.cell? ⟨w1.heap.size,2,Y1⟩=Y2 v:=HL9.o.cell 2;have m3:w9.cell? ⟨w.heap.size,3,Y1⟩=Y2 (Yp Y1 0 0):=HK9.o.cell 3;have g3:=HK9.o.free 3;have p3:w9.cell? ⟨w1.heap.size,3,Y1⟩=Y2 (Yp bo bm bc):=HL9.o.cell 3;have m4:w9.cell? ⟨w.heap.size,4,Y1⟩=Y2 (.bool false):=HK9.o.cell 4;have g4:=HK9.o.free 4;have p4:w9.cell? ⟨w1.heap.size,4,Y1⟩=Y2 (.bool false):=HL9.o.cell 4;have m5:w9.cell? ⟨w.heap.size,5,Y1⟩=Y2 (Yg Yh 0):=HK9.o.cell 5;have g5:=HK9.o.free 5;have p5:w9.cell? ⟨w1.heap.size,5,Y1⟩=Y2 (Yg Yh 0):=HL9.o.cell 5;rcases hv1 with rfl|⟨et,ex,rfl⟩
   all_goals
    go_wp2_with fail
    first|generalize Yo et ex=v at* |generalize Yq=v at*
    have KF:=((((((HK9.o.set 0 (Yp ao m cp)).set 1 (Yi ⟨n.toArray⟩)).set 2 v).set 3 (Yp bo bm bc)).set 4 (.bool false)).set 5 (Yg Yh 0));have e0:=KF.cell 0;have e1:=KF.cell 1;have e2:=KF.cell 2;have e3:=KF.cell 3;have e4:=KF.cell 4;have e5:=KF.cell 5;simp at e0 e1 e2 e3 e4 e5;refine aaU (v:=Yj #[Yp ao m cp,Yi ⟨n.toArray⟩,v,Yp bo bm bc,.bool false,Yg Yh 0]) (by simp[aaW,adj,go_sem,e0,e1,e2,e3,e4,e5]) rfl ?_;refine aj.ok (a:=Px.St.select its n o os Y1) (q':=q7) (fq (fq (fq (fq (fq (fq HG9.o (nlr _) 0 _) (nlr _) 1 _) (nlr _) 2 _) (nlr _) 3 _) (nlr _) 4 _) (nlr _) 5 _) (Px.Rg.go HR1.o (Px.Rg.go HR2.o (Px.Rg.go HR3.o (Px.Rg.go HR4.o (Px.Rg.go S9.o (Px.Rg.go (OI hl) rfl)))))) ⟨Yp ao m cp,Yp bo bm bc,by rw[<-show(v:Y3)=ev? o from HE.o];rfl,?_,?_⟩ ((((((HXF.o.far HX.o (nlr _) 0 _).far HX.o (nlr _) 1 _).far HX.o (nlr _) 2 _).far HX.o (nlr _) 3 _).far HX.o (nlr _) 4 _).far HX.o (nlr _) 5 _)
    · have s0:=aB HV9.o 0 (Yp ao m cp) ⟨_,_,HK9.o,by decide⟩;have s1:=aB s0 1 (Yi ⟨n.toArray⟩) ⟨_,_,(HK9.o.set 0 _),by decide⟩;have s2:=aB s1 2 v ⟨_,_,((HK9.o.set 0 _).set 1 _),by decide⟩;have s3:=aB s2 3 (Yp bo bm bc) ⟨_,_,(((HK9.o.set 0 _).set 1 _).set 2 _),by decide⟩;have s4:=aB s3 4 (.bool false) ⟨_,_,((((HK9.o.set 0 _).set 1 _).set 2 _).set 3 _),by decide⟩;exact aB s4 5 (Yg Yh 0) ⟨_,_,(((((HK9.o.set 0 _).set 1 _).set 2 _).set 3 _).set 4 _),by decide⟩
    have s0:=aB G9.o 0 (Yp ao m cp) ⟨_,_,HK9.o,by decide⟩;have s1:=aB s0 1 (Yi ⟨n.toArray⟩) ⟨_,_,(HK9.o.set 0 _),by decide⟩;have s2:=aB s1 2 v ⟨_,_,((HK9.o.set 0 _).set 1 _),by decide⟩;have s3:=aB s2 3 (Yp bo bm bc) ⟨_,_,(((HK9.o.set 0 _).set 1 _).set 2 _),by decide⟩;have s4:=aB s3 4 (.bool false) ⟨_,_,((((HK9.o.set 0 _).set 1 _).set 2 _).set 3 _),by decide⟩;exact aB s4 5 (Yg Yh 0) ⟨_,_,(((((HK9.o.set 0 _).set 1 _).set 2 _).set 3 _).set 4 _),by decide⟩
  |true=>
   go_wp2_with fail;refine(uh ⟨#[76,73,77,73,84]⟩ _ B lv ts sz q7 _ HX7.o hl (by simp)).mono ?_;rintro x w8 ⟨rfl,hx8,hg8⟩;have HX8:=hd hx8;have HG8:=hd (aI HG7.o hg8);have HK8:=hd (HK7.o.grown hg8 (by omega));have HL8:=hd (HL7.o.grown hg8 (by omega));have HV8:=hd (aW HV7.o hg8);have TM:=hd (aW U4.o hg8);go_wp2_with fail;refine(mY w8 B lv ts sz q7.tail _ HX8.o 1000000000 (by omega)).mono ?_;rintro x w9 ho;obtain⟨hg,⟨p,c,hr,rfl⟩|⟨k,q9,v,hr,rfl,hv,hx⟩⟩:=ho.cases
   · exact⟨rfl,aj.err (aI HG8.o hg) (Px.Rg.go HR1.o (Px.Rg.go HR2.o (Px.Rg.go HR3.o (Px.Rg.go HR4.o (Px.Rg.go S9.o (Px.Rg.err (Ci hl hr)))))))⟩
   cases hv
   have HRL:=hd (Ci hl hr);have HG9:=hd (aI HG8.o hg);have HK9:=hd (HK8.o.grown hg (by omega));have HL9:=hd (HL8.o.grown hg (by omega));have HV9:=hd (aW HV8.o hg);have G9:=hd (aW TM.o hg)
   have HXF:Yf (Cx w9 B lv ts sz q9 (bS (.select its n o os (Y2 k))||dp)):=by
    show Cx _ _ _ _ _ _ _;rw[lu];exact hx
   have f4:=HL9.o.free 4;have f5:=HL9.o.free 5;have m0:w9.cell? ⟨w.heap.size,0,Y1⟩=Y2 (Yp Y1 0 0):=HK9.o.cell 0;have g0:=HK9.o.free 0;have p0:w9.cell? ⟨w1.heap.size,0,Y1⟩=Y2 (Yp ao m cp):=HL9.o.cell 0;have m1:w9.cell? ⟨w.heap.size,1,Y1⟩=Y2 (Yi ⟨#[]⟩):=HK9.o.cell 1;have g1:=HK9.o.free 1;have p1:w9.cell? ⟨w1.heap.size,1,Y1⟩=Y2 (Yi ⟨n.toArray⟩):=HL9.o.cell 1;have m2:w9.cell? ⟨w.heap.size,2,Y1⟩=Y2 (Yq):=HK9.o.cell 2;have g2:=HK9.o.free 2;have p2:w9.cell? ⟨w1.heap.size,2,Y1⟩=Y2 v:=HL9.o.cell 2;have m3:w9.cell? ⟨w.heap.size,3,Y1⟩=Y2 (Yp Y1 0 0):=HK9.o.cell 3;have g3:=HK9.o.free 3;have p3:w9.cell? ⟨w1.heap.size,3,Y1⟩=Y2 (Yp bo bm bc):=HL9.o.cell 3;have m4:w9.cell? ⟨w.heap.size,4,Y1⟩=Y2 (.bool false):=HK9.o.cell 4;have g4:=HK9.o.free 4;have p4:w9.cell? ⟨w1.heap.size,4,Y1⟩=Y2 (.bool false):=HL9.o.cell 4;have m5:w9.cell? ⟨w.heap.size,5,Y1⟩=Y2 (Yg Yh 0):=HK9.o.cell 5;have g5:=HK9.o.free 5;have p5:w9.cell? ⟨w1.heap.size,5,Y1⟩=Y2 (Yg Yh 0):=HL9.o.cell 5;have HK9':=hd ((HK9.o.far ⟨w1.heap.size,4,Y1⟩ (.bool true) d1).far ⟨w1.heap.size,5,Y1⟩ (Yg Yh (k:Int)) d1);have Un:=hd (fq (fq HG9.o (M:=w1.heap.size) (by omega) 4 (.bool true)) (M:=w1.heap.size) (by omega) 5 (Yg Yh (k:Int)));have HXF':=hd ((HXF.o.far HX.o (M:=w1.heap.size) (by omega) 4 (.bool true)).far HX.o (M:=w1.heap.size) (by omega) 5 (Yg Yh (k:Int)));have TS:=hd (aB (aB HV9.o 4 (.bool true) ⟨_,_,HL9.o,by decide⟩) 5 (Yg Yh (k:Int)) ⟨_,_,HL9.o.set 4 _,by decide⟩);have MZ:=hd (aB (aB G9.o 4 (.bool true) ⟨_,_,HL9.o,by decide⟩) 5 (Yg Yh (k:Int)) ⟨_,_,HL9.o.set 4 _,by decide⟩);rcases hv1 with rfl|⟨et,ex,rfl⟩
   all_goals
    go_wp2_with fail
    first|generalize Yo et ex=v at* |generalize Yq=v at*
    have KF:=((((((HK9'.o.set 0 (Yp ao m cp)).set 1 (Yi ⟨n.toArray⟩)).set 2 v).set 3 (Yp bo bm bc)).set 4 (.bool true)).set 5 (Yg Yh (k:Int)));have e0:=KF.cell 0;have e1:=KF.cell 1;have e2:=KF.cell 2;have e3:=KF.cell 3;have e4:=KF.cell 4;have e5:=KF.cell 5;simp at e0 e1 e2 e3 e4 e5;refine aaU (v:=Yj #[Yp ao m cp,Yi ⟨n.toArray⟩,v,Yp bo bm bc,.bool true,Yg Yh (k:Int)]) (by simp[aaW,adj,go_sem,e0,e1,e2,e3,e4,e5]) rfl ?_;refine aj.ok (a:=Px.St.select its n o os (Y2 k)) (q':=q9) (fq (fq (fq (fq (fq (fq Un.o (nlr _) 0 _) (nlr _) 1 _) (nlr _) 2 _) (nlr _) 3 _) (nlr _) 4 _) (nlr _) 5 _) (Px.Rg.go HR1.o (Px.Rg.go HR2.o (Px.Rg.go HR3.o (Px.Rg.go HR4.o (Px.Rg.go S9.o (Px.Rg.go HRL.o rfl)))))) ⟨Yp ao m cp,Yp bo bm bc,by rw[<-show(v:Y3)=ev? o from HE.o];rfl,?_,?_⟩ ((((((HXF'.o.far HX.o (nlr _) 0 _).far HX.o (nlr _) 1 _).far HX.o (nlr _) 2 _).far HX.o (nlr _) 3 _).far HX.o (nlr _) 4 _).far HX.o (nlr _) 5 _)
    · have s0:=aB TS.o 0 (Yp ao m cp) ⟨_,_,HK9'.o,by decide⟩;have s1:=aB s0 1 (Yi ⟨n.toArray⟩) ⟨_,_,(HK9'.o.set 0 _),by decide⟩;have s2:=aB s1 2 v ⟨_,_,((HK9'.o.set 0 _).set 1 _),by decide⟩;have s3:=aB s2 3 (Yp bo bm bc) ⟨_,_,(((HK9'.o.set 0 _).set 1 _).set 2 _),by decide⟩;have s4:=aB s3 4 (.bool true) ⟨_,_,((((HK9'.o.set 0 _).set 1 _).set 2 _).set 3 _),by decide⟩;exact aB s4 5 (Yg Yh (k:Int)) ⟨_,_,(((((HK9'.o.set 0 _).set 1 _).set 2 _).set 3 _).set 4 _),by decide⟩
    have s0:=aB MZ.o 0 (Yp ao m cp) ⟨_,_,HK9'.o,by decide⟩;have s1:=aB s0 1 (Yi ⟨n.toArray⟩) ⟨_,_,(HK9'.o.set 0 _),by decide⟩;have s2:=aB s1 2 v ⟨_,_,((HK9'.o.set 0 _).set 1 _),by decide⟩;have s3:=aB s2 3 (Yp bo bm bc) ⟨_,_,(((HK9'.o.set 0 _).set 1 _).set 2 _),by decide⟩;have s4:=aB s3 4 (.bool true) ⟨_,_,((((HK9'.o.set 0 _).set 1 _).set 2 _).set 3 _),by decide⟩;exact aB s4 5 (Yg Yh (k:Int)) ⟨_,_,(((((HK9'.o.set 0 _).set 1 _).set 2 _).set 3 _).set 4 _),by decide⟩
theorem oU{s:acW}(h:BL B T s v w):∃cs,v=.agg cs:=by
 cases s with
 |create t c=>obtain⟨u,h1,h2⟩:=h;simp only[Value.iface.injEq]at h1;exact⟨_,h1.2⟩
 |drop t=>have h1:Yo _ _=_:=h;simp only[Value.iface.injEq]at h1;exact⟨_,h1.2⟩
 |insert t r=>obtain⟨u,h1,h2⟩:=h;simp only[Value.iface.injEq]at h1;exact⟨_,h1.2⟩
 |delete t o=>have h1:Yo _ _=_:=h;simp only[Value.iface.injEq]at h1;exact⟨_,h1.2⟩
 |update t s o=>obtain⟨u,h1,h2⟩:=h;simp only[Value.iface.injEq]at h1;exact⟨_,h1.2⟩
 |select i t o r l=>obtain⟨u,u',h1,h2,h3⟩:=h;simp only[Value.iface.injEq]at h1;exact⟨_,h1.2⟩
theorem Ey(B:Nat)(lv:Y3)(ts:List Zj)(sz:Nat)(dp:Bool)(w:Y4)(q:List Zj)(h:Cx w B lv ts sz q dp)(h0:Zm adk q=true):
   aaT Zc 28 #[Ym (Y2 ⟨B,0,Y1⟩)] w (aj w B lv ts sz dp (adl sz) q (Qj B) bS):=by
 have HX0:=hd h;have HG0:=hd (grownBy_refl w (Y2 B));go_enter adm,adn;go_wp2_with fail;refine(uh ⟨#[67,82,69,65,84,69]⟩ _ B lv ts sz q dp HX0.o h0 (by simp)).mono ?_;rintro x wy ⟨rfl,hxy,hgy⟩;have HXy:=hd hxy;have HGy:=hd (aI HG0.o hgy);go_wp2_with fail;refine(BR B lv ts sz dp _ q.tail HXy.o).mono ?_;rintro x wz ho;obtain⟨hg,⟨p,c,hr,rfl⟩|⟨s,qz,v,hr,rfl,hv,hx⟩⟩:=ho.cases
 · exact⟨rfl,aj.err (aI HGy.o hg) (by unfold adl;rw[if_pos h0];exact hr)⟩
 have HRz:=hd hr;have HXz:=hd hx;have HGz:=hd (aI HGy.o hg);obtain⟨cs,rfl⟩:=oU hv;have HVz:=hd hv;go_wp2_with fail;go_ret;exact aj.ok (a:=s) (q':=qz) HGz.o (by unfold adl;rw[if_pos h0];exact HRz.o) HVz.o HXz.o
theorem Lh(B:Nat)(lv:Y3)(ts:List Zj)(sz:Nat)(dp:Bool)(w:Y4)(q:List Zj)(h:Cx w B lv ts sz q dp)(h0:Zm adk q=false)(h1:Zm ado q=true):
   aaT Zc 28 #[Ym (Y2 ⟨B,0,Y1⟩)] w (aj w B lv ts sz dp (adl sz) q (Qj B) bS):=by
 have HX0:=hd h;have HG0:=hd (grownBy_refl w (Y2 B));go_enter adm,adn;go_wp2_with fail;refine(dZ ⟨#[67,82,69,65,84,69]⟩ _ B lv ts sz q dp HX0.o h0 (by simp)).mono ?_;rintro x w1 ⟨rfl,hb⟩;have HX1:=hd (HX0.o.below hb);have HG1:=hd (aI HG0.o (Y9 (row:=Y2 B) hb));go_wp2_with fail;refine(uh ⟨#[68,82,79,80]⟩ _ B lv ts sz q dp HX1.o h1 (by simp)).mono ?_;rintro x wy ⟨rfl,hxy,hgy⟩;have HXy:=hd hxy;have HGy:=hd (aI HG1.o hgy);go_wp2_with fail;refine(bY ⟨#[84,65,66,76,69]⟩ wy _ rfl B lv ts sz q.tail dp HXy.o (by simp)).mono ?_;rintro x w7 ho;obtain⟨hg,⟨p,c,hr,rfl⟩|⟨_,q7,v,hr,rfl,hv,hx⟩⟩:=ho.cases
 · exact⟨rfl,aj.err (aI HGy.o hg) (by unfold adl;rw[if_neg (by simp[h0])];rw[if_pos h1];exact Px.Rg.err hr)⟩
 cases hv
 have HR7:=hd hr;have HX7:=hd (hx);have HG7:=hd (aI HGy.o hg);go_wp2_with fail;refine(eD w7 B lv ts sz q7 dp HX7.o).mono ?_;rintro x w8 ho;obtain⟨hg,⟨p,c,hr,rfl⟩|⟨n,q8,v,hr,rfl,hv,hx⟩⟩:=ho.cases
 · exact⟨rfl,aj.err (aI HG7.o hg) (by unfold adl;rw[if_neg (by simp[h0])];rw[if_pos h1];exact Px.Rg.go HR7.o (Px.Rg.err hr))⟩
 cases hv
 have HR8:=hd hr;have HX8:=hd (hx);have HG8:=hd (aI HG7.o hg);go_wp2_with fail;go_ret;exact aj.ok (a:=Px.St.drop n) (q':=q8) HG8.o (by unfold adl;rw[if_neg (by simp[h0])];rw[if_pos h1];exact Px.Rg.go HR7.o (Px.Rg.go HR8.o rfl)) rfl HX8.o
theorem Eo(B:Nat)(lv:Y3)(ts:List Zj)(sz:Nat)(dp:Bool)(w:Y4)(q:List Zj)(h:Cx w B lv ts sz q dp)(h0:Zm adk q=false)(h1:Zm ado q=false)(h2:Zm adp q=true):
   aaT Zc 28 #[Ym (Y2 ⟨B,0,Y1⟩)] w (aj w B lv ts sz dp (adl sz) q (Qj B) bS):=by
 have HX0:=hd h;have HG0:=hd (grownBy_refl w (Y2 B));go_enter adm,adn;go_wp2_with fail;refine(dZ ⟨#[67,82,69,65,84,69]⟩ _ B lv ts sz q dp HX0.o h0 (by simp)).mono ?_;rintro x w1 ⟨rfl,hb⟩;have HX1:=hd (HX0.o.below hb);have HG1:=hd (aI HG0.o (Y9 (row:=Y2 B) hb));go_wp2_with fail;refine(dZ ⟨#[68,82,79,80]⟩ _ B lv ts sz q dp HX1.o h1 (by simp)).mono ?_;rintro x w2 ⟨rfl,hb⟩;have HX2:=hd (HX1.o.below hb);have HG2:=hd (aI HG1.o (Y9 (row:=Y2 B) hb));go_wp2_with fail;refine(uh ⟨#[73,78,83,69,82,84]⟩ _ B lv ts sz q dp HX2.o h2 (by simp)).mono ?_;rintro x wy ⟨rfl,hxy,hgy⟩;have HXy:=hd hxy;have HGy:=hd (aI HG2.o hgy);go_wp2_with fail;refine(DT B lv ts sz dp _ q.tail HXy.o).mono ?_;rintro x wz ho;obtain⟨hg,⟨p,c,hr,rfl⟩|⟨s,qz,v,hr,rfl,hv,hx⟩⟩:=ho.cases
 · exact⟨rfl,aj.err (aI HGy.o hg) (by unfold adl;rw[if_neg (by simp[h0])];rw[if_neg (by simp[h1])];rw[if_pos h2];exact hr)⟩
 have HRz:=hd hr;have HXz:=hd hx;have HGz:=hd (aI HGy.o hg);obtain⟨cs,rfl⟩:=oU hv;have HVz:=hd hv;go_wp2_with fail;go_ret;exact aj.ok (a:=s) (q':=qz) HGz.o (by unfold adl;rw[if_neg (by simp[h0])];rw[if_neg (by simp[h1])];rw[if_pos h2];exact HRz.o) HVz.o HXz.o
theorem Gv(B:Nat)(lv:Y3)(ts:List Zj)(sz:Nat)(dp:Bool)(w:Y4)(q:List Zj)(h:Cx w B lv ts sz q dp)(h0:Zm adk q=false)(h1:Zm ado q=false)(h2:Zm adp q=false)(h3:Zm adq q=true):
   aaT Zc 28 #[Ym (Y2 ⟨B,0,Y1⟩)] w (aj w B lv ts sz dp (adl sz) q (Qj B) bS):=by
 have HX0:=hd h;have HG0:=hd (grownBy_refl w (Y2 B));go_enter adm,adn;go_wp2_with fail;refine(dZ ⟨#[67,82,69,65,84,69]⟩ _ B lv ts sz q dp HX0.o h0 (by simp)).mono ?_;rintro x w1 ⟨rfl,hb⟩;have HX1:=hd (HX0.o.below hb);have HG1:=hd (aI HG0.o (Y9 (row:=Y2 B) hb));go_wp2_with fail;refine(dZ ⟨#[68,82,79,80]⟩ _ B lv ts sz q dp HX1.o h1 (by simp)).mono ?_;rintro x w2 ⟨rfl,hb⟩;have HX2:=hd (HX1.o.below hb);have HG2:=hd (aI HG1.o (Y9 (row:=Y2 B) hb));go_wp2_with fail;refine(dZ ⟨#[73,78,83,69,82,84]⟩ _ B lv ts sz q dp HX2.o h2 (by simp)).mono ?_;rintro x w3 ⟨rfl,hb⟩;have HX3:=hd (HX2.o.below hb);have HG3:=hd (aI HG2.o (Y9 (row:=Y2 B) hb));go_wp2_with fail;refine(uh ⟨#[68,69,76,69,84,69]⟩ _ B lv ts sz q dp HX3.o h3 (by simp)).mono ?_;rintro x wy ⟨rfl,hxy,hgy⟩;have HXy:=hd hxy;have HGy:=hd (aI HG3.o hgy);go_wp2_with fail;refine(Cv B lv ts sz dp _ q.tail HXy.o).mono ?_;rintro x wz ho;obtain⟨hg,⟨p,c,hr,rfl⟩|⟨s,qz,v,hr,rfl,hv,hx⟩⟩:=ho.cases
 · exact⟨rfl,aj.err (aI HGy.o hg) (by unfold adl;rw[if_neg (by simp[h0])];rw[if_neg (by simp[h1])];rw[if_neg (by simp[h2])];rw[if_pos h3];exact hr)⟩
 have HRz:=hd hr;have HXz:=hd hx;have HGz:=hd (aI HGy.o hg);obtain⟨cs,rfl⟩:=oU hv;have HVz:=hd hv;go_wp2_with fail;go_ret;exact aj.ok (a:=s) (q':=qz) HGz.o (by unfold adl;rw[if_neg (by simp[h0])];rw[if_neg (by simp[h1])];rw[if_neg (by simp[h2])];rw[if_pos h3];exact HRz.o) HVz.o HXz.o
theorem FK(B:Nat)(lv:Y3)(ts:List Zj)(sz:Nat)(dp:Bool)(w:Y4)(q:List Zj)(h:Cx w B lv ts sz q dp)(h0:Zm adk q=false)(h1:Zm ado q=false)(h2:Zm adp q=false)(h3:Zm adq q=false)(h4:Zm Px.lK q=true):
   aaT Zc 28 #[Ym (Y2 ⟨B,0,Y1⟩)] w (aj w B lv ts sz dp (adl sz) q (Qj B) bS):=by
 have HX0:=hd h;have HG0:=hd (grownBy_refl w (Y2 B));go_enter adm,adn;go_wp2_with fail;refine(dZ ⟨#[67,82,69,65,84,69]⟩ _ B lv ts sz q dp HX0.o h0 (by simp)).mono ?_;rintro x w1 ⟨rfl,hb⟩;have HX1:=hd (HX0.o.below hb);have HG1:=hd (aI HG0.o (Y9 (row:=Y2 B) hb));go_wp2_with fail;refine(dZ ⟨#[68,82,79,80]⟩ _ B lv ts sz q dp HX1.o h1 (by simp)).mono ?_;rintro x w2 ⟨rfl,hb⟩;have HX2:=hd (HX1.o.below hb);have HG2:=hd (aI HG1.o (Y9 (row:=Y2 B) hb));go_wp2_with fail;refine(dZ ⟨#[73,78,83,69,82,84]⟩ _ B lv ts sz q dp HX2.o h2 (by simp)).mono ?_;rintro x w3 ⟨rfl,hb⟩;have HX3:=hd (HX2.o.below hb);have HG3:=hd (aI HG2.o (Y9 (row:=Y2 B) hb));go_wp2_with fail;refine(dZ ⟨#[68,69,76,69,84,69]⟩ _ B lv ts sz q dp HX3.o h3 (by simp)).mono ?_;rintro x w4 ⟨rfl,hb⟩;have HX4:=hd (HX3.o.below hb);have HG4:=hd (aI HG3.o (Y9 (row:=Y2 B) hb));go_wp2_with fail;refine(uh ⟨#[85,80,68,65,84,69]⟩ _ B lv ts sz q dp HX4.o h4 (by simp)).mono ?_;rintro x wy ⟨rfl,hxy,hgy⟩;have HXy:=hd hxy;have HGy:=hd (aI HG4.o hgy);go_wp2_with fail;refine(Dr B lv ts sz dp _ q.tail HXy.o).mono ?_;rintro x wz ho;obtain⟨hg,⟨p,c,hr,rfl⟩|⟨s,qz,v,hr,rfl,hv,hx⟩⟩:=ho.cases
 · exact⟨rfl,aj.err (aI HGy.o hg) (by unfold adl;rw[if_neg (by simp[h0])];rw[if_neg (by simp[h1])];rw[if_neg (by simp[h2])];rw[if_neg (by simp[h3])];rw[if_pos h4];exact hr)⟩
 have HRz:=hd hr;have HXz:=hd hx;have HGz:=hd (aI HGy.o hg);obtain⟨cs,rfl⟩:=oU hv;have HVz:=hd hv;go_wp2_with fail;go_ret;exact aj.ok (a:=s) (q':=qz) HGz.o (by unfold adl;rw[if_neg (by simp[h0])];rw[if_neg (by simp[h1])];rw[if_neg (by simp[h2])];rw[if_neg (by simp[h3])];rw[if_pos h4];exact HRz.o) HVz.o HXz.o
theorem EL(B:Nat)(lv:Y3)(ts:List Zj)(sz:Nat)(dp:Bool)(w:Y4)(q:List Zj)(h:Cx w B lv ts sz q dp)(h0:Zm adk q=false)(h1:Zm ado q=false)(h2:Zm adp q=false)(h3:Zm adq q=false)(h4:Zm Px.lK q=false):
   aaT Zc 28 #[Ym (Y2 ⟨B,0,Y1⟩)] w (aj w B lv ts sz dp (adl sz) q (Qj B) bS):=by
 have HX0:=hd h;have HG0:=hd (grownBy_refl w (Y2 B));go_enter adm,adn;go_wp2_with fail;refine(dZ ⟨#[67,82,69,65,84,69]⟩ _ B lv ts sz q dp HX0.o h0 (by simp)).mono ?_;rintro x w1 ⟨rfl,hb⟩;have HX1:=hd (HX0.o.below hb);have HG1:=hd (aI HG0.o (Y9 (row:=Y2 B) hb));go_wp2_with fail;refine(dZ ⟨#[68,82,79,80]⟩ _ B lv ts sz q dp HX1.o h1 (by simp)).mono ?_;rintro x w2 ⟨rfl,hb⟩;have HX2:=hd (HX1.o.below hb);have HG2:=hd (aI HG1.o (Y9 (row:=Y2 B) hb));go_wp2_with fail;refine(dZ ⟨#[73,78,83,69,82,84]⟩ _ B lv ts sz q dp HX2.o h2 (by simp)).mono ?_;rintro x w3 ⟨rfl,hb⟩;have HX3:=hd (HX2.o.below hb);have HG3:=hd (aI HG2.o (Y9 (row:=Y2 B) hb));go_wp2_with fail;refine(dZ ⟨#[68,69,76,69,84,69]⟩ _ B lv ts sz q dp HX3.o h3 (by simp)).mono ?_;rintro x w4 ⟨rfl,hb⟩;have HX4:=hd (HX3.o.below hb);have HG4:=hd (aI HG3.o (Y9 (row:=Y2 B) hb));go_wp2_with fail;refine(dZ ⟨#[85,80,68,65,84,69]⟩ _ B lv ts sz q dp HX4.o h4 (by simp)).mono ?_;rintro x w5 ⟨rfl,hb⟩;have HX5:=hd (HX4.o.below hb);have HG5:=hd (aI HG4.o (Y9 (row:=Y2 B) hb));go_wp2_with fail;refine(bY ⟨#[83,69,76,69,67,84]⟩ w5 _ rfl B lv ts sz q dp HX5.o (by simp)).mono ?_;rintro x wy ho;obtain⟨hg,⟨p,c,hr,rfl⟩|⟨_,qy,v,hr,rfl,hv,hx⟩⟩:=ho.cases
 · exact⟨rfl,aj.err (aI HG5.o hg) (by unfold adl;rw[if_neg (by simp[h0])];rw[if_neg (by simp[h1])];rw[if_neg (by simp[h2])];rw[if_neg (by simp[h3])];rw[if_neg (by simp[h4])];exact Px.Rg.err hr)⟩
 cases hv
 have HRy:=hd hr;have HXy:=hd (hx);have HGy:=hd (aI HG5.o hg);go_wp2_with fail;refine(wG B lv ts sz dp _ qy HXy.o).mono ?_;rintro x wz ho;obtain⟨hg,⟨p,c,hr,rfl⟩|⟨s,qz,v,hr,rfl,hv,hx⟩⟩:=ho.cases
 · exact⟨rfl,aj.err (aI HGy.o hg) (by unfold adl;rw[if_neg (by simp[h0])];rw[if_neg (by simp[h1])];rw[if_neg (by simp[h2])];rw[if_neg (by simp[h3])];rw[if_neg (by simp[h4])];exact Px.Rg.go HRy.o hr)⟩
 have HRz:=hd hr;have HXz:=hd hx;have HGz:=hd (aI HGy.o hg);obtain⟨cs,rfl⟩:=oU hv;have HVz:=hd hv;go_wp2_with fail;go_ret;exact aj.ok (a:=s) (q':=qz) HGz.o (by unfold adl;rw[if_neg (by simp[h0])];rw[if_neg (by simp[h1])];rw[if_neg (by simp[h2])];rw[if_neg (by simp[h3])];rw[if_neg (by simp[h4])];exact Px.Rg.go HRy.o HRz.o) HVz.o HXz.o
theorem Hg(B:Nat)(lv:Y3)(ts:List Zj)(sz:Nat)(dp:Bool)(w:Y4)(q:List Zj)(h:Cx w B lv ts sz q dp):
   aaT Zc 28 #[Ym (Y2 ⟨B,0,Y1⟩)] w (aj w B lv ts sz dp (adl sz) q (Qj B) bS):=by
 cases h0:Zm adk q with
 |true=>exact Ey B lv ts sz dp w q h h0
 |false=>
  cases h1:Zm ado q with
  |true=>exact Lh B lv ts sz dp w q h h0 h1
  |false=>
   cases h2:Zm adp q with
   |true=>exact Eo B lv ts sz dp w q h h0 h1 h2
   |false=>
    cases h3:Zm adq q with
    |true=>exact Gv B lv ts sz dp w q h h0 h1 h2 h3
    |false=>
     cases h4:Zm Px.lK q with
     |true=>exact FK B lv ts sz dp w q h h0 h1 h2 h3 h4
     |false=>exact EL B lv ts sz dp w q h h0 h1 h2 h3 h4
def sV(w:Y4)(B:Nat):Nat:=match w.cell? ⟨B,1,Y1⟩with|some (.int _ q)=>q.toNat|_=>0
theorem Rd.sV(h:Rd w B s k st):sV w B=k:=by
 have e:w.cell? ⟨B,1,Y1⟩=Y2 (Yg Yh (k:Int)):=h.blk.cell 1;unfold Go.Proofs.YthhhfcdakfbpkaaGreatDoor.sV;rw[e];simp
theorem wu:∀l:Y6,adr false l=acL acM l+adr false (l.drop (acL acM l))
 |[]=>by simp[adr,acL]
 |b::r=>by
  by_cases hb:acM b=true
  · have ih:=wu r
    have h45:b.toNat≠45:=by unfold acM at hb;simp at hb;omega
    simp only[acL,hb,if_true,Yr]
    conv=>lhs;unfold adr
    rw[if_neg (by omega),if_pos hb];omega
  simp[acL,hb]
theorem mI(q:UInt8->Bool):∀l:Y6,acL q (l.drop (acL q l))=0
 |[]=>by simp[acL]
 |b::r=>by
  by_cases hb:q b=true
  · simp only[acL,hb,if_true,Yr];exact mI q r
  simp[acL,hb]
theorem BM:∀l:Y6,adr true l=acL acN l+adr false (l.drop (acL acN l))
 |[]=>by simp[adr,acL]
 |b::r=>by
  by_cases hb:acN b=true
  · have ih:=BM r;simp only[acL,hb,if_true,Yr]
    conv=>lhs;unfold adr
    rw[if_pos hb];omega
  have h10:b.toNat=10:=by unfold acN at hb;simpa using hb
  have hs:acM b=true:=by unfold acM;simp[h10]
  simp only[acL,hb,YS,if_false,ads,Ze]
  conv=>lhs;unfold adr
  conv=>rhs;unfold adr
  rw[if_neg hb,if_neg (by omega),if_pos hs]
theorem Md(l:Y6)(h:acL acM l=0):adr false l=if Lib.hasPrefix l [45,45]=true then acL acN l+adr false (l.drop (acL acN l))else 0:=by
 have hp:Lib.hasPrefix l [45,45]=true↔∃r,l=45::45::r:=by
  unfold Lib.hasPrefix
  match l with
  |[]=>simp
  |[b]=>simp
  |b::c::r=>
   simp only[adt,YD,beq_iff_eq,Bool.and_true]
   constructor
   · rintro⟨rfl,rfl⟩;exact⟨r,rfl⟩
   rintro⟨r',e⟩;simp at e;exact⟨e.1.symm,e.2.1.symm⟩
 split
 · rename_i hq;obtain⟨r,rfl⟩:=hp.1 hq;rw[<-BM]
   conv=>lhs;unfold adr
   conv=>rhs;unfold adr
   rw[if_pos ⟨rfl,rfl⟩,if_pos (by decide)]
 rename_i hq
 match l,h,hq,hp with
 |[],_,_,_=>rfl
 |b::r,h,hq,hp=>
  have hs:¬acM b=true:=by intro hb;simp[acL,hb]at h
  unfold adr;rw[if_neg,if_neg hs];rintro⟨q1,q2⟩;have:b=45:=UInt8.toNat_inj.1 (by rw[q1];rfl);subst this
  cases r with
  |nil=>simp at q2
  |cons c r=>simp at q2;subst q2;exact hq (hp.2 ⟨r,rfl⟩)
theorem Nf(l:Y6)(h:Lib.hasPrefix l [45,45]=true):1<=acL acN l:=by
 match l,h with
 |[],h=>simp[Lib.hasPrefix]at h
 |b::r,h=>
  have:b=45:=by
   unfold Lib.hasPrefix at h;simp only[adt,YD,beq_iff_eq]at h;exact h.1.symm
  subst this
  have:acN 45=true:=by decide
  simp[acL,this]
theorem M7(w:Y4)(B:Nat)(s:ByteArray)(k st:Nat)(h:Rd w B s k st):
   aaT Zc 52 #[Ym (Y2 ⟨B,0,Y1⟩)] w fun e w'=>e=Yl (.bool (decide (k+adu (s.data.toList.drop k)<s.size)))/\Rd w' B s (k+adu (s.data.toList.drop k)) st/\w.grownBy w' (Y2 B):=by
 have hsm:=h.small;have H:=hd h;clear h;go_enter Tryz.func52,Tryz.ntmps52;go_wp2;go_loopw [4] (fun _ wr=>∃j:Nat,Yf (Rd wr B s j st)/\Yf (w.grownBy wr (Y2 B))/\Yf (k+adu (s.data.toList.drop k)=j+adr false (s.data.toList.drop j))) (fun _ wr=>s.size-sV wr B)
 case atStart=>exact⟨k,H,grownBy_refl _ _,rfl⟩
 case round=>
  obtain⟨j,HR,HG,HK⟩:=hrel;go_wp2_with fail;refine(wS wr B s j st HR.o).mono ?_;rintro e w1 ⟨u,rfl, -,h1,g1⟩;have HE:=hd (wu (s.data.toList.drop j));have HST:=hd (mI acM (s.data.toList.drop j));rw[Yx]at HE HST
  have hn:0<=acL acM (s.data.toList.drop j):=by omega
  generalize acL acM (s.data.toList.drop j)=n at*;have G1:=hd (aI HG.o g1);clear g1;obtain⟨⟨b0,b1,b2⟩,b3,b4,b5⟩:=h1.blk.three;have hle1:=h1.le;have HSK:=hd (Md (s.data.toList.drop (j+n)) HST.o);have HX:=hd (Lib.extract_to_end s (j+n))
  cases hpx:Lib.hasPrefix (s.data.toList.drop (j+n)) [45,45]
  · go_wp2
    go_region_with (go_at_call 112;refine(Tryz.strings_HasPrefix _ _ _).mono ?_;rintro e w' ⟨rfl,rfl⟩;rw[HX.o])
    all_goals
     go_wp2
     go_region
     all_goals go_wp2
     all_goals go_ret
     all_goals
      have hk:k+adu (s.data.toList.drop k)=j+n:=by
       have e1:=HK.o;have e2:=HE.o;have e3:=HSK.o;rw[hpx]at e3;simp only[YS,if_false]at e3;omega
      rw[hk];exact⟨iW (by rw[Zd];simp;omega),h1.drew.drew,grownBy_drew (grownBy_drew G1.o)⟩
  have hd2:=Nf _ hpx;go_wp2
  go_region_with (go_at_call 112;refine(Tryz.strings_HasPrefix _ _ _).mono ?_;rintro e w' ⟨rfl,rfl⟩;rw[HX.o])
  all_goals
   go_wp2_with fail;refine(zn _ B s (j+n) st h1.drew).mono ?_;rintro e w2 ⟨u2,rfl, -,h2,g2⟩;go_wp2;refine⟨⟨j+n+acL acN (s.data.toList.drop (j+n)),h2,aI (grownBy_drew G1.o) g2,?_⟩,?_⟩
   · have e1:=HK.o;have e2:=HE.o;have e3:=HSK.o;rw[hpx,Yx]at e3;simp only[if_true]at e3;show _=_;omega
   have hle2:=h2.le;rw[h2.sV,HR.o.sV];omega
theorem MC(k:Nat)(h:k<27)(w:Y4):(adv 383 (.agg (iB Y7)) (Yg Yh (k:Int))).run Zc w=.ok (Yi ⟨(Lx.keys.getD k []).toArray⟩) w:=by
 have hk:Y7[k]? =Y2 (Lx.keys.getD k []):=by
  rw[adw,YP (show k<Lx.keys.length from h)];rfl
 have hc:(iB Y7)[k]? =Y2 (Yi ⟨(Lx.keys.getD k []).toArray⟩):=by
  unfold iB;simp only[adx,ady,hk,adz]
 generalize iB Y7=cs at*;simp[adv,run_underlying adA,asIntOf,part,adB,adC,go_sem,h,hc]
theorem IG(k:Nat)(h:k<16)(w:Y4):(adv 338 (.agg (iB nK)) (Yg Yh (k:Int))).run Zc w=.ok (Yi ⟨(nK.getD k []).toArray⟩) w:=by
 have hk:nK[k]? =Y2 (nK.getD k []):=by
  rw[adw,YP (show k<nK.length from h)];rfl
 have hc:(iB nK)[k]? =Y2 (Yi ⟨(nK.getD k []).toArray⟩):=by
  unfold iB;simp only[adx,ady,hk,adz]
 generalize iB nK=cs at*;simp[adv,run_underlying adD,asIntOf,part,adB,adC,go_sem,h,hc]
theorem Ab(t:ByteArray)(w:Y4)(he:TJ w):aaT Zc 232 #[.string t] w fun e w'=>e=Yl (.bool (adE Y7 t.data.toList))/\w'=w:=by
 obtain⟨ty,fr,hg⟩:=he.kws;have HG:=hd hg;go_enter Tryz.func232,Tryz.ntmps232;go_wp2_with(refine wpList_load_row rfl 383 _ rfl 4 rfl ty _ fr _ HG.o adA rfl (by kernel_rfl) ?_)
 go_loop [6] (fun i=>∃k:Nat,k<=27/\i=Yg Yh k/\Yf (adE Y7 t.data.toList=adE (Lx.keys.drop k) t.data.toList)) (fun i=>27-(intOf i).toNat)
 case atStart=>exact⟨0,by omega,rfl,rfl⟩
 case round=>
  obtain⟨k,hk,rfl,HK⟩:=hrel;by_cases hlt:k<27
  · have hix:=MC k hlt;have HS:=hd (F8 Y7 t.data.toList k hlt);obtain⟨u,hu⟩:∃u:ByteArray,u=⟨(Lx.keys.getD k []).toArray⟩:=⟨_,rfl⟩
    have HU:Yf (u.data.toList=Lx.keys.getD k []):=by rw[hu];show _=_;simp
    rw[<-hu]at hix;clear hu;go_wp2
    · go_ret
      have q:(u.toList==t.toList)=true:=by assumption
      exact⟨iW (by rw[HK.o,HS.o,<-HU.o,<-Lib.toList_data,<-Lib.toList_data,q];simp),rfl⟩
    go_round
    case rel=>
     have q:(u.toList==t.toList)=false:=by assumption
     exact⟨k+1,by omega,by go_num,by show _=_;rw[HK.o,HS.o,<-HU.o];rw[Lib.toList_data,Lib.toList_data]at q;rw[q];simp⟩
    case measure=>simp[intOf];omega
  go_wp2;go_ret;exact⟨iW (by rw[HK.o,YN (by show 27<=k;omega)];rfl),rfl⟩
theorem Fs(t:ByteArray)(w:Y4)(hm:t.size<=100000):aaT Zc 230 #[.string t,Yi ⟨#[57,50,50,51,51,55,50,48,51,54,56,53,52,55,55,53,56,48,56]⟩] w fun e w'=>e=Yl (.bool (adF t.data.toList))/\w'=w:=by
 have HS:=hd (Lib.size_eq t);have HTL:=hd (Lib.toList_data t);by_cases h19:t.size=19
 · have q:((t.size:Int) !=19)=false:=by rw[h19];rfl
   have HO:Yf (adF t.data.toList=(!Op.bytesLess t.data.toList Lx.top&& !(t.data.toList==Lx.top))):=by
    show _=_;unfold adF;rw[<-HS.o,h19];simp
   have H19:=hd h19;go_enter adG,adH;go_wp2;go_ret;refine⟨iW ?_,rfl⟩;rw[HO.o,<-HTL.o]
   rfl
 have q:((t.size:Int) !=19)=true:=by rw[bne_iff_ne];omega
 have HO:Yf (adF t.data.toList=decide (19<t.size)):=by
  show _=_;unfold adF;rw[<-HS.o];simp[h19]
 go_enter adG,adH;go_wp2;go_ret;refine⟨iW ?_,rfl⟩;rw[HO.o,Zd];simp;omega
def Told(r:Except Nat (Nat×Y6×Nat))(w:Y4)(B:Nat)(s:ByteArray)(k st:Nat)(out:Nat->ByteArray->Y3)(e:aaY)(w':Y4):Prop:=
 w.grownBy w' (Y2 B)/\match r with
 |.ok (c,t,n)=>∃tv:ByteArray,tv.data.toList=t/\e=Yl (out c tv)/\Rd w' B s (k+n) st
 |.error c=>e=.panicked [{v:=Yo 74 (Yj #[Yg Yh (st:Int),Yg Yh (c:Int)]),recovered:=false}]
theorem rU:∀(l:Y6) (j:Nat) (b:UInt8),(l.take (acL acO l))[j]? =Y2 b->b.toNat<128
 |[],j,b,h=>by simp at h
 |a::r,j,b,h=>by
  by_cases ha:acO a=true
  · simp only[acL,ha,if_true,adI]at h
    cases j with
    |zero=>
     simp at h;subst h;unfold acO ZL acP at ha;simp at ha;omega
    |succ j=>exact rU r j b (by simpa using h)
  simp[acL,ha]at h
theorem Kw(l:Y6):Lib.toUpperA l=l.map adJ:=by
 unfold Lib.toUpperA
 congr 1
 funext b
 unfold Lib.upperB adJ Lib.isLowerB;by_cases h:97<=b.toNat/\b.toNat<=122
 · rw[if_pos h,if_pos];simp[UInt8.le_iff_toNat_le];exact h
 rw[if_neg h,if_neg];simp[UInt8.le_iff_toNat_le];omega
theorem Lc(l:Y6):Lib.toLowerA l=l.map Lx.zL:=by
 unfold Lib.toLowerA
 congr 1
 funext b
 unfold Lib.lowerB Lx.zL Lib.isUpperB;by_cases h:65<=b.toNat/\b.toNat<=90
 · rw[if_pos h,if_pos];simp[UInt8.le_iff_toNat_le];exact h
 rw[if_neg h,if_neg];simp[UInt8.le_iff_toNat_le];omega
def BP(c:Nat)(t:ByteArray):Y3:=Yn #[Yg Yh (c:Int),.string t]
def uF(_:Nat)(t:ByteArray):Y3:=.string t
theorem P9(w:Y4)(B:Nat)(s:ByteArray)(k st:Nat)(h:Rd w B s k st)(hk:k<s.size)(hl:acP s[k]=true):
   aaT Zc 176 #[Ym (Y2 ⟨B,0,Y1⟩)] w (Told (adK (s.data.toList.drop k)) w B s k st BP):=by
 have hsm:=h.small;have HL:=hd (Gn s k hk hl);have HA:=hd (rU (s.data.toList.drop k));go_enter Tryz.func176,Tryz.ntmps176;go_wp2_with fail;refine(y7 w B s k st h).mono ?_;rintro e w1 ⟨u,rfl,hu,h1,g1⟩;have HU:=hd hu
 have hus:u.size<=2000:=by
  rw[Lib.size_eq,hu];simp;omega
 clear hu;go_wp2_with fail;refine(Tryz.strings_ToUpper_ascii u w1 (by omega) (by rw[HU.o];exact HA.o)).mono ?_;rintro e w2 ⟨rfl,hb2⟩;rw[Kw];obtain⟨up,hup⟩:∃up:ByteArray,up=⟨(u.data.toList.map adJ).toArray⟩:=⟨_,rfl⟩;rw[<-hup]
 have HUP:Yf (up.data.toList=u.data.toList.map adJ):=by rw[hup];show _=_;simp
 clear hup;have h2:=h1.below hb2;have G2:=hd (aI g1 (Y9 hb2));clear hb2;go_wp2_with fail;refine(Ab up w2 h2.env.weak).mono ?_;rintro e w' ⟨rfl,rfl⟩
 cases hkey:adE Y7 up.data.toList
 · go_wp2_with fail;refine(Tryz.strings_ToLower_ascii u _ (by omega) (by rw[HU.o];exact HA.o)).mono ?_;rintro e w3 ⟨rfl,hb3⟩;rw[Lc];go_wp2
   go_ret2
   refine⟨aI G2.o (Y9 hb3),?_⟩;rw[HL.o,<-HU.o,<-HUP.o,hkey];exact⟨⟨(u.data.toList.map Lx.zL).toArray⟩,by simp,rfl,h2.below hb3⟩
 go_wp2
 go_ret2
 refine⟨G2.o,?_⟩;rw[HL.o,<-HU.o,<-HUP.o,hkey];exact⟨up,rfl,rfl,h2⟩
theorem KP{p:Int->Bool}{q:UInt8->Bool}(hf:Fits p q)(h1:p (-1)=false)(h2:p (-2)=false)(hhigh:∀b:UInt8,128<=b.toNat->q b=false)(s:ByteArray)(k:Nat):p (bQ s k).1=decide (0<acL q (s.data.toList.drop k)):=by
 unfold bQ;by_cases hk:k<s.size
 · rw[if_pos hk];by_cases hc:acI (s.data.toList.drop k)=0
   · rw[if_pos hc];have:=(rY s k hk hc).2;rw[DF q s k hk,if_neg (by rw[hhigh _ this];simp)];simpa using h2
   rw[if_neg hc];simp only
   cases hp:p ((Utf8.decode s k).1:Int)
   · rw[hf.no s k hk hp];simp
   have:=hf.yes s k hk hp;rw[this.1];simp;omega
 rw[if_neg hk,rQ q s k (by omega)];simpa using h1
theorem JA:∀l:Y6,acL acO l=acL ZL l+acL acO (l.drop (acL ZL l))
 |[]=>by simp[acL]
 |b::r=>by
  have ih:=JA r;by_cases hb:ZL b=true
  · have hw:acO b=true:=by simp[acO,hb]
    simp only[acL,hb,hw,if_true,Yr];omega
  simp[acL,hb]
theorem yM:∀l:Y6,l≠[]->adL l=if l.dropWhile (· ==48)=[]then[48]else l.dropWhile (· ==48)
 |[],h=>absurd rfl h
 |[b],_=>by
  by_cases hb:b=48
  · subst hb;rfl
  have hq:(b==48)=false:=by simpa using hb
  simp[adL,adM,hq]
 |b::c::r,_=>by
  have ih:=yM (c::r) (by simp);unfold adL;by_cases hb:b=48
  · subst hb
    have e:adM (fun x=>x==48) ((48:UInt8)::c::r)=adM (fun x=>x==48) (c::r):=by rw[List.dropWhile_cons];rfl
    rw[if_pos (show(48:UInt8).toNat=48 from rfl),ih,e]
  have:¬b.toNat=48:=fun e=>hb (UInt8.toNat_inj.1 (by rw[e];rfl))
  rw[if_neg this]
  have hq:(b==48)=false:=by simpa using hb
  simp[adM,hq]
theorem kE(w:Y4)(B:Nat)(s:ByteArray)(k st:Nat)(h:Rd w B s k st)(hk:k<s.size)(hl:acP s[k]=false)(hdg:ZL s[k]=true):
   aaT Zc 174 #[Ym (Y2 ⟨B,0,Y1⟩)] w (Told (adK (s.data.toList.drop k)) w B s k st uF):=by
 have hsm:=h.small;have HL:=hd (zC s k hk hl hdg)
 have V9:Yf (0<acL ZL (s.data.toList.drop k)):=by show 0<_;rw[drop_at s k hk];exact Lx.uf hdg
 have HSub:=hd (JA (s.data.toList.drop k));rw[Yx]at HSub;go_enter Tryz.func174,Tryz.ntmps174;go_wp2_with fail;refine(wD w B s k st h).mono ?_;rintro e w1 ⟨u,rfl,hu,h1,g1⟩;have hcl:=Lx.jI ZL (s.data.toList.drop k);rw[Yv,show s.data.toList.length=s.size from by simp]at hcl;generalize hgn:acL ZL (s.data.toList.drop k)=n at*;have HGN:=hd hgn;have HU:=hd hu
 have hus:u.size=n:=by
  rw[Lib.size_eq,hu];simp;omega
 have hus2:u.size<=2000:=by omega
 have HUS:=hd hus;go_wp2_with fail;refine(sO w1 B s (k+n) st h1).mono ?_;rintro e w2 ⟨rfl,hb2⟩;have h2:=h1.below hb2;have G2:=hd (aI g1 (Y9 hb2));have HPk:=hd (KP De (by decide) (by decide) (fun b hb=>by unfold acO ZL acP;simp;omega) s (k+n));generalize bQ s (k+n)=d at*;obtain⟨c,m⟩:=d;simp only at HPk⊢;go_wp2_with fail;refine(kS _ _).mono ?_;rintro e w' ⟨rfl,rfl⟩;rw[HPk.o];by_cases hw:0<acL acO (s.data.toList.drop (k+n))
 · go_wp2_with fail;refine(kz _ B s (k+n) st 2 h2).mono ?_;rintro e w3 ⟨rfl,rfl⟩;refine⟨rfl,G2.o,?_⟩;rw[HL.o,if_pos (by rw[HSub.o];omega)]
   rfl
 have HL2:Yf (adK (s.data.toList.drop k)=if adF (adL u.data.toList)then .error 3 else .ok (16,adL u.data.toList,n)):=by rw[HL.o,if_neg (by rw[HSub.o];omega),HU.o];rfl
 go_wp2_with fail;refine(Tryz.strings_TrimLeft_one u 48 (by decide) _).mono ?_;rintro e w3 ⟨rfl,rfl⟩;obtain⟨t,htt⟩:∃t:ByteArray,t=⟨(Lib.trimLeftB u.data.toList 48).toArray⟩:=⟨_,rfl⟩;rw[<-htt]
 have HTT:Yf (t.data.toList=u.data.toList.dropWhile (· ==48)):=by rw[htt];show _=_;simp[Lib.trimLeftB]
 clear htt
 have hts:t.size<=2000:=by
  rw[Lib.size_eq,HTT.o];have:=(List.dropWhile_suffix (l:=u.data.toList) (· ==48)).length_le;rw[<-Lib.size_eq]at this;omega
 have HLT:=hd (yM u.data.toList (by intro e;have:=HUS.o;rw[Lib.size_eq,e]at this;have:=V9.o;simp at*;omega));rw[<-HTT.o]at HLT
 cases hem:t.toList.isEmpty
 · have hne:t.data.toList≠[]:=by intro e;rw[Lib.toList_data,e]at hem;cases hem
   have HNE:=hd hne;clear hne;go_wp2_with fail;refine(Fs t _ (by omega)).mono ?_;rintro e w3 ⟨rfl,rfl⟩
   cases hov:adF t.data.toList
   · go_wp2;go_ret;refine⟨G2.o,?_⟩;rw[HL2.o,HLT.o,if_neg HNE.o,hov];exact⟨t,rfl,rfl,h2⟩
   go_wp2_with fail;refine(kz _ B s (k+n) st 3 h2).mono ?_;rintro e w3 ⟨rfl,rfl⟩;refine⟨rfl,G2.o,?_⟩;rw[HL2.o,HLT.o,if_neg HNE.o,hov]
   rfl
 have he:t.data.toList=[]:=by rw[Lib.toList_data]at hem;simpa using hem
 have HE:=hd he;clear he;go_wp2;go_ret;refine⟨G2.o,?_⟩;rw[HL2.o,HLT.o,if_pos HE.o];exact⟨⟨#[48]⟩,rfl,rfl,h2⟩
def eU:List Y6->Y6->Option Y6
 |[],_=>Y1
 |a::r,l=>if Lib.hasPrefix l a then Y2 a else eU r l
theorem jT(a:Y6)(ss:List Y6)(x:Y6):adE (a::ss) x=true↔a=x\/adE ss x=true:=by
 show(a==x||adE ss x)=true↔_;simp
theorem tJ(l:Y6):∀ss:List Y6,(∀x∈ss,x.length=2)->∀rest,eU (ss++rest) l=if 2<=l.length/\adE ss (l.take 2)=true then Y2 (l.take 2)else eU rest l
 |[],_,rest=>by simp[adE]
 |a::ss,h,rest=>by
  have ih:=tJ l ss (fun x hx=>h x (by simp[hx])) rest;have ha:a.length=2:=h a (by simp);have hp:=Lib.hasPrefix_of_take l a;rw[ha]at hp;show(if Lib.hasPrefix l a=true then Y2 a else eU (ss++rest) l)=_;by_cases hc:2<=l.length/\l.take 2=a
  · rw[if_pos (by rw[<-hp];simp[hc.1,hc.2]),if_pos ⟨hc.1,(jT _ _ _).2 (.inl hc.2.symm)⟩,hc.2]
  rw[if_neg (by rw[<-hp];simpa using fun h1 h2=>hc ⟨h1,h2⟩),ih];by_cases hd:2<=l.length/\adE ss (l.take 2)=true
  · rw[if_pos hd,if_pos ⟨hd.1,(jT _ _ _).2 (.inr hd.2)⟩]
  rw[if_neg hd,if_neg];rintro⟨q1,q2⟩;rcases(jT _ _ _).1 q2 with q|q
  · exact hc ⟨q1,q.symm⟩
  exact hd ⟨q1,q⟩
theorem sG(l:Y6)(hl:l≠[]):∀ss:List Y6,(∀x∈ss,x.length=1)->eU ss l=if adE ss (l.take 1)=true then Y2 (l.take 1)else Y1
 |[],_=>by simp[adE,eU]
 |a::ss,h=>by
  have ih:=sG l hl ss (fun x hx=>h x (by simp[hx]));have ha:a.length=1:=h a (by simp);have hp:=Lib.hasPrefix_of_take l a;rw[ha]at hp;have h1:1<=l.length:=List.length_pos_iff.2 hl;show(if Lib.hasPrefix l a=true then Y2 a else eU ss l)=_;by_cases hc:l.take 1=a
  · rw[if_pos (by rw[<-hp];simp[h1,hc]),if_pos ((jT _ _ _).2 (.inl hc.symm)),hc]
  rw[if_neg (by rw[<-hp];simpa using fun _ h2=>hc h2),ih];by_cases hd:adE ss (l.take 1)=true
  · rw[if_pos hd,if_pos ((jT _ _ _).2 (.inr hd))]
  rw[if_neg hd,if_neg];intro q2;rcases(jT _ _ _).1 q2 with q|q
  · exact hc q.symm
  exact hd q
theorem BJ(s:ByteArray)(k:Nat)(hk:k<s.size)(hl:acP s[k]=false)(hdg:ZL s[k]=false)(hq:¬(s[k].toNat=39\/s[k].toNat=34)):
   adK (s.data.toList.drop k)=match eU nK (s.data.toList.drop k)with|some x=> .ok (51,x,x.length)|none=> .error 2:=by
 have e:=drop_at s k hk
 have el:(s.data.toList.drop k).length=s.size-k:=by simp
 rw[Mc s k hk hl hdg hq];unfold nK;rw[tJ _ Lx.oq (by decide) adN,sG _ (by rw[e];simp) adN (by decide),el];by_cases h1:2<=s.size-k/\adE Lx.oq ((s.data.toList.drop k).take 2)=true
 · rw[if_pos h1,if_pos h1];simp only;rw[adO,el,adP h1.1]
 rw[if_neg h1,if_neg h1];by_cases h2:adE adN ((s.data.toList.drop k).take 1)=true
 · rw[if_pos h2,if_pos h2];simp only;rw[adO,el,adP (by omega)]
 rw[if_neg h2,if_neg h2]
theorem EP(ss:List Y6)(l:Y6)(k:Nat)(h:k<ss.length):eU (ss.drop k) l=if Lib.hasPrefix l (ss.getD k [])then Y2 (ss.getD k [])else eU (ss.drop (k+1)) l:=by
 rw[YM h,adw,YP h]
 rfl
theorem hasPrefix_le{l p:Y6}(h:Lib.hasPrefix l p=true):p.length<=l.length:=by
 unfold Lib.hasPrefix at h;exact(List.isPrefixOf_iff_prefix.1 h).length_le
theorem OB(w:Y4)(B:Nat)(s:ByteArray)(k st:Nat)(h:Rd w B s k st)(hk:k<s.size)(hl:acP s[k]=false)(hdg:ZL s[k]=false)(hq:¬(s[k].toNat=39\/s[k].toNat=34)):
   aaT Zc 179 #[Ym (Y2 ⟨B,0,Y1⟩)] w (Told (adK (s.data.toList.drop k)) w B s k st uF):=by
 have hsm:=h.small;have HSp:=hd (BJ s k hk hl hdg hq);obtain⟨ty,fr,hg⟩:=h.env.sgs;have HG:=hd (hg);obtain⟨⟨b0,b1,b2⟩,b3,b4,b5⟩:=h.blk.three;have HX:=hd (Lib.extract_to_end s k);go_enter Tryz.func179,Tryz.ntmps179;go_wp2
 go_region
 all_goals go_wp2_with(refine wpList_load_row rfl 338 _ rfl 1 rfl ty _ fr _ HG.o adD rfl (by kernel_rfl) ?_)
 go_loop [16] (fun i=>∃j:Nat,j<=16/\i=Yg Yh j/\Yf (eU nK (s.data.toList.drop k)=eU (nK.drop j) (s.data.toList.drop k))) (fun i=>16-(intOf i).toNat)
 case atStart=>exact⟨0,by omega,rfl,rfl⟩
 case round=>
  obtain⟨j,hj,rfl,HK⟩:=hrel;by_cases hlt:j<16
  · have hix:=IG j hlt;have HS:=hd (EP nK (s.data.toList.drop k) j hlt);obtain⟨u,hu⟩:∃u:ByteArray,u=⟨(nK.getD j []).toArray⟩:=⟨_,rfl⟩
    have HU:Yf (u.data.toList=nK.getD j []):=by rw[hu];show _=_;simp
    rw[<-hu]at hix;clear hu;rw[<-HU.o]at HS;go_wp2_with fail;refine(Tryz.strings_HasPrefix _ _ _).mono ?_;rintro e w' ⟨rfl,rfl⟩;rw[HX.o]
    cases hpx:Lib.hasPrefix (s.data.toList.drop k) u.data.toList
    · go_wp2
      go_round
      case rel=>exact⟨j+1,by omega,by go_num,by show _=_;rw[HK.o,HS.o,hpx];rfl⟩
      case measure=>simp[intOf];omega
    have hul:u.size<=s.size-k:=by
     have:=hasPrefix_le hpx;rw[<-Lib.size_eq]at this;simpa using this
    go_wp2;go_ret;refine⟨aI (grownBy_drew (grownBy_refl _ _)) (qI _ B 1 _),?_⟩;rw[HSp.o,HK.o,HS.o,hpx];refine⟨u,rfl,rfl,?_⟩;have:=h.drew.set1 (k+u.size) (by omega);rw[<-Lib.size_eq];exact this
  go_wp2_with fail;refine(kz _ B s k st 2 h.drew).mono ?_;rintro e w3 ⟨rfl,rfl⟩;refine⟨rfl,grownBy_drew (grownBy_refl _ _),?_⟩;rw[HSp.o,HK.o,YN (by show 16<=j;omega)]
  rfl
theorem KI(l x:Y6)(n i lo hi:Nat)(hi':i<n)(hn:n<=l.length):adQ (l.take n++x) i lo hi=adQ l i lo hi:=by
 unfold adQ;rw[List.getElem?_append_left (by simp;omega),List.getElem?_take_of_lt hi']
theorem IY(l x:Y6)(h0:acI l≠0):acI (l.take (acI l)++x)=acI l:=by
 have hle:=acH l;obtain⟨n,hn⟩:∃n,acI l=n:=⟨_,rfl⟩;rw[hn]at h0 hle⊢
 match l,hn,hle with
 |[],hn,hle=>simp[acI]at hn;omega
 |b::r,hn,hle=>
  obtain⟨n',rfl⟩:∃n',n=n'+1:=⟨n-1,by omega⟩;have ft:=KI (b::r) x (n'+1)
  have e:(b::r).take (n'+1)++x=b::(r.take n'++x):=by simp
  simp only[e]at ft;rw[e];simp only[acI]at hn⊢;by_cases c1:b.toNat<128
  · rw[if_pos c1]at hn⊢;exact hn
  rw[if_neg c1]at hn⊢;by_cases c2:(194<=b.toNat/\b.toNat<=223)/\adQ (b::r) 1 128 191=true
  · rw[if_pos c2]at hn;rw[if_pos ⟨c2.1,by rw[ft 1 128 191 (by omega) hle];exact c2.2⟩];exact hn
  rw[if_neg c2]at hn;by_cases c3:(224<=b.toNat/\b.toNat<=239)/\adQ (b::r) 1 (acK b.toNat) (adR b.toNat)=true/\adQ (b::r) 2 128 191=true
  · rw[if_pos c3]at hn;rw[if_neg (by omega),if_pos ⟨c3.1,by rw[ft 1 _ _ (by omega) hle];exact c3.2.1,by rw[ft 2 _ _ (by omega) hle];exact c3.2.2⟩];exact hn
  rw[if_neg c3]at hn;by_cases c4:(240<=b.toNat/\b.toNat<=244)/\adQ (b::r) 1 (acK b.toNat) (adR b.toNat)=true/\adQ (b::r) 2 128 191=true/\adQ (b::r) 3 128 191=true
  · rw[if_pos c4]at hn;rw[if_neg (by omega),if_neg (by omega),if_pos ⟨c4.1,by rw[ft 1 _ _ (by omega) hle];exact c4.2.1,by rw[ft 2 _ _ (by omega) hle];exact c4.2.2.1,by rw[ft 3 _ _ (by omega) hle];exact c4.2.2.2⟩];exact hn
  rw[if_neg c4]at hn;omega
theorem xS(l x:Y6)(h0:acI l≠0)(hb:∀b r,l=b::r->b.toNat≠0):adS (l.take (acI l)++x)=adS x:=by
 have hle:=acH l;have hc:=IY l x h0;obtain⟨n,hn⟩:∃n,acI l=n:=⟨_,rfl⟩;rw[hn]at h0 hle hc⊢
 match l,hb,hle,hc with
 |[],hb,hle,hc=>simp at hle;omega
 |b::r,hb,hle,hc=>
  obtain⟨n',rfl⟩:∃n',n=n'+1:=⟨n-1,by omega⟩
  have e:(b::r).take (n'+1)++x=b::(r.take n'++x):=by simp
  rw[e]at hc⊢;rw[Lx.pz,hc,if_neg (by have:=hb b r rfl;omega)]
  congr 1
  simp only[Yr]
  have hl:(r.take n').length=n':=by simp at hle⊢;omega
  rw[List.drop_append,hl,adT,ads,YN (by omega),List.nil_append]
theorem pR(m:UInt8)(r x:Y6)(n lo hi:Nat)(hm:m.toNat<lo)(h:adU m r=Y2 (x,n)):adQ x 0 lo hi=adQ r 0 lo hi/\(adQ r 0 lo hi=true->∃c r1 x1 n1,r=c::r1/\x=c::x1/\adU m r1=Y2 (x1,n1)):=by
 match r,h with
 |[],h=>simp[adU]at h
 |c::r1,h=>
  by_cases hc:c=m
  · subst hc
    have fr:adQ (c::r1) 0 lo hi=false:=by simp[adQ];omega
    rw[fr];refine⟨?_,by simp⟩
    match r1,h with
    |[],h=>simp[adU]at h;rw[h.1];rfl
    |d::r2,h=>
     simp only[adU,if_true]at h
     split at h
     · simp only[Yt,Prod.exists,Prod.mk.injEq]at h;obtain⟨x',n',_,rfl,_⟩:=h;simp[adQ];omega
     simp at h;rw[h.1];rfl
  rw[qM m c r1 hc]at h;simp only[Yt,Prod.exists,Prod.mk.injEq]at h;obtain⟨x1,n1,h1,rfl,_⟩:=h;exact⟨rfl,fun _=>⟨c,r1,x1,n1,rfl,rfl,h1⟩⟩
theorem dE(b:UInt8)(r:Y6)(i lo hi:Nat):adQ (b::r) (i+1) lo hi=adQ r i lo hi:=by
 unfold adQ;rw[adV]
theorem LC(m b:UInt8)(r x:Y6)(n:Nat)(hm:m.toNat<128)(h:adU m r=Y2 (x,n)):acI (b::x)=acI (b::r):=by
 have lo:∀b,128<=acK b:=by
  intro b;unfold acK
  repeat' split
  all_goals omega
 have e1:=(pR m r x n 128 191 (by omega) h).1;have e2:=pR m r x n (acK b.toNat) (adR b.toNat) (by have:=lo b.toNat;omega) h;simp only[acI,dE b x 0,dE b r 0,dE b x 1,dE b r 1,dE b x 2,dE b r 2,e1,e2.1]
 cases hn:adQ r 0 (acK b.toNat) (adR b.toNat)
 · simp
 obtain⟨c,r1,x1,n1,rfl,rfl,h1⟩:=e2.2 hn;have e3:=pR m r1 x1 n1 128 191 (by omega) h1;simp only[dE c x1 0,dE c r1 0,dE c x1 1,dE c r1 1,e3.1]
 cases hn2:adQ r1 0 128 191
 · simp
 obtain⟨d,r2,x2,n2,rfl,rfl,h2⟩:=e3.2 hn2;have e4:=pR m r2 x2 n2 128 191 (by omega) h2;simp only[dE d x2 0,dE d r2 0,e4.1]
theorem Ng(m:UInt8)(l t:Y6)(n:Nat)(hm:m.toNat<128)(hm0:m.toNat≠0)(hl:l≠[])(h:adU m l=Y2 (t,n))(hb:acI l=0\/l.head? =Y2 0):adS t=false:=by
 match l,hl,h,hb with
 |b::r,_,h,hb=>
  have hbm:b≠m:=by
   rintro rfl;rcases hb with hb|hb
   · simp[acI,hm]at hb
   simp at hb;subst hb;simp at hm0
  rw[qM m b r hbm]at h;simp only[Yt,Prod.exists,Prod.mk.injEq]at h;obtain⟨x,n',h1,rfl,_⟩:=h;rw[Lx.pz,if_pos];rcases hb with hb|hb
  · left;rw[LC m b r x n' hm h1];exact hb
  right;simp at hb;subst hb;rfl
theorem dL.others{m:UInt8}:∀(n:Nat) {l:Y6} {k:Nat} {acc:Y6},dL m l k acc->k+n<=l.length->(∀j,j<n->(l.drop k)[j]? ≠Y2 m)->dL m l (k+n) (acc++(l.drop k).take n)
 |0,l,k,acc,h,_,_=>by simpa using h
 |n+1,l,k,acc,h,hk,hne=>by
  have e:l.drop k=l[k]'(by omega)::l.drop (k+1):=YM (by omega);have h1:=h.other e (by have:=hne 0 (by omega);rw[e,List.getElem?_cons_zero]at this;exact fun q=>this (by rw[q]));have h2:=dL.others n h1 (by omega) (fun j hj=>by have:=hne (j+1) (by omega);rw[e,adV]at this;exact this);rw[show k+1+n=k+(n+1)from by omega]at h2;rw[e,adI];simpa using h2
def jF(s:ByteArray)(k:Nat)(m:UInt8):Except Nat (Nat×Y6×Nat):=
 match adU m (s.data.toList.drop (k+1))with
 |some (t,n)=>if adS t=true then .ok (0,t,n+1)else .error 2
 |none=> .error 2
structure Eb(s:ByteArray)(k:Nat)(m:UInt8)(j:Nat)(acc:Y6):Prop where
 at_:dL m (s.data.toList.drop (k+1)) (j-(k+1)) acc
 ge:k+1<=j
 ok:∀x,adS (acc++x)=adS x
theorem Eb.dropped{m:UInt8}{acc:Y6}(h:Eb s k m j acc):(s.data.toList.drop (k+1)).drop (j-(k+1))=s.data.toList.drop j:=by
 rw[Yx];congr 1;have:=h.ge;omega
theorem Eb.len{m:UInt8}{acc:Y6}(h:Eb s k m j acc):acc.length<=j:=by
 have:=h.at_.2;omega
theorem Eb.start(s:ByteArray)(k:Nat)(m:UInt8):Eb s k m (k+1) []:=
 ⟨by rw[adT];exact dL.start _ _,by omega,fun x=>rfl⟩
theorem Eb.fail{m:UInt8}{acc:Y6}(h:Eb s k m j acc)(hm:m.toNat<128)(hm0:m.toNat≠0)
   (hb:s.data.toList.drop j=[]\/acI (s.data.toList.drop j)=0\/(s.data.toList.drop j).head? =Y2 0):jF s k m=.error 2:=by
 unfold jF;have hq:=h.at_.1;rw[h.dropped]at hq;by_cases he:s.data.toList.drop j=[]
 · rw[he]at hq;rw[hq];rfl
 cases hbe:adU m (s.data.toList.drop j)with
 |none=>rw[hbe]at hq;rw[hq];rfl
 |some y=>
  obtain⟨x,n⟩:=y;rw[hbe]at hq;rw[hq];simp only[adz];rw[h.ok,Ng m _ x n hm hm0 he hbe (hb.resolve_left he)]
  rfl
theorem Eb.done{m:UInt8}{acc r:Y6}(h:Eb s k m j acc)(e:s.data.toList.drop j=m::r)(hr:r.head? ≠Y2 m):jF s k m=.ok (0,acc,j-k+1):=by
 unfold jF;have hq:=h.at_.last (r:=r) (by rw[h.dropped,e]) hr;rw[hq];have hv:=h.ok [];rw[List.append_nil]at hv;simp only;rw[hv,if_pos (show adS []=true from rfl)];have:=h.ge
 congr 3;omega
theorem Eb.double{m:UInt8}{acc r:Y6}(h:Eb s k m j acc)(hm:m.toNat<128)(hm0:m.toNat≠0)(e:s.data.toList.drop j=m::m::r):Eb s k m (j+2) (acc++[m]):=by
 have hg:=h.ge;refine⟨?_,by omega,?_⟩
 · rw[show j+2-(k+1)=j-(k+1)+2 from by omega];exact h.at_.double (r:=r) (by rw[h.dropped,e])
 intro x;rw[laa,h.ok]
 have hc:acI [m]=1:=by simp[acI,hm]
 have:=xS [m] x (by rw[hc];simp) (by rintro b r' e';simp at e';rw[<-e'.1];exact hm0);rw[hc]at this;exact this
theorem Eb.char{m:UInt8}{acc:Y6}(h:Eb s k m j acc)(hj:j<s.size)(hm:m.toNat<128)(hc:acI (s.data.toList.drop j)≠0)(h0:s[j].toNat≠0)(hne:s[j]≠m):
   Eb s k m (j+acI (s.data.toList.drop j)) (acc++(s.data.toList.drop j).take (acI (s.data.toList.drop j))):=by
 have hg:=h.ge;have hle:=acH (s.data.toList.drop j)
 have hsz:s.data.toList.length=s.size:=by simp
 rw[Yv,hsz]at hle;have hgood:=mh s j hj hc;have e:=drop_at s j hj;refine⟨?_,by omega,?_⟩
 · rw[show j+acI (s.data.toList.drop j)-(k+1)=j-(k+1)+acI (s.data.toList.drop j)from by omega]
   have:=dL.others (acI (s.data.toList.drop j)) h.at_ (by rw[Yv,hsz];omega) (by
    intro i hi;rw[h.dropped,List.getElem?_drop,YP (by rw[hsz];omega)];rcases hgood.2.2 with⟨q,_,_⟩|⟨q,_,q2⟩
    · have:i=0:=by omega
      subst this
      exact fun q=>hne (Option.some.inj q)
    have hh:=(Be s j hj q2).2.2 i (by rw[hgood.1];exact hi);rw[dH s (j+i) (by omega)]at hh;intro e2;have:s[j+i]=m:=Option.some.inj e2;rw[this]at hh
    omega)
   rw[h.dropped]at this;exact this
 intro x;rw[laa,h.ok];exact xS _ x hc (by rintro b r' e';rw[e]at e';simp at e';rw[<-e'.1];exact h0)
theorem Rd.under(h:Rd w B s k st)(hb:aaS N w w')(hB:B<N):Rd w' B s k st:=by
 have hlow:=h.low
 have hk:∀i,i<12->w'.heap[i]? =w.heap[i]?:=fun i hi=>hb.block i (by omega)
 refine⟨h.blk.below hb hB,h.low,⟨⟨fun c hc=> ?_,fun i hi=> ?_⟩,?_,?_,YB h.env.room hb.size⟩,h.le,h.small⟩
 · rw[Y8 (w:=w) (hk _ (by simp))];exact h.env.tabs.1 c hc
 · rw[Y8 (w:=w) (hk _ (by simp)),Y8 (w:=w) (hk _ (by simp))];exact h.env.tabs.2 i hi
 · rw[hk _ (by simp)];exact h.env.kws
 rw[hk _ (by simp)];exact h.env.sgs
theorem lT{row:Option Nat}(h:w.grownBy w1 row)(hb:aaS N w1 w2)(hN:w.heap.size<=N):w.grownBy w2 row:=
 ⟨hb.os.trans h.os,hb.tape.trans h.tape,hb.output.trans h.output,YB h.size hb.size,fun k hk hne=>(hb.block k (by omega)).trans (h.block k hk hne)⟩
theorem mO{b:Nat}{bs:List Y3}(h:Lib.IsBuilderF T e N b bs w)(hg:w.grownBy w' (Y2 B))(hB:B<N):Lib.IsBuilderF T e N b bs w':=by
 have one:∀p,Lib.BuilderAtF T e N b p bs w->Lib.BuilderAtF T e N b p bs w':=by
  rintro p ⟨hNb,v,hb,hown,hne⟩;refine⟨hNb,v,?_,hown.kept hg ?_,hne⟩
  · rw[hg.block b (geA.1 hb).1 (by simp;omega)];exact hb
  cases hv:v.ownBlock with
  |none=>exact .inl rfl
  |some g=>right;have:=(hown.lt g hv).1;simp;omega
 exact h.elim (fun x=> .inl (one _ x)) (fun x=> .inr (one _ x))
theorem Fa(w:Y4)(T e:Y5):Lib.IsBuilderF T e w.heap.size w.heap.size [] (w.alloc (Yk #[.pointer Y1,Yp Y1 0 0] T)):=
 .inl ⟨nlr _,Yp Y1 0 0,heap_alloc_new w _,World.ownsRowF_nil _ _ _ _,by simp[Value.ownBlock]⟩
theorem MB(s:ByteArray)(k:Nat)(m:UInt8)(hm:m.toNat<128):(bQ s k).1=(m.toNat:Int)↔(s.data.toList.drop k).head? =Y2 m:=by
 unfold bQ;by_cases hk:k<s.size
 · rw[if_pos hk,drop_at s k hk,adW,<-drop_at s k hk];by_cases hc:acI (s.data.toList.drop k)=0
   · rw[if_pos hc];have:=(rY s k hk hc).2
     constructor
     · intro e;simp at e
     intro e;simp at e;rw[e]at this;omega
   rw[if_neg hc];rcases(mh s k hk hc).2.2 with⟨_,q2,q3⟩|⟨_,q2,q3⟩
   · simp only;rw[q2]
     constructor
     · intro e;congr 1;exact UInt8.toNat_inj.1 (by omega)
     intro e;simp at e;rw[e]
   simp only
   constructor
   · intro e;omega
   intro e;simp at e;rw[e]at q3;omega
 rw[if_neg hk,YN (by simp;have:s.data.size=s.size:=rfl;omega)];simp
theorem Pj(m:UInt8)(hm:m.toNat<128):Lib.byteCells [m]=Lib.runeCells (m.toNat:Int):=by
 rw[<-Lib.byteCells_encodeRune];unfold Lib.encodeRune;rw[Lib.encodeRuneZ_one (by omega) (by omega)];simp
theorem zD(w:Y4)(B:Nat)(s:ByteArray)(k st:Nat)(h:Rd w B s k st)(hk:k<s.size)(hm:s[k].toNat<128)(hm0:s[k].toNat≠0):
   aaT Zc 177 #[Ym (Y2 ⟨B,0,Y1⟩)] w (Told (jF s k s[k]) w B s k st uF):=by
 have hsm:=h.small
 have hpk:bQ s k=((s[k].toNat:Int),1):=by
  have hc:acI (s.data.toList.drop k)=1:=by rw[drop_at s k hk];simp[acI,hm]
  unfold bQ;rw[if_pos hk,hc,if_neg (by simp),decode_ascii s k hk hm]
 obtain⟨m,hmm⟩:∃m,m=s[k]:=⟨_,rfl⟩;rw[<-hmm]at hm hm0 hpk⊢;clear hmm;have HPK:=hd hpk;clear hpk;go_enter Tryz.func177,Tryz.ntmps177;go_wp2_with fail;refine(yu w B s k st h).mono ?_;rintro e w1 ⟨rfl,h1,g1⟩;rw[HPK.o]at h1⊢;simp only at h1⊢;have hBlt:B<w1.heap.size:=h1.blk.lt;have TF:w.heap.size<=w1.heap.size:=g1.size;have HG1:=hd g1;clear g1;go_wp2;go_loopw [5] (fun _ wr=>∃(j:Nat) (acc:Y6),Yf (Eb s k m j acc)/\Yf (Rd wr B s j st)/\Yf (w.grownBy wr (Y2 B))/\Yf (Lib.IsBuilderF 115 5 w1.heap.size w1.heap.size (Lib.byteCells acc) wr)/\w1.heap.size<=wr.heap.size) (fun _ wr=>s.size-sV wr B)
 case atStart=>exact⟨k+1,[],Eb.start _ _ _,h1.below ((Zh _ _).alloc (nlr _) _),aI HG1.o (Y9 ((Zh _ _).alloc (nlr _) _)),Fa _ _ _,by simp⟩
 case round=>
  obtain⟨j,acc,HQ,HR,HG,HBd,hsz⟩:=hrel;have hjle:=HR.o.le;have haccl:=HQ.o.len;go_wp2_with fail;refine(yu wr B s j st HR.o).mono ?_;rintro e w2 ⟨rfl,h2,g2⟩;have HG2:=hd (aI HG.o g2);have HB2:=hd (mO HBd.o g2 hBlt);have hsz2:w1.heap.size<=w2.heap.size:=YB hsz g2.size;clear g2;by_cases hjs:j<s.size
  · by_cases hc:acI (s.data.toList.drop j)=0
    · have hp:bQ s j=(-2,1):=by unfold bQ;rw[if_pos hjs,if_pos hc]
      have HF:=hd (HQ.o.fail hm hm0 (.inr (.inl hc)));rw[hp]at h2⊢;simp only at h2⊢;clear hp hc;go_wp2_with fail;refine(kz _ B s (j+1) st 2 h2).mono ?_;rintro e w3 ⟨rfl,rfl⟩;refine⟨rfl,HG2.o,?_⟩;rw[HF.o]
      rfl
    obtain⟨d1,d2,d3⟩:=mh s j hjs hc
    have hp:bQ s j=(((Utf8.decode s j).1:Int),acI (s.data.toList.drop j)):=by unfold bQ;rw[if_pos hjs,if_neg hc]
    by_cases h0:s[j].toNat=0
    · have hp0:bQ s j=(0,1):=by
       rw[hp];rcases d3 with⟨q1,q2,_⟩|⟨_,_,q3⟩
       · rw[q1,q2,h0];rfl
       omega
      have HF:=hd (HQ.o.fail hm hm0 (.inr (.inr (by rw[drop_at s j hjs,adW];congr 1;exact UInt8.toNat_inj.1 (by rw[h0];rfl)))));rw[hp0]at h2⊢;simp only at h2⊢;clear hp hp0 hc d1 d2 d3 h0;go_wp2_with fail;refine(kz _ B s (j+1) st 2 h2).mono ?_;rintro e w3 ⟨rfl,rfl⟩;refine⟨rfl,HG2.o,?_⟩;rw[HF.o]
      rfl
    by_cases hmk:s[j]=m
    · have hp0:bQ s j=((m.toNat:Int),1):=by
       rw[hp];rcases d3 with⟨q1,q2,_⟩|⟨_,_,q3⟩
       · rw[q1,q2,hmk]
       rw[hmk]at q3;omega
      have HD:=hd ((drop_at s j hjs).trans (by rw[hmk]));rw[hp0]at h2⊢;simp only at h2⊢
      have n1:¬(m.toNat:Int)=0:=by omega
      go_wp2_with fail;refine(sO _ B s (j+1) st h2).mono ?_;rintro e w3 ⟨rfl,hb3⟩;have h3:=h2.below hb3;have HG3:=hd (aI HG2.o (Y9 hb3));have HB3:=hd (mO HB2.o (Y9 (row:=Y2 B) hb3) hBlt);have U3:w1.heap.size<=w3.heap.size:=YB hsz2 hb3.size;have HM:=hd (MB s (j+1) m hm);by_cases hnx:(s.data.toList.drop (j+1)).head? =Y2 m
      · have hj1:j+1<s.size:=by
         rcases Nat.lt_or_ge (j+1) s.size with q|q
         · exact q
         rw[YN (by simp;have:s.data.size=s.size:=rfl;omega)]at hnx;simp at hnx
        have hsj:s[j+1]=m:=by rw[drop_at s (j+1) hj1]at hnx;simpa using hnx
        have hc1:acI (s.data.toList.drop (j+1))=1:=by rw[drop_at s (j+1) hj1,hsj];simp[acI,hm]
        have hp1:bQ s (j+1)=((m.toNat:Int),1):=by
         unfold bQ;rw[if_pos hj1,hc1,if_neg (by simp),decode_ascii s (j+1) hj1 (by rw[hsj];exact hm),hsj]
        have HQ2:=hd (HQ.o.double (r:=s.data.toList.drop (j+2)) hm hm0 (by rw[HD.o,drop_at s (j+1) hj1,hsj]));have HP1:=hd hp1;rw[hp1];simp only;go_wp2_with fail;refine(yu w3 B s (j+1) st h3).mono ?_;rintro e w4 ⟨rfl,h4,g4⟩;rw[HP1.o]at h4⊢;simp only at h4⊢;have HG4:=hd (aI HG3.o g4);have HB4:=hd (mO HB3.o g4 hBlt);have VG:w1.heap.size<=w4.heap.size:=YB U3 g4.size;go_wp2_with fail;refine(Tryz.Builder_WriteRune_k w1.heap.size w1.heap.size (Lib.byteCells acc) (m.toNat:Int) (by omega) (by omega) w4 HB4.o (by rw[Lib.byteCells_length];omega) VG).mono ?_;rintro e w5 ⟨rfl,Tg,hb5, -⟩;go_wp2_with fail;refine⟨⟨j+2,acc++[m],HQ2.o,h4.under hb5 hBlt,lT HG4.o hb5 TF,?_,YB VG hb5.size⟩,?_⟩
        · right
          rw[Lib.byteCells_append,Pj m hm];exact Tg
        rw[(h4.under hb5 hBlt).sV,HR.o.sV];omega
      have hne:¬(bQ s (j+1)).1=(m.toNat:Int):=fun q=>hnx (HM.o.1 q)
      have HDn:=hd (HQ.o.done HD.o hnx);generalize bQ s (j+1)=pk at*;obtain⟨c',n'⟩:=pk;simp only at hne⊢
      have hne2:(c' !=(m.toNat:Int))=true:=by rw[bne_iff_ne];exact hne
      go_wp2_with fail;refine(Tryz.Builder_String_any_k w1.heap.size w1.heap.size acc w3 HB3.o U3).mono ?_;rintro e w4 ⟨rfl, -,hb4, -⟩;go_wp2;go_ret;refine⟨lT HG3.o hb4 TF,?_⟩;rw[HDn.o];refine⟨⟨acc.toArray⟩,by simp,rfl,?_⟩;have hge:=HQ.o.ge;rw[show k+(j-k+1)=j+1 from by omega];exact h3.under hb4 hBlt
    have HQ2:=hd (HQ.o.char hjs hm hc h0 hmk)
    have hcm:¬((Utf8.decode s j).1:Int)=(m.toNat:Int):=by
     intro q;rcases d3 with⟨_,q2,_⟩|⟨_,q2,_⟩
     · exact hmk (UInt8.toNat_inj.1 (by omega))
     omega
    have hc0:¬((Utf8.decode s j).1:Int)=0:=by
     intro q;rcases d3 with⟨_,q2,_⟩|⟨_,q2,_⟩<;>omega
    have hcle:=decode_le s j;have hcN:=acH (s.data.toList.drop j);rw[Yv,show s.data.toList.length=s.size from by simp]at hcN;rw[hp]at h2⊢;simp only at h2⊢;have HD2:=hd d2;generalize acI (s.data.toList.drop j)=n at*;generalize (Utf8.decode s j).1=c at*;go_wp2_with fail;refine(Tryz.Builder_WriteRune_k w1.heap.size w1.heap.size (Lib.byteCells acc) (c:Int) (by omega) (by omega) w2 HB2.o (by rw[Lib.byteCells_length];omega) hsz2).mono ?_;rintro e w5 ⟨rfl,Tg,hb5, -⟩;go_wp2_with fail;refine⟨⟨j+n,acc++(s.data.toList.drop j).take n,HQ2.o,h2.under hb5 hBlt,lT HG2.o hb5 TF,?_,YB hsz2 hb5.size⟩,?_⟩
    · right
      rw[Lib.byteCells_append,<-HD2.o,Lib.byteCells_encodeRune];exact Tg
    rw[(h2.under hb5 hBlt).sV,HR.o.sV];omega
  have hp:bQ s j=(-1,0):=by unfold bQ;rw[if_neg hjs]
  have HF:=hd (HQ.o.fail hm hm0 (.inl (YN (by simp;have:s.data.size=s.size:=rfl;omega))));rw[hp]at h2⊢;simp only at h2⊢;go_wp2_with fail;refine(kz _ B s (j+0) st 2 h2).mono ?_;rintro e w3 ⟨rfl,rfl⟩;refine⟨rfl,HG2.o,?_⟩;rw[HF.o]
  rfl
def cO(r:Except Nat (Nat×Y6×Nat)):Except Nat (Nat×Y6×Nat):=
 match r with
 |.ok (c,t,n)=>if t=[]then .error 2 else .ok (c,t,n)
 |.error c=> .error c
theorem xL(w:Y4)(B:Nat)(s:ByteArray)(k st:Nat)(h:Rd w B s k st)(hk:k<s.size)(hm:s[k].toNat<128)(hm0:s[k].toNat≠0):
   aaT Zc 178 #[Ym (Y2 ⟨B,0,Y1⟩)] w (Told (cO (jF s k s[k])) w B s k st uF):=by
 have HQ:=zD w B s k st h hk hm hm0;generalize jF s k s[k]=r at*;have HQ2:=hd HQ;go_enter Tryz.func178,Tryz.ntmps178;go_wp2_with fail;refine HQ2.o.mono ?_;rintro e w1 ⟨g1,ht⟩
 match r,ht with
 |.error c,ht=>
  subst ht;exact⟨rfl,g1,rfl⟩
 |.ok (c,t,n),ht=>
  obtain⟨tv,rfl,rfl,h1⟩:=ht;unfold uF
  cases hem:tv.toList.isEmpty
  · have hne:tv.data.toList≠[]:=by intro e;rw[Lib.toList_data,e]at hem;cases hem
    have HNE:=hd hne;clear hne;go_wp2;go_ret;refine⟨g1,?_⟩;unfold cO;simp only;rw[if_neg HNE.o];exact⟨tv,rfl,rfl,h1⟩
  have he:tv.data.toList=[]:=by rw[Lib.toList_data]at hem;simpa using hem
  have HE:=hd he;clear he;go_wp2_with fail;refine(kz _ B s (k+n) st 2 h1).mono ?_;rintro e w3 ⟨rfl,rfl⟩;refine⟨rfl,g1,?_⟩;unfold cO;simp only;rw[if_pos HE.o]
  rfl
theorem zu(s:ByteArray)(k:Nat)(hk:k<s.size)(hl:acP s[k]=false)(hdg:ZL s[k]=false)(hq:s[k].toNat=39\/s[k].toNat=34):
   adK (s.data.toList.drop k)=match(if s[k].toNat=34 then cO (jF s k s[k])else jF s k s[k])with|.ok (_,t,n)=> .ok (if s[k].toNat=34 then 18 else 17,t,n)|.error c=> .error c:=by
 rw[Je s k hk hl hdg hq];unfold jF cO
 cases adU s[k] (s.data.toList.drop (k+1))with
 |none=>by_cases h34:s[k].toNat=34<;>simp[h34]
 |some y=>
  obtain⟨t,n⟩:=y;simp only
  cases hv:adS t
  · by_cases h34:s[k].toNat=34<;>simp[h34]
  simp only[if_true,Bool.true_eq_false,false_or];by_cases h34:s[k].toNat=34
  · by_cases ht:t=[]
    · simp[h34,ht]
    simp[h34,ht]
  simp[h34]
theorem Ku(s:ByteArray)(k:Nat)(hk:k<s.size):((bQ s k).1=(s[k].toNat:Int)/\s[k].toNat<128)\/(((bQ s k).1= -2\/128<=(bQ s k).1)/\128<=s[k].toNat):=by
 unfold bQ;rw[if_pos hk];by_cases hc:acI (s.data.toList.drop k)=0
 · rw[if_pos hc];exact .inr ⟨.inl rfl,(rY s k hk hc).2⟩
 rw[if_neg hc];rcases(mh s k hk hc).2.2 with⟨_,q2,q3⟩|⟨_,q2,q3⟩
 · exact .inl ⟨by simp only;rw[q2],q3⟩
 exact .inr ⟨.inr (by simp only;omega),q3⟩
theorem pX{r:Except Nat (Nat×Y6×Nat)}{e:aaY}(h:Told r w B s k st uF e w'):
   w.grownBy w' (Y2 B)/\((∃c,r=.error c/\e=.panicked [{v:=Yo 74 (Yj #[Yg Yh (st:Int),Yg Yh (c:Int)]),recovered:=false}])\/(∃c t n tv,r=.ok (c,t,n)/\e=Yl (.string tv)/\tv.data.toList=t/\Rd w' B s (k+n) st)):=by
 refine⟨h.1,?_⟩
 match r,h.2 with
 |.error c,ht=>exact .inl ⟨c,rfl,ht⟩
 |.ok (c,t,n),⟨tv,h1,h2,h3⟩=>exact .inr ⟨c,t,n,tv,rfl,h2,h1,h3⟩
theorem Kq(w:Y4)(B:Nat)(s:ByteArray)(k st:Nat)(h:Rd w B s k st)(hk:k<s.size):
   aaT Zc 114 #[Ym (Y2 ⟨B,0,Y1⟩)] w (Told (adK (s.data.toList.drop k)) w B s k st BP):=by
 have HPB:=hd (Ku s k hk);go_enter Tryz.func114,Tryz.ntmps114;go_wp2_with fail;refine(sO w B s k st h).mono ?_;rintro e w1 ⟨rfl,hb1⟩;have h1:=h.below hb1;have HG1:Yf (w.grownBy w1 (Y2 B)):=Y9 hb1;generalize bQ s k=d at*;obtain⟨c,n⟩:=d;simp only at HPB⊢;go_wp2_with fail;refine(lC _ _).mono ?_;rintro e w' ⟨rfl,rfl⟩
 cases hdg:ZL s[k]
 · have hd1:yQ c=false:=by
    unfold ZL at hdg;unfold yQ;have:=HPB.o;simp at hdg⊢;omega
   cases hl:acP s[k]
   · have hw1:Ql c=false:=by
      unfold acP at hl;unfold Ql;unfold ZL at hdg;have:=HPB.o;simp at hdg hl⊢;omega
     rw[hd1];go_wp2_with fail;refine(kS _ _).mono ?_;rintro e w' ⟨rfl,rfl⟩;rw[hw1];by_cases h39:s[k].toNat=39
     · have HS:=hd (zu s k hk hl hdg (.inl h39))
       have hc:c=39:=by have:=HPB.o;omega
       subst hc;rw[if_neg (by omega)]at HS;have HT:=hd (zD _ B s k st h1 hk (by omega) (by omega));generalize jF s k s[k]=r at*;go_wp2_with fail;refine HT.o.mono ?_;intro e w2 ht;rcases pX ht with⟨g2,⟨c,rfl,rfl⟩|⟨c,t,n,tv,rfl,rfl,htv,h2⟩⟩
       · exact⟨rfl,aI HG1.o g2,by rw[HS.o]⟩
       go_wp2
       go_ret2
       refine⟨aI HG1.o g2,?_⟩;rw[HS.o];simp only;rw[if_neg (by omega)];exact⟨tv,htv,rfl,h2⟩
     by_cases h34:s[k].toNat=34
     · have HS:=hd (zu s k hk hl hdg (.inr h34))
       have hc:c=34:=by have:=HPB.o;omega
       subst hc;rw[if_pos h34]at HS;have HT:=hd (xL _ B s k st h1 hk (by omega) (by omega));generalize cO (jF s k s[k])=r at*;go_wp2_with fail;refine HT.o.mono ?_;intro e w2 ht;rcases pX ht with⟨g2,⟨c,rfl,rfl⟩|⟨c,t,n,tv,rfl,rfl,htv,h2⟩⟩
       · exact⟨rfl,aI HG1.o g2,by rw[HS.o]⟩
       go_wp2
       go_ret2
       refine⟨aI HG1.o g2,?_⟩;rw[HS.o];simp only;rw[if_pos h34];exact⟨tv,htv,rfl,h2⟩
     have n1:(c==39)=false:=by rw[beq_eq_false_iff_ne];have:=HPB.o;omega
     have n2:(c==34)=false:=by rw[beq_eq_false_iff_ne];have:=HPB.o;omega
     have HT:=hd (OB _ B s k st h1 hk hl hdg (by omega))
     have HK:Yf (∀x y z,adK (s.data.toList.drop k)=.ok (x,y,z)->x=51):=by
      intro x y z e;rw[BJ s k hk hl hdg (by omega)]at e
      split at e
      · simp only[Except.ok.injEq,Prod.mk.injEq]at e;exact e.1.symm
      cases e
     generalize adK (s.data.toList.drop k)=r at*;go_wp2_with fail;refine HT.o.mono ?_;intro e w2 ht;rcases pX ht with⟨g2,⟨c,rfl,rfl⟩|⟨c,t,n,tv,rfl,rfl,htv,h2⟩⟩
     · exact⟨rfl,aI HG1.o g2,rfl⟩
     obtain rfl:=HK.o _ _ _ rfl;go_wp2
     go_ret2
     exact⟨aI HG1.o g2,tv,htv,rfl,h2⟩
   have hw1:Ql c=true:=by
    unfold acP at hl;unfold Ql;have:=HPB.o;simp at hl⊢;omega
   rw[hd1];go_wp2_with fail;refine(kS _ _).mono ?_;rintro e w' ⟨rfl,rfl⟩;rw[hw1];have HT:=hd (P9 _ B s k st h1 hk hl);generalize adK (s.data.toList.drop k)=r at*;go_wp2_with fail;refine HT.o.mono ?_;intro e w2 ht;obtain⟨g2,ht⟩:=ht
   match r,ht with
   |.error c,ht=>subst ht;exact⟨rfl,aI HG1.o g2,rfl⟩
   |.ok (c,t,n),⟨tv,htv,he,h2⟩=>
    subst he;unfold BP;go_wp2
    go_ret2
    exact⟨aI HG1.o g2,tv,htv,rfl,h2⟩
 have hl:acP s[k]=false:=by unfold ZL at hdg;unfold acP;simp at hdg⊢;omega
 have hd1:yQ c=true:=by
  unfold ZL at hdg;unfold yQ;have:=HPB.o;simp at hdg⊢;omega
 rw[hd1];have HT:=hd (kE _ B s k st h1 hk hl hdg)
 have HK:Yf (∀x y z,adK (s.data.toList.drop k)=.ok (x,y,z)->x=16):=by
  intro x y z e;rw[zC s k hk hl hdg]at e
  split at e
  · cases e
  split at e
  · cases e
  simp only[Except.ok.injEq,Prod.mk.injEq]at e;exact e.1.symm
 generalize adK (s.data.toList.drop k)=r at*;go_wp2_with fail;refine HT.o.mono ?_;intro e w2 ht;rcases pX ht with⟨g2,⟨c,rfl,rfl⟩|⟨c,t,n,tv,rfl,rfl,htv,h2⟩⟩
 · exact⟨rfl,aI HG1.o g2,rfl⟩
 obtain rfl:=HK.o _ _ _ rfl;go_wp2
 go_ret2
 exact⟨aI HG1.o g2,tv,htv,rfl,h2⟩
theorem uM(t:ByteArray)(w:Y4)(h:t.size<=100000):aaT Zc 115 #[.string t] w fun e w'=>e=Yl (.string t)/\aaS w.heap.size w w':=by
 go_enter Tryz.func115,Tryz.ntmps115;go_wp2_with fail;refine(Tryz.stringslite_Clone t w (by omega)).mono ?_;rintro e w' ⟨rfl,hb⟩;go_wp2;go_ret;exact⟨rfl,hb⟩
theorem size_setCell(w:Y4)(p:Addr)(v:Y3):(w.setCell p v).heap.size=w.heap.size:=by simp[Za]
theorem nZ{row:Option Nat}(h:w.grownBy w1 row)(i:Nat)(v:Y3):w.grownBy (w1.setCell ⟨w.heap.size,i,Y1⟩ v) row:=
 ⟨h.os,h.tape,h.output,by rw[size_setCell];exact h.size,fun k hk hne=>(Zb w1 _ v k (by simp;omega)).trans (h.block k hk hne)⟩
theorem Rd.far(h:Rd w B s k st)(hne:¬N=B)(i:Nat)(v:Y3)(hN:12<=N:=by omega):Rd (w.setCell ⟨N,i,Y1⟩ v) B s k st:=
 ⟨h.blk.far _ _ hne,h.low,h.env.grown (qI w N i v) hN,h.le,h.small⟩
def UE(r:Except Nat (Nat×Y6×Nat))(w:Y4)(B:Nat)(s:ByteArray)(k:Nat)(e:aaY)(w':Y4):Prop:=
 w.grownBy w' (Y2 B)/\match r with
 |.ok (c,t,n)=>∃tv:ByteArray,tv.data.toList=t/\e=Yl (Yj #[Yg Yh (c:Int),.string tv,Yg Yh (k:Int)])/\Rd w' B s (k+n) k
 |.error c=>e=.panicked [{v:=Yo 74 (Yj #[Yg Yh (k:Int),Yg Yh (c:Int)]),recovered:=false}]
theorem MH(w:Y4)(B:Nat)(s:ByteArray)(k st:Nat)(h:Rd w B s k st)(hk:k<s.size):
   aaT Zc 53 #[Ym (Y2 ⟨B,0,Y1⟩)] w (UE (adK (s.data.toList.drop k)) w B s k):=by
 have hsm:=h.small;obtain⟨⟨b0,b1,b2⟩,b3,b4,b5⟩:=h.blk.three;have hBlt:=h.blk.lt
 have hone:∀c t n,adK (s.data.toList.drop k)=.ok (c,t,n)->t.length<=2000:=by
  intro c t n e;have:=Lx.gT e;rw[Yv,show s.data.toList.length=s.size from by simp]at this;omega
 have HON:=hd hone;go_enter Tryz.func53,Tryz.ntmps53;go_wp2_with fail;have h1:Rd ((w.setCell ⟨B,2,Y1⟩ (Yg Yh (k:Int))).alloc (Yk #[Yg Yh 0,Yi ⟨#[]⟩,Yg Yh 0] 146)) B s k k:=(h.set2 k).below ((Zh _ _).alloc (nlr _) _);have HG1:=hd (aI (qI w B 2 (Yg Yh (k:Int))) (World.grownBy_alloc (w.setCell ⟨B,2,Y1⟩ (Yg Yh (k:Int))) (Yk #[Yg Yh 0,Yi ⟨#[]⟩,Yg Yh 0] 146) (Y2 B)));have R1:ae ((w.setCell ⟨B,2,Y1⟩ (Yg Yh (k:Int))).alloc (Yk #[Yg Yh 0,Yi ⟨#[]⟩,Yg Yh 0] 146)) w.heap.size #[Yg Yh 0,Yi ⟨#[]⟩,Yg Yh 0] 146:=(by have x:=ae.new (w.setCell ⟨B,2,Y1⟩ (Yg Yh (k:Int))) #[Yg Yh 0,Yi ⟨#[]⟩,Yg Yh 0] 146;rwa [size_setCell]at x);refine(Kq _ B s k k h1 hk).mono ?_;rintro e w2 ⟨g2,ht⟩;have HG2:=hd (aI HG1.o g2)
 have R2:ae w2 w.heap.size #[Yg Yh 0,Yi ⟨#[]⟩,Yg Yh 0] 146:=by
  unfold ae at R1⊢;rw[g2.block _ (geA.1 R1).1 (by simp;omega)];exact R1
 rcases hr:adK (s.data.toList.drop k)with c|⟨c,t,n⟩
 · rw[hr]at ht;simp only at ht;subst ht;exact⟨rfl,HG2.o,rfl⟩
 rw[hr]at ht;obtain⟨tv,htv,rfl,h2⟩:=ht;have hlen:=HON.o c t n hr
 have htl:tv.size<=2000:=by rw[Lib.size_eq,htv];exact hlen
 have HR:=hd hr;have HTV:=hd htv;unfold BP;obtain⟨⟨a0,a1,a2⟩,a3,a4,a5⟩:=h2.blk.three;obtain⟨⟨r0,r1,r2⟩,r3,r4,r5⟩:=R2.three;have hz2:w.heap.size<w2.heap.size:=R2.lt
 have hne:¬w.heap.size=B:=by omega
 have hlow:=h.low;go_wp2
 go_region_with (go_at_call 115;refine(uM tv _ (by omega)).mono ?_;rintro e w3 ⟨rfl,hb3⟩;have c2:=(h2.drew.below hb3).blk.cell 2;have q0:=(R2.drew.below hb3 hz2).cell 0;have q1:=(R2.drew.below hb3 hz2).cell 1;have q2:=(R2.drew.below hb3 hz2).cell 2;have q3:=(R2.drew.below hb3 hz2).free 0;have q4:=(R2.drew.below hb3 hz2).free 1;have q5:=(R2.drew.below hb3 hz2).free 2;simp at c2 q0 q1 q2)
 all_goals
  go_wp2;have F:=(((R2.drew.below hb3 hz2).set 0 (Yg Yh (c:Int))).set 1 (.string tv)).set 2 (Yg Yh (k:Int));obtain⟨⟨f0,f1,f2⟩, -⟩:=ae.three F;have h3:=h2.drew.below hb3;refine aaU (v:=Yj #[Yg Yh (c:Int),.string tv,Yg Yh (k:Int)]) ?_ rfl ⟨?_,?_⟩
  · simp only[f0,f1,f2,aaW,Tryz.results53,go_sem];simp[f0,f1,f2,go_sem]
  · exact nZ (nZ (nZ (aI (grownBy_drew HG2.o) (Y9 hb3)) 0 _) 1 _) 2 _
  rw[HR.o];exact⟨tv,HTV.o,rfl,((h3.far hne 0 _).far hne 1 _).far hne 2 _⟩
theorem Mx{base base':Nat}{n:Nat}{xs:List Y3}(h:w.ownsRow base e size v n xs)(hb:base'<=base):w.ownsRow base' e size v n xs:=by
 refine⟨h.1,?_⟩;rcases h.2 with hn|⟨g,cap,cur,hv,hg,r⟩
 · exact .inl hn
 exact .inr ⟨g,cap,cur,hv,by omega,r⟩
theorem Rd.kept{row:Option Nat}(h:Rd w B s k st)(hg:w.grownBy w' row)(hB:Y2 B≠row)(hlow:∀q,row=Y2 q->12<=q):Rd w' B s k st:=by
 have hr:=h.env.room
 have hb:∀i,i<12->w'.heap[i]? =w.heap[i]?:=fun i hi=>hg.block i (by omega) (fun e=>by have:=hlow i e.symm;omega)
 refine⟨?_,h.low,⟨⟨fun c hc=> ?_,fun i hi=> ?_⟩,?_,?_,YB hr hg.size⟩,h.le,h.small⟩
 · have:=h.blk;unfold ae at this⊢;rw[hg.block B h.blk.lt hB];exact this
 · rw[Y8 (w:=w) (hb _ (by simp))];exact h.env.tabs.1 c hc
 · rw[Y8 (w:=w) (hb _ (by simp)),Y8 (w:=w) (hb _ (by simp))];exact h.env.tabs.2 i hi
 · rw[hb _ (by simp)];exact h.env.kws
 rw[hb _ (by simp)];exact h.env.sgs
def Xg(r:Except (Nat×Nat) (List Zj))(w:Y4)(e:aaY)(w':Y4):Prop:=
 aaS w.heap.size w w'/\match r with
 |.error (p,c)=>e=.panicked [{v:=Yo 74 (Yj #[Yg Yh (p:Int),Yg Yh (c:Int)]),recovered:=false}]
 |.ok ts=>∃v,e=Yl v/\w'.ownsRow w.heap.size 146 3 v ts.length (iZ ts)
theorem Dj(s:ByteArray)(w:Y4)(he:Env w)(hm:s.size<=aaV):
   aaT Zc 27 #[.string s] w (Xg (adX s.data.toList) w):=by
 unfold aaV at hm;obtain⟨i0,hi,hz0,hz1,hz2⟩:=info_parts Tryz.info146;have HSL:=hd (Lib.size_eq s).symm;by_cases hlong:2000<s.size
 · have HL:Yf (adX s.data.toList=.error (0,1)):=by show _=_;unfold adX;rw[if_pos (by rw[HSL.o];exact hlong)]
   go_enter adY,adZ;go_wp2_with fail;refine⟨rfl,Zh _ _,?_⟩;rw[HL.o]
   rfl
 have HL:Yf (adX s.data.toList=Lx.bO 0 (adu s.data.toList) (s.data.toList.drop (adu s.data.toList))):=by show _=_;unfold adX;rw[if_neg (by rw[HSL.o];exact hlong)]
 have hroom:=he.room;have HE:=hd he;go_enter adY,adZ;go_wp2_with fail;go_loopw [4] (fun v wr=>∃(j:Nat) (ts:List Zj) (st:Nat),Yf (Rd wr w.heap.size s j st)/\Yf (wr.ownsRow (w.heap.size+1) 146 3 v ts.length (iZ ts))/\Yf (oJ s.data.toList (j+adu (s.data.toList.drop j)) ts)/\ts.length<=j/\Yf (aaS w.heap.size w wr)) (fun _ wr=>s.size-sV wr w.heap.size)
 case atStart=>
  refine⟨0,[],0,⟨ae.new _ _ _,hroom,HE.o.below ((Zh _ _).alloc (nlr _) _),by omega,by omega⟩,adi _ _ _ _,?_,by simp,(Zh _ _).alloc (nlr _) _⟩;rw[ads,Ze];exact oJ.start _
 case round=>
  obtain⟨j,ts,st,HR,HO,HX,hts,HW⟩:=hrel;have hjle:=HR.o.le;go_wp2_with fail;refine(M7 wr w.heap.size s j st HR.o).mono ?_;rintro e w1 ⟨rfl,h1,g1⟩;have HW1:=hd (HW.o.grown g1 HW.o.size (fun q hq=>by simp at hq;omega))
  have HO1:Yf (w1.ownsRow (w.heap.size+1) 146 3 u4 ts.length (iZ ts)):=HO.o.kept g1 (by
   cases hv:u4.ownBlock with
   |none=>exact .inl rfl
   |some g=>right;have:=(HO.o.lt g hv).1;simp;omega)
  have hg1:=g1.size;have hkle:=h1.le;generalize hkk:j+adu (s.data.toList.drop j)=k at*;have HKK:=hd hkk;by_cases hlt:k<s.size
  · go_wp2_with fail;refine(MH w1 w.heap.size s k st h1 hlt).mono ?_;rintro e w2 ⟨g2,ht⟩;have HW2:=hd (HW1.o.grown g2 HW1.o.size (fun q hq=>by simp at hq;omega))
    have HO2:Yf (w2.ownsRow (w.heap.size+1) 146 3 u4 ts.length (iZ ts)):=HO1.o.kept g2 (by
     cases hv:u4.ownBlock with
     |none=>exact .inl rfl
     |some g=>right;have:=(HO1.o.lt g hv).1;simp;omega)
    have hg2:=g2.size;rcases hone:adK (s.data.toList.drop k)with c|⟨c,t,n⟩
    · rw[hone]at ht;simp only at ht;subst ht;refine⟨rfl,HW2.o,?_⟩;rw[HL.o,HX.o.fail (by rw[HSL.o];exact hlt) hone]
    rw[hone]at ht;obtain⟨tv,htv,rfl,h2⟩:=ht;have hlen:=Lx.gT hone;simp only[Yv]at hlen;rw[HSL.o]at hlen;have HS:=hd (HX.o.step (by rw[HSL.o];exact hlt) hone)
    have HT:Yf (tv=⟨t.toArray⟩):=by rw[<-htv];exact(Lib.mk_data tv).symm
    have hzw:=HW2.o.size;have hBlt:w.heap.size<w2.heap.size:=h2.blk.lt
    go_wp2_with(first
     |(at_builtin;refine wpList_append_own _ rfl _ _ 76 rfl (w.heap.size+1) 146 i0 (Yj #[Yg Yh 0,Yi ⟨#[]⟩,Yg Yh 0]) 3 32 Tryz.underlying76 hi hz0 hz1 hz2 rfl (by decide) _ _ _ rfl (HO2.o.alloc _) ⟨w2.heap.size,0,Y1⟩ 1 1 [Yg Yh (c:Int),.string tv,Yg Yh (k:Int)] rfl rfl ?c1 ?c2 ?c3 ?c4 ?c5 ?_)
     |fail)
    case c1=>exact Ii w2 _ _ _ _ _ rfl
    case c2=>intro u hu;simp at hu;rcases hu with rfl|rfl|rfl<;>rfl
    case c3=>unfold aaV;omega
    case c4=>omega
    case c5=>simp;omega
    intro v' w3 hown' hgrow _
    have HO3:Yf (w3.ownsRow (w.heap.size+1) 146 3 v' (ts++[Lx.Tok.mk c t k]).length (iZ (ts++[Lx.Tok.mk c t k]))):=by
     rw[aaN,aaL,tC,Km];show World.ownsRow _ _ _ _ _ _ _;unfold L6;rw[<-HT.o];exact hown'
    have HW3:=hd (((HW2.o.alloc hzw _)).grown hgrow (by simp;omega) (fun q hq=>by have:=(HO2.o.lt q hq).1;omega))
    have h3:Rd w3 w.heap.size s (k+n) k:=(h2.below ((Zh _ _).alloc (nlr _) _)).kept hgrow (by
     cases hv:u4.ownBlock with
     |none=>simp
     |some g=>have:=(HO2.o.lt g hv).1;simp;omega) (by
     intro q hq;have:=(HO2.o.lt q hq).1;omega)
    go_wp2_with fail;go_roundw
    case rel=>exact⟨k+n,ts++[Lx.Tok.mk c t k],k,h3,HO3,HS,by simp;have:=HKK.o;omega,HW3⟩
    case measure=>rw[h3.sV,HR.o.sV];have:=HKK.o;omega
  go_wp2_with fail;go_ret;refine⟨HW1.o,?_⟩;rw[HL.o,HX.o.done (by rw[HSL.o];omega)];exact⟨_,rfl,Mx HO1.o (by omega)⟩
theorem OX(p c:Int)(w:Y4):(Instr.typeAssert (Yo 74 (Yj #[Yg Yh p,Yg Yh c])) 20 74 true).run Zc w=.ok (Yn #[Yj #[Yg Yh p,Yg Yh c],.bool true]) w:=by kernel_rfl
theorem Qg(p c:Int)(w:Y4):
   aaT Zc 18 #[Yo 74 (Yj #[Yg Yh p,Yg Yh c])] w fun e w'=>e=Yl (Yn #[Yg Yh p,Yg Yh c])/\aaS w.heap.size w w':=by
 have hta:=OX p c;go_enter Tryz.func18,Tryz.ntmps18;go_wp2
 go_region
 all_goals go_wp2
 all_goals go_ret2
 all_goals exact⟨rfl,((Zh _ _).alloc (nlr _) _).drew⟩
theorem yn:∀l:List ZU,l.any gI=decide (40<aea l)
 |[]=>rfl
 |e::l=>by
  rw[acZ,yn l];show(decide (40<e.depth)||decide (40<aea l))=decide (40<max e.depth (aea l));generalize e.depth=a;generalize aea l=d;rw[Zd];simp only[Bool.or_eq_true,decide_eq_true_eq];rcases Nat.le_total a d with h|h
  · rw[Nat.max_eq_right h];omega
  rw[Nat.max_eq_left h];omega
def X4(base:Nat)(x:aaY)(w':Y4):Except (Nat×Nat) acW->Prop
 |.error (p,c)=>x=lL p c
 |.ok st=>∃v B,x=Yl v/\base<=B/\Qj B st v w'
def UW(w:Y4)(s:Y6)(x:aaY)(w':Y4):Prop:=aaS w.heap.size w w'/\∃r,aeb s r/\X4 w.heap.size x w' r
theorem Cx.end_{lv:Y3}{ts:List Zj}{q:List Zj}{dp:Bool}(h:Cx w B lv ts sz q dp):∃(k:Nat) (ao:Option Addr) (cap:Nat),lv=Yp ao ts.length cap/\k<=2000/\ts.length<=2000/\(q=[]↔k=ts.length)/\w.cell? ⟨B,0,Y1⟩=Y2 (Yp ao ts.length cap)/\w.cell? ⟨B,1,Y1⟩=Y2 (Yg Yh (k:Int))/\w.cell? ⟨B,3,Y1⟩=Y2 (.bool dp):=by
 obtain⟨k,rfl,h⟩:=h;obtain⟨ao,cap,rfl,_⟩:=h.tok;have:=h.le;have:=h.len;refine⟨k,ao,cap,rfl,by omega,h.len,?_,h.cells.1,h.cells.2.1,h.cells.2.2.2⟩
 constructor
 · intro e;have:=congrArg List.length e;simp at this;omega
 intro e;exact YN (by omega)
theorem nI(s:ByteArray)(w:Y4)(he:jJ w)(hm:s.size<=aaV):aaT Zc 19 #[.string s] w (UW w s.data.toList):=by
 have HT:=hd (Dj s w he.env hm);have HE:=hd he;have hroom:=he.env.room;have HSL:=hd (Lib.size_eq s).symm;unfold aaV at hm;go_enter Tryz.func19,Tryz.ntmps19;go_wp2_with fail;refine HT.o.mono ?_;rintro x w1 ⟨hb1,ht⟩;rcases hl:adX s.data.toList with⟨p,c⟩|ts
 · rw[hl]at ht;simp only at ht;subst ht;exact⟨rfl,hb1,.error (p,c),by unfold aeb;rw[hl],rfl⟩
 rw[hl]at ht;obtain⟨v,rfl,hown⟩:=ht;obtain⟨hl1,hl2,hl3⟩:=Lx.Np hl;have hsg:=Px.JH hl;have hs1:=hb1.size
 have hsz:s.size<=2000:=by rw[<-HSL.o];exact hl1
 obtain⟨ao,n,cp,rfl⟩:=Ki hown
 have HX0:Yf (Cx (w1.alloc (Yk #[Yp ao n cp,Yg Yh 0,Yg Yh (s.size:Int),.bool false] 79)) w1.heap.size (Yp ao n cp) ts s.size ts false):=by
  refine⟨0,rfl,ae.new _ _ _,⟨_,Ua hown _⟩,?_,?_,by omega,hsz,by omega,(HE.o.below hb1).below ((Zh _ _).alloc (nlr _) _),by omega⟩
  · intro e;have:=(hown.lt _ e).2;omega
  intro t ht;obtain⟨h1,h2,h3⟩:=hl3 t ht;exact⟨h1,hsg t ht,by omega,by omega⟩
 have HLX:=hd hl;have HB1:=hd hb1;clear hown hb1 hl3 hsg hl HE HT;go_wp2_with fail;refine(Hg w1.heap.size (Yp ao n cp) ts s.size false _ ts HX0.o).mono ?_;rintro x w2 ho;obtain⟨hg,⟨p,c,hr,rfl⟩|⟨st,q,v,hr,rfl,hv,hx⟩⟩:=ho.cases
 · have hbel:aaS w.heap.size w w2:=by
    refine(HB1.o.alloc hs1 (Yk #[Yp ao n cp,Yg Yh 0,Yg Yh (s.size:Int),.bool false] 79)).grown hg (by simp;omega) (fun b hb=> ?_);simp only[Option.some.injEq]at hb;omega
   refine⟨rfl,hbel,.error (p,c),?_,rfl⟩;unfold aeb;rw[HLX.o];refine⟨_,(by rw[HSL.o];exact hr),rfl⟩
 have hbel:aaS w.heap.size w w2:=by
  refine(HB1.o.alloc hs1 (Yk #[Yp ao n cp,Yg Yh 0,Yg Yh (s.size:Int),.bool false] 79)).grown hg (by simp;omega) (fun b hb=> ?_);simp only[Option.some.injEq]at hb;omega
 have HBF:=hd hbel;have HR:=hd hr;have HV:=hd hv;have HX2:=hd hx;obtain⟨k,ao',cap',hlv,hk1,hk2,hend,c0,c1,c3⟩:=hx.end_
 obtain⟨t,y,rfl⟩:∃t y,v=Yo t y:=by
  cases st with
  |create t c=>obtain⟨u,h1,h2⟩:=hv;exact⟨_,_,h1⟩
  |drop t=>exact⟨_,_,hv⟩
  |insert t r=>obtain⟨u,h1,h2⟩:=hv;exact⟨_,_,h1⟩
  |delete t o=>exact⟨_,_,hv⟩
  |update t s o=>obtain⟨u,h1,h2⟩:=hv;exact⟨_,_,h1⟩
  |select i t o r l=>obtain⟨u,u',h1,h2,h3⟩:=hv;exact⟨_,_,h1⟩
 have HEND:=hd hend;clear hr hv hx hg ho hbel HX0 hend hlv;by_cases hq:q=[]
 · have hkt:=HEND.o.1 hq
   have hkb:((k:Int)==(ts.length:Int))=true:=by simp[hkt]
   go_wp2_with fail;refine(qQ _ _).mono ?_;rintro x w3 ⟨rfl,rfl⟩
   cases hdp:bS st with
   |true=>
    simp only[hdp,Bool.true_or]at c3;go_wp2_with fail;refine⟨rfl,HBF.o,.error (0,6),?_,rfl⟩;unfold aeb;rw[HLX.o];refine⟨_,(by rw[HSL.o];exact HR.o),?_⟩;simp only[if_pos hq];rw[if_pos (by have:=yn st.exprs;rw[show st.exprs.any gI=true from hdp]at this;exact of_decide_eq_true this.symm)]
   |false=>
    simp only[hdp,Bool.false_or]at c3;go_wp2_with fail;go_ret;refine⟨HBF.o,.ok st,?_,_,w1.heap.size,rfl,hs1,HV.o⟩;unfold aeb;rw[HLX.o];refine⟨_,(by rw[HSL.o];exact HR.o),?_⟩;simp only[if_pos hq];rw[if_neg (by have:=yn st.exprs;rw[show st.exprs.any gI=false from hdp]at this;exact of_decide_eq_false this.symm)]
 have hkt:¬k=ts.length:=fun e=>hq (HEND.o.2 e)
 have hkb:((k:Int)==(ts.length:Int))=false:=by rw[beq_eq_false_iff_ne];omega
 go_wp2_with fail;refine(uP w2 w1.heap.size (Yp ao n cp) ts s.size q _ HX2.o).mono ?_;rintro x w3 ⟨rfl,hb3⟩;refine⟨rfl,HBF.o.trans (hb3.mono HBF.o.size),.error (Px.nJ s.size q,4),?_,rfl⟩;unfold aeb;rw[HLX.o];refine⟨_,(by rw[HSL.o];exact HR.o),?_⟩;simp only[if_neg hq];rw[HSL.o]
end Go.Proofs.YthhhfcdakfbpkaaGreatDoor
