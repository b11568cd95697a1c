/- Parts of the proof -/
import Derived.Test.YthhhfcdakfbpkaaGreatDoorP16
import Derived.Test.YthhhfcdakfbpkaaGreatDoorP20
import Derived.Test.YthhhfcdakfbpkaaGreatDoorP18
import Derived.Test.YthhhfcdakfbpkaaGreatDoorP1
import Derived.Test.YthhhfcdakfbpkaaGreatDoorP3
import Derived.Test.YthhhfcdakfbpkaaGreatDoorP14
namespace Go.Proofs.YthhhfcdakfbpkaaGreatDoor
set_option linter.unusedSimpArgs false
set_option linter.unusedVariables false
set_option maxRecDepth 100000
set_option maxHeartbeats 16000000
open Go.RowKit
variable {w:World}{b ce ge p:Nat}{nx:Int}{F R:List Nat}
section
namespace Tx
open Tb Tw Bt
def uL(B:Nat)(cs:Mg.ax)(l:List (Option Px.E))(os:List (Px.E×Bool))(lb:Bool)(ln:Nat)(fs:List (List Mg.V×List Mg.V))(a:Value)(w':World):Prop:=
 ∃xs v,So.cK (fun a b=>decide (Mg.vS (os.map Prod.snd) a b<0)) xs/\So.dF (fun a b=>decide (Mg.vS (os.map Prod.snd) a b<0)) fs xs/\a=.agg #[.int .i64 ((Tb.aF cs l).length:Nat),v,.int .i64 0]/\
     w'.ownsRow B 39 3 v (((if lb=true then xs.take ln else xs).flatMap Prod.fst)).length (((if lb=true then xs.take ln else xs).flatMap Prod.fst).flatMap Mg.vC)
theorem uL.slice{B:Nat}{cs:Mg.ax}{l:List (Option Px.E)}{os:List (Px.E×Bool)}{lb:Bool}{ln:Nat}{fs:List (List Mg.V×List Mg.V)}{a:Value}{w':World}(h:uL B cs l os lb ln fs a w'):∃(n:Int) (ao:Option Addr) (k c:Nat),a=.agg #[.int .i64 n,.slice ao k c,.int .i64 0]:=by
 obtain⟨xs,v,_,_,h1,h2⟩:=h;obtain⟨ao,k,c,rfl⟩:=Ev h2;exact⟨_,_,_,_,h1⟩
theorem uL.lift{B B':Nat}{cs:Mg.ax}{l:List (Option Px.E)}{os:List (Px.E×Bool)}{lb:Bool}{ln:Nat}{fs:List (List Mg.V×List Mg.V)}{a:Value}{w':World}(h:uL B cs l os lb ln fs a w)(f:∀v n xs,w.ownsRow B 39 3 v n xs->w'.ownsRow B' 39 3 v n xs):uL B' cs l os lb ln fs a w':=by
 obtain⟨xs,v,h1,h2,h3,h4⟩:=h;exact⟨xs,v,h1,h2,h3,f _ _ _ h4⟩
theorem JR{tn:Lx.Bs}{cs:Mg.ax}{M:aU}{lk:Int}(h:kr w b lk p ge ce tn cs M nx F R)(l:List (Option Px.E))(o:Option Px.E)(os:List (Px.E×Bool))(lb:Bool)(ln:Nat)(hlen:l.length<=2000/\os.length<=2000/\1<=l.length)(hc1:1<=cs.length/\cs.length<=6)(hok:∀d∈Mg.je cs l o os,d.1.ok 2000)(v u:Value)(hi:w.ownsRow 0 225 2 v l.length (l.flatMap itemC))(ho:w.ownsRow 0 227 2 u os.length (os.flatMap bq))
   (hck:Mg.bO cs (Mg.je cs l o os)=.ok ()) (fs:List (List Mg.V×List Mg.V)) (hfs:Mg.foundM cs (Tb.aF cs l) (os.map Prod.fst) o (M.map Prod.snd)=.ok fs):
   Calls Tryz.prog 22 #[.pointer (some ⟨b,2,none⟩),.iface 109 (.agg #[v,.string ⟨tn.toArray⟩,ev? o,u,.bool lb,.int .i64 (ln:Nat)])] w fun x w'=>Below w.heap.size w w'/\∃a,x=.returned a/\uL (w.heap.size+2) cs l os lb ln fs a w':=by
 obtain⟨va,vc,rfl⟩:=au hi;obtain⟨ua,uc,rfl⟩:=au ho;have Qk:=vB (.slice va l.length vc) (.string ⟨tn.toArray⟩) (ev? o) (.slice ua os.length uc) (.bool lb) (.int .i64 (ln:Nat));have Pw:=zH (.slice va l.length vc) (.string ⟨tn.toArray⟩) (ev? o) (.slice ua os.length uc) (.bool lb) (.int .i64 (ln:Nat));have Qn:=tQ (.slice va l.length vc) (.string ⟨tn.toArray⟩) (ev? o) (.slice ua os.length uc) (.bool lb) (.int .i64 (ln:Nat));have hta4:=ug (.slice va l.length vc) (.string ⟨tn.toArray⟩) (ev? o) (.slice ua os.length uc) (.bool lb) (.int .i64 (ln:Nat));have hta5:=sj (.slice va l.length vc) (.string ⟨tn.toArray⟩) (ev? o) (.slice ua os.length uc) (.bool lb) (.int .i64 (ln:Nat));have hta6:=tq (.slice va l.length vc) (.string ⟨tn.toArray⟩) (ev? o) (.slice ua os.length uc) (.bool lb) (.int .i64 (ln:Nat));have HO:=hd h;have hbl:=h.blk.lt
 have HIN:Hid (∀W1,Below w.heap.size w W1->Calls Tryz.prog 38 #[.pointer (some ⟨p,0,none⟩),.agg #[.slice va l.length vc,.string ⟨tn.toArray⟩,ev? o,.slice ua os.length uc,.bool lb,.int .i64 (ln:Nat)]] W1 fun x W2=>Below W1.heap.size W1 W2/\∃a,x=.returned a/\uL W1.heap.size cs l os lb ln fs a W2):=fun W1 hW=>by
  obtain⟨sv,ve,vk,d,L,ht⟩:=h.tab;refine(wh l o os lb ln ⟨tn.toArray⟩ hlen p cs M nx F R sv ve vk d L _ _ W1 (ht.below hW) h.ok hc1 hok (dA hi hW) (dA ho hW)).mono ?_;rintro x W2 ⟨hb2,hx⟩;rw[hck]at hx;dsimp only at hx;rw[hfs]at hx;obtain⟨xs,v,h1,h2,rfl,h4⟩:=hx;exact⟨hb2,_,rfl,xs,v,h1,h2,rfl,h4⟩
 have HTS:Hid (∀W1,Below w.heap.size w W1->_):=fun W1 hW=>xq (HO.out.below hW)
 have hwc:ev? o=.nilIface\/∃t y,ev? o=.iface t y:=by
  cases o with
  |none=>exact .inl rfl
  |some e=>exact .inr (fZ e)
 clear h hi ho hok hck hfs;generalize ev? o=wt at*;generalize (⟨tn.toArray⟩:ByteArray)=T at*;rcases hwc with rfl|⟨tt,ty,rfl⟩
 · have hB0:Below w.heap.size w ((w.alloc (.cells #[.int .i64 0,.slice none 0 0,.int .i64 0] 29)).alloc (.cells #[.slice va l.length vc,.string T,.nilIface,.slice ua os.length uc,.bool lb,.int .i64 (ln:Nat)] 109)):=((Below.refl _ _).alloc (nlr _) _).alloc (by simp) _;have HKA:=hd ((af.new w #[.int .i64 0,.slice none 0 0,.int .i64 0] 29).alloc (.cells #[.slice va l.length vc,.string T,.nilIface,.slice ua os.length uc,.bool lb,.int .i64 (ln:Nat)] 109));have HKS:Hid (af ((w.alloc (.cells #[.int .i64 0,.slice none 0 0,.int .i64 0] 29)).alloc (.cells #[.slice va l.length vc,.string T,.nilIface,.slice ua os.length uc,.bool lb,.int .i64 (ln:Nat)] 109)) (w.heap.size+1) #[.slice va l.length vc,.string T,.nilIface,.slice ua os.length uc,.bool lb,.int .i64 (ln:Nat)] 109):=(by have h:=af.new (w.alloc (.cells #[.int .i64 0,.slice none 0 0,.int .i64 0] 29)) #[.slice va l.length vc,.string T,.nilIface,.slice ua os.length uc,.bool lb,.int .i64 (ln:Nat)] 109;rw[World.size_alloc]at h;exact h);have HBV:=hd hB0
   have hsv:((w.alloc (.cells #[.int .i64 0,.slice none 0 0,.int .i64 0] 29)).alloc (.cells #[.slice va l.length vc,.string T,.nilIface,.slice ua os.length uc,.bool lb,.int .i64 (ln:Nat)] 109)).heap.size=w.heap.size+2:=by simp
   clear hB0;go_enter Tryz.func22,Tryz.ntmps22;go_wp2_with fail;generalize ((w.alloc (.cells #[.int .i64 0,.slice none 0 0,.int .i64 0] 29)).alloc (.cells #[.slice va l.length vc,.string T,.nilIface,.slice ua os.length uc,.bool lb,.int .i64 (ln:Nat)] 109))=V at*;have HD:Hid (Below V.heap.size V (World.drew V)):=(Below.refl _ V).drew;have HTB:=hd (HTS.out (World.drew V) HBV.out.drew);have s0:=HKS.out.cell 0;have s1:=HKS.out.cell 1;have s2:=HKS.out.cell 2;have s3:=HKS.out.cell 3;have s4:=HKS.out.cell 4;have s5:=HKS.out.cell 5;have a0:=HKA.out.cell 0;have a1:=HKA.out.cell 1;have a2:=HKA.out.cell 2;simp at s0 s1 s2 s3 s4 s5 a0 a1 a2;have fa0:=HKA.out.free 0;have fa1:=HKA.out.free 1;have fa2:=HKA.out.free 2;have hl1:=HKS.out.lt
   go_region_held3 (fun w'=>w'.cell? ⟨w.heap.size+1,0,none⟩=some (.slice va l.length vc)/\w'.cell? ⟨w.heap.size+1,1,none⟩=some (.string T)/\w'.cell? ⟨w.heap.size+1,2,none⟩=some .nilIface/\w'.cell? ⟨w.heap.size+1,3,none⟩=some (.slice ua os.length uc)/\w'.cell? ⟨w.heap.size+1,4,none⟩=some (.bool lb)/\w'.cell? ⟨w.heap.size+1,5,none⟩=some (.int .i64 (ln:Nat))) (go_keep)
     (first
      |(go_at_call 34
        refine HTB.out.mono ?_;rintro x w1 ⟨rfl,hb1⟩;have HB1:Hid (Below V.heap.size V w1):=HD.out.trans hb1;have K1:=HKS.out.below HB1.out HKS.out.lt;have t0:=K1.cell 0;have t1:=K1.cell 1;have t2:=K1.cell 2;have t3:=K1.cell 3;have t4:=K1.cell 4;have t5:=K1.cell 5;simp at t0 t1 t2 t3 t4 t5;have HI1:=hd (HIN.out w1 (HBV.out.trans (HB1.out.mono HBV.out.size)));have hl3:=K1.lt
        clear hb1 K1)
      |(go_at_call 38
        refine HI1.out.mono ?_;rintro x W2 ⟨hb2,a,rfl,hsel⟩;obtain⟨an,vo,vn,vc2,rfl⟩:=hsel.slice;have HB2:Hid (Below V.heap.size V W2):=HB1.out.trans (hb2.mono HB1.out.size)
        have HOW:Hid (uL (w.heap.size+2) cs l os lb ln fs _ W2):=hsel.lift fun v n xs q=>dC q (by have:=HB1.out.size;omega)
        have K3:=HKS.out.below HB2.out HKS.out.lt;have K4:=HKA.out.below HB2.out HKA.out.lt;clear hb2 hsel;have u0:=K3.cell 0;have u1:=K3.cell 1;have u2:=K3.cell 2;have u3:=K3.cell 3;have u4:=K3.cell 4;have u5:=K3.cell 5;have b0:=K4.cell 0;have b1:=K4.cell 1;have b2:=K4.cell 2;simp at u0 u1 u2 u3 u4 u5 b0 b1 b2;have fb0:=K4.free 0;have fb1:=K4.free 1;have fb2:=K4.free 2
        have hl4:=K4.lt))
   have K5:=((K4.set 0 (.int .i64 an)).set 1 (.slice vo vn vc2)).set 2 (.int .i64 0);have g0:=K5.cell 0;have g1:=K5.cell 1;have g3:=K5.cell 2;simp at g0 g1 g3;clear K5 K4 K3;go_wp2;refine⟨rfl,.agg #[.int .i64 an,.slice vo vn vc2,.int .i64 0],by simp[results,Tryz.results22,go_sem,g0,g1,g3],?_⟩;refine⟨(((HBV.out.trans (HB2.out.mono HBV.out.size)).setCell (p:=⟨w.heap.size,0,none⟩) (nlr _) _).setCell (p:=⟨w.heap.size,1,none⟩) (nlr _) _).setCell (p:=⟨w.heap.size,2,none⟩) (nlr _) _,_,rfl,?_⟩
   exact HOW.out.lift fun v n xs q=>Tw.aA (Tw.aA (Tw.aA q (p:=⟨w.heap.size,0,none⟩) _ (by show w.heap.size<_;omega)) (p:=⟨w.heap.size,1,none⟩) _ (by show w.heap.size<_;omega)) (p:=⟨w.heap.size,2,none⟩) _ (by show w.heap.size<_;omega)
 have hB0:Below w.heap.size w ((w.alloc (.cells #[.int .i64 0,.slice none 0 0,.int .i64 0] 29)).alloc (.cells #[.slice va l.length vc,.string T,.iface tt ty,.slice ua os.length uc,.bool lb,.int .i64 (ln:Nat)] 109)):=((Below.refl _ _).alloc (nlr _) _).alloc (by simp) _;have HKA:=hd ((af.new w #[.int .i64 0,.slice none 0 0,.int .i64 0] 29).alloc (.cells #[.slice va l.length vc,.string T,.iface tt ty,.slice ua os.length uc,.bool lb,.int .i64 (ln:Nat)] 109));have HKS:Hid (af ((w.alloc (.cells #[.int .i64 0,.slice none 0 0,.int .i64 0] 29)).alloc (.cells #[.slice va l.length vc,.string T,.iface tt ty,.slice ua os.length uc,.bool lb,.int .i64 (ln:Nat)] 109)) (w.heap.size+1) #[.slice va l.length vc,.string T,.iface tt ty,.slice ua os.length uc,.bool lb,.int .i64 (ln:Nat)] 109):=(by have h:=af.new (w.alloc (.cells #[.int .i64 0,.slice none 0 0,.int .i64 0] 29)) #[.slice va l.length vc,.string T,.iface tt ty,.slice ua os.length uc,.bool lb,.int .i64 (ln:Nat)] 109;rw[World.size_alloc]at h;exact h);have HBV:=hd hB0
 have hsv:((w.alloc (.cells #[.int .i64 0,.slice none 0 0,.int .i64 0] 29)).alloc (.cells #[.slice va l.length vc,.string T,.iface tt ty,.slice ua os.length uc,.bool lb,.int .i64 (ln:Nat)] 109)).heap.size=w.heap.size+2:=by simp
 clear hB0;go_enter Tryz.func22,Tryz.ntmps22;go_wp2_with fail;generalize ((w.alloc (.cells #[.int .i64 0,.slice none 0 0,.int .i64 0] 29)).alloc (.cells #[.slice va l.length vc,.string T,.iface tt ty,.slice ua os.length uc,.bool lb,.int .i64 (ln:Nat)] 109))=V at*;have HD:Hid (Below V.heap.size V (World.drew V)):=(Below.refl _ V).drew;have HTB:=hd (HTS.out (World.drew V) HBV.out.drew);have s0:=HKS.out.cell 0;have s1:=HKS.out.cell 1;have s2:=HKS.out.cell 2;have s3:=HKS.out.cell 3;have s4:=HKS.out.cell 4;have s5:=HKS.out.cell 5;have a0:=HKA.out.cell 0;have a1:=HKA.out.cell 1;have a2:=HKA.out.cell 2;simp at s0 s1 s2 s3 s4 s5 a0 a1 a2;have fa0:=HKA.out.free 0;have fa1:=HKA.out.free 1;have fa2:=HKA.out.free 2;have hl1:=HKS.out.lt
 go_region_held3 (fun w'=>w'.cell? ⟨w.heap.size+1,0,none⟩=some (.slice va l.length vc)/\w'.cell? ⟨w.heap.size+1,1,none⟩=some (.string T)/\w'.cell? ⟨w.heap.size+1,2,none⟩=some (.iface tt ty)/\w'.cell? ⟨w.heap.size+1,3,none⟩=some (.slice ua os.length uc)/\w'.cell? ⟨w.heap.size+1,4,none⟩=some (.bool lb)/\w'.cell? ⟨w.heap.size+1,5,none⟩=some (.int .i64 (ln:Nat))) (go_keep)
   (first
    |(go_at_call 34
      refine HTB.out.mono ?_;rintro x w1 ⟨rfl,hb1⟩;have HB1:Hid (Below V.heap.size V w1):=HD.out.trans hb1;have K1:=HKS.out.below HB1.out HKS.out.lt;have t0:=K1.cell 0;have t1:=K1.cell 1;have t2:=K1.cell 2;have t3:=K1.cell 3;have t4:=K1.cell 4;have t5:=K1.cell 5;simp at t0 t1 t2 t3 t4 t5;have HI1:=hd (HIN.out w1 (HBV.out.trans (HB1.out.mono HBV.out.size)));have hl3:=K1.lt
      clear hb1 K1)
    |(go_at_call 38
      refine HI1.out.mono ?_;rintro x W2 ⟨hb2,a,rfl,hsel⟩;obtain⟨an,vo,vn,vc2,rfl⟩:=hsel.slice;have HB2:Hid (Below V.heap.size V W2):=HB1.out.trans (hb2.mono HB1.out.size)
      have HOW:Hid (uL (w.heap.size+2) cs l os lb ln fs _ W2):=hsel.lift fun v n xs q=>dC q (by have:=HB1.out.size;omega)
      have K3:=HKS.out.below HB2.out HKS.out.lt;have K4:=HKA.out.below HB2.out HKA.out.lt;clear hb2 hsel;have u0:=K3.cell 0;have u1:=K3.cell 1;have u2:=K3.cell 2;have u3:=K3.cell 3;have u4:=K3.cell 4;have u5:=K3.cell 5;have b0:=K4.cell 0;have b1:=K4.cell 1;have b2:=K4.cell 2;simp at u0 u1 u2 u3 u4 u5 b0 b1 b2;have fb0:=K4.free 0;have fb1:=K4.free 1;have fb2:=K4.free 2
      have hl4:=K4.lt))
 have K5:=((K4.set 0 (.int .i64 an)).set 1 (.slice vo vn vc2)).set 2 (.int .i64 0);have g0:=K5.cell 0;have g1:=K5.cell 1;have g3:=K5.cell 2;simp at g0 g1 g3;clear K5 K4 K3;go_wp2;refine⟨rfl,.agg #[.int .i64 an,.slice vo vn vc2,.int .i64 0],by simp[results,Tryz.results22,go_sem,g0,g1,g3],?_⟩;refine⟨(((HBV.out.trans (HB2.out.mono HBV.out.size)).setCell (p:=⟨w.heap.size,0,none⟩) (nlr _) _).setCell (p:=⟨w.heap.size,1,none⟩) (nlr _) _).setCell (p:=⟨w.heap.size,2,none⟩) (nlr _) _,_,rfl,?_⟩
 exact HOW.out.lift fun v n xs q=>Tw.aA (Tw.aA (Tw.aA q (p:=⟨w.heap.size,0,none⟩) _ (by show w.heap.size<_;omega)) (p:=⟨w.heap.size,1,none⟩) _ (by show w.heap.size<_;omega)) (p:=⟨w.heap.size,2,none⟩) _ (by show w.heap.size<_;omega)
end Tx
end
section
namespace Tx
open Tb Tw Bt
theorem Lc{tn:Lx.Bs}{cs:Mg.ax}{M:aU}(l:List (Option Px.E))(o:Option Px.E)(os:List (Px.E×Bool))(lm:Option Nat)(s:ByteArray)(hp:Px.Reads s.data.toList (.select l tn o os lm))(hm:s.size<=maxLen)(he:iZ w)(h:kr w b 0 p ge ce tn cs M nx F R)
   (hlen:l.length<=2000/\os.length<=2000/\1<=l.length) (hc1:1<=cs.length/\cs.length<=6) (hok:∀d∈Mg.je cs l o os,d.1.ok 2000) (hck:Mg.bO cs (Mg.je cs l o os)=.ok ()) (fs:List (List Mg.V×List Mg.V)) (hfs:Mg.foundM cs (Tb.aF cs l) (os.map Prod.fst) o (M.map Prod.snd)=.ok fs):
   Calls Tryz.prog 9 #[.pointer (some ⟨b,0,none⟩),.string s] w fun x w'=>aC [b] w w'/\kr w' b 0 p ge ce tn cs M nx F R/\∃a,x=.returned (.tuple #[a,.int .i64 0])/\uL (w.heap.size+2) cs l os lm.isSome (lm.getD 0) fs a w':=by
 have hbl:=h.blk.lt
 refine(mP (.select l tn o os lm) s hp hm b _ w he h.blk rfl
   (fun wp v x w2=>Below (wp.setCell ⟨b,0,none⟩ (.int .i32 1)).heap.size (wp.setCell ⟨b,0,none⟩ (.int .i32 1)) w2/\∃a,x=.returned a/\uL (wp.heap.size+2) cs l os lm.isSome (lm.getD 0) fs a w2) ?_ ?_).mono ?_
 · intro wp v B hb hBB hst;obtain⟨u,u',rfl,hu,hu'⟩:=hst;have hu2:wp.ownsRow (B+1) 225 2 u l.length (l.flatMap itemC):=hu;have hu3:wp.ownsRow (B+1) 227 2 u' os.length (os.flatMap bq):=hu';refine(JR ((h.below hb).lock 1) l o os lm.isSome (lm.getD 0) hlen hc1 hok u u' (Ts.ai (Tw.aA hu2 (p:=⟨b,0,none⟩) _ (by show b<_;omega)) (Nat.zero_le _)) (Ts.ai (Tw.aA hu3 (p:=⟨b,0,none⟩) _ (by show b<_;omega)) (Nat.zero_le _)) hck fs hfs).mono ?_;rintro x w2 ⟨hB2,a,rfl,hS⟩;exact⟨hB2,a,rfl,by simpa using hS⟩
 · rintro wp v x w2 hb ⟨hB,a,rfl,hS⟩;have hK:=((h.below hb).lock 1).blk;obtain⟨an,vo,vn,vc,rfl⟩:=hS.slice;refine⟨.inl ⟨_,_,_,_,_,rfl⟩,fun k hk hl=> ?_,⟨_,hK.below hB hK.lt,rfl⟩,by simpa using hB.size⟩;rw[hB.block k (by simpa using hl)];exact Below.heap_setCell _ _ _ _ (by show k≠b;omega)
 rintro x w' ⟨wp,v,x0,w2,W3,hb,hsz,⟨hB,a,rfl,hS⟩,hTd,hA3,hA4⟩;refine⟨JX hb (aC.of hB) hA3 hA4,(((h.below hb).lock 1).below hB).unlock (fun g hg=> .inl (h.lt g hg)) hA3 hA4,a,sV hTd,hS.lift fun v n xs q=> ?_⟩;have q1:w2.ownsRow (w.heap.size+2) 39 3 v n xs:=dC q (by omega);exact rT (Tw.aA (rT q1 hA3 (nlr _)) _ (by show b<_;omega)) hA4 (nlr _)
end Tx
end
namespace Mk
theorem fI{z:Int}(h1: -9223372036854775808<=z)(h2:z<=9223372036854775807):IntKind.i64.wrap z=z:=by
 unfold IntKind.wrap;simp only[IntKind.bits,IntKind.signed];simp;omega
theorem gZ(z:Int)(k:Nat)(w:World)(h1: -9223372036854775808<=z)(h2:z<=9223372036854775807)(hk:1<=k)(hk2:k<=2000000000):
   Calls Tryz.prog 10 #[.int .i64 z,.int .i64 k] w fun x w'=>∃r:Nat,r<k/\x=.returned (.int .i64 r)/\w'=w:=by
 have key:∀c:Int,0<=c->∃r:Nat,r<k/\Int.tmod c k=(r:Int):=by
  intro c hc;obtain⟨n,rfl⟩:=Int.eq_ofNat_of_zero_le hc;exact⟨n%k,Nat.mod_lt _ (by omega),by rw[Int.ofNat_tmod]⟩
 have hk0:¬((k:Int)=0):=by omega
 by_cases hz:z<0
 · have e1:IntKind.i64.wrap (z+1)=z+1:=fI (by omega) (by omega);have e2:IntKind.i64.wrap (-(z+1))= -(z+1):=fI (by omega) (by omega);obtain⟨r,hr,he⟩:=key (-(z+1)) (by omega);have e3:IntKind.i64.wrap (r:Int)=r:=fI (by omega) (by omega);go_enter Tryz.func10,Tryz.ntmps10;go_wp2;go_ret;exact⟨r,hr,by simp_all,rfl⟩
 obtain⟨r,hr,he⟩:=key z (by omega);have e3:IntKind.i64.wrap (r:Int)=r:=fI (by omega) (by omega);go_enter Tryz.func10,Tryz.ntmps10;go_wp2;go_ret;exact⟨r,hr,by simp_all,rfl⟩
end Mk
namespace Kp
theorem lC(z:Fin 7):(Px.nz z).length<=2:=by
 match z with
 |0|1|2|3|4|5|6=>decide
theorem Jf(r:Nat)(h:r<7):(⟨(Px.pM ((r:Int)-3)).toArray⟩:ByteArray)=⟨(Px.nz ⟨r,h⟩).toArray⟩:=by
 match r,h with
 |0,_=>rfl
 |1,_=>rfl
 |2,_=>rfl
 |3,_=>rfl
 |4,_=>rfl
 |5,_=>rfl
 |6,_=>rfl
 |k+7,h=>omega
theorem eO{a:ByteArray}{b:Lx.Bs}(h:a.data.toList=b):Ending.returned (.string a)=.returned (.string ⟨b.toArray⟩):=by
 subst h
 rfl
theorem Kz(n:Int)(h1: -9223372036854775808<=n)(h2:n<=9223372036854775807)(w:World)(he:vK w):
   Calls Tryz.prog 16 #[.int .i64 n] w fun x w'=>(∃z na nb c,x=.returned (.string ⟨(Px.eD z na nb c).toArray⟩))/\Below w.heap.size w w':=by
 have HE:=hd he;clear he;go_enter Tryz.func16,Tryz.ntmps16;go_wp2_with fail;refine(Mk.gZ n 7 _ h1 h2 (by omega) (by omega)).mono ?_;rintro x w1 ⟨r7,hr7,rfl,rfl⟩;have e7:IntKind.i64.wrap ((r7:Int)-3)=(r7:Int)-3:=Mk.fI (by omega) (by omega);go_wp2_with fail;have HI:=hd (Tryz.strconv_Itoa ((r7:Int)-3) (by omega) (by omega) w1 HE.out.tab);refine HI.out.mono ?_;rintro x w2 ⟨rfl,kk,os,hw⟩
 have HB:Hid (Below w1.heap.size w1 w2):=by show Below _ _ _;rw[hw];exact Lib.below_grow _ w1 (nlr _) kk os
 clear hw HI;rw[IC ((r7:Int)-3) (by omega) (by omega),Jf r7 hr7]
 have HS:Hid ((⟨(Px.nz ⟨r7,hr7⟩).toArray⟩:ByteArray).data.toList=Px.nz ⟨r7,hr7⟩):=by show _=_;simp
 have hnl:=lC ⟨r7,hr7⟩
 have hsz:(⟨(Px.nz ⟨r7,hr7⟩).toArray⟩:ByteArray).size<=2:=by
  show(Px.nz ⟨r7,hr7⟩).toArray.size<=2;rw[List.size_toArray];exact hnl
 have hmx:100000<=maxLen:=by decide
 generalize (⟨(Px.nz ⟨r7,hr7⟩).toArray⟩:ByteArray)=S at*;go_wp2_with fail;refine(Mk.gZ n 5 _ h1 h2 (by omega) (by omega)).mono ?_;rintro x w3 ⟨r5,hr5,rfl,rfl⟩;obtain⟨na,hna⟩:∃na:Bool,((r5:Int)==0)=na:=⟨_,rfl⟩
 cases na
 all_goals
  go_wp2_with fail;refine(Mk.gZ n 11 _ h1 h2 (by omega) (by omega)).mono ?_;rintro x w3 ⟨r11,hr11,rfl,rfl⟩;obtain⟨nb,hnb⟩:∃nb:Bool,((r11:Int)==3)=nb:=⟨_,rfl⟩
  cases nb
  all_goals
   go_wp2_with fail;refine(Mk.gZ n 2 _ h1 h2 (by omega) (by omega)).mono ?_;rintro x w3 ⟨r2,hr2,rfl,rfl⟩;obtain⟨c2,hc2⟩:∃nb:Bool,((r2:Int)==0)=nb:=⟨_,rfl⟩
   cases c2
   all_goals
    go_wp2_with fail;refine(Mk.gZ n 13 _ h1 h2 (by omega) (by omega)).mono ?_;rintro x w3 ⟨r13,hr13,rfl,rfl⟩;obtain⟨c3,hc3⟩:∃nb:Bool,((r13:Int)==5)=nb:=⟨_,rfl⟩
    cases c3
    all_goals
     go_wp2_with fail;go_ret;refine⟨?_,HB.out⟩;have hS:=HS.out
     first
      |(refine⟨⟨r7,hr7⟩,false,false,0,eO ?_⟩;simp[Px.eD,Px.aT,Px.bT,Px.cT,Px.aX,Px.fB,Px.dE,hS];done)
      |(refine⟨⟨r7,hr7⟩,false,false,1,eO ?_⟩;simp[Px.eD,Px.aT,Px.bT,Px.cT,Px.aX,Px.fB,Px.dE,hS];done)
      |(refine⟨⟨r7,hr7⟩,false,false,2,eO ?_⟩;simp[Px.eD,Px.aT,Px.bT,Px.cT,Px.aX,Px.fB,Px.dE,hS];done)
      |(refine⟨⟨r7,hr7⟩,false,true,0,eO ?_⟩;simp[Px.eD,Px.aT,Px.bT,Px.cT,Px.aX,Px.fB,Px.dE,hS];done)
      |(refine⟨⟨r7,hr7⟩,false,true,1,eO ?_⟩;simp[Px.eD,Px.aT,Px.bT,Px.cT,Px.aX,Px.fB,Px.dE,hS];done)
      |(refine⟨⟨r7,hr7⟩,false,true,2,eO ?_⟩;simp[Px.eD,Px.aT,Px.bT,Px.cT,Px.aX,Px.fB,Px.dE,hS];done)
      |(refine⟨⟨r7,hr7⟩,true,false,0,eO ?_⟩;simp[Px.eD,Px.aT,Px.bT,Px.cT,Px.aX,Px.fB,Px.dE,hS];done)
      |(refine⟨⟨r7,hr7⟩,true,false,1,eO ?_⟩;simp[Px.eD,Px.aT,Px.bT,Px.cT,Px.aX,Px.fB,Px.dE,hS];done)
      |(refine⟨⟨r7,hr7⟩,true,false,2,eO ?_⟩;simp[Px.eD,Px.aT,Px.bT,Px.cT,Px.aX,Px.fB,Px.dE,hS];done)
      |(refine⟨⟨r7,hr7⟩,true,true,0,eO ?_⟩;simp[Px.eD,Px.aT,Px.bT,Px.cT,Px.aX,Px.fB,Px.dE,hS];done)
      |(refine⟨⟨r7,hr7⟩,true,true,1,eO ?_⟩;simp[Px.eD,Px.aT,Px.bT,Px.cT,Px.aX,Px.fB,Px.dE,hS];done)
      |(refine⟨⟨r7,hr7⟩,true,true,2,eO ?_⟩;simp[Px.eD,Px.aT,Px.bT,Px.cT,Px.aX,Px.fB,Px.dE,hS];done)
end Kp
section
namespace Mg
open Px
def rowVal(z:Fin 7)(na nb:Bool)(c:Fin 3):List V:=
 [if na=true then aJ else gK ((z.val:Int)-3),if nb=true then aJ else qW (nz z),match c with|0=>aB false|1=>aB true|2=>aJ]
def NW(r:List V):Prop:=∃z na nb c,r=rowVal z na nb c
theorem FB(z:Fin 7)(na nb:Bool)(c:Fin 3):Tb.mf bL [[aE z na,bE z nb,cE c]]=.ok (aN bL [[aE z na,bE z nb,cE c]])/\bO [] (aN bL [[aE z na,bE z nb,cE c]])=.ok ()/\Tb.rowsM bL [[aE z na,bE z nb,cE c]]=.ok [rowVal z na nb c]:=by
 match z,c with
 |0,0=>cases na<;>cases nb<;>exact⟨rfl,rfl,rfl⟩
 |0,1=>cases na<;>cases nb<;>exact⟨rfl,rfl,rfl⟩
 |0,2=>cases na<;>cases nb<;>exact⟨rfl,rfl,rfl⟩
 |1,0=>cases na<;>cases nb<;>exact⟨rfl,rfl,rfl⟩
 |1,1=>cases na<;>cases nb<;>exact⟨rfl,rfl,rfl⟩
 |1,2=>cases na<;>cases nb<;>exact⟨rfl,rfl,rfl⟩
 |2,0=>cases na<;>cases nb<;>exact⟨rfl,rfl,rfl⟩
 |2,1=>cases na<;>cases nb<;>exact⟨rfl,rfl,rfl⟩
 |2,2=>cases na<;>cases nb<;>exact⟨rfl,rfl,rfl⟩
 |3,0=>cases na<;>cases nb<;>exact⟨rfl,rfl,rfl⟩
 |3,1=>cases na<;>cases nb<;>exact⟨rfl,rfl,rfl⟩
 |3,2=>cases na<;>cases nb<;>exact⟨rfl,rfl,rfl⟩
 |4,0=>cases na<;>cases nb<;>exact⟨rfl,rfl,rfl⟩
 |4,1=>cases na<;>cases nb<;>exact⟨rfl,rfl,rfl⟩
 |4,2=>cases na<;>cases nb<;>exact⟨rfl,rfl,rfl⟩
 |5,0=>cases na<;>cases nb<;>exact⟨rfl,rfl,rfl⟩
 |5,1=>cases na<;>cases nb<;>exact⟨rfl,rfl,rfl⟩
 |5,2=>cases na<;>cases nb<;>exact⟨rfl,rfl,rfl⟩
 |6,0=>cases na<;>cases nb<;>exact⟨rfl,rfl,rfl⟩
 |6,1=>cases na<;>cases nb<;>exact⟨rfl,rfl,rfl⟩
 |6,2=>cases na<;>cases nb<;>exact⟨rfl,rfl,rfl⟩
theorem J8(n:Nat)(hn:n<=199)(z:Fin 7)(na nb:Bool)(c:Fin 3):Tb.iO bL n [[aE z na,bE z nb,cE c]]=.ok [rowVal z na nb c]:=by
 obtain⟨h1,h2,h3⟩:=FB z na nb c;unfold Tb.iO;rw[h1];dsimp only;rw[h2];dsimp only;rw[h3];dsimp only;rw[if_pos (by simp;omega)]
theorem lC(z:Fin 7):(nz z).length<=100:=by
 match z with
 |0|1|2|3|4|5|6=>decide
theorem Fh(z:Fin 7)(na nb:Bool)(c:Fin 3):iy bL (rowVal z na nb c):=by
 have hz:=z.isLt
 have hA:CK (if na=true then aJ else gK ((z.val:Int)-3))/\Has (if na=true then aJ else gK ((z.val:Int)-3)) 1:=by
  cases na
  · exact⟨yY ⟨by omega,by omega⟩,.inr (.inl ⟨rfl,rfl⟩)⟩
  exact⟨jM,.inl rfl⟩
 have hB:CK (if nb=true then aJ else qW (nz z))/\Has (if nb=true then aJ else qW (nz z)) 2:=by
  cases nb
  · exact⟨yC (lC z),.inr (.inr (.inl ⟨rfl,rfl⟩))⟩
  exact⟨jM,.inl rfl⟩
 have hC:CK (match c with|0=>aB false|1=>aB true|2=>aJ)/\Has (match c with|0=>aB false|1=>aB true|2=>aJ) 3:=by
  match c with
  |0=>exact⟨gL false,.inr (.inr (.inr ⟨rfl,rfl⟩))⟩
  |1=>exact⟨gL true,.inr (.inr (.inr ⟨rfl,rfl⟩))⟩
  |2=>exact⟨jM,.inl rfl⟩
 refine⟨rfl,fun v hv=> ?_,fun i x v hi hv=> ?_⟩
 · simp only[rowVal,List.mem_cons,List.not_mem_nil,or_false]at hv;rcases hv with rfl|rfl|rfl
   · exact hA.1
   · exact hB.1
   exact hC.1
 match i,hi,hv with
 |0,hi,hv=>cases hi;cases hv;exact hA.2
 |1,hi,hv=>cases hi;cases hv;exact hB.2
 |2,hi,hv=>cases hi;cases hv;exact hC.2
theorem JO:dJ bL:=⟨by decide,by decide⟩
def triB(r:Except Nat V):Bool:=match r with
 |.ok v=>(v.kind==15&&(v.int==0||v.int==1)&&v.text==[])||(v.kind==14&&v.int==0&&v.text==[])
 |.error _=>false
theorem IV:∀(z:Fin 7) (na nb:Bool) (c:Fin 3) (k:Fin 9),triB (value bL (rowVal z na nb c) (bQ k))=true:=by decide+kernel
theorem MC{r:Except Nat V}(h:triB r=true):r=.ok (aB true)\/r=.ok (aB false)\/r=.ok aJ:=by
 cases r with
 |error c=>simp[triB]at h
 |ok v=>
  obtain⟨k,i,t⟩:=v;simp only[triB,Bool.or_eq_true,Bool.and_eq_true,beq_iff_eq]at h;rcases h with⟨⟨rfl,rfl|rfl⟩,rfl⟩|⟨⟨rfl,rfl⟩,rfl⟩
  · exact .inr (.inl rfl)
  · exact .inl rfl
  exact .inr (.inr rfl)
theorem three(e:E):∀(rs:List (List V)),(∀r∈rs,value bL r e=.ok (aB true)\/value bL r e=.ok (aB false)\/value bL r e=.ok aJ)->(∀r∈rs,∃v,vals bL r [nA]=.ok [v])->
   ∃f1 f2 f3,foundM bL [nA] [] (some e) rs=.ok f1/\foundM bL [nA] [] (some (.un 20 e)) rs=.ok f2/\foundM bL [nA] [] (some (.un 21 e)) rs=.ok f3/\f1.length+f2.length+f3.length=rs.length/\(∀x∈f1++f2++f3,x.1.length=1)
 |[],_,_=>⟨[],[],[],rfl,rfl,rfl,rfl,by simp⟩
 |r::rs,hv,ha=>by
  obtain⟨f1,f2,f3,h1,h2,h3,h4,h5⟩:=three e rs (fun q hq=>hv q (by simp[hq])) (fun q hq=>ha q (by simp[hq]));obtain⟨v,hva⟩:=ha r (by simp);have hv0:vals bL r []=.ok []:=rfl;rcases hv r (by simp)with h|h|h
  · refine⟨([v],[])::f1,f2,f3,?_,?_,?_,by simp;omega,?_⟩
    · simp[foundM,chooses,h,isTrue,bW,aB,hva,hv0,h1]
    · simp[foundM,chooses,value,h,rC,isNull,isTrue,bW,aB,aJ,h2]
    · simp[foundM,chooses,value,h,rC,isNull,isTrue,bW,aB,aJ,h3]
    intro x hx;simp only[List.cons_append,List.mem_cons]at hx;rcases hx with rfl|hx
    · rfl
    exact h5 x hx
  · refine⟨f1,([v],[])::f2,f3,?_,?_,?_,by simp;omega,?_⟩
    · simp[foundM,chooses,h,isTrue,bW,aB,h1]
    · simp[foundM,chooses,value,h,rC,isNull,isTrue,bW,aB,aJ,hva,hv0,h2]
    · simp[foundM,chooses,value,h,rC,isNull,isTrue,bW,aB,aJ,h3]
    intro x hx;simp only[laa,List.cons_append,List.mem_append,List.mem_cons]at hx;rcases hx with hx|rfl|hx|hx
    · exact h5 x (by simp[hx])
    · rfl
    · exact h5 x (by simp[hx])
    exact h5 x (by simp[hx])
  refine⟨f1,f2,([v],[])::f3,?_,?_,?_,by simp;omega,?_⟩
  · simp[foundM,chooses,h,isTrue,bW,aB,aJ,h1]
  · simp[foundM,chooses,value,h,rC,isNull,isTrue,bW,aB,aJ,h2]
  · simp[foundM,chooses,value,h,rC,isNull,isTrue,bW,aB,aJ,hva,hv0,h3]
  intro x hx;simp only[laa,List.mem_append,List.mem_cons]at hx;rcases hx with hx|hx|rfl|hx
  · exact h5 x (by simp[hx])
  · exact h5 x (by simp[hx])
  · rfl
  exact h5 x (by simp[hx])
theorem mV(k:Fin 9):bO bL (je bL [some nA] (some (bQ k)) [])=.ok ()/\bO bL (je bL [some nA] (some (.un 20 (bQ k))) [])=.ok ()/\bO bL (je bL [some nA] (some (.un 21 (bQ k))) [])=.ok ():=by
 match k with
 |0=>exact⟨rfl,rfl,rfl⟩
 |1=>exact⟨rfl,rfl,rfl⟩
 |2=>exact⟨rfl,rfl,rfl⟩
 |3=>exact⟨rfl,rfl,rfl⟩
 |4=>exact⟨rfl,rfl,rfl⟩
 |5=>exact⟨rfl,rfl,rfl⟩
 |6=>exact⟨rfl,rfl,rfl⟩
 |7=>exact⟨rfl,rfl,rfl⟩
 |8=>exact⟨rfl,rfl,rfl⟩
end Mg
end
section
namespace Kp
open Tx Tb Tw Bt
def Dg(W:World)(ao:Option Addr)(n:Nat):Prop:=∀k,k<n->∃g off z,ao=some ⟨g,off,none⟩/\g<W.heap.size/\W.cell? ⟨g,off+k,none⟩=some (.int .i64 z)/\ -9223372036854775808<=z/\z<=9223372036854775807
structure LV(w W:World)(b p ge ce:Nat)(M:aU)(nx:Int)(F R:List Nat):Prop where
 sto:kr W b 0 p ge ce [116] Px.bL M nx F R
 rows:∀m∈M,Mg.NW m.2
 low:∀g∈b::ge::p::(F++R),w.heap.size<=g
theorem I7(z:Fin 7)(na nb:Bool)(c:Fin 3):(⟨(Px.eD z na nb c).toArray⟩:ByteArray).size<=100:=by
 show(Px.eD z na nb c).toArray.size<=100;rw[List.size_toArray];have:=lC z
 have hc:(Px.cT c).length<=5:=by
  match c with
  |0|1|2=>decide
 simp only[Px.eD,List.length_append]
 cases na<;>cases nb<;>simp[Px.aT,Px.bT,Px.aX]<;>omega
theorem Lj(cs:Mg.ax)(a b c:Px.E):(Mg.aN cs [[a,b,c]]).length<=1000000:=by
 simp only[Mg.aN,List.flatMap_cons,List.flatMap_nil,List.append_nil,Mg.fw,List.length_map,List.length_zip,List.length_cons,List.length_nil];omega
theorem LQ(z:Fin 7)(na nb:Bool)(c:Fin 3):∀r∈[[Px.aE z na,Px.bE z nb,Px.cE c]],∀e∈r,e.ok 2000:=by
 intro r hr e he;simp only[List.mem_singleton]at hr;subst hr;have hz:=z.isLt;have hl:=lC z;simp only[List.mem_cons,List.not_mem_nil,or_false]at he;rcases he with rfl|rfl|rfl
 · cases na
   · show-9223372036854775808<=(z.val:Int)-3/\(z.val:Int)-3<=9223372036854775807;omega
   trivial
 · cases nb
   · show(Px.nz z).length<=2000;omega
   trivial
 match c with
 |0=>trivial
 |1=>trivial
 |2=>trivial
theorem FT(ao:Option Addr)(n c:Nat)(w:World)(hn:n<=maxLen)(he:iZ w)(hed:vK w)(hI:Dg w ao n):
   Calls Tryz.prog 8 #[.slice ao n c] w fun x w'=>Below w.heap.size w w'/\∃b p ge ce M nx F R,x=.returned (.tuple #[.pointer (some ⟨b,0,none⟩),.int .i64 ((M.length:Nat):Int),.bool true])/\M.length<=60/\LV w w' b p ge ce M nx F R:=by
 have HEP:=hd he;have HED:=hd hed;have HI:=hd hI
 have HB0:Hid (Below w.heap.size w (w.alloc (.cells (DJ 0 (.slice none 0 0) 0) 70))):=by show Below _ _ _;go_grown
 have HKB:=hd (af.new w (DJ 0 (.slice none 0 0) 0) 70)
 have hsz0:(w.alloc (.cells (DJ 0 (.slice none 0 0) 0) 70)).heap.size=w.heap.size+1:=by simp
 clear he hed hI;go_enter Tryz.func8,Tryz.ntmps8;go_wp2_with fail;refine(KE _).mono ?_;rintro x w1 ⟨rfl,rfl⟩;generalize (w.alloc (.cells (DJ 0 (.slice none 0 0) 0) 70))=V at*;go_wp2_with fail;refine(LD w.heap.size V (HEP.out.below HB0.out) HKB.out [116] Px.bL ⟨Px.Nr.toArray⟩ Px.FU (by simp[ByteArray.size,Px.Nr,maxLen]) Mg.JO (by decide)).mono ?_;rintro x w2 ⟨rfl,hT,p,ge,ce,R,hS,h1,h2,h3⟩;have HB2:Hid (Below w.heap.size w w2):=⟨hT.os.trans HB0.out.os,hT.tape.trans HB0.out.tape,hT.output.trans HB0.out.output,by have:=hT.size;omega,fun k hk=>(hT.block k (by omega) (by simp;omega)).trans (HB0.out.block k hk)⟩;have HS2:=hd hS;have HLW:Hid (w.heap.size<p/\w.heap.size<ge/\∀g∈R,w.heap.size<g):=⟨by omega,by omega,fun g hg=>by have:=h3 g hg;omega⟩;clear hT hS h1 h2 h3;go_wp2_with fail
 have hmx:100000<=maxLen:=by decide
 have HB3:Hid (Below w2.heap.size w2 (w2.alloc (.cells #[.int .i64 0,.slice none 0 0,.int .i64 0] 29))):=by show Below _ _ _;go_grown
 go_loopw [8,9] (fun nv iv wr=>∃(k:Nat) (M:aU) (nx:Int) (F R:List Nat),nv=.int .i64 k/\iv=.int .i64 k/\k<=n/\k<=60/\Hid (M.length=k/\nx=k)/\Hid (Below w.heap.size w wr)/\Hid (LV w wr w.heap.size p ge ce M nx F R)) (fun _ iv _=>n-(intOf iv).toNat)
 case atStart=>exact⟨0,[],0,[],R,rfl,rfl,Nat.zero_le _,Nat.zero_le _,⟨rfl,rfl⟩,HB2.out.trans (HB3.out.mono HB2.out.size),HS2.out.below HB3.out,fun m hm=>by simp at hm,fun g hg=>by
  have hl:=HLW.out;simp only[List.nil_append,List.mem_cons]at hg;rcases hg with rfl|rfl|rfl|hg
  · omega
  · omega
  · omega
  have:=hl.2.2 g hg;omega⟩
 case round=>
  obtain⟨k,M,nx,F,R,rfl,rfl,hk,OQ,HM,HB,HG⟩:=hrel;by_cases h60:k<60
  · by_cases hlt:k<n
    · obtain⟨g,off,z,hao,hg,hcell,hz1,hz2⟩:=HI.out k hlt;have d0:=(HB.out.cell (p:=⟨g,off+k,none⟩) hg).trans hcell;have hg2:=nlA hg HB.out.size;subst hao;clear hcell;have Ow:=hd (HED.out.below HB.out);go_wp2_with fail;refine(Kz z hz1 hz2 wr Ow.out).mono ?_;rintro x w3 ⟨⟨rz,na,nb,rc,rfl⟩,hb3⟩;have HS3:=hd (HG.out.sto.below hb3);have HBB:Hid (Below w.heap.size w w3):=HB.out.trans (hb3.mono HB.out.size);have Po:=hd (HEP.out.below HBB.out);have hrt:(⟨(Px.eD rz na nb rc).toArray⟩:ByteArray).size<=100:=I7 rz na nb rc;have HTX:Hid ((⟨(Px.eD rz na nb rc).toArray⟩:ByteArray).data.toList=Px.eD rz na nb rc):=rfl;generalize (⟨(Px.eD rz na nb rc).toArray⟩:ByteArray)=S at*;clear hb3 Ow;go_wp2_with fail
      have HIN:=hd (Kw [[Px.aE rz na,Px.bE rz nb,Px.cE rc]] ((⟨Px.JE.toArray⟩:ByteArray)++S++(⟨#[41]⟩:ByteArray)) (by
          have h:=Px.F3 rz na nb rc
          have e:((⟨Px.JE.toArray⟩:ByteArray)++S++(⟨#[41]⟩:ByteArray)).data.toList=Px.Lf rz na nb rc:=by simp[Px.Lf,HTX.out]
          rw[e];exact h) (by rw[ByteArray.size_append,ByteArray.size_append];show 22+S.size+1<=maxLen;omega) Po.out HS3.out (by simp) (fun cs=>Lj cs _ _ _) (by simp) (LQ rz na nb rc) (by have:=HM.out.2;simp;omega) [Mg.rowVal rz na nb rc] (Mg.J8 _ (by have:=HM.out.1;omega) rz na nb rc) (HS3.out.ok.more _ (by simp;exact Mg.Fh rz na nb rc) (by have:=HM.out.1;simp;omega)))
      refine HIN.out.mono ?_;rintro x w4 ⟨rfl,hT4,F4,R4,hS4,hsub⟩
      have HLO:Hid (∀g∈w.heap.size::ge::p::(F4++R4),w.heap.size<=g):=fun g hg=>by
       have hs3:=HBB.out.size;simp only[List.mem_cons]at hg;rcases hg with h|h|h|h
       · exact HG.out.low g (by simp[h])
       · exact HG.out.low g (by simp[h])
       · exact HG.out.low g (by simp[h])
       rcases hsub g h with h|h
       · exact HG.out.low g (by simp only[List.mem_cons];exact .inr (.inr (.inr h)))
       omega
      have HB4:Hid (Below w.heap.size w w4):=⟨hT4.os.trans HBB.out.os,hT4.tape.trans HBB.out.tape,hT4.output.trans HBB.out.output,Nat.le_trans HBB.out.size hT4.size,fun j hj=>(hT4.block j (by have:=HBB.out.size;omega) (fun hm=>by
       have:=HG.out.low j (by simp only[List.mem_cons,List.mem_append]at hm⊢;rcases hm with h|h|h;exact .inl h;exact .inr (.inr (.inl h));exact .inr (.inr (.inr (.inl h))))
       omega)).trans (HBB.out.block j hj)⟩
      have HS4:=hd hS4;clear hT4 hS4 hsub HIN;have hvl:((([Mg.rowVal rz na nb rc]:List (List Mg.V)).length:Nat):Int)=1:=rfl;simp only[List.length_singleton]at*
      have HW5:Hid (Below w4.heap.size w4 (w4.alloc (.cells #[.int .i64 0,.slice none 0 0,.int .i64 1] 29))):=by show Below _ _ _;go_grown
      go_wp2_with fail;go_roundw
      case rel=>exact⟨k+1,M++numb nx [Mg.rowVal rz na nb rc],nx+1,F4,R4,rfl,rfl,by omega,by omega,⟨by simp[numb,HM.out.1],by have:=HM.out.2;omega⟩,HB4.out.trans (HW5.out.mono HB4.out.size),HS4.out.below HW5.out,fun m hm=>by
       rcases List.mem_append.1 hm with h|h
       · exact HG.out.rows m h
       simp[numb]at h;subst h
       exact⟨rz,na,nb,rc,rfl⟩,HLO.out⟩
      case measure=>simp[intOf];omega
    have hkn:k=n:=by omega
    go_wp2_with fail;refine⟨rfl,.tuple #[.pointer (some ⟨w.heap.size,0,none⟩),.int .i64 (k:Nat),.bool true],by simp[results,Tryz.results8,go_sem],?_⟩;exact⟨HB.out,w.heap.size,p,ge,ce,M,nx,F,R,by rw[HM.out.1],by rw[HM.out.1];exact OQ,HG.out⟩
  go_wp2_with fail
  all_goals
   refine⟨rfl,.tuple #[.pointer (some ⟨w.heap.size,0,none⟩),.int .i64 (k:Nat),.bool true],by simp[results,Tryz.results8,go_sem],?_⟩;exact⟨HB.out,w.heap.size,p,ge,ce,M,nx,F,R,by rw[HM.out.1],by rw[HM.out.1];exact OQ,HG.out⟩
end Kp
end
section
namespace Kp
open Tx Tb Tw Bt
theorem IW(r:List Mg.V)(h:Mg.NW r):∃v,Mg.vals Px.bL r [Px.nA]=.ok [v]:=by
 obtain⟨z,na,nb,c,rfl⟩:=h;exact⟨_,rfl⟩
theorem E9{os:List (Px.E×Bool)}{fs xs:List (List Mg.V×List Mg.V)}(h:So.dF (fun a b=>decide (Mg.vS (os.map Prod.snd) a b<0)) fs xs)(h1:∀x∈fs,x.1.length=1):(xs.flatMap Prod.fst).length=fs.length:=by
 have hx:∀x∈xs,x.1.length=1:=fun x hx=>h1 x (h.perm.mem_iff.1 hx)
 rw[<-h.perm.length_eq];clear h h1
 induction xs with
 |nil=>rfl
 |cons a l ih=>
  rw[List.flatMap_cons,List.length_append,hx a (by simp),ih fun x hx2=>hx x (by simp[hx2])];simp;omega
theorem ask{M:aU}(e:Px.E)(hok:e.ok 2000)(s:ByteArray)(hp:Px.Reads s.data.toList (Px.qc e))(hm:s.size<=maxLen)(he:iZ w)(h:kr w b 0 p ge ce [116] Px.bL M nx F R)(hck:Mg.bO Px.bL (Mg.je Px.bL [some Px.nA] (some e) [])=.ok ())
   (fs:List (List Mg.V×List Mg.V)) (hfs:Mg.foundM Px.bL [Px.nA] [] (some e) (M.map Prod.snd)=.ok fs) (h1:∀x∈fs,x.1.length=1):
   Calls Tryz.prog 9 #[.pointer (some ⟨b,0,none⟩),.string s] w fun x w'=>aC [b] w w'/\kr w' b 0 p ge ce [116] Px.bL M nx F R/\∃ao cp,x=.returned (.tuple #[.agg #[.int .i64 1,.slice ao fs.length cp,.int .i64 0],.int .i64 0]):=by
 refine(Lc [some Px.nA] (some e) [] none s hp hm he h ⟨by simp,by simp,by simp⟩ ⟨by decide,by decide⟩ (fun d hd=> ?_) hck fs hfs).mono ?_
 · simp[Mg.je,Tb.aF,Tb.itE,Tb.demW]at hd;rcases hd with rfl|rfl
   · show([97]:Lx.Bs).length<=30
     decide
   exact hok
 rintro x w' ⟨hT,hS,a,rfl,xs,v,hs1,hs2,rfl,hown⟩;rw[if_neg (by decide)]at hown;rw[E9 hs2 h1]at hown;obtain⟨ao,cp,rfl⟩:=au hown;exact⟨hT,hS,ao,cp,rfl⟩
theorem lU{W W':World}(h:Below w.heap.size w W)(hT:aC [b] W W')(hb:w.heap.size<=b):Below w.heap.size w W':=
 ⟨hT.os.trans h.os,hT.tape.trans h.tape,hT.output.trans h.output,Nat.le_trans h.size hT.size,fun k hk=>(hT.block k (nlA hk h.size) (by simp;omega)).trans (h.block k hk)⟩
theorem yZ(k:Fin 9):(Px.bQ k).ok 2000:=by
 match k with
 |0=>simp[Px.bQ,Px.nA,Px.E.ok]
 |1=>simp[Px.bQ,Px.nB,Px.E.ok]
 |2=>simp[Px.bQ,Px.nC,Px.E.ok]
 |3=>simp[Px.bQ,Px.nA,Px.nC,Px.E.ok]
 |4=>simp[Px.bQ,Px.nA,Px.nC,Px.E.ok]
 |5=>simp[Px.bQ,Px.nB,Px.E.ok]
 |6=>simp[Px.bQ,Px.nA,Px.E.ok]
 |7=>simp[Px.bQ,Px.E.ok]
 |8=>simp[Px.bQ,Px.nA,Px.E.ok]
theorem GX(k:Fin 9):(⟨(Px.cond k).toArray⟩:ByteArray).size<=30:=by
 match k with
 |0|1|2|3|4|5|6|7|8=>decide
theorem Ff(ao:Option Addr)(n c:Nat)(q:Int)(w:World)(hn:n<=maxLen)(hq1: -9223372036854775808<=q)(hq2:q<=9223372036854775807)(he:iZ w)(hed:vK w)(hI:Dg w ao n):
   Calls Tryz.prog 4 #[.slice ao n c,.int .i64 q] w fun x w'=>x=.returned (.bool true)/\Below w.heap.size w w':=by
 have HEP:=hd he;have HBG:=hd (FT ao n c w hn he hed hI);clear he hed hI;go_enter Tryz.func4,Tryz.ntmps4;go_wp2_with fail;refine HBG.out.mono ?_;rintro x w1 ⟨hb1,b,p,ge,ce,M,nx,F,R,rfl,hM,hG⟩;have HB1:=hd hb1;have HG1:=hd hG;have hbw:w.heap.size<=b:=hG.low b (by simp);clear hb1 hG HBG;go_wp2_with fail;refine(Mk.gZ q 9 _ hq1 hq2 (by omega) (by omega)).mono ?_;rintro x w2 ⟨r,hr,rfl,rfl⟩;generalize hW2:w1.alloc _=W2
 have c0:W2.cell? ⟨w1.heap.size,r,none⟩=some (.string ⟨(Px.cond ⟨r,hr⟩).toArray⟩):=by
  rw[<-hW2]
  match r,hr with
  |0,_=>simp[Px.cond]
  |1,_=>simp[Px.cond]
  |2,_=>simp[Px.cond]
  |3,_=>simp[Px.cond]
  |4,_=>simp[Px.cond]
  |5,_=>simp[Px.cond]
  |6,_=>simp[Px.cond]
  |7,_=>simp[Px.cond]
  |8,_=>simp[Px.cond]
  |k+9,h=>omega
 have HW2:Hid (Below w1.heap.size w1 W2):=by show Below _ _ _;rw[<-hW2];go_grown
 have hl2:w1.heap.size<W2.heap.size:=by rw[<-hW2];simp
 clear hW2;have hsz:=GX ⟨r,hr⟩;have HTX:Hid ((⟨(Px.cond ⟨r,hr⟩).toArray⟩:ByteArray).data.toList=Px.cond ⟨r,hr⟩):=rfl;generalize (⟨(Px.cond ⟨r,hr⟩).toArray⟩:ByteArray)=S at*
 have hmx:100000<=maxLen:=by decide
 obtain⟨f1,f2,f3,hf1,hf2,hf3,hsum,hone⟩:=Mg.three (Px.bQ ⟨r,hr⟩) (M.map Prod.snd) (fun y hy=>by
  obtain⟨m,hm,rfl⟩:=List.mem_map.1 hy;obtain⟨z,na,nb,c,he⟩:=HG1.out.rows m hm;rw[he]
  exact Mg.MC (Mg.IV z na nb c ⟨r,hr⟩)) (fun y hy=>by
  obtain⟨m,hm,rfl⟩:=List.mem_map.1 hy
  exact IW _ (HG1.out.rows m hm))
 rw[List.length_map]at hsum;have HF1:=hd hf1;have HF2:=hd hf2;have HF3:=hd hf3;have Nh:=hd hone
 have hlf:f1.length<=60/\f2.length<=60/\f3.length<=60:=by omega
 have PD:=hd hsum;have NM:Hid (Below w.heap.size w W2):=HB1.out.trans (HW2.out.mono HB1.out.size);have HS2:=hd (HG1.out.sto.below HW2.out);have HE2:=hd (HEP.out.below NM.out);clear hf1 hf2 hf3 hone hsum HG1 HB1;go_wp2_with fail
 refine(ask (Px.bQ ⟨r,hr⟩) (yZ _) ((⟨Px.jG.toArray⟩:ByteArray)++S) (by
     have e:((⟨Px.jG.toArray⟩:ByteArray)++S).data.toList=Px.jG++Px.cond ⟨r,hr⟩:=by simp[HTX.out]
     rw[e];exact Px.EG _) (by rw[ByteArray.size_append];show 22+S.size<=maxLen;omega) HE2.out HS2.out (Mg.mV _).1 f1 HF1.out (fun x hx=>Nh.out x (by simp[hx]))).mono ?_
 rintro x w3 ⟨hT,hS,a1,p1,rfl⟩;have HB3:Hid (Below w.heap.size w (w3.alloc (.cells #[.int .i64 1,.slice a1 f1.length p1,.int .i64 0] 29))):=(lU NM.out hT hbw).alloc (lU NM.out hT hbw).size _
 have HN3:Hid (Below w3.heap.size w3 (w3.alloc (.cells #[.int .i64 1,.slice a1 f1.length p1,.int .i64 0] 29))):=by show Below _ _ _;go_grown
 have HS3:=hd (hS.below HN3.out);have HE3:=hd (HEP.out.below HB3.out);have HX1:=hd (af.new w3 #[.int .i64 1,.slice a1 f1.length p1,.int .i64 0] 29);have hb3:=hS.blk.lt;clear hT hS HS2 HE2;go_wp2_with fail;generalize w3.alloc (.cells #[.int .i64 1,.slice a1 f1.length p1,.int .i64 0] 29)=V3 at*
 refine(ask (.un 20 (Px.bQ ⟨r,hr⟩)) ⟨by omega,by omega,fun h=>by omega,yZ _⟩ ((⟨#[83,69,76,69,67,84,32,97,32,70,82,79,77,32,116,32,87,72,69,82,69,32,78,79,84,32,40]⟩:ByteArray)++S++(⟨#[41]⟩:ByteArray)) (by
     have e:((⟨#[83,69,76,69,67,84,32,97,32,70,82,79,77,32,116,32,87,72,69,82,69,32,78,79,84,32,40]⟩:ByteArray)++S++(⟨#[41]⟩:ByteArray)).data.toList=Px.jG++Px.LM (Px.cond ⟨r,hr⟩):=by simp[HTX.out,Px.jG,Px.LM]
     rw[e];exact Px.FJ _) (by rw[ByteArray.size_append,ByteArray.size_append];show 27+S.size+1<=maxLen;omega) HE3.out HS3.out (Mg.mV _).2.1 f2 HF2.out (fun x hx=>Nh.out x (by simp[hx]))).mono ?_
 rintro x w4 ⟨hT,hS,a2,p2,rfl⟩;have HB4:Hid (Below w.heap.size w (w4.alloc (.cells #[.int .i64 1,.slice a2 f2.length p2,.int .i64 0] 29))):=(lU HB3.out hT hbw).alloc (lU HB3.out hT hbw).size _
 have HN4:Hid (Below w4.heap.size w4 (w4.alloc (.cells #[.int .i64 1,.slice a2 f2.length p2,.int .i64 0] 29))):=by show Below _ _ _;go_grown
 have HS4:=hd (hS.below HN4.out);have HE4:=hd (HEP.out.below HB4.out);have Qp:=hd ((hT.blk HX1.out (by simp;omega)).alloc (.cells #[.int .i64 1,.slice a2 f2.length p2,.int .i64 0] 29));have PQ:=hd (af.new w4 #[.int .i64 1,.slice a2 f2.length p2,.int .i64 0] 29);have hb4:=hS.blk.lt;clear hT hS HS3 HE3 HX1;go_wp2_with fail;generalize w4.alloc (.cells #[.int .i64 1,.slice a2 f2.length p2,.int .i64 0] 29)=V4 at*
 refine(ask (.un 21 (Px.bQ ⟨r,hr⟩)) ⟨by omega,by omega,fun h=>by omega,yZ _⟩ ((⟨#[83,69,76,69,67,84,32,97,32,70,82,79,77,32,116,32,87,72,69,82,69,32,40]⟩:ByteArray)++S++(⟨#[41,32,73,83,32,78,85,76,76]⟩:ByteArray)) (by
     have e:((⟨#[83,69,76,69,67,84,32,97,32,70,82,79,77,32,116,32,87,72,69,82,69,32,40]⟩:ByteArray)++S++(⟨#[41,32,73,83,32,78,85,76,76]⟩:ByteArray)).data.toList=Px.jG++Px.Ko (Px.cond ⟨r,hr⟩):=by simp[HTX.out,Px.jG,Px.Ko]
     rw[e];exact Px.FK _) (by rw[ByteArray.size_append,ByteArray.size_append];show 23+S.size+9<=maxLen;omega) HE4.out HS4.out (Mg.mV _).2.2 f3 HF3.out (fun x hx=>Nh.out x (by simp[hx]))).mono ?_
 rintro x w5 ⟨hT,hS,a3,p3,rfl⟩;have HB5:Hid (Below w.heap.size w (w5.alloc (.cells #[.int .i64 1,.slice a3 f3.length p3,.int .i64 0] 29))):=(lU HB4.out hT hbw).alloc (lU HB4.out hT hbw).size _;have NI:=(hT.blk Qp.out (by simp;omega));have ME:=(hT.blk PQ.out (by simp;omega));have k1:=NI.cell 1;have k2:=ME.cell 1;have l1:=NI.lt;have l2:=ME.lt;simp at k1 k2;clear hT hS HS4 HE4 NI ME;have hs:=PD.out;have e1:IntKind.i64.wrap ((f1.length:Int)+f2.length)=(f1.length:Int)+f2.length:=Mk.fI (by omega) (by omega);have e2:IntKind.i64.wrap ((f1.length:Int)+f2.length+f3.length)=(f1.length:Int)+f2.length+f3.length:=Mk.fI (by omega) (by omega)
 have hq:(((f1.length:Int)+f2.length+f3.length)==((M.length:Nat):Int))=true:=by rw[beq_iff_eq];omega
 go_wp2_with fail;go_ret;exact⟨by first|rfl|rw[hq]|(rw[hq];rfl),HB5.out⟩
end Kp
end
end Go.Proofs.YthhhfcdakfbpkaaGreatDoor
