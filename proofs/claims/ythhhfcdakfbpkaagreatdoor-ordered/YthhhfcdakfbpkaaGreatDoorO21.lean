/- Parts of the proof -/
import Derived.Test.YthhhfcdakfbpkaaGreatDoorO16
import Derived.Test.YthhhfcdakfbpkaaGreatDoorO20
import Derived.Test.YthhhfcdakfbpkaaGreatDoorO18
import Derived.Test.YthhhfcdakfbpkaaGreatDoorO1
import Derived.Test.YthhhfcdakfbpkaaGreatDoorO3
import Derived.Test.YthhhfcdakfbpkaaGreatDoorO14
import Derived.Test.YthhhfcdakfbpkaaGreatDoorO2
import Derived.Test.YthhhfcdakfbpkaaGreatDoorO19
namespace Go.Proofs.YthhhfcdakfbpkaaGreatDoor
set_option linter.unusedSimpArgs false
set_option linter.unusedVariables false
set_option maxRecDepth 100000
set_option maxHeartbeats 16000000
open Go.RowKit
variable {W w:World}{b ce ge i k p:Nat}{nx:Int}{F R:List Nat}
section
namespace Tx
open Tb Tw Bt
def vI(B:Nat)(cs:Mg.ax)(l:List (Option Px.E))(os:List (Px.E×Bool))(lb:Bool)(ln:Nat)(fs:List (List Mg.V×List Mg.V))(a:Value)(w':World):Prop:=
 ∃xs v,So.bS (fun a b=>decide (Mg.pW (os.map Prod.snd) a b<0)) xs/\So.di (fun a b=>decide (Mg.pW (os.map Prod.snd) a b<0)) fs xs/\a=.agg #[.int .i64 ((Tb.aC cs l).length:Nat),v,.int .i64 0]/\
     w'.ownsRow B 39 3 v (((if lb=true then xs.take ln else xs).flatMap Prod.fst)).length (((if lb=true then xs.take ln else xs).flatMap Prod.fst).flatMap Mg.vC)
theorem vI.slice{B:Nat}{cs:Mg.ax}{l:List (Option Px.E)}{os:List (Px.E×Bool)}{lb:Bool}{ln:Nat}{fs:List (List Mg.V×List Mg.V)}{a:Value}{w':World}(h:vI B cs l os lb ln fs a w'):∃(n:Int) (ao:Option Addr) (k c:Nat),a=.agg #[.int .i64 n,.slice ao k c,.int .i64 0]:=by
 obtain⟨xs,v,_,_,h1,h2⟩:=h;obtain⟨ao,k,c,rfl⟩:=EY h2;exact⟨_,_,_,_,h1⟩
theorem vI.lift{B B':Nat}{cs:Mg.ax}{l:List (Option Px.E)}{os:List (Px.E×Bool)}{lb:Bool}{ln:Nat}{fs:List (List Mg.V×List Mg.V)}{a:Value}{w':World}(h:vI B cs l os lb ln fs a w)(f:∀v n xs,w.ownsRow B 39 3 v n xs->w'.ownsRow B' 39 3 v n xs):vI B' cs l os lb ln fs a w':=by
 obtain⟨xs,v,h1,h2,h3,h4⟩:=h;exact⟨xs,v,h1,h2,h3,f _ _ _ h4⟩
theorem JO{tn:Lx.Bs}{cs:Mg.ax}{M:aX}{lk:Int}(h:kK w b lk p ge ce tn cs M nx F R)(l:List (Option Px.E))(o:Option Px.E)(os:List (Px.E×Bool))(lb:Bool)(ln:Nat)(hlen:l.length<=2000/\os.length<=2000/\1<=l.length)(hc1:1<=cs.length/\cs.length<=6)(hok:∀d∈Mg.iU cs l o os,d.1.ok 2000)(v u:Value)(hi:w.ownsRow 0 225 2 v l.length (l.flatMap itemC))(ho:w.ownsRow 0 227 2 u os.length (os.flatMap bA))
   (hck:Mg.dw cs (Mg.iU cs l o os)=.ok ()) (fs:List (List Mg.V×List Mg.V)) (hfs:Mg.foundM cs (Tb.aC cs l) (os.map Prod.fst) o (M.map Prod.snd)=.ok fs):
   Calls Tryz.prog 22 #[.pointer (some ⟨b,2,none⟩),.iface 109 (.agg #[v,.string ⟨tn.toArray⟩,ev? o,u,.bool lb,.int .i64 (ln:Nat)])] w fun x w'=>Below w.heap.size w w'/\∃a,x=.returned a/\vI (w.heap.size+2) cs l os lb ln fs a w':=by
 obtain⟨va,vc,rfl⟩:=au hi;obtain⟨ua,uc,rfl⟩:=au ho;have RJ:=su (.slice va l.length vc) (.string ⟨tn.toArray⟩) (ev? o) (.slice ua os.length uc) (.bool lb) (.int .i64 (ln:Nat));have QH:=Aa (.slice va l.length vc) (.string ⟨tn.toArray⟩) (ev? o) (.slice ua os.length uc) (.bool lb) (.int .i64 (ln:Nat));have RS:=vg (.slice va l.length vc) (.string ⟨tn.toArray⟩) (ev? o) (.slice ua os.length uc) (.bool lb) (.int .i64 (ln:Nat));have hta4:=uI (.slice va l.length vc) (.string ⟨tn.toArray⟩) (ev? o) (.slice ua os.length uc) (.bool lb) (.int .i64 (ln:Nat));have hta5:=tH (.slice va l.length vc) (.string ⟨tn.toArray⟩) (ev? o) (.slice ua os.length uc) (.bool lb) (.int .i64 (ln:Nat));have hta6:=vY (.slice va l.length vc) (.string ⟨tn.toArray⟩) (ev? o) (.slice ua os.length uc) (.bool lb) (.int .i64 (ln:Nat));have HO:=hd h;have hbl:=h.blk.lt
 have HIN:Hid (∀W1,Below w.heap.size w W1->Calls Tryz.prog 38 #[.pointer (some ⟨p,0,none⟩),.agg #[.slice va l.length vc,.string ⟨tn.toArray⟩,ev? o,.slice ua os.length uc,.bool lb,.int .i64 (ln:Nat)]] W1 fun x W2=>Below W1.heap.size W1 W2/\∃a,x=.returned a/\vI W1.heap.size cs l os lb ln fs a W2):=fun W1 hW=>by
  obtain⟨sv,ve,vk,d,L,ht⟩:=h.tab;refine(wM l o os lb ln ⟨tn.toArray⟩ hlen p cs M nx F R sv ve vk d L _ _ W1 (ht.below hW) h.ok hc1 hok (dG hi hW) (dG ho hW)).mono ?_;rintro x W2 ⟨hb2,hx⟩;rw[hck]at hx;dsimp only at hx;rw[hfs]at hx;obtain⟨xs,v,h1,h2,rfl,h4⟩:=hx;exact⟨hb2,_,rfl,xs,v,h1,h2,rfl,h4⟩
 have HTS:Hid (∀W1,Below w.heap.size w W1->_):=fun W1 hW=>wU (HO.out.below hW)
 have hwc:ev? o=.nilIface\/∃t y,ev? o=.iface t y:=by
  cases o with
  |none=>exact .inl rfl
  |some e=>exact .inr (gH e)
 clear h hi ho hok hck hfs;generalize ev? o=wt at*;generalize (⟨tn.toArray⟩:ByteArray)=T at*;rcases hwc with rfl|⟨tt,ty,rfl⟩
 · have hB0:Below w.heap.size w ((w.alloc (.cells #[.int .i64 0,.slice none 0 0,.int .i64 0] 29)).alloc (.cells #[.slice va l.length vc,.string T,.nilIface,.slice ua os.length uc,.bool lb,.int .i64 (ln:Nat)] 109)):=((Below.refl _ _).alloc (nlr _) _).alloc (by simp) _;have HKA:=hd ((af.new w #[.int .i64 0,.slice none 0 0,.int .i64 0] 29).alloc (.cells #[.slice va l.length vc,.string T,.nilIface,.slice ua os.length uc,.bool lb,.int .i64 (ln:Nat)] 109));have HKS:Hid (af ((w.alloc (.cells #[.int .i64 0,.slice none 0 0,.int .i64 0] 29)).alloc (.cells #[.slice va l.length vc,.string T,.nilIface,.slice ua os.length uc,.bool lb,.int .i64 (ln:Nat)] 109)) (w.heap.size+1) #[.slice va l.length vc,.string T,.nilIface,.slice ua os.length uc,.bool lb,.int .i64 (ln:Nat)] 109):=(by have h:=af.new (w.alloc (.cells #[.int .i64 0,.slice none 0 0,.int .i64 0] 29)) #[.slice va l.length vc,.string T,.nilIface,.slice ua os.length uc,.bool lb,.int .i64 (ln:Nat)] 109;rw[World.size_alloc]at h;exact h);have HBV:=hd hB0
   have hsv:((w.alloc (.cells #[.int .i64 0,.slice none 0 0,.int .i64 0] 29)).alloc (.cells #[.slice va l.length vc,.string T,.nilIface,.slice ua os.length uc,.bool lb,.int .i64 (ln:Nat)] 109)).heap.size=w.heap.size+2:=by simp
   clear hB0;go_enter Tryz.func22,Tryz.ntmps22;go_wp2_with fail;generalize ((w.alloc (.cells #[.int .i64 0,.slice none 0 0,.int .i64 0] 29)).alloc (.cells #[.slice va l.length vc,.string T,.nilIface,.slice ua os.length uc,.bool lb,.int .i64 (ln:Nat)] 109))=V at*;have HD:Hid (Below V.heap.size V (World.drew V)):=(Below.refl _ V).drew;have HTB:=hd (HTS.out (World.drew V) HBV.out.drew);have s0:=HKS.out.cell 0;have s1:=HKS.out.cell 1;have s2:=HKS.out.cell 2;have s3:=HKS.out.cell 3;have s4:=HKS.out.cell 4;have s5:=HKS.out.cell 5;have a0:=HKA.out.cell 0;have a1:=HKA.out.cell 1;have a2:=HKA.out.cell 2;simp at s0 s1 s2 s3 s4 s5 a0 a1 a2;have fa0:=HKA.out.free 0;have fa1:=HKA.out.free 1;have fa2:=HKA.out.free 2;have hl1:=HKS.out.lt
   go_region_held3 (fun w'=>w'.cell? ⟨w.heap.size+1,0,none⟩=some (.slice va l.length vc)/\w'.cell? ⟨w.heap.size+1,1,none⟩=some (.string T)/\w'.cell? ⟨w.heap.size+1,2,none⟩=some .nilIface/\w'.cell? ⟨w.heap.size+1,3,none⟩=some (.slice ua os.length uc)/\w'.cell? ⟨w.heap.size+1,4,none⟩=some (.bool lb)/\w'.cell? ⟨w.heap.size+1,5,none⟩=some (.int .i64 (ln:Nat))) (go_keep)
     (first
      |(go_at_call 34
        refine HTB.out.mono ?_;rintro x w1 ⟨rfl,hb1⟩;have HB1:Hid (Below V.heap.size V w1):=HD.out.trans hb1;have K1:=HKS.out.below HB1.out HKS.out.lt;have t0:=K1.cell 0;have t1:=K1.cell 1;have t2:=K1.cell 2;have t3:=K1.cell 3;have t4:=K1.cell 4;have t5:=K1.cell 5;simp at t0 t1 t2 t3 t4 t5;have HI1:=hd (HIN.out w1 (HBV.out.trans (HB1.out.mono HBV.out.size)));have hl3:=K1.lt
        clear hb1 K1)
      |(go_at_call 38
        refine HI1.out.mono ?_;rintro x W2 ⟨hb2,a,rfl,hsel⟩;obtain⟨an,vo,vn,vc2,rfl⟩:=hsel.slice;have HB2:Hid (Below V.heap.size V W2):=HB1.out.trans (hb2.mono HB1.out.size)
        have HOW:Hid (vI (w.heap.size+2) cs l os lb ln fs _ W2):=hsel.lift fun v n xs q=>dE q (by have:=HB1.out.size;omega)
        have K3:=HKS.out.below HB2.out HKS.out.lt;have K4:=HKA.out.below HB2.out HKA.out.lt;clear hb2 hsel;have u0:=K3.cell 0;have u1:=K3.cell 1;have u2:=K3.cell 2;have u3:=K3.cell 3;have u4:=K3.cell 4;have u5:=K3.cell 5;have b0:=K4.cell 0;have b1:=K4.cell 1;have b2:=K4.cell 2;simp at u0 u1 u2 u3 u4 u5 b0 b1 b2;have fb0:=K4.free 0;have fb1:=K4.free 1;have fb2:=K4.free 2
        have hl4:=K4.lt))
   have K5:=((K4.set 0 (.int .i64 an)).set 1 (.slice vo vn vc2)).set 2 (.int .i64 0);have g0:=K5.cell 0;have g1:=K5.cell 1;have g3:=K5.cell 2;simp at g0 g1 g3;clear K5 K4 K3;go_wp2;refine⟨rfl,.agg #[.int .i64 an,.slice vo vn vc2,.int .i64 0],by simp[results,Tryz.results22,go_sem,g0,g1,g3],?_⟩;refine⟨(((HBV.out.trans (HB2.out.mono HBV.out.size)).setCell (p:=⟨w.heap.size,0,none⟩) (nlr _) _).setCell (p:=⟨w.heap.size,1,none⟩) (nlr _) _).setCell (p:=⟨w.heap.size,2,none⟩) (nlr _) _,_,rfl,?_⟩
   exact HOW.out.lift fun v n xs q=>Tw.aB (Tw.aB (Tw.aB q (p:=⟨w.heap.size,0,none⟩) _ (by show w.heap.size<_;omega)) (p:=⟨w.heap.size,1,none⟩) _ (by show w.heap.size<_;omega)) (p:=⟨w.heap.size,2,none⟩) _ (by show w.heap.size<_;omega)
 have hB0:Below w.heap.size w ((w.alloc (.cells #[.int .i64 0,.slice none 0 0,.int .i64 0] 29)).alloc (.cells #[.slice va l.length vc,.string T,.iface tt ty,.slice ua os.length uc,.bool lb,.int .i64 (ln:Nat)] 109)):=((Below.refl _ _).alloc (nlr _) _).alloc (by simp) _;have HKA:=hd ((af.new w #[.int .i64 0,.slice none 0 0,.int .i64 0] 29).alloc (.cells #[.slice va l.length vc,.string T,.iface tt ty,.slice ua os.length uc,.bool lb,.int .i64 (ln:Nat)] 109));have HKS:Hid (af ((w.alloc (.cells #[.int .i64 0,.slice none 0 0,.int .i64 0] 29)).alloc (.cells #[.slice va l.length vc,.string T,.iface tt ty,.slice ua os.length uc,.bool lb,.int .i64 (ln:Nat)] 109)) (w.heap.size+1) #[.slice va l.length vc,.string T,.iface tt ty,.slice ua os.length uc,.bool lb,.int .i64 (ln:Nat)] 109):=(by have h:=af.new (w.alloc (.cells #[.int .i64 0,.slice none 0 0,.int .i64 0] 29)) #[.slice va l.length vc,.string T,.iface tt ty,.slice ua os.length uc,.bool lb,.int .i64 (ln:Nat)] 109;rw[World.size_alloc]at h;exact h);have HBV:=hd hB0
 have hsv:((w.alloc (.cells #[.int .i64 0,.slice none 0 0,.int .i64 0] 29)).alloc (.cells #[.slice va l.length vc,.string T,.iface tt ty,.slice ua os.length uc,.bool lb,.int .i64 (ln:Nat)] 109)).heap.size=w.heap.size+2:=by simp
 clear hB0;go_enter Tryz.func22,Tryz.ntmps22;go_wp2_with fail;generalize ((w.alloc (.cells #[.int .i64 0,.slice none 0 0,.int .i64 0] 29)).alloc (.cells #[.slice va l.length vc,.string T,.iface tt ty,.slice ua os.length uc,.bool lb,.int .i64 (ln:Nat)] 109))=V at*;have HD:Hid (Below V.heap.size V (World.drew V)):=(Below.refl _ V).drew;have HTB:=hd (HTS.out (World.drew V) HBV.out.drew);have s0:=HKS.out.cell 0;have s1:=HKS.out.cell 1;have s2:=HKS.out.cell 2;have s3:=HKS.out.cell 3;have s4:=HKS.out.cell 4;have s5:=HKS.out.cell 5;have a0:=HKA.out.cell 0;have a1:=HKA.out.cell 1;have a2:=HKA.out.cell 2;simp at s0 s1 s2 s3 s4 s5 a0 a1 a2;have fa0:=HKA.out.free 0;have fa1:=HKA.out.free 1;have fa2:=HKA.out.free 2;have hl1:=HKS.out.lt
 go_region_held3 (fun w'=>w'.cell? ⟨w.heap.size+1,0,none⟩=some (.slice va l.length vc)/\w'.cell? ⟨w.heap.size+1,1,none⟩=some (.string T)/\w'.cell? ⟨w.heap.size+1,2,none⟩=some (.iface tt ty)/\w'.cell? ⟨w.heap.size+1,3,none⟩=some (.slice ua os.length uc)/\w'.cell? ⟨w.heap.size+1,4,none⟩=some (.bool lb)/\w'.cell? ⟨w.heap.size+1,5,none⟩=some (.int .i64 (ln:Nat))) (go_keep)
   (first
    |(go_at_call 34
      refine HTB.out.mono ?_;rintro x w1 ⟨rfl,hb1⟩;have HB1:Hid (Below V.heap.size V w1):=HD.out.trans hb1;have K1:=HKS.out.below HB1.out HKS.out.lt;have t0:=K1.cell 0;have t1:=K1.cell 1;have t2:=K1.cell 2;have t3:=K1.cell 3;have t4:=K1.cell 4;have t5:=K1.cell 5;simp at t0 t1 t2 t3 t4 t5;have HI1:=hd (HIN.out w1 (HBV.out.trans (HB1.out.mono HBV.out.size)));have hl3:=K1.lt
      clear hb1 K1)
    |(go_at_call 38
      refine HI1.out.mono ?_;rintro x W2 ⟨hb2,a,rfl,hsel⟩;obtain⟨an,vo,vn,vc2,rfl⟩:=hsel.slice;have HB2:Hid (Below V.heap.size V W2):=HB1.out.trans (hb2.mono HB1.out.size)
      have HOW:Hid (vI (w.heap.size+2) cs l os lb ln fs _ W2):=hsel.lift fun v n xs q=>dE q (by have:=HB1.out.size;omega)
      have K3:=HKS.out.below HB2.out HKS.out.lt;have K4:=HKA.out.below HB2.out HKA.out.lt;clear hb2 hsel;have u0:=K3.cell 0;have u1:=K3.cell 1;have u2:=K3.cell 2;have u3:=K3.cell 3;have u4:=K3.cell 4;have u5:=K3.cell 5;have b0:=K4.cell 0;have b1:=K4.cell 1;have b2:=K4.cell 2;simp at u0 u1 u2 u3 u4 u5 b0 b1 b2;have fb0:=K4.free 0;have fb1:=K4.free 1;have fb2:=K4.free 2
      have hl4:=K4.lt))
 have K5:=((K4.set 0 (.int .i64 an)).set 1 (.slice vo vn vc2)).set 2 (.int .i64 0);have g0:=K5.cell 0;have g1:=K5.cell 1;have g3:=K5.cell 2;simp at g0 g1 g3;clear K5 K4 K3;go_wp2;refine⟨rfl,.agg #[.int .i64 an,.slice vo vn vc2,.int .i64 0],by simp[results,Tryz.results22,go_sem,g0,g1,g3],?_⟩;refine⟨(((HBV.out.trans (HB2.out.mono HBV.out.size)).setCell (p:=⟨w.heap.size,0,none⟩) (nlr _) _).setCell (p:=⟨w.heap.size,1,none⟩) (nlr _) _).setCell (p:=⟨w.heap.size,2,none⟩) (nlr _) _,_,rfl,?_⟩
 exact HOW.out.lift fun v n xs q=>Tw.aB (Tw.aB (Tw.aB q (p:=⟨w.heap.size,0,none⟩) _ (by show w.heap.size<_;omega)) (p:=⟨w.heap.size,1,none⟩) _ (by show w.heap.size<_;omega)) (p:=⟨w.heap.size,2,none⟩) _ (by show w.heap.size<_;omega)
end Tx
end
section
namespace Tx
open Tb Tw Bt
theorem Ld{tn:Lx.Bs}{cs:Mg.ax}{M:aX}(l:List (Option Px.E))(o:Option Px.E)(os:List (Px.E×Bool))(lm:Option Nat)(s:ByteArray)(hp:Px.Reads s.data.toList (.select l tn o os lm))(hm:s.size<=maxLen)(he:jr w)(h:kK w b 0 p ge ce tn cs M nx F R)
   (hlen:l.length<=2000/\os.length<=2000/\1<=l.length) (hc1:1<=cs.length/\cs.length<=6) (hok:∀d∈Mg.iU cs l o os,d.1.ok 2000) (hck:Mg.dw cs (Mg.iU cs l o os)=.ok ()) (fs:List (List Mg.V×List Mg.V)) (hfs:Mg.foundM cs (Tb.aC cs l) (os.map Prod.fst) o (M.map Prod.snd)=.ok fs):
   Calls Tryz.prog 9 #[.pointer (some ⟨b,0,none⟩),.string s] w fun x w'=>aG [b] w w'/\kK w' b 0 p ge ce tn cs M nx F R/\∃a,x=.returned (.tuple #[a,.int .i64 0])/\vI (w.heap.size+2) cs l os lm.isSome (lm.getD 0) fs a w':=by
 have hbl:=h.blk.lt
 refine(nL (.select l tn o os lm) s hp hm b _ w he h.blk rfl
   (fun wp v x w2=>Below (wp.setCell ⟨b,0,none⟩ (.int .i32 1)).heap.size (wp.setCell ⟨b,0,none⟩ (.int .i32 1)) w2/\∃a,x=.returned a/\vI (wp.heap.size+2) cs l os lm.isSome (lm.getD 0) fs a w2) ?_ ?_).mono ?_
 · intro wp v B hb hBB hst;obtain⟨u,u',rfl,hu,hu'⟩:=hst;have hu2:wp.ownsRow (B+1) 225 2 u l.length (l.flatMap itemC):=hu;have hu3:wp.ownsRow (B+1) 227 2 u' os.length (os.flatMap bA):=hu';refine(JO ((h.below hb).lock 1) l o os lm.isSome (lm.getD 0) hlen hc1 hok u u' (Ts.ai (Tw.aB hu2 (p:=⟨b,0,none⟩) _ (by show b<_;omega)) (Nat.zero_le _)) (Ts.ai (Tw.aB hu3 (p:=⟨b,0,none⟩) _ (by show b<_;omega)) (Nat.zero_le _)) hck fs hfs).mono ?_;rintro x w2 ⟨hB2,a,rfl,hS⟩;exact⟨hB2,a,rfl,by simpa using hS⟩
 · rintro wp v x w2 hb ⟨hB,a,rfl,hS⟩;have hK:=((h.below hb).lock 1).blk;obtain⟨an,vo,vn,vc,rfl⟩:=hS.slice;refine⟨.inl ⟨_,_,_,_,_,rfl⟩,fun k hk hl=> ?_,⟨_,hK.below hB hK.lt,rfl⟩,by simpa using hB.size⟩;rw[hB.block k (by simpa using hl)];exact Below.heap_setCell _ _ _ _ (by show k≠b;omega)
 rintro x w' ⟨wp,v,x0,w2,W3,hb,hsz,⟨hB,a,rfl,hS⟩,hTd,hA3,hA4⟩;refine⟨I6 hb (aG.of hB) hA3 hA4,(((h.below hb).lock 1).below hB).unlock (fun g hg=> .inl (h.lt g hg)) hA3 hA4,a,vD hTd,hS.lift fun v n xs q=> ?_⟩;have q1:w2.ownsRow (w.heap.size+2) 39 3 v n xs:=dE q (by omega);exact uQ (Tw.aB (uQ q1 hA3 (nlr _)) _ (by show b<_;omega)) hA4 (nlr _)
end Tx
end
namespace Mk
theorem bH{z:Int}(h1: -9223372036854775808<=z)(h2:z<=9223372036854775807):IntKind.i64.wrap z=z:=by
 unfold IntKind.wrap;simp only[IntKind.bits,IntKind.signed];simp;omega
theorem ib(z:Int)(k:Nat)(w:World)(h1: -9223372036854775808<=z)(h2:z<=9223372036854775807)(hk:1<=k)(hk2:k<=2000000000):
   Calls Tryz.prog 10 #[.int .i64 z,.int .i64 k] w fun x w'=>∃r:Nat,r<k/\x=.returned (.int .i64 r)/\w'=w:=by
 have key:∀c:Int,0<=c->∃r:Nat,r<k/\Int.tmod c k=(r:Int):=by
  intro c hc;obtain⟨n,rfl⟩:=Int.eq_ofNat_of_zero_le hc;exact⟨n%k,Nat.mod_lt _ (by omega),by rw[Int.ofNat_tmod]⟩
 have hk0:¬((k:Int)=0):=by omega
 by_cases hz:z<0
 · have e1:IntKind.i64.wrap (z+1)=z+1:=bH (by omega) (by omega);have e2:IntKind.i64.wrap (-(z+1))= -(z+1):=bH (by omega) (by omega);obtain⟨r,hr,he⟩:=key (-(z+1)) (by omega);have e3:IntKind.i64.wrap (r:Int)=r:=bH (by omega) (by omega);go_enter Tryz.func10,Tryz.ntmps10;go_wp2;go_ret;exact⟨r,hr,by simp_all,rfl⟩
 obtain⟨r,hr,he⟩:=key z (by omega);have e3:IntKind.i64.wrap (r:Int)=r:=bH (by omega) (by omega);go_enter Tryz.func10,Tryz.ntmps10;go_wp2;go_ret;exact⟨r,hr,by simp_all,rfl⟩
end Mk
namespace Kp
theorem kQ(z:Fin 7):(Px.nu z).length<=2:=by
 match z with
 |0|1|2|3|4|5|6=>decide
theorem Kb(r:Nat)(h:r<7):(⟨(Px.iW ((r:Int)-3)).toArray⟩:ByteArray)=⟨(Px.nu ⟨r,h⟩).toArray⟩:=by
 match r,h with
 |0,_=>rfl
 |1,_=>rfl
 |2,_=>rfl
 |3,_=>rfl
 |4,_=>rfl
 |5,_=>rfl
 |6,_=>rfl
 |k+7,h=>omega
theorem eU{a:ByteArray}{b:Lx.Bs}(h:a.data.toList=b):Ending.returned (.string a)=.returned (.string ⟨b.toArray⟩):=by
 subst h
 rfl
theorem MS(n:Int)(h1: -9223372036854775808<=n)(h2:n<=9223372036854775807)(w:World)(he:wH w):
   Calls Tryz.prog 16 #[.int .i64 n] w fun x w'=>(∃z na nb c,x=.returned (.string ⟨(Px.eQ z na nb c).toArray⟩))/\Below w.heap.size w w':=by
 have HE:=hd he;clear he;go_enter Tryz.func16,Tryz.ntmps16;go_wp2_with fail;refine(Mk.ib n 7 _ h1 h2 (by omega) (by omega)).mono ?_;rintro x w1 ⟨r7,hr7,rfl,rfl⟩;have e7:IntKind.i64.wrap ((r7:Int)-3)=(r7:Int)-3:=Mk.bH (by omega) (by omega);go_wp2_with fail;have HI:=hd (Tryz.strconv_Itoa ((r7:Int)-3) (by omega) (by omega) w1 HE.out.tab);refine HI.out.mono ?_;rintro x w2 ⟨rfl,kk,os,hw⟩
 have HB:Hid (Below w1.heap.size w1 w2):=by show Below _ _ _;rw[hw];exact Lib.below_grow _ w1 (nlr _) kk os
 clear hw HI;rw[Bo ((r7:Int)-3) (by omega) (by omega),Kb r7 hr7]
 have HS:Hid ((⟨(Px.nu ⟨r7,hr7⟩).toArray⟩:ByteArray).data.toList=Px.nu ⟨r7,hr7⟩):=by show _=_;simp
 have hnl:=kQ ⟨r7,hr7⟩
 have hsz:(⟨(Px.nu ⟨r7,hr7⟩).toArray⟩:ByteArray).size<=2:=by
  show(Px.nu ⟨r7,hr7⟩).toArray.size<=2;rw[List.size_toArray];exact hnl
 have hmx:100000<=maxLen:=by decide
 generalize (⟨(Px.nu ⟨r7,hr7⟩).toArray⟩:ByteArray)=S at*;go_wp2_with fail;refine(Mk.ib n 5 _ h1 h2 (by omega) (by omega)).mono ?_;rintro x w3 ⟨r5,hr5,rfl,rfl⟩;obtain⟨na,hna⟩:∃na:Bool,((r5:Int)==0)=na:=⟨_,rfl⟩
 cases na
 all_goals
  go_wp2_with fail;refine(Mk.ib n 11 _ h1 h2 (by omega) (by omega)).mono ?_;rintro x w3 ⟨r11,hr11,rfl,rfl⟩;obtain⟨nb,hnb⟩:∃nb:Bool,((r11:Int)==3)=nb:=⟨_,rfl⟩
  cases nb
  all_goals
   go_wp2_with fail;refine(Mk.ib n 2 _ h1 h2 (by omega) (by omega)).mono ?_;rintro x w3 ⟨r2,hr2,rfl,rfl⟩;obtain⟨c2,hc2⟩:∃nb:Bool,((r2:Int)==0)=nb:=⟨_,rfl⟩
   cases c2
   all_goals
    go_wp2_with fail;refine(Mk.ib n 13 _ h1 h2 (by omega) (by omega)).mono ?_;rintro x w3 ⟨r13,hr13,rfl,rfl⟩;obtain⟨c3,hc3⟩:∃nb:Bool,((r13:Int)==5)=nb:=⟨_,rfl⟩
    cases c3
    all_goals
     go_wp2_with fail;go_ret;refine⟨?_,HB.out⟩;have hS:=HS.out
     first
      |(refine⟨⟨r7,hr7⟩,false,false,0,eU ?_⟩;simp[Px.eQ,Px.aT,Px.bT,Px.cT,Px.aZ,Px.fK,Px.dH,hS];done)
      |(refine⟨⟨r7,hr7⟩,false,false,1,eU ?_⟩;simp[Px.eQ,Px.aT,Px.bT,Px.cT,Px.aZ,Px.fK,Px.dH,hS];done)
      |(refine⟨⟨r7,hr7⟩,false,false,2,eU ?_⟩;simp[Px.eQ,Px.aT,Px.bT,Px.cT,Px.aZ,Px.fK,Px.dH,hS];done)
      |(refine⟨⟨r7,hr7⟩,false,true,0,eU ?_⟩;simp[Px.eQ,Px.aT,Px.bT,Px.cT,Px.aZ,Px.fK,Px.dH,hS];done)
      |(refine⟨⟨r7,hr7⟩,false,true,1,eU ?_⟩;simp[Px.eQ,Px.aT,Px.bT,Px.cT,Px.aZ,Px.fK,Px.dH,hS];done)
      |(refine⟨⟨r7,hr7⟩,false,true,2,eU ?_⟩;simp[Px.eQ,Px.aT,Px.bT,Px.cT,Px.aZ,Px.fK,Px.dH,hS];done)
      |(refine⟨⟨r7,hr7⟩,true,false,0,eU ?_⟩;simp[Px.eQ,Px.aT,Px.bT,Px.cT,Px.aZ,Px.fK,Px.dH,hS];done)
      |(refine⟨⟨r7,hr7⟩,true,false,1,eU ?_⟩;simp[Px.eQ,Px.aT,Px.bT,Px.cT,Px.aZ,Px.fK,Px.dH,hS];done)
      |(refine⟨⟨r7,hr7⟩,true,false,2,eU ?_⟩;simp[Px.eQ,Px.aT,Px.bT,Px.cT,Px.aZ,Px.fK,Px.dH,hS];done)
      |(refine⟨⟨r7,hr7⟩,true,true,0,eU ?_⟩;simp[Px.eQ,Px.aT,Px.bT,Px.cT,Px.aZ,Px.fK,Px.dH,hS];done)
      |(refine⟨⟨r7,hr7⟩,true,true,1,eU ?_⟩;simp[Px.eQ,Px.aT,Px.bT,Px.cT,Px.aZ,Px.fK,Px.dH,hS];done)
      |(refine⟨⟨r7,hr7⟩,true,true,2,eU ?_⟩;simp[Px.eQ,Px.aT,Px.bT,Px.cT,Px.aZ,Px.fK,Px.dH,hS];done)
end Kp
section
namespace Mg
open Px
def rowVal(z:Fin 7)(na nb:Bool)(c:Fin 3):List V:=
 [if na=true then aD else dS ((z.val:Int)-3),if nb=true then aD else qY (nu z),match c with|0=>aL false|1=>aL true|2=>aD]
def GU(r:List V):Prop:=∃z na nb c,r=rowVal z na nb c
theorem Gb(z:Fin 7)(na nb:Bool)(c:Fin 3):Tb.mD cO [[aE z na,bE z nb,cE c]]=.ok (aO cO [[aE z na,bE z nb,cE c]])/\dw [] (aO cO [[aE z na,bE z nb,cE c]])=.ok ()/\Tb.rowsM cO [[aE z na,bE z nb,cE c]]=.ok [rowVal z na nb c]:=by
 match z,c with
 |0,0=>cases na<;>cases nb<;>exact⟨rfl,rfl,rfl⟩
 |0,1=>cases na<;>cases nb<;>exact⟨rfl,rfl,rfl⟩
 |0,2=>cases na<;>cases nb<;>exact⟨rfl,rfl,rfl⟩
 |1,0=>cases na<;>cases nb<;>exact⟨rfl,rfl,rfl⟩
 |1,1=>cases na<;>cases nb<;>exact⟨rfl,rfl,rfl⟩
 |1,2=>cases na<;>cases nb<;>exact⟨rfl,rfl,rfl⟩
 |2,0=>cases na<;>cases nb<;>exact⟨rfl,rfl,rfl⟩
 |2,1=>cases na<;>cases nb<;>exact⟨rfl,rfl,rfl⟩
 |2,2=>cases na<;>cases nb<;>exact⟨rfl,rfl,rfl⟩
 |3,0=>cases na<;>cases nb<;>exact⟨rfl,rfl,rfl⟩
 |3,1=>cases na<;>cases nb<;>exact⟨rfl,rfl,rfl⟩
 |3,2=>cases na<;>cases nb<;>exact⟨rfl,rfl,rfl⟩
 |4,0=>cases na<;>cases nb<;>exact⟨rfl,rfl,rfl⟩
 |4,1=>cases na<;>cases nb<;>exact⟨rfl,rfl,rfl⟩
 |4,2=>cases na<;>cases nb<;>exact⟨rfl,rfl,rfl⟩
 |5,0=>cases na<;>cases nb<;>exact⟨rfl,rfl,rfl⟩
 |5,1=>cases na<;>cases nb<;>exact⟨rfl,rfl,rfl⟩
 |5,2=>cases na<;>cases nb<;>exact⟨rfl,rfl,rfl⟩
 |6,0=>cases na<;>cases nb<;>exact⟨rfl,rfl,rfl⟩
 |6,1=>cases na<;>cases nb<;>exact⟨rfl,rfl,rfl⟩
 |6,2=>cases na<;>cases nb<;>exact⟨rfl,rfl,rfl⟩
theorem Mm(n:Nat)(hn:n<=199)(z:Fin 7)(na nb:Bool)(c:Fin 3):Tb.jg cO n [[aE z na,bE z nb,cE c]]=.ok [rowVal z na nb c]:=by
 obtain⟨h1,h2,h3⟩:=Gb z na nb c;unfold Tb.jg;rw[h1];dsimp only;rw[h2];dsimp only;rw[h3];dsimp only;rw[if_pos (by simp;omega)]
theorem kQ(z:Fin 7):(nu z).length<=100:=by
 match z with
 |0|1|2|3|4|5|6=>decide
theorem Hf(z:Fin 7)(na nb:Bool)(c:Fin 3):iN cO (rowVal z na nb c):=by
 have hz:=z.isLt
 have hA:EB (if na=true then aD else dS ((z.val:Int)-3))/\Has (if na=true then aD else dS ((z.val:Int)-3)) 1:=by
  cases na
  · exact⟨y9 ⟨by omega,by omega⟩,.inr (.inl ⟨rfl,rfl⟩)⟩
  exact⟨kG,.inl rfl⟩
 have hB:EB (if nb=true then aD else qY (nu z))/\Has (if nb=true then aD else qY (nu z)) 2:=by
  cases nb
  · exact⟨yB (kQ z),.inr (.inr (.inl ⟨rfl,rfl⟩))⟩
  exact⟨kG,.inl rfl⟩
 have hC:EB (match c with|0=>aL false|1=>aL true|2=>aD)/\Has (match c with|0=>aL false|1=>aL true|2=>aD) 3:=by
  match c with
  |0=>exact⟨gV false,.inr (.inr (.inr ⟨rfl,rfl⟩))⟩
  |1=>exact⟨gV true,.inr (.inr (.inr ⟨rfl,rfl⟩))⟩
  |2=>exact⟨kG,.inl rfl⟩
 refine⟨rfl,fun v hv=> ?_,fun i x v hi hv=> ?_⟩
 · simp only[rowVal,List.mem_cons,List.not_mem_nil,or_false]at hv;rcases hv with rfl|rfl|rfl
   · exact hA.1
   · exact hB.1
   exact hC.1
 match i,hi,hv with
 |0,hi,hv=>cases hi;cases hv;exact hA.2
 |1,hi,hv=>cases hi;cases hv;exact hB.2
 |2,hi,hv=>cases hi;cases hv;exact hC.2
theorem IM:dN cO:=⟨by decide,by decide⟩
end Mg
end
section
namespace Kp
open Tx Tb Tw Bt
def C9(W:World)(ao:Option Addr)(n:Nat):Prop:=∀k,k<n->∃g off z,ao=some ⟨g,off,none⟩/\g<W.heap.size/\W.cell? ⟨g,off+k,none⟩=some (.int .i64 z)/\ -9223372036854775808<=z/\z<=9223372036854775807
structure M3(w W:World)(b p ge ce:Nat)(M:aX)(nx:Int)(F R:List Nat):Prop where
 sto:kK W b 0 p ge ce [116] Px.cO M nx F R
 rows:∀m∈M,Mg.GU m.2
 low:∀g∈b::ge::p::(F++R),w.heap.size<=g
theorem JM(z:Fin 7)(na nb:Bool)(c:Fin 3):(⟨(Px.eQ z na nb c).toArray⟩:ByteArray).size<=100:=by
 show(Px.eQ z na nb c).toArray.size<=100;rw[List.size_toArray];have:=kQ z
 have hc:(Px.cT c).length<=5:=by
  match c with
  |0|1|2=>decide
 simp only[Px.eQ,List.length_append]
 cases na<;>cases nb<;>simp[Px.aT,Px.bT,Px.aZ]<;>omega
theorem Mi(cs:Mg.ax)(a b c:Px.E):(Mg.aO cs [[a,b,c]]).length<=1000000:=by
 simp only[Mg.aO,List.flatMap_cons,List.flatMap_nil,List.append_nil,Mg.fH,List.length_map,List.length_zip,List.length_cons,List.length_nil];omega
theorem LJ(z:Fin 7)(na nb:Bool)(c:Fin 3):∀r∈[[Px.aE z na,Px.bE z nb,Px.cE c]],∀e∈r,e.ok 2000:=by
 intro r hr e he;simp only[List.mem_singleton]at hr;subst hr;have hz:=z.isLt;have hl:=kQ z;simp only[List.mem_cons,List.not_mem_nil,or_false]at he;rcases he with rfl|rfl|rfl
 · cases na
   · show-9223372036854775808<=(z.val:Int)-3/\(z.val:Int)-3<=9223372036854775807;omega
   trivial
 · cases nb
   · show(Px.nu z).length<=2000;omega
   trivial
 match c with
 |0=>trivial
 |1=>trivial
 |2=>trivial
theorem FE(ao:Option Addr)(n c:Nat)(w:World)(hn:n<=maxLen)(he:jr w)(hed:wH w)(hI:C9 w ao n):
   Calls Tryz.prog 8 #[.slice ao n c] w fun x w'=>Below w.heap.size w w'/\∃b p ge ce M nx F R,x=.returned (.tuple #[.pointer (some ⟨b,0,none⟩),.int .i64 ((M.length:Nat):Int),.bool true])/\M.length<=60/\M3 w w' b p ge ce M nx F R:=by
 have HEP:=hd he;have HED:=hd hed;have HI:=hd hI
 have HB0:Hid (Below w.heap.size w (w.alloc (.cells (Ec 0 (.slice none 0 0) 0) 70))):=by show Below _ _ _;go_grown
 have HKB:=hd (af.new w (Ec 0 (.slice none 0 0) 0) 70)
 have hsz0:(w.alloc (.cells (Ec 0 (.slice none 0 0) 0) 70)).heap.size=w.heap.size+1:=by simp
 clear he hed hI;go_enter Tryz.func8,Tryz.ntmps8;go_wp2_with fail;refine(Ml _).mono ?_;rintro x w1 ⟨rfl,rfl⟩;generalize (w.alloc (.cells (Ec 0 (.slice none 0 0) 0) 70))=V at*;go_wp2_with fail;refine(Md w.heap.size V (HEP.out.below HB0.out) HKB.out [116] Px.cO ⟨Px.Ov.toArray⟩ Px.F3 (by simp[ByteArray.size,Px.Ov,maxLen]) Mg.IM (by decide)).mono ?_;rintro x w2 ⟨rfl,hT,p,ge,ce,R,hS,h1,h2,h3⟩;have HB2:Hid (Below w.heap.size w w2):=⟨hT.os.trans HB0.out.os,hT.tape.trans HB0.out.tape,hT.output.trans HB0.out.output,by have:=hT.size;omega,fun k hk=>(hT.block k (by omega) (by simp;omega)).trans (HB0.out.block k hk)⟩;have HS2:=hd hS;have HLW:Hid (w.heap.size<p/\w.heap.size<ge/\∀g∈R,w.heap.size<g):=⟨by omega,by omega,fun g hg=>by have:=h3 g hg;omega⟩;clear hT hS h1 h2 h3;go_wp2_with fail
 have hmx:100000<=maxLen:=by decide
 have HB3:Hid (Below w2.heap.size w2 (w2.alloc (.cells #[.int .i64 0,.slice none 0 0,.int .i64 0] 29))):=by show Below _ _ _;go_grown
 go_loopw [8,9] (fun nv iv wr=>∃(k:Nat) (M:aX) (nx:Int) (F R:List Nat),nv=.int .i64 k/\iv=.int .i64 k/\k<=n/\k<=60/\Hid (M.length=k/\nx=k)/\Hid (Below w.heap.size w wr)/\Hid (M3 w wr w.heap.size p ge ce M nx F R)) (fun _ iv _=>n-(intOf iv).toNat)
 case atStart=>exact⟨0,[],0,[],R,rfl,rfl,Nat.zero_le _,Nat.zero_le _,⟨rfl,rfl⟩,HB2.out.trans (HB3.out.mono HB2.out.size),HS2.out.below HB3.out,fun m hm=>by simp at hm,fun g hg=>by
  have hl:=HLW.out;simp only[List.nil_append,List.mem_cons]at hg;rcases hg with rfl|rfl|rfl|hg
  · omega
  · omega
  · omega
  have:=hl.2.2 g hg;omega⟩
 case round=>
  obtain⟨k,M,nx,F,R,rfl,rfl,hk,Pz,HM,HB,HG⟩:=hrel;by_cases h60:k<60
  · by_cases hlt:k<n
    · obtain⟨g,off,z,hao,hg,hcell,hz1,hz2⟩:=HI.out k hlt;have d0:=(HB.out.cell (p:=⟨g,off+k,none⟩) hg).trans hcell;have hg2:=nlA hg HB.out.size;subst hao;clear hcell;have O4:=hd (HED.out.below HB.out);go_wp2_with fail;refine(MS z hz1 hz2 wr O4.out).mono ?_;rintro x w3 ⟨⟨rz,na,nb,rc,rfl⟩,hb3⟩;have HS3:=hd (HG.out.sto.below hb3);have HBB:Hid (Below w.heap.size w w3):=HB.out.trans (hb3.mono HB.out.size);have R9:=hd (HEP.out.below HBB.out);have hrt:(⟨(Px.eQ rz na nb rc).toArray⟩:ByteArray).size<=100:=JM rz na nb rc;have HTX:Hid ((⟨(Px.eQ rz na nb rc).toArray⟩:ByteArray).data.toList=Px.eQ rz na nb rc):=rfl;generalize (⟨(Px.eQ rz na nb rc).toArray⟩:ByteArray)=S at*;clear hb3 O4;go_wp2_with fail
      have HIN:=hd (KZ [[Px.aE rz na,Px.bE rz nb,Px.cE rc]] ((⟨Px.IG.toArray⟩:ByteArray)++S++(⟨#[41]⟩:ByteArray)) (by
          have h:=Px.Gy rz na nb rc
          have e:((⟨Px.IG.toArray⟩:ByteArray)++S++(⟨#[41]⟩:ByteArray)).data.toList=Px.L6 rz na nb rc:=by simp[Px.L6,HTX.out]
          rw[e];exact h) (by rw[ByteArray.size_append,ByteArray.size_append];show 22+S.size+1<=maxLen;omega) R9.out HS3.out (by simp) (fun cs=>Mi cs _ _ _) (by simp) (LJ rz na nb rc) (by have:=HM.out.2;simp;omega) [Mg.rowVal rz na nb rc] (Mg.Mm _ (by have:=HM.out.1;omega) rz na nb rc) (HS3.out.ok.more _ (by simp;exact Mg.Hf rz na nb rc) (by have:=HM.out.1;simp;omega)))
      refine HIN.out.mono ?_;rintro x w4 ⟨rfl,hT4,F4,R4,hS4,hsub⟩
      have HLO:Hid (∀g∈w.heap.size::ge::p::(F4++R4),w.heap.size<=g):=fun g hg=>by
       have hs3:=HBB.out.size;simp only[List.mem_cons]at hg;rcases hg with h|h|h|h
       · exact HG.out.low g (by simp[h])
       · exact HG.out.low g (by simp[h])
       · exact HG.out.low g (by simp[h])
       rcases hsub g h with h|h
       · exact HG.out.low g (by simp only[List.mem_cons];exact .inr (.inr (.inr h)))
       omega
      have HB4:Hid (Below w.heap.size w w4):=⟨hT4.os.trans HBB.out.os,hT4.tape.trans HBB.out.tape,hT4.output.trans HBB.out.output,Nat.le_trans HBB.out.size hT4.size,fun j hj=>(hT4.block j (by have:=HBB.out.size;omega) (fun hm=>by
       have:=HG.out.low j (by simp only[List.mem_cons,List.mem_append]at hm⊢;rcases hm with h|h|h;exact .inl h;exact .inr (.inr (.inl h));exact .inr (.inr (.inr (.inl h))))
       omega)).trans (HBB.out.block j hj)⟩
      have HS4:=hd hS4;clear hT4 hS4 hsub HIN;have hvl:((([Mg.rowVal rz na nb rc]:List (List Mg.V)).length:Nat):Int)=1:=rfl;simp only[List.length_singleton]at*
      have HW5:Hid (Below w4.heap.size w4 (w4.alloc (.cells #[.int .i64 0,.slice none 0 0,.int .i64 1] 29))):=by show Below _ _ _;go_grown
      go_wp2_with fail;go_roundw
      case rel=>exact⟨k+1,M++numb nx [Mg.rowVal rz na nb rc],nx+1,F4,R4,rfl,rfl,by omega,by omega,⟨by simp[numb,HM.out.1],by have:=HM.out.2;omega⟩,HB4.out.trans (HW5.out.mono HB4.out.size),HS4.out.below HW5.out,fun m hm=>by
       rcases List.mem_append.1 hm with h|h
       · exact HG.out.rows m h
       simp[numb]at h;subst h
       exact⟨rz,na,nb,rc,rfl⟩,HLO.out⟩
      case measure=>simp[intOf];omega
    have hkn:k=n:=by omega
    go_wp2_with fail;refine⟨rfl,.tuple #[.pointer (some ⟨w.heap.size,0,none⟩),.int .i64 (k:Nat),.bool true],by simp[results,Tryz.results8,go_sem],?_⟩;exact⟨HB.out,w.heap.size,p,ge,ce,M,nx,F,R,by rw[HM.out.1],by rw[HM.out.1];exact Pz,HG.out⟩
  go_wp2_with fail
  all_goals
   refine⟨rfl,.tuple #[.pointer (some ⟨w.heap.size,0,none⟩),.int .i64 (k:Nat),.bool true],by simp[results,Tryz.results8,go_sem],?_⟩;exact⟨HB.out,w.heap.size,p,ge,ce,M,nx,F,R,by rw[HM.out.1],by rw[HM.out.1];exact Pz,HG.out⟩
end Kp
end
section
namespace Kp
open Tx Tb Tw Bt
theorem jb{W':World}(h:Below w.heap.size w W)(hT:aG [b] W W')(hb:w.heap.size<=b):Below w.heap.size w W':=
 ⟨hT.os.trans h.os,hT.tape.trans h.tape,hT.output.trans h.output,Nat.le_trans h.size hT.size,fun k hk=>(hT.block k (nlA hk h.size) (by simp;omega)).trans (h.block k hk)⟩
end Kp
end
section
namespace Px
open Lx (Bs Tok)
def QM:Bs:=[83,69,76,69,67,84,32,97,44,32,98,32,70,82,79,77,32,116,32,79,82,68,69,82,32,66,89,32,97]
def KJ:Bs:=[83,69,76,69,67,84,32,97,32,70,82,79,77,32,116,32,79,82,68,69,82,32,66,89,32,97,32,68,69,83,67,44,32,97]
def Oz:Bs:=[83,69,76,69,67,84,32,97,44,32,98,32,70,82,79,77,32,116]
def IE:Bs:=[83,69,76,69,67,84,32,97,44,32,98,32,70,82,79,77,32,116,32,79,82,68,69,82,32,66,89,32,97,32,76,73,77,73,84,32]
def SB:St:=.select [some nA,some nB] [116] none [(nA,false)] none
def PR:St:=.select [some nA] [116] none [(nA,true),(nA,false)] none
def RZ:St:=.select [some nA,some nB] [116] none [] none
def Ji(k:Nat):St:=.select [some nA,some nB] [116] none [(nA,false)] (some k)
theorem JZ:Reads QM SB:=Reads.calc (n:=60) (by decide+kernel) rfl
theorem Dx:Reads KJ PR:=Reads.calc (n:=60) (by decide+kernel) rfl
theorem Fz:Reads Oz RZ:=Reads.calc (n:=60) (by decide+kernel) rfl
theorem Jt:∀k:Fin 62,parseB 60 (IE++iW (k.val:Int)) (Ji k.val).nodes=true:=by decide+kernel
theorem Gg(k:Nat)(h:k<62):Reads (IE++iW (k:Int)) (Ji k):=by
 refine Reads.calc (Jt ⟨k,h⟩) (BC _ ⟨?_,?_⟩ ?_ ?_)
 · intro e he;simp[Ji,St.exprs]at he;rcases he with rfl|rfl|rfl<;>(show([_]:Bs).length<=30;decide)
 · exact⟨by decide,by simp,fun n hn=>by injection hn with hn;omega⟩
 · intro e he;simp[Ji,St.exprs]at he;rcases he with rfl|rfl|rfl<;>(show isName _=true;decide)
 simp[Ji,St.exprs,deepest,nA,nB,E.depth]
end Px
end
section
namespace So
variable {α:Type}
theorem qa(p:α->Bool)(l:List α)(k:Nat)(h:k<l.length):(l.take (k+1)).filter p=(l.take k).filter p++(if p l[k]=true then[l[k]]else[]):=by
 rw[List.take_succ_eq_append_getElem h,List.filter_append]
 congr 1
 simp only[List.filter_cons,List.filter_nil]
theorem nQ(p:α->Bool)(l:List α)(k:Nat)(h:k<l.length)(hp:p l[k]=true):l.filter p=(l.take k).filter p++l[k]::(l.drop (k+1)).filter p:=by
 conv=>lhs;rw[<-List.take_append_drop k l,List.filter_append,List.drop_eq_getElem_cons h]
 rw[List.filter_cons,if_pos hp]
theorem Mh{p:α->Bool}{A L:List α}(hk:k<A.length)(h:(A.take k).filter p=L)(hp:p A[k]=false):(A.take (k+1)).filter p=L:=by
 rw[qa p A k hk,hp,h];simp
theorem K8{p:α->Bool}{A U:List α}(hs:U.filter p=A.filter p){i k:Nat}(hi:i<U.length)(hp:p U[i]=true)(h:(A.take k).filter p=(U.take i).filter p):k<A.length:=by
 apply Nat.lt_of_not_le;intro hk;rw[List.take_of_length_le hk,<-hs,nQ p U i hi hp]at h;have:=congrArg List.length h;simp at this
theorem step_eq{p:α->Bool}{A U:List α}(hs:U.filter p=A.filter p){i k:Nat}(hi:i<U.length)(hp:p U[i]=true)(hk:k<A.length)(hq:p A[k]=true)(h:(A.take k).filter p=(U.take i).filter p):
   A[k]=U[i]/\(A.take (k+1)).filter p=(U.take (i+1)).filter p:=by
 have e:=hs;rw[nQ p U i hi hp,nQ p A k hk hq,h]at e;have e2:=List.append_cancel_left e;injection e2 with e3 e4;refine⟨e3.symm,?_⟩;rw[qa p A k hk,qa p U i hi,hp,hq,h,e3]
end So
end
section
namespace Mg
open Px
theorem lY{cs:ax}{items orders:List E}{fi fo:List V->List V}:∀(rs:List (List V)),(∀r∈rs,vals cs r items=.ok (fi r)/\vals cs r orders=.ok (fo r))->foundM cs items orders none rs=.ok (rs.map fun r=>(fi r,fo r))
 |[],_=>rfl
 |r::rs,h=>by
  have h1:=h r (by simp)
  have h2:=lY rs fun q hq=>h q (by simp[hq])
  simp[foundM,chooses,h1.1,h1.2,h2]
def mo(v:V):Prop:=v=aD\/∃z:Int,v=dS z
theorem mo.cmp{v u:V}(hv:mo v)(hu:mo u):(aV v u=0↔v=u):=by
 rcases hv with rfl|⟨z,rfl⟩<;>rcases hu with rfl|⟨y,rfl⟩
 · simp[aV,isNull,aD]
 · simp[aV,isNull,aD,dS]
 · simp[aV,isNull,aD,dS]
 simp only[aV,isNull,dS,iE];rcases Int.lt_trichotomy z y with h|h|h
 · have h2:¬z=y:=by omega
   simp[h,h2]
 · subst h;simp
 have h2:¬z=y:=by omega
 have h3:¬z<y:=by omega
 simp[h,h2,h3]
def dJ(a b:V):Bool:=if a.kind=14\/b.kind=14 then(a.kind==14&&b.kind !=14)else decide (a.int<b.int)
theorem mo.below{v u:V}(hv:mo v)(hu:mo u):(dJ v u=true↔aV v u<0):=by
 rcases hv with rfl|⟨z,rfl⟩<;>rcases hu with rfl|⟨y,rfl⟩
 · simp[dJ,aV,isNull,aD]
 · simp[dJ,aV,isNull,aD,dS]
 · simp[dJ,aV,isNull,aD,dS]
 simp only[dJ,aV,isNull,dS,iE];by_cases h:z<y
 · simp[h]
 by_cases h2:y<z<;>simp[h,h2]
def ab(r:List V):V×V:=(r.getD 0 aD,r.getD 1 aD)
theorem qc{r:List V}(h:GU r):mo (ab r).1/\vals cO r [nA,nB]=.ok [(ab r).1,(ab r).2]/\vals cO r [nA]=.ok [(ab r).1]/\vals cO r [nA,nA]=.ok [(ab r).1,(ab r).1]:=by
 obtain⟨z,na,nb,c,rfl⟩:=h;refine⟨?_,rfl,rfl,rfl⟩
 cases na
 · exact .inr ⟨_,rfl⟩
 exact .inl rfl
def wK(z:V×V):List V×List V:=([z.1,z.2],[z.1])
def xM(z:V×V):List V×List V:=([z.1],[z.1,z.1])
def Po(z:V×V):List V×List V:=([z.1,z.2],[])
theorem AB{rs:List (List V)}(h:∀r∈rs,GU r):foundM cO [nA,nB] [nA] none rs=.ok ((rs.map ab).map wK):=by
 rw[lY (fi:=fun r=>[(ab r).1,(ab r).2]) (fo:=fun r=>[(ab r).1]) rs fun r hr=>⟨(qc (h r hr)).2.1,(qc (h r hr)).2.2.1⟩,List.map_map]
 rfl
theorem D9{rs:List (List V)}(h:∀r∈rs,GU r):foundM cO [nA] [nA,nA] none rs=.ok ((rs.map ab).map xM):=by
 rw[lY (fi:=fun r=>[(ab r).1]) (fo:=fun r=>[(ab r).1,(ab r).1]) rs fun r hr=>⟨(qc (h r hr)).2.2.1,(qc (h r hr)).2.2.2⟩,List.map_map]
 rfl
theorem Kj{rs:List (List V)}(h:∀r∈rs,GU r):foundM cO [nA,nB] [] none rs=.ok ((rs.map ab).map Po):=by
 rw[lY (fi:=fun r=>[(ab r).1,(ab r).2]) (fo:=fun r=>[]) rs fun r hr=>⟨(qc (h r hr)).2.1,rfl⟩,List.map_map]
 rfl
theorem Cv{α β:Type}{f:α->β}{l:List α}{xs:List β}(h:xs.Perm (l.map f)):∃U:List α,xs=U.map f/\U.Perm l:=by
 induction l generalizing xs with
 |nil=>exact⟨[],by simpa using h,.nil⟩
 |cons a l ih=>
  have hm:f a∈xs:=h.mem_iff.2 (by simp);obtain⟨s,t,rfl⟩:=List.append_of_mem hm
  have h2:(s++t).Perm (l.map f):=by
   have:=(List.perm_middle (a:=f a) (l₁:=s) (l₂:=t)).symm.trans h;exact(List.perm_cons _).1 this
  obtain⟨U,hU,hp⟩:=ih h2;obtain⟨U1,U2,rfl,h3,h4⟩:=List.map_eq_append_iff.1 hU.symm;refine⟨U1++a::U2,by simp[h3,h4],?_⟩;exact List.perm_middle.trans ((List.perm_cons a).2 hp)
end Mg
end
section
namespace Mg
open Px
def F7(a b:V):Bool:=a.kind==b.kind&&a.int==b.int&&a.text==b.text
theorem rX(a b:V):F7 a b=true↔a=b:=by
 obtain⟨k,i,t⟩:=a;obtain⟨k',i',t'⟩:=b;simp only[F7,Bool.and_eq_true,beq_iff_eq,V.mk.injEq];exact⟨fun h=>⟨h.1.1,h.1.2,h.2⟩,fun h=>⟨⟨h.1,h.2.1⟩,h.2.2⟩⟩
theorem Em(z y:V×V):pW [false] (wK z) (wK y)=aV z.1 y.1:=by
 show cmpN [false] 1 (fun i=>[z.1].getD i aD) (fun i=>[y.1].getD i aD)=_;simp only[cmpN,List.getD_cons_zero];by_cases h:aV z.1 y.1=0
 · simp[h]
 simp[h]
theorem I5(z y:V×V):pW [true,false] (xM z) (xM y)= -aV z.1 y.1:=by
 show cmpN [true,false] 2 (fun i=>[z.1,z.1].getD i aD) (fun i=>[y.1,y.1].getD i aD)=_;simp only[cmpN,List.getD_cons_zero,List.getD_cons_succ];by_cases h:aV z.1 y.1=0
 · simp[h]
 simp[h]
theorem Me{a b:V×V}(h:wK a=wK b):a=b:=by
 obtain⟨x,y⟩:=a;obtain⟨u,v⟩:=b;simp[wK]at h;rw[h.1.1,h.1.2]
theorem qJ:∀{a b:List (V×V)},a.map wK=b.map wK->a=b
 |[],[],_=>rfl
 |x::a,y::b,h=>by
  simp only[List.map_cons,List.cons.injEq]at h;rw[Me h.1,qJ h.2]
 |[],_::_,h=>by simp at h
 |_::_,[],h=>by simp at h
abbrev I8(ds:List Bool):List V×List V->List V×List V->Bool:=fun a b=>decide (pW ds a b<0)
theorem PU{R:List (V×V)}(hR:∀z∈R,mo z.1){xs:List (List V×List V)}(h1:So.bS (I8 [false]) xs)(h2:So.di (I8 [false]) (R.map wK) xs):
   ∃U:List (V×V),xs=U.map wK/\U.length=R.length/\(∀z∈U,mo z.1)/\(∀(i j:Nat) (hi:i<U.length) (hj:j<U.length),i<j->dJ U[j].1 U[i].1=false)/\∀y,mo y->U.filter (fun z=>F7 z.1 y)=R.filter (fun z=>F7 z.1 y):=by
 obtain⟨U,rfl,hp⟩:=Cv h2.perm
 have hU:∀z∈U,mo z.1:=fun z hz=>hR z (hp.mem_iff.1 hz)
 refine⟨U,rfl,hp.length_eq,hU,fun i j hi hj hij=> ?_,fun y hy=> ?_⟩
 · have:=List.pairwise_iff_getElem.1 h1 i j (by simpa using hi) (by simpa using hj) hij;simp only[List.getElem_map,decide_eq_false_iff_not]at this;rw[Em]at this
   cases hb:dJ U[j].1 U[i].1 with
   |false=>rfl
   |true=>exact absurd ((mo.below (hU _ (List.getElem_mem hj)) (hU _ (List.getElem_mem hi))).1 hb) this
 have hq:∀z:V×V,mo z.1->So.eqv (I8 [false]) (wK (y,y)) (wK z)=F7 z.1 y:=fun z hz=>by
  rw[Bool.eq_iff_iff,rX];simp only[So.eqv,Bool.and_eq_true,Bool.not_eq_true',decide_eq_false_iff_not];rw[Em,Em];dsimp only;have ha:=pG.anti y z.1
  constructor
  · intro h
    have:aV y z.1=0:=by omega
    exact((mo.cmp hy hz).1 this).symm
  rintro rfl;have:aV z.1 z.1=0:=(mo.cmp hz hz).2 rfl;simp[this]
 have hs:=h2.same (wK (y,y));rw[List.filter_map,List.filter_map]at hs
 have e1:U.filter ((So.eqv (I8 [false]) (wK (y,y)))∘wK)=U.filter (fun z=>F7 z.1 y):=List.filter_congr fun z hz=>hq z (hU z hz)
 have e2:R.filter ((So.eqv (I8 [false]) (wK (y,y)))∘wK)=R.filter (fun z=>F7 z.1 y):=List.filter_congr fun z hz=>hq z (hR z hz)
 have:=qJ hs;rw[e1,e2]at this;exact this
theorem LG{R:List (V×V)}(hR:∀z∈R,mo z.1){xs:List (List V×List V)}(h1:So.bS (I8 [true,false]) xs)(h2:So.di (I8 [true,false]) (R.map xM) xs):
   ∃U:List (V×V),xs=U.map xM/\U.length=R.length/\(∀z∈U,mo z.1)/\∀(i j:Nat) (hi:i<U.length) (hj:j<U.length),i<j->dJ U[i].1 U[j].1=false:=by
 obtain⟨U,rfl,hp⟩:=Cv h2.perm
 have hU:∀z∈U,mo z.1:=fun z hz=>hR z (hp.mem_iff.1 hz)
 refine⟨U,rfl,hp.length_eq,hU,fun i j hi hj hij=> ?_⟩;have:=List.pairwise_iff_getElem.1 h1 i j (by simpa using hi) (by simpa using hj) hij;simp only[List.getElem_map,decide_eq_false_iff_not]at this;rw[I5]at this;have ha:=pG.anti U[i].1 U[j].1
 cases hb:dJ U[i].1 U[j].1 with
 |false=>rfl
 |true=>
  have:=(mo.below (hU _ (List.getElem_mem hi)) (hU _ (List.getElem_mem hj))).1 hb;omega
theorem Nn{fs xs:List (List V×List V)}(h:So.di (I8 []) fs xs):xs=fs:=by
 cases fs with
 |nil=>exact List.Perm.eq_nil (h.perm)
 |cons a l=>
  have:=h.same a
  have hall:∀z:List V×List V,So.eqv (I8 []) a z=true:=fun z=>by simp[So.eqv,pW,cmpN]
  rw[List.filter_eq_self.2 fun z _=>hall z,List.filter_eq_self.2 fun z _=>hall z]at this;exact this
end Mg
end
section
namespace Kp
open Tx Tb Tw Bt
def vA(v:Mg.V):Value:=.agg #[.int .i64 v.kind,.int .i64 v.int,.string ⟨v.text.toArray⟩]
theorem G7(a b:Mg.V)(w:World):Calls Tryz.prog 11 #[vA a,vA b] w fun x w'=>x=.returned (.bool (Mg.dJ a b))/\Below w.heap.size w w':=by
 unfold vA;obtain⟨ka,za,ta⟩:=a;obtain⟨kb,zb,tb⟩:=b
 have hb1:Below w.heap.size w ((w.alloc (.cells #[.int .i64 ka,.int .i64 za,.string ⟨ta.toArray⟩] 39)).alloc (.cells #[.int .i64 kb,.int .i64 zb,.string ⟨tb.toArray⟩] 39)):=by go_grown
 have HB:=hd hb1;clear hb1;generalize (⟨ta.toArray⟩:ByteArray)=A at*;generalize (⟨tb.toArray⟩:ByteArray)=B at*;have hv:Mg.dJ ⟨ka,za,ta⟩ ⟨kb,zb,tb⟩=(if ka=14\/kb=14 then(ka==14&&kb !=14)else decide (za<zb)):=rfl;rw[hv];by_cases h1:ka=14
 · have q1:(ka==14)=true:=by simp[h1]
   by_cases h2:kb=14
   · have q2:(kb==14)=true:=by simp[h2]
     have q3:(kb !=14)=false:=by simp[h2]
     rw[if_pos (.inl h1),q1,q3];clear h1 h2;go_enter Tryz.func11,Tryz.ntmps11;go_wp2_with fail;go_ret;exact⟨rfl,HB.out⟩
   have q2:(kb==14)=false:=by simp[h2]
   have q3:(kb !=14)=true:=by simp[h2]
   rw[if_pos (.inl h1),q1,q3];clear h1 h2;go_enter Tryz.func11,Tryz.ntmps11;go_wp2_with fail;go_ret;exact⟨rfl,HB.out⟩
 have q1:(ka==14)=false:=by simp[h1]
 by_cases h2:kb=14
 · have q2:(kb==14)=true:=by simp[h2]
   rw[if_pos (.inr h2),q1];clear h1 h2;go_enter Tryz.func11,Tryz.ntmps11;go_wp2_with fail;go_ret;exact⟨rfl,HB.out⟩
 have q2:(kb==14)=false:=by simp[h2]
 rw[if_neg (by simp[h1,h2])];clear h1 h2;go_enter Tryz.func11,Tryz.ntmps11;go_wp2_with fail;go_ret;exact⟨rfl,HB.out⟩
def aQ(W:World)(v:Value)(L:List Mg.V):Prop:=∃base,W.ownsRow base 39 3 v L.length (L.flatMap Mg.vC)
theorem aQ.keep{W':World}{v:Value}{L:List Mg.V}(h:aQ W v L)(hk:∀g∈own v,W'.heap[g]? =W.heap[g]?):aQ W' v L:=by
 obtain⟨base,ho⟩:=h;exact⟨base,bK ho hk⟩
theorem aQ.lt{v:Value}{L:List Mg.V}(h:aQ W v L):∀g∈own v,g<W.heap.size:=by
 obtain⟨base,ho⟩:=h
 exact fun g hg=>bf ho g hg
theorem aQ.at{ao:Option Addr}{n c:Nat}{L:List Mg.V}(h:aQ W (.slice ao n c) L)(k:Nat)(hk:k<L.length):n=L.length/\∃g,ao=some ⟨g,0,none⟩/\g<W.heap.size/\W.cell? ⟨g,k*3,none⟩=some (.int .i64 L[k].kind)/\W.cell? ⟨g,k*3+1,none⟩=some (.int .i64 L[k].int)/\W.cell? ⟨g,k*3+2,none⟩=some (.string ⟨L[k].text.toArray⟩):=by
 obtain⟨base,ho⟩:=h;obtain⟨g,cap,he,h1,h2,h3,h4,hc⟩:=tY ho (by omega);injection he with e1 e2 e3;have hv:=Mg.IA L k hk;exact⟨e2,g,e1,h2,hc _ _ hv.1,hc _ _ hv.2.1,hc _ _ hv.2.2⟩
end Kp
end
section
namespace Kp
open Tx Tb Tw Bt
theorem Lb{M:aX}(l:List (Option Px.E))(os:List (Px.E×Bool))(lm:Option Nat)(s:ByteArray)(hp:Px.Reads s.data.toList (.select l [116] none os lm))(hm:s.size<=maxLen)(he:jr w)(h:kK w b 0 p ge ce [116] Px.cO M nx F R)
   (hlen:l.length<=2000/\os.length<=2000/\1<=l.length) (hok:∀d∈Mg.iU Px.cO l none os,d.1.ok 2000) (hck:Mg.dw Px.cO (Mg.iU Px.cO l none os)=.ok ()) (fs:List (List Mg.V×List Mg.V)) (hfs:Mg.foundM Px.cO (Tb.aC Px.cO l) (os.map Prod.fst) none (M.map Prod.snd)=.ok fs):
   Calls Tryz.prog 9 #[.pointer (some ⟨b,0,none⟩),.string s] w fun x w'=>aG [b] w w'/\kK w' b 0 p ge ce [116] Px.cO M nx F R/\∃xs ao n cp,So.bS (Mg.I8 (os.map Prod.snd)) xs/\So.di (Mg.I8 (os.map Prod.snd)) fs xs/\
     x=.returned (.tuple #[.agg #[.int .i64 ((Tb.aC Px.cO l).length:Nat),.slice ao n cp,.int .i64 0],.int .i64 0])/\n=((if lm.isSome=true then xs.take (lm.getD 0)else xs).flatMap Prod.fst).length/\aQ w' (.slice ao n cp) ((if lm.isSome=true then xs.take (lm.getD 0)else xs).flatMap Prod.fst)/\∀g∈own (.slice ao n cp),w.heap.size<=g:=by
 refine(Ld l none os lm s hp hm he h hlen ⟨by decide,by decide⟩ hok hck fs hfs).mono ?_;rintro x w' ⟨hT,hS,a,rfl,xs,v,h1,h2,rfl,hown⟩;obtain⟨ao,cp,rfl⟩:=au hown;exact⟨hT,hS,xs,ao,_,cp,h1,h2,rfl,rfl,⟨_,hown⟩,fun g hg=>by have:=(hown.lt g (by simpa[own]using hg)).1;omega⟩
end Kp
end
section
namespace Mg
open Px
theorem mo.Sr{a b:V}(ha:mo a)(hb:mo b)(h1:dJ a b=false)(h2:dJ b a=false):a=b:=by
 have c:=mo.cmp ha hb;have l1:=(mo.below ha hb).2;have l2:=(mo.below hb ha).2;have an:=pG.anti a b;refine c.1 ?_;by_cases h:aV a b<0
 · rw[l1 h]at h1;cases h1
 by_cases h':aV b a<0
 · rw[l2 h']at h2;cases h2
 omega
theorem sJ(a:V):F7 a a=true:=(rX a a).2 rfl
abbrev M4(v:V):V×V->Bool:=fun z=>F7 z.1 v
abbrev Jk(U:List (V×V)):Prop:=∀(i j:Nat) (hi:i<U.length) (hj:j<U.length),i<j->dJ U[j].1 U[i].1=false
theorem Jr{U:List (V×V)}(hA:∀z∈U,mo z.1)(hs:Jk U){i:Nat}(hi:i+1<U.length)(hne:U[i+1].1≠U[i].1):(U.take (i+1)).filter (M4 U[i+1].1)=[]:=by
 refine List.filter_eq_nil_iff.2 fun z hz he=> ?_
 obtain⟨j,hj,rfl⟩:=List.getElem_of_mem hz;rw[List.length_take]at hj;rw[List.getElem_take]at he;have he:=(rX _ _).1 he
 have hj2:j<U.length:=by omega
 rcases(show j=i\/j<i by omega)with rfl|hlt
 · exact hne he.symm
 have h1:=hs j i hj2 (by omega) hlt;have h2:=hs i (i+1) (by omega) hi (by omega);rw[he]at h1;exact hne (mo.Sr (hA _ (List.getElem_mem _)) (hA _ (List.getElem_mem _)) h2 h1)
def Found(A U:List (V×V))(i k:Nat)(v:V):Prop:=(A.take k).filter (M4 v)=(U.take i).filter (M4 v)
theorem Found.new{A U:List (V×V)}(hA:∀z∈U,mo z.1)(hs:Jk U){i:Nat}(hi:i+1<U.length)(hne:U[i+1].1≠U[i].1):Found A U (i+1) 0 U[i+1].1:=by
 unfold Found;rw[Jr hA hs hi hne]
 rfl
theorem Found.skip{A U:List (V×V)}{v:V}(h:Found A U i k v)(hk:k<A.length)(hne:A[k].1≠v):Found A U i (k+1) v:=by
 refine So.Mh hk h ?_
 cases he:M4 v A[k]with
 |false=>rfl
 |true=>exact absurd ((rX _ _).1 he) hne
theorem Found.lt{A U:List (V×V)}(hi:i<U.length)(h:Found A U i k U[i].1)(hs:U.filter (M4 U[i].1)=A.filter (M4 U[i].1)):k<A.length:=So.K8 hs hi (sJ _) h
theorem Found.hit{A U:List (V×V)}(hi:i<U.length)(h:Found A U i k U[i].1)(hs:U.filter (M4 U[i].1)=A.filter (M4 U[i].1))(hk:k<A.length)(he:A[k].1=U[i].1):A[k]=U[i]/\Found A U (i+1) (k+1) U[i].1:=
 So.step_eq hs hi (sJ _) hk (by rw[<-he];exact sJ _) h
theorem JL(U:List (V×V))(k:Nat):((U.map wK).take k).flatMap Prod.fst=(U.flatMap fun z=>[z.1,z.2]).take (2*k):=by
 induction U generalizing k with
 |nil=>simp
 |cons a l ih=>
  cases k with
  |zero=>simp
  |succ k=>
   have:=ih k;rw[show 2*(k+1)=2*k+1+1 by omega];simp only[List.map_cons,List.take_succ_cons,List.flatMap_cons,this];simp[wK]
end Mg
end
end Go.Proofs.YthhhfcdakfbpkaaGreatDoor
