/- Parts of the proof -/
import Derived.Deep.CutRange
import Derived.Deep.RegionHeld3
import Derived.Stop.RegionWithIn
import Derived.Sort.CutIn
import Derived.Test.YthhhfcdakfbpkaaGreatDoorP14
import Derived.Test.YthhhfcdakfbpkaaGreatDoorP18
import Derived.Test.YthhhfcdakfbpkaaGreatDoorP17
import Derived.Test.YthhhfcdakfbpkaaGreatDoorP19
namespace Go.Proofs.YthhhfcdakfbpkaaGreatDoor
set_option linter.unusedSimpArgs false
set_option linter.unusedVariables false
set_option maxRecDepth 100000
set_option maxHeartbeats 16000000
open Go.RowKit
section
open Go.RowKit Go.Shelf
attribute [local go_sem] Oper.semAt_some
namespace Tw
open Bt
theorem wh(l:List (Option Px.E))(o:Option Px.E)(os:List (Px.E×Bool))(lb:Bool)(ln:Nat)(tn:ByteArray)(hlen:l.length<=2000/\os.length<=2000/\1<=l.length)(p:Nat)(cs:Mg.ax)(M:Tb.aU)(nx:Int)(F R:List Nat)(sv ve vk:Value)(d:Nat)(L:List (Value×Value))(v u:Value)(w:World)
   (hT:Tb.TabAt w p cs M nx F R sv ve vk d L) (hO:Tb.o7 cs M nx) (hc1:1<=cs.length/\cs.length<=6) (hok:∀d∈Mg.je cs l o os,d.1.ok 2000) (hi:w.ownsRow 0 225 2 v l.length (l.flatMap itemC)) (ho:w.ownsRow 0 227 2 u os.length (os.flatMap bq)):
   Calls Tryz.prog 38 #[.pointer (some ⟨p,0,none⟩),.agg #[v,.string tn,ev? o,u,.bool lb,.int .i64 (ln:Nat)]] w (Pp w cs M l o os lb ln):=by
 obtain⟨va,vc,rfl⟩:=au hi;obtain⟨ua,uc,rfl⟩:=au ho;have HT:=hd hT;have HO:=hd hO;have hp:=hT.blk.lt;have HIL:Hid ((Tb.aF cs l).length<=1000000/\1<=(Tb.aF cs l).length):=Tb.D8 hc1 hlen
 have HIE:Hid (∀W,Below w.heap.size w W->Calls Tryz.prog 90 #[.pointer (some ⟨p,0,none⟩),.slice va l.length vc] W fun x w'=>Below W.heap.size W w'/\∃u,x=.returned u/\w'.ownsRow W.heap.size 98 1 u (Tb.aF cs l).length ((Tb.aF cs l).flatMap gI)):=fun W hW=>
  Tb.vO cs (by omega) sv l HIL.out.1 (by omega) p _ W (nlA hp hW.size) ((hW.cell (p:=⟨p,0,none⟩) hp).trans ((HT.out.blk.cell 0).trans rfl)) (HT.out.cols.below hW) (dA hi hW)
 have HOE:Hid (∀W,Below w.heap.size w W->Calls Tryz.prog 91 #[.slice ua os.length uc] W fun x w'=>Below W.heap.size W w'/\∃u,x=.returned u/\w'.ownsRow W.heap.size 98 1 u os.length ((os.map Prod.fst).flatMap gI)):=fun W hW=>Tb.sP os (by omega) _ W (dA ho hW)
 obtain⟨wt,hwt⟩:∃wt,ev? o=wt:=⟨_,rfl⟩;have HWT:=hd hwt
 have hwc:wt=.nilIface\/∃t y,wt=.iface t y:=by rw[<-hwt];cases o with
  |none=>exact .inl rfl
  |some e=>exact .inr (fZ e)
 rw[hwt];have HDO:=hd hok;have HOS:=hd ho;clear hT hO hi ho hwt hok;refine(callsIn_wide (n:=0)).1 (mo Tryz.func38 rfl ?_);simp only[Tryz.ntmps38,List.size_toArray,List.length_cons,List.length_nil,Nat.reduceAdd,Nat.reduceSub,Array.replicate_succ,Array.replicate_zero,List.push_toArray,List.append_toArray,List.nil_append,List.cons_append]
 have HB0:Hid (Below w.heap.size w (((w.alloc (.cells #[.pointer (some ⟨p,0,none⟩)] 94)).alloc (.cells #[.slice va l.length vc,.string tn,wt,.slice ua os.length uc,.bool lb,.int .i64 (ln:Nat)] 109)).alloc (.cells #[.int .i64 0,.slice none 0 0,.int .i64 0] 29))):=by show Below _ _ _;go_grown
 have HK0:=hd (((af.new w #[.pointer (some ⟨p,0,none⟩)] 94).alloc (.cells #[.slice va l.length vc,.string tn,wt,.slice ua os.length uc,.bool lb,.int .i64 (ln:Nat)] 109)).alloc (.cells #[.int .i64 0,.slice none 0 0,.int .i64 0] 29));have HK1:=hd ((af.new (w.alloc (.cells #[.pointer (some ⟨p,0,none⟩)] 94)) #[.slice va l.length vc,.string tn,wt,.slice ua os.length uc,.bool lb,.int .i64 (ln:Nat)] 109).alloc (.cells #[.int .i64 0,.slice none 0 0,.int .i64 0] 29));have HK2:=hd (af.new ((w.alloc (.cells #[.pointer (some ⟨p,0,none⟩)] 94)).alloc (.cells #[.slice va l.length vc,.string tn,wt,.slice ua os.length uc,.bool lb,.int .i64 (ln:Nat)] 109)) #[.int .i64 0,.slice none 0 0,.int .i64 0] 29);rcases hwc with rfl|⟨wt1,wt2,rfl⟩
 all_goals
  refine jr fun K hK=> ?_
  go_wp2_with fail;simp only[World.size_alloc]at HK1 HK2;generalize ((w.alloc (.cells #[.pointer (some ⟨p,0,none⟩)] 94)).alloc (.cells _ 109)).alloc (.cells #[.int .i64 0,.slice none 0 0,.int .i64 0] 29)=V at*
  first|generalize Value.iface wt1 wt2=wt at* |generalize Value.nilIface=wt at*
  refine jr fun K hK=> ?_
  have v0:=HK0.out.cell 0;have v1:=HK1.out.cell 0;have v2:=HK1.out.cell 3;simp at v0 v1 v2;have hv0:=HK0.out.lt;have hv1:=HK1.out.lt;have hv2:=HK2.out.lt
  go_cut[5,6]from 14 to 34 (fun s5 s6 wx=>∃b5 b6 iv xv,s5=.pointer (some ⟨b5,0,none⟩)/\s6=.pointer (some ⟨b6,0,none⟩)/\Sg w wx p #[.slice va l.length vc,.string tn,wt,.slice ua os.length uc,.bool lb,.int .i64 (ln:Nat)] b5 b6 iv xv (Tb.aF cs l) (os.map Prod.fst))
  case first=>
   have HB1:Hid (KJ w (World.drew V) p #[.slice va l.length vc,.string tn,wt,.slice ua os.length uc,.bool lb,.int .i64 (ln:Nat)]):=⟨HB0.out.drew,HK0.out.drew,HK1.out.drew,HK2.out.drew⟩;refine Code.wp_mono (Q:=Qd _ _) EA ?_;refine wp_region_held_drew (S:=fun w'=>w'.cell? ⟨w.heap.size,0,none⟩=some (.pointer (some ⟨p,0,none⟩))/\w'.cell? ⟨w.heap.size+1,0,none⟩=some (.slice va l.length vc)/\w'.cell? ⟨w.heap.size+1,3,none⟩=some (.slice ua os.length uc)) (by kernel_rfl) ⟨v0,v1,v2⟩ (fun hHeld=> ?_);generalize hV0:World.drew V=V0 at*;clear hV0;refine wpAnyH_take (i:=0) (v:=(.pointer (some ⟨p,0,none⟩))) rfl (by kernel_rfl) (by kernel_rfl) (by kernel_rfl) (fun _ _ _ h=>h) (Or.inl ⟨by rfl,?_⟩) (by assumption) ?_
   · intro w hSw
     try dsimp only at hSw
     go_simp
   simp only[Act.put,siA,szA,ssA];refine wpAnyH_take (i:=1) (v:=(.pointer (some ⟨w.heap.size+1,0,none⟩))) rfl (by kernel_rfl) (by kernel_rfl) (by kernel_rfl) (fun _ _ _ h=>h) (Or.inl ⟨by rfl,?_⟩) (by assumption) ?_
   · intro w hSw
     try dsimp only at hSw
     go_simp
   simp only[Act.put,siA,szA,ssA];refine wpAnyH_take (i:=2) (v:=(.slice va l.length vc)) rfl (by kernel_rfl) (by kernel_rfl) (by kernel_rfl) (fun _ _ _ h=>h) (Or.inl ⟨by rfl,?_⟩) (by assumption) ?_
   · intro w hSw
     try dsimp only at hSw
     go_simp
   simp only[Act.put,siA,szA,ssA];refine wpAnyH_take (i:=4) (v:=(.pointer (some ⟨w.heap.size+1,3,none⟩))) rfl (by kernel_rfl) (by kernel_rfl) (by kernel_rfl) (fun _ _ _ h=>h) (Or.inl ⟨by rfl,?_⟩) (by assumption) ?_
   · intro w hSw
     try dsimp only at hSw
     go_simp
   simp only[Act.put,siA,szA,ssA];refine wpAnyH_take (i:=5) (v:=(.slice ua os.length uc)) rfl (by kernel_rfl) (by kernel_rfl) (by kernel_rfl) (fun _ _ _ h=>h) (Or.inl ⟨by rfl,?_⟩) (by assumption) ?_
   · intro w hSw
     try dsimp only at hSw
     go_simp
   simp only[Act.put,siA,szA,ssA];refine wpAnyH_ready (rs:=[3,7,8]) (by kernel_rfl) (by simp) ?_;refine(AllReadyH.cons rfl (fun K hK=> ?_) (AllReadyH.cons rfl (fun K hK=> ?_) (AllReadyH.cons rfl (fun K hK=> ?_) AllReadyH.nil)))
   go_simp
   refine(HIE.out _ HB1.out.low).mono ?_;rintro x w1 ⟨hb1,y1,rfl,hown1⟩;obtain⟨i1,i2,rfl⟩:=au hown1;have HB2:=hd (HB1.out.below hb1);have HI1:Hid (w1.ownsRow (w.heap.size+1+1+1) 98 1 (.slice i1 (Tb.aF cs l).length i2) (Tb.aF cs l).length ((Tb.aF cs l).flatMap gI)):=Ts.ai hown1 HB1.out.k2.lt;refine hK.out _ _ (HB2.out.held) (fun hHeld=> ?_);clear hK K
   try simp only[Act.put,siA,szA,ssA]
   refine wpAnyH_ready (rs:=[6,7,8]) (by kernel_rfl) (by simp) ?_;refine(AllReadyH.cons rfl (fun K hK=> ?_) (AllReadyH.cons rfl (fun K hK=> ?_) (AllReadyH.cons rfl (fun K hK=> ?_) AllReadyH.nil)))
   go_simp
   refine(HOE.out _ HB2.out.low).mono ?_;rintro x w2 ⟨hb2,y2,rfl,hown2⟩;obtain⟨j1,j2,rfl⟩:=au hown2;have HB3:=hd (HB2.out.below hb2);have HI1:=hd (dA HI1.out hb2);have HI2:Hid (w2.ownsRow (w.heap.size+1+1+1) 98 1 (.slice j1 os.length j2) os.length ((os.map Prod.fst).flatMap gI)):=Ts.ai hown2 HB2.out.k2.lt;refine hK.out _ _ (HB3.out.held) (fun hHeld=> ?_);clear hK K
   try simp only[Act.put,siA,szA,ssA]
   refine wpAnyH_ready (rs:=[7,8]) (by kernel_rfl) (by simp) ?_;refine(AllReadyH.cons rfl (fun K hK=> ?_) (AllReadyH.cons rfl (fun K hK=> ?_) AllReadyH.nil))
   go_simp
   have hb3:Below (w2).heap.size (w2) (World.alloc (w2) (.cells #[.slice none 0 0] 132)):=by go_grown
   have HA7:=hd (af.new (w2) #[.slice none 0 0] 132);have HB4:=hd (HB3.out.below hb3);have HI1:=hd (dA HI1.out hb3);have HI2:=hd (dA HI2.out hb3);have hs7:w.heap.size+1+1<(w2).heap.size:=HB3.out.k2.lt;refine hK.out _ _ (HB4.out.held) (fun hHeld=> ?_);clear hK K
   try simp only[Act.put,siA,szA,ssA]
   generalize hW3:World.alloc (w2) (.cells #[.slice none 0 0] 132)=w3 at*;refine wpAnyH_ready (rs:=[8]) (by kernel_rfl) (by simp) ?_;refine(AllReadyH.cons rfl (fun K hK=> ?_) AllReadyH.nil)
   go_simp
   have hb4:Below (w3).heap.size (w3) (World.alloc (w3) (.cells #[.slice none 0 0] 132)):=by go_grown
   have HA8:=hd (af.new (w3) #[.slice none 0 0] 132);have HB5:=hd (HB4.out.below hb4);have iN:=HA7;have HA7:=hd (HA7.out.below hb4 HA7.out.lt);have HI1:=hd (dA HI1.out hb4);have HI2:=hd (dA HI2.out hb4);have hs8:w.heap.size+1+1<(w3).heap.size:=HB4.out.k2.lt;have hne:w2.heap.size≠w3.heap.size:=Nat.ne_of_lt iN.out.lt;refine hK.out _ _ (HB5.out.held) (fun hHeld=> ?_);clear hK K
   try simp only[Act.put,siA,szA,ssA]
   generalize hW4:World.alloc (w3) (.cells #[.slice none 0 0] 132)=w4 at*;generalize w2.heap.size=a7 at*;generalize w3.heap.size=a8 at*;rotate_left
   go_simp
   have hb3:Below (w2).heap.size (w2) (World.alloc (w2) (.cells #[.slice none 0 0] 132)):=by go_grown
   have HA8:=hd (af.new (w2) #[.slice none 0 0] 132);have HB4:=hd (HB3.out.below hb3);have HI1:=hd (dA HI1.out hb3);have HI2:=hd (dA HI2.out hb3);have hs8:w.heap.size+1+1<(w2).heap.size:=HB3.out.k2.lt;refine hK.out _ _ (HB4.out.held) (fun hHeld=> ?_);clear hK K
   try simp only[Act.put,siA,szA,ssA]
   generalize hW3:World.alloc (w2) (.cells #[.slice none 0 0] 132)=w3 at*;refine wpAnyH_ready (rs:=[7]) (by kernel_rfl) (by simp) ?_;refine(AllReadyH.cons rfl (fun K hK=> ?_) AllReadyH.nil)
   go_simp
   have hb4:Below (w3).heap.size (w3) (World.alloc (w3) (.cells #[.slice none 0 0] 132)):=by go_grown
   have HA7:=hd (af.new (w3) #[.slice none 0 0] 132);have HB5:=hd (HB4.out.below hb4);have iL:=HA8;have HA8:=hd (HA8.out.below hb4 HA8.out.lt);have HI1:=hd (dA HI1.out hb4);have HI2:=hd (dA HI2.out hb4);have hs7:w.heap.size+1+1<(w3).heap.size:=HB4.out.k2.lt;have hne:w3.heap.size≠w2.heap.size:=Nat.ne_of_gt iL.out.lt;refine hK.out _ _ (HB5.out.held) (fun hHeld=> ?_);clear hK K
   try simp only[Act.put,siA,szA,ssA]
   generalize hW4:World.alloc (w3) (.cells #[.slice none 0 0] 132)=w4 at*;generalize w3.heap.size=a7 at*;generalize w2.heap.size=a8 at*;rotate_left
   go_simp
   have hb2:Below (w1).heap.size (w1) (World.alloc (w1) (.cells #[.slice none 0 0] 132)):=by go_grown
   have HA7:=hd (af.new (w1) #[.slice none 0 0] 132);have HB3:=hd (HB2.out.below hb2);have HI1:=hd (dA HI1.out hb2);have hs7:w.heap.size+1+1<(w1).heap.size:=HB2.out.k2.lt;refine hK.out _ _ (HB3.out.held) (fun hHeld=> ?_);clear hK K
   try simp only[Act.put,siA,szA,ssA]
   generalize hW2:World.alloc (w1) (.cells #[.slice none 0 0] 132)=w2 at*;refine wpAnyH_ready (rs:=[6,8]) (by kernel_rfl) (by simp) ?_;refine(AllReadyH.cons rfl (fun K hK=> ?_) (AllReadyH.cons rfl (fun K hK=> ?_) AllReadyH.nil))
   go_simp
   refine(HOE.out _ HB3.out.low).mono ?_;rintro x w3 ⟨hb3,y2,rfl,hown2⟩;obtain⟨j1,j2,rfl⟩:=au hown2;have HB4:=hd (HB3.out.below hb3);have iN:=HA7;have HA7:=hd (HA7.out.below hb3 HA7.out.lt);have HI1:=hd (dA HI1.out hb3);have HI2:Hid (w3.ownsRow (w.heap.size+1+1+1) 98 1 (.slice j1 os.length j2) os.length ((os.map Prod.fst).flatMap gI)):=Ts.ai hown2 HB3.out.k2.lt;refine hK.out _ _ (HB4.out.held) (fun hHeld=> ?_);clear hK K
   try simp only[Act.put,siA,szA,ssA]
   refine wpAnyH_ready (rs:=[8]) (by kernel_rfl) (by simp) ?_;refine(AllReadyH.cons rfl (fun K hK=> ?_) AllReadyH.nil)
   go_simp
   have hb4:Below (w3).heap.size (w3) (World.alloc (w3) (.cells #[.slice none 0 0] 132)):=by go_grown
   have HA8:=hd (af.new (w3) #[.slice none 0 0] 132);have HB5:=hd (HB4.out.below hb4);have iN:=HA7;have HA7:=hd (HA7.out.below hb4 HA7.out.lt);have HI1:=hd (dA HI1.out hb4);have HI2:=hd (dA HI2.out hb4);have hs8:w.heap.size+1+1<(w3).heap.size:=HB4.out.k2.lt;have hne:w1.heap.size≠w3.heap.size:=Nat.ne_of_lt iN.out.lt;refine hK.out _ _ (HB5.out.held) (fun hHeld=> ?_);clear hK K
   try simp only[Act.put,siA,szA,ssA]
   generalize hW4:World.alloc (w3) (.cells #[.slice none 0 0] 132)=w4 at*;generalize w1.heap.size=a7 at*;generalize w3.heap.size=a8 at*;rotate_left
   go_simp
   have hb3:Below (w2).heap.size (w2) (World.alloc (w2) (.cells #[.slice none 0 0] 132)):=by go_grown
   have HA8:=hd (af.new (w2) #[.slice none 0 0] 132);have HB4:=hd (HB3.out.below hb3);have iN:=HA7;have HA7:=hd (HA7.out.below hb3 HA7.out.lt);have HI1:=hd (dA HI1.out hb3);have hs8:w.heap.size+1+1<(w2).heap.size:=HB3.out.k2.lt;have hne:w1.heap.size≠w2.heap.size:=Nat.ne_of_lt iN.out.lt;refine hK.out _ _ (HB4.out.held) (fun hHeld=> ?_);clear hK K
   try simp only[Act.put,siA,szA,ssA]
   generalize hW3:World.alloc (w2) (.cells #[.slice none 0 0] 132)=w3 at*;refine wpAnyH_ready (rs:=[6]) (by kernel_rfl) (by simp) ?_;refine(AllReadyH.cons rfl (fun K hK=> ?_) AllReadyH.nil)
   go_simp
   refine(HOE.out _ HB4.out.low).mono ?_;rintro x w4 ⟨hb4,y2,rfl,hown2⟩;obtain⟨j1,j2,rfl⟩:=au hown2;have HB5:=hd (HB4.out.below hb4);have iN:=HA7;have HA7:=hd (HA7.out.below hb4 HA7.out.lt);have iL:=HA8;have HA8:=hd (HA8.out.below hb4 HA8.out.lt);have HI1:=hd (dA HI1.out hb4);have HI2:Hid (w4.ownsRow (w.heap.size+1+1+1) 98 1 (.slice j1 os.length j2) os.length ((os.map Prod.fst).flatMap gI)):=Ts.ai hown2 HB4.out.k2.lt;refine hK.out _ _ (HB5.out.held) (fun hHeld=> ?_);clear hK K
   try simp only[Act.put,siA,szA,ssA]
   generalize w1.heap.size=a7 at*;generalize w2.heap.size=a8 at*;rotate_left
   go_simp
   have hb2:Below (w1).heap.size (w1) (World.alloc (w1) (.cells #[.slice none 0 0] 132)):=by go_grown
   have HA8:=hd (af.new (w1) #[.slice none 0 0] 132);have HB3:=hd (HB2.out.below hb2);have HI1:=hd (dA HI1.out hb2);have hs8:w.heap.size+1+1<(w1).heap.size:=HB2.out.k2.lt;refine hK.out _ _ (HB3.out.held) (fun hHeld=> ?_);clear hK K
   try simp only[Act.put,siA,szA,ssA]
   generalize hW2:World.alloc (w1) (.cells #[.slice none 0 0] 132)=w2 at*;refine wpAnyH_ready (rs:=[6,7]) (by kernel_rfl) (by simp) ?_;refine(AllReadyH.cons rfl (fun K hK=> ?_) (AllReadyH.cons rfl (fun K hK=> ?_) AllReadyH.nil))
   go_simp
   refine(HOE.out _ HB3.out.low).mono ?_;rintro x w3 ⟨hb3,y2,rfl,hown2⟩;obtain⟨j1,j2,rfl⟩:=au hown2;have HB4:=hd (HB3.out.below hb3);have iL:=HA8;have HA8:=hd (HA8.out.below hb3 HA8.out.lt);have HI1:=hd (dA HI1.out hb3);have HI2:Hid (w3.ownsRow (w.heap.size+1+1+1) 98 1 (.slice j1 os.length j2) os.length ((os.map Prod.fst).flatMap gI)):=Ts.ai hown2 HB3.out.k2.lt;refine hK.out _ _ (HB4.out.held) (fun hHeld=> ?_);clear hK K
   try simp only[Act.put,siA,szA,ssA]
   refine wpAnyH_ready (rs:=[7]) (by kernel_rfl) (by simp) ?_;refine(AllReadyH.cons rfl (fun K hK=> ?_) AllReadyH.nil)
   go_simp
   have hb4:Below (w3).heap.size (w3) (World.alloc (w3) (.cells #[.slice none 0 0] 132)):=by go_grown
   have HA7:=hd (af.new (w3) #[.slice none 0 0] 132);have HB5:=hd (HB4.out.below hb4);have iL:=HA8;have HA8:=hd (HA8.out.below hb4 HA8.out.lt);have HI1:=hd (dA HI1.out hb4);have HI2:=hd (dA HI2.out hb4);have hs7:w.heap.size+1+1<(w3).heap.size:=HB4.out.k2.lt;have hne:w3.heap.size≠w1.heap.size:=Nat.ne_of_gt iL.out.lt;refine hK.out _ _ (HB5.out.held) (fun hHeld=> ?_);clear hK K
   try simp only[Act.put,siA,szA,ssA]
   generalize hW4:World.alloc (w3) (.cells #[.slice none 0 0] 132)=w4 at*;generalize w3.heap.size=a7 at*;generalize w1.heap.size=a8 at*;rotate_left
   go_simp
   have hb3:Below (w2).heap.size (w2) (World.alloc (w2) (.cells #[.slice none 0 0] 132)):=by go_grown
   have HA7:=hd (af.new (w2) #[.slice none 0 0] 132);have HB4:=hd (HB3.out.below hb3);have iL:=HA8;have HA8:=hd (HA8.out.below hb3 HA8.out.lt);have HI1:=hd (dA HI1.out hb3);have hs7:w.heap.size+1+1<(w2).heap.size:=HB3.out.k2.lt;have hne:w2.heap.size≠w1.heap.size:=Nat.ne_of_gt iL.out.lt;refine hK.out _ _ (HB4.out.held) (fun hHeld=> ?_);clear hK K
   try simp only[Act.put,siA,szA,ssA]
   generalize hW3:World.alloc (w2) (.cells #[.slice none 0 0] 132)=w3 at*;refine wpAnyH_ready (rs:=[6]) (by kernel_rfl) (by simp) ?_;refine(AllReadyH.cons rfl (fun K hK=> ?_) AllReadyH.nil)
   go_simp
   refine(HOE.out _ HB4.out.low).mono ?_;rintro x w4 ⟨hb4,y2,rfl,hown2⟩;obtain⟨j1,j2,rfl⟩:=au hown2;have HB5:=hd (HB4.out.below hb4);have iN:=HA7;have HA7:=hd (HA7.out.below hb4 HA7.out.lt);have iL:=HA8;have HA8:=hd (HA8.out.below hb4 HA8.out.lt);have HI1:=hd (dA HI1.out hb4);have HI2:Hid (w4.ownsRow (w.heap.size+1+1+1) 98 1 (.slice j1 os.length j2) os.length ((os.map Prod.fst).flatMap gI)):=Ts.ai hown2 HB4.out.k2.lt;refine hK.out _ _ (HB5.out.held) (fun hHeld=> ?_);clear hK K
   try simp only[Act.put,siA,szA,ssA]
   generalize w2.heap.size=a7 at*;generalize w1.heap.size=a8 at*;rotate_left
   go_simp
   have hb1:Below (V0).heap.size (V0) (World.alloc (V0) (.cells #[.slice none 0 0] 132)):=by go_grown
   have HA7:=hd (af.new (V0) #[.slice none 0 0] 132);have HB2:=hd (HB1.out.below hb1);have hs7:w.heap.size+1+1<(V0).heap.size:=HB1.out.k2.lt;refine hK.out _ _ (HB2.out.held) (fun hHeld=> ?_);clear hK K
   try simp only[Act.put,siA,szA,ssA]
   generalize hW1:World.alloc (V0) (.cells #[.slice none 0 0] 132)=w1 at*;refine wpAnyH_ready (rs:=[3,8]) (by kernel_rfl) (by simp) ?_;refine(AllReadyH.cons rfl (fun K hK=> ?_) (AllReadyH.cons rfl (fun K hK=> ?_) AllReadyH.nil))
   go_simp
   refine(HIE.out _ HB2.out.low).mono ?_;rintro x w2 ⟨hb2,y1,rfl,hown1⟩;obtain⟨i1,i2,rfl⟩:=au hown1;have HB3:=hd (HB2.out.below hb2);have iN:=HA7;have HA7:=hd (HA7.out.below hb2 HA7.out.lt);have HI1:Hid (w2.ownsRow (w.heap.size+1+1+1) 98 1 (.slice i1 (Tb.aF cs l).length i2) (Tb.aF cs l).length ((Tb.aF cs l).flatMap gI)):=Ts.ai hown1 HB2.out.k2.lt;refine hK.out _ _ (HB3.out.held) (fun hHeld=> ?_);clear hK K
   try simp only[Act.put,siA,szA,ssA]
   refine wpAnyH_ready (rs:=[6,8]) (by kernel_rfl) (by simp) ?_;refine(AllReadyH.cons rfl (fun K hK=> ?_) (AllReadyH.cons rfl (fun K hK=> ?_) AllReadyH.nil))
   go_simp
   refine(HOE.out _ HB3.out.low).mono ?_;rintro x w3 ⟨hb3,y2,rfl,hown2⟩;obtain⟨j1,j2,rfl⟩:=au hown2;have HB4:=hd (HB3.out.below hb3);have iN:=HA7;have HA7:=hd (HA7.out.below hb3 HA7.out.lt);have HI1:=hd (dA HI1.out hb3);have HI2:Hid (w3.ownsRow (w.heap.size+1+1+1) 98 1 (.slice j1 os.length j2) os.length ((os.map Prod.fst).flatMap gI)):=Ts.ai hown2 HB3.out.k2.lt;refine hK.out _ _ (HB4.out.held) (fun hHeld=> ?_);clear hK K
   try simp only[Act.put,siA,szA,ssA]
   refine wpAnyH_ready (rs:=[8]) (by kernel_rfl) (by simp) ?_;refine(AllReadyH.cons rfl (fun K hK=> ?_) AllReadyH.nil)
   go_simp
   have hb4:Below (w3).heap.size (w3) (World.alloc (w3) (.cells #[.slice none 0 0] 132)):=by go_grown
   have HA8:=hd (af.new (w3) #[.slice none 0 0] 132);have HB5:=hd (HB4.out.below hb4);have iN:=HA7;have HA7:=hd (HA7.out.below hb4 HA7.out.lt);have HI1:=hd (dA HI1.out hb4);have HI2:=hd (dA HI2.out hb4);have hs8:w.heap.size+1+1<(w3).heap.size:=HB4.out.k2.lt;have hne:V0.heap.size≠w3.heap.size:=Nat.ne_of_lt iN.out.lt;refine hK.out _ _ (HB5.out.held) (fun hHeld=> ?_);clear hK K
   try simp only[Act.put,siA,szA,ssA]
   generalize hW4:World.alloc (w3) (.cells #[.slice none 0 0] 132)=w4 at*;generalize V0.heap.size=a7 at*;generalize w3.heap.size=a8 at*;rotate_left
   go_simp
   have hb3:Below (w2).heap.size (w2) (World.alloc (w2) (.cells #[.slice none 0 0] 132)):=by go_grown
   have HA8:=hd (af.new (w2) #[.slice none 0 0] 132);have HB4:=hd (HB3.out.below hb3);have iN:=HA7;have HA7:=hd (HA7.out.below hb3 HA7.out.lt);have HI1:=hd (dA HI1.out hb3);have hs8:w.heap.size+1+1<(w2).heap.size:=HB3.out.k2.lt;have hne:V0.heap.size≠w2.heap.size:=Nat.ne_of_lt iN.out.lt;refine hK.out _ _ (HB4.out.held) (fun hHeld=> ?_);clear hK K
   try simp only[Act.put,siA,szA,ssA]
   generalize hW3:World.alloc (w2) (.cells #[.slice none 0 0] 132)=w3 at*;refine wpAnyH_ready (rs:=[6]) (by kernel_rfl) (by simp) ?_;refine(AllReadyH.cons rfl (fun K hK=> ?_) AllReadyH.nil)
   go_simp
   refine(HOE.out _ HB4.out.low).mono ?_;rintro x w4 ⟨hb4,y2,rfl,hown2⟩;obtain⟨j1,j2,rfl⟩:=au hown2;have HB5:=hd (HB4.out.below hb4);have iN:=HA7;have HA7:=hd (HA7.out.below hb4 HA7.out.lt);have iL:=HA8;have HA8:=hd (HA8.out.below hb4 HA8.out.lt);have HI1:=hd (dA HI1.out hb4);have HI2:Hid (w4.ownsRow (w.heap.size+1+1+1) 98 1 (.slice j1 os.length j2) os.length ((os.map Prod.fst).flatMap gI)):=Ts.ai hown2 HB4.out.k2.lt;refine hK.out _ _ (HB5.out.held) (fun hHeld=> ?_);clear hK K
   try simp only[Act.put,siA,szA,ssA]
   generalize V0.heap.size=a7 at*;generalize w2.heap.size=a8 at*;rotate_left
   go_simp
   have hb2:Below (w1).heap.size (w1) (World.alloc (w1) (.cells #[.slice none 0 0] 132)):=by go_grown
   have HA8:=hd (af.new (w1) #[.slice none 0 0] 132);have HB3:=hd (HB2.out.below hb2);have iN:=HA7;have HA7:=hd (HA7.out.below hb2 HA7.out.lt);have hs8:w.heap.size+1+1<(w1).heap.size:=HB2.out.k2.lt;have hne:V0.heap.size≠w1.heap.size:=Nat.ne_of_lt iN.out.lt;refine hK.out _ _ (HB3.out.held) (fun hHeld=> ?_);clear hK K
   try simp only[Act.put,siA,szA,ssA]
   generalize hW2:World.alloc (w1) (.cells #[.slice none 0 0] 132)=w2 at*;refine wpAnyH_ready (rs:=[3]) (by kernel_rfl) (by simp) ?_;refine(AllReadyH.cons rfl (fun K hK=> ?_) AllReadyH.nil)
   go_simp
   refine(HIE.out _ HB3.out.low).mono ?_;rintro x w3 ⟨hb3,y1,rfl,hown1⟩;obtain⟨i1,i2,rfl⟩:=au hown1;have HB4:=hd (HB3.out.below hb3);have iN:=HA7;have HA7:=hd (HA7.out.below hb3 HA7.out.lt);have iL:=HA8;have HA8:=hd (HA8.out.below hb3 HA8.out.lt);have HI1:Hid (w3.ownsRow (w.heap.size+1+1+1) 98 1 (.slice i1 (Tb.aF cs l).length i2) (Tb.aF cs l).length ((Tb.aF cs l).flatMap gI)):=Ts.ai hown1 HB3.out.k2.lt;refine hK.out _ _ (HB4.out.held) (fun hHeld=> ?_);clear hK K
   try simp only[Act.put,siA,szA,ssA]
   refine wpAnyH_ready (rs:=[6]) (by kernel_rfl) (by simp) ?_;refine(AllReadyH.cons rfl (fun K hK=> ?_) AllReadyH.nil)
   go_simp
   refine(HOE.out _ HB4.out.low).mono ?_;rintro x w4 ⟨hb4,y2,rfl,hown2⟩;obtain⟨j1,j2,rfl⟩:=au hown2;have HB5:=hd (HB4.out.below hb4);have iN:=HA7;have HA7:=hd (HA7.out.below hb4 HA7.out.lt);have iL:=HA8;have HA8:=hd (HA8.out.below hb4 HA8.out.lt);have HI1:=hd (dA HI1.out hb4);have HI2:Hid (w4.ownsRow (w.heap.size+1+1+1) 98 1 (.slice j1 os.length j2) os.length ((os.map Prod.fst).flatMap gI)):=Ts.ai hown2 HB4.out.k2.lt;refine hK.out _ _ (HB5.out.held) (fun hHeld=> ?_);clear hK K
   try simp only[Act.put,siA,szA,ssA]
   generalize V0.heap.size=a7 at*;generalize w1.heap.size=a8 at*;rotate_left
   go_simp
   have hb1:Below (V0).heap.size (V0) (World.alloc (V0) (.cells #[.slice none 0 0] 132)):=by go_grown
   have HA8:=hd (af.new (V0) #[.slice none 0 0] 132);have HB2:=hd (HB1.out.below hb1);have hs8:w.heap.size+1+1<(V0).heap.size:=HB1.out.k2.lt;refine hK.out _ _ (HB2.out.held) (fun hHeld=> ?_);clear hK K
   try simp only[Act.put,siA,szA,ssA]
   generalize hW1:World.alloc (V0) (.cells #[.slice none 0 0] 132)=w1 at*;refine wpAnyH_ready (rs:=[3,7]) (by kernel_rfl) (by simp) ?_;refine(AllReadyH.cons rfl (fun K hK=> ?_) (AllReadyH.cons rfl (fun K hK=> ?_) AllReadyH.nil))
   go_simp
   refine(HIE.out _ HB2.out.low).mono ?_;rintro x w2 ⟨hb2,y1,rfl,hown1⟩;obtain⟨i1,i2,rfl⟩:=au hown1;have HB3:=hd (HB2.out.below hb2);have iL:=HA8;have HA8:=hd (HA8.out.below hb2 HA8.out.lt);have HI1:Hid (w2.ownsRow (w.heap.size+1+1+1) 98 1 (.slice i1 (Tb.aF cs l).length i2) (Tb.aF cs l).length ((Tb.aF cs l).flatMap gI)):=Ts.ai hown1 HB2.out.k2.lt;refine hK.out _ _ (HB3.out.held) (fun hHeld=> ?_);clear hK K
   try simp only[Act.put,siA,szA,ssA]
   refine wpAnyH_ready (rs:=[6,7]) (by kernel_rfl) (by simp) ?_;refine(AllReadyH.cons rfl (fun K hK=> ?_) (AllReadyH.cons rfl (fun K hK=> ?_) AllReadyH.nil))
   go_simp
   refine(HOE.out _ HB3.out.low).mono ?_;rintro x w3 ⟨hb3,y2,rfl,hown2⟩;obtain⟨j1,j2,rfl⟩:=au hown2;have HB4:=hd (HB3.out.below hb3);have iL:=HA8;have HA8:=hd (HA8.out.below hb3 HA8.out.lt);have HI1:=hd (dA HI1.out hb3);have HI2:Hid (w3.ownsRow (w.heap.size+1+1+1) 98 1 (.slice j1 os.length j2) os.length ((os.map Prod.fst).flatMap gI)):=Ts.ai hown2 HB3.out.k2.lt;refine hK.out _ _ (HB4.out.held) (fun hHeld=> ?_);clear hK K
   try simp only[Act.put,siA,szA,ssA]
   refine wpAnyH_ready (rs:=[7]) (by kernel_rfl) (by simp) ?_;refine(AllReadyH.cons rfl (fun K hK=> ?_) AllReadyH.nil)
   go_simp
   have hb4:Below (w3).heap.size (w3) (World.alloc (w3) (.cells #[.slice none 0 0] 132)):=by go_grown
   have HA7:=hd (af.new (w3) #[.slice none 0 0] 132);have HB5:=hd (HB4.out.below hb4);have iL:=HA8;have HA8:=hd (HA8.out.below hb4 HA8.out.lt);have HI1:=hd (dA HI1.out hb4);have HI2:=hd (dA HI2.out hb4);have hs7:w.heap.size+1+1<(w3).heap.size:=HB4.out.k2.lt;have hne:w3.heap.size≠V0.heap.size:=Nat.ne_of_gt iL.out.lt;refine hK.out _ _ (HB5.out.held) (fun hHeld=> ?_);clear hK K
   try simp only[Act.put,siA,szA,ssA]
   generalize hW4:World.alloc (w3) (.cells #[.slice none 0 0] 132)=w4 at*;generalize w3.heap.size=a7 at*;generalize V0.heap.size=a8 at*;rotate_left
   go_simp
   have hb3:Below (w2).heap.size (w2) (World.alloc (w2) (.cells #[.slice none 0 0] 132)):=by go_grown
   have HA7:=hd (af.new (w2) #[.slice none 0 0] 132);have HB4:=hd (HB3.out.below hb3);have iL:=HA8;have HA8:=hd (HA8.out.below hb3 HA8.out.lt);have HI1:=hd (dA HI1.out hb3);have hs7:w.heap.size+1+1<(w2).heap.size:=HB3.out.k2.lt;have hne:w2.heap.size≠V0.heap.size:=Nat.ne_of_gt iL.out.lt;refine hK.out _ _ (HB4.out.held) (fun hHeld=> ?_);clear hK K
   try simp only[Act.put,siA,szA,ssA]
   generalize hW3:World.alloc (w2) (.cells #[.slice none 0 0] 132)=w3 at*;refine wpAnyH_ready (rs:=[6]) (by kernel_rfl) (by simp) ?_;refine(AllReadyH.cons rfl (fun K hK=> ?_) AllReadyH.nil)
   go_simp
   refine(HOE.out _ HB4.out.low).mono ?_;rintro x w4 ⟨hb4,y2,rfl,hown2⟩;obtain⟨j1,j2,rfl⟩:=au hown2;have HB5:=hd (HB4.out.below hb4);have iN:=HA7;have HA7:=hd (HA7.out.below hb4 HA7.out.lt);have iL:=HA8;have HA8:=hd (HA8.out.below hb4 HA8.out.lt);have HI1:=hd (dA HI1.out hb4);have HI2:Hid (w4.ownsRow (w.heap.size+1+1+1) 98 1 (.slice j1 os.length j2) os.length ((os.map Prod.fst).flatMap gI)):=Ts.ai hown2 HB4.out.k2.lt;refine hK.out _ _ (HB5.out.held) (fun hHeld=> ?_);clear hK K
   try simp only[Act.put,siA,szA,ssA]
   generalize w2.heap.size=a7 at*;generalize V0.heap.size=a8 at*;rotate_left
   go_simp
   have hb2:Below (w1).heap.size (w1) (World.alloc (w1) (.cells #[.slice none 0 0] 132)):=by go_grown
   have HA7:=hd (af.new (w1) #[.slice none 0 0] 132);have HB3:=hd (HB2.out.below hb2);have iL:=HA8;have HA8:=hd (HA8.out.below hb2 HA8.out.lt);have hs7:w.heap.size+1+1<(w1).heap.size:=HB2.out.k2.lt;have hne:w1.heap.size≠V0.heap.size:=Nat.ne_of_gt iL.out.lt;refine hK.out _ _ (HB3.out.held) (fun hHeld=> ?_);clear hK K
   try simp only[Act.put,siA,szA,ssA]
   generalize hW2:World.alloc (w1) (.cells #[.slice none 0 0] 132)=w2 at*;refine wpAnyH_ready (rs:=[3]) (by kernel_rfl) (by simp) ?_;refine(AllReadyH.cons rfl (fun K hK=> ?_) AllReadyH.nil)
   go_simp
   refine(HIE.out _ HB3.out.low).mono ?_;rintro x w3 ⟨hb3,y1,rfl,hown1⟩;obtain⟨i1,i2,rfl⟩:=au hown1;have HB4:=hd (HB3.out.below hb3);have iN:=HA7;have HA7:=hd (HA7.out.below hb3 HA7.out.lt);have iL:=HA8;have HA8:=hd (HA8.out.below hb3 HA8.out.lt);have HI1:Hid (w3.ownsRow (w.heap.size+1+1+1) 98 1 (.slice i1 (Tb.aF cs l).length i2) (Tb.aF cs l).length ((Tb.aF cs l).flatMap gI)):=Ts.ai hown1 HB3.out.k2.lt;refine hK.out _ _ (HB4.out.held) (fun hHeld=> ?_);clear hK K
   try simp only[Act.put,siA,szA,ssA]
   refine wpAnyH_ready (rs:=[6]) (by kernel_rfl) (by simp) ?_;refine(AllReadyH.cons rfl (fun K hK=> ?_) AllReadyH.nil)
   go_simp
   refine(HOE.out _ HB4.out.low).mono ?_;rintro x w4 ⟨hb4,y2,rfl,hown2⟩;obtain⟨j1,j2,rfl⟩:=au hown2;have HB5:=hd (HB4.out.below hb4);have iN:=HA7;have HA7:=hd (HA7.out.below hb4 HA7.out.lt);have iL:=HA8;have HA8:=hd (HA8.out.below hb4 HA8.out.lt);have HI1:=hd (dA HI1.out hb4);have HI2:Hid (w4.ownsRow (w.heap.size+1+1+1) 98 1 (.slice j1 os.length j2) os.length ((os.map Prod.fst).flatMap gI)):=Ts.ai hown2 HB4.out.k2.lt;refine hK.out _ _ (HB5.out.held) (fun hHeld=> ?_);clear hK K
   try simp only[Act.put,siA,szA,ssA]
   generalize w1.heap.size=a7 at*;generalize V0.heap.size=a8 at*;rotate_left
   all_goals
    have hsz:=HB5.out.k2.lt;have g7:w.heap.size+1+1<a7:=hs7;have g8:w.heap.size+1+1<a8:=hs8;have g78:a7≠a8:=hne;have f7:=HA7.out.free 0;have c7:=HA7.out.cell 0;have l7:=HA7.out.lt;simp at c7;refine wpAnyH_ready (rs:=[9]) (by kernel_rfl) (by simp) ?_;refine AllReadyH.cons rfl (fun K hK=> ?_) AllReadyH.nil
    go_simp
    have HB8:=hd (HB5.out.set (i:=0) (x:=.slice i1 (Tb.aF cs l).length i2) g7);have HC7:Hid (af _ _ _ _):=af.set1 (u:=.slice none 0 0) (v:=.slice i1 (Tb.aF cs l).length i2) HA7.out;have HC8:=hd (HA8.out.far ⟨a7,0,none⟩ (.slice i1 (Tb.aF cs l).length i2) (by show a7≠a8;exact g78));have HJ1:=hd (nX (x:=.slice i1 (Tb.aF cs l).length i2) HI1.out HA7.out (by decide));have HJ2:=hd (nX (x:=.slice i1 (Tb.aF cs l).length i2) HI2.out HA7.out (by decide));refine hK.out _ _ (HB8.out.held) (fun hHeld=> ?_);clear hK K
    try simp only[Act.put,siA,szA,ssA]
    generalize w4.setCell ⟨a7,0,none⟩ (.slice i1 (Tb.aF cs l).length i2)=y8 at*;have f8:=HC8.out.free 0;have c8:=HC8.out.cell 0;have l8:=HC8.out.lt;simp at c8;refine wpAnyH_ready (rs:=[10]) (by kernel_rfl) (by simp) ?_;refine AllReadyH.cons rfl (fun K hK=> ?_) AllReadyH.nil
    go_simp
    have HB9:=hd (HB8.out.set (i:=0) (x:=.slice j1 os.length j2) g8);have HD8:Hid (af _ _ _ _):=af.set1 (u:=.slice none 0 0) (v:=.slice j1 os.length j2) HC8.out;have HD7:=hd (HC7.out.far ⟨a8,0,none⟩ (.slice j1 os.length j2) (by show a8≠a7;exact g78.symm));have HL1:=hd (nX (x:=.slice j1 os.length j2) HJ1.out HC8.out (by decide));have HL2:=hd (nX (x:=.slice j1 os.length j2) HJ2.out HC8.out (by decide));refine hK.out _ _ (HB9.out.held) (fun hHeld=> ?_);clear hK K;refine wpAnyH_done (by kernel_rfl) ?_ _;simp only[Qd];go_wp2_with fail;go_meet;exact⟨a7,a8,.slice i1 (Tb.aF cs l).length i2,.slice j1 os.length j2,rfl,rfl,HB9.out.low,HB9.out.k0,HB9.out.k1,HB9.out.k2,HD7.out,HD8.out,HL1.out,by rw[List.length_map];exact HL2.out,g7,g8,g78⟩
  case rest=>
   obtain⟨b5,b6,iv,xv,rfl,rfl,hS⟩:=hcut;refine hK _ _ ?_;clear hK K HK0 HK1 HK2 HB0 v0 v1 v2 hv0 hv1 hv2 HIE HOE;have HS:=hd hS;clear hS;have HT1:=hd (HT.out.below HS.out.low)
   refine jr fun K hK=> ?_
   have d0:=HS.out.k0.cell 0;have d1:=HS.out.k1.cell 2;have d5:=HS.out.k5.cell 0;have d6:=HS.out.k6.cell 0;have dp:=(HT1.out.blk.cell 0).trans (show _=some sv from rfl);simp at d0 d1 d5 d6;refine Code.wp_mono (Q:=Qd K _) EA ?_;refine wp_region_held_drew (S:=fun w'=>w'.cell? ⟨w.heap.size,0,none⟩=some (.pointer (some ⟨p,0,none⟩))/\w'.cell? ⟨w.heap.size+1,2,none⟩=some wt/\w'.cell? ⟨b5,0,none⟩=some iv/\w'.cell? ⟨b6,0,none⟩=some xv/\w'.cell? ⟨p,0,none⟩=some sv) (by kernel_rfl) ⟨d0,d1,d5,d6,dp⟩ (fun hHeld=> ?_);refine wpAnyH_take (i:=0) (v:=(.pointer (some ⟨p,0,none⟩))) rfl (by kernel_rfl) (by kernel_rfl) (by kernel_rfl) (fun _ _ _ h=>h) (Or.inl ⟨by rfl,?_⟩) (by assumption) ?_
   · intro w hSw
     try dsimp only at hSw
     go_simp
   simp only[Act.put,siA,szA,ssA];refine wpAnyH_take (i:=1) (v:=(.pointer (some ⟨p,0,none⟩))) rfl (by kernel_rfl) (by kernel_rfl) (by kernel_rfl) (fun _ _ _ h=>h) (Or.inl ⟨by rfl,?_⟩) (by assumption) ?_
   · intro w hSw
     try dsimp only at hSw
     go_simp
   simp only[Act.put,siA,szA,ssA];refine wpAnyH_take (i:=2) (v:=(.pointer (some ⟨p,0,none⟩))) rfl (by kernel_rfl) (by kernel_rfl) (by kernel_rfl) (fun _ _ _ h=>h) (Or.inl ⟨by rfl,?_⟩) (by assumption) ?_
   · intro w hSw
     try dsimp only at hSw
     go_simp
   simp only[Act.put,siA,szA,ssA];refine wpAnyH_take (i:=3) (v:=sv) rfl (by kernel_rfl) (by kernel_rfl) (by kernel_rfl) (fun _ _ _ h=>h) (Or.inl ⟨by rfl,?_⟩) (by assumption) ?_
   · intro w hSw
     try dsimp only at hSw
     go_simp
   simp only[Act.put,siA,szA,ssA];refine wpAnyH_take (i:=4) (v:=iv) rfl (by kernel_rfl) (by kernel_rfl) (by kernel_rfl) (fun _ _ _ h=>h) (Or.inl ⟨by rfl,?_⟩) (by assumption) ?_
   · intro w hSw
     try dsimp only at hSw
     go_simp
   simp only[Act.put,siA,szA,ssA];refine wpAnyH_take (i:=6) (v:=(.pointer (some ⟨w.heap.size+1,2,none⟩))) rfl (by kernel_rfl) (by kernel_rfl) (by kernel_rfl) (fun _ _ _ h=>h) (Or.inl ⟨by rfl,?_⟩) (by assumption) ?_
   · intro w hSw
     try dsimp only at hSw
     go_simp
   simp only[Act.put,siA,szA,ssA];refine wpAnyH_take (i:=7) (v:=wt) rfl (by kernel_rfl) (by kernel_rfl) (by kernel_rfl) (fun _ _ _ h=>h) (Or.inl ⟨by rfl,?_⟩) (by assumption) ?_
   · intro w hSw
     try dsimp only at hSw
     go_simp
   simp only[Act.put,siA,szA,ssA];refine wpAnyH_take (i:=9) (v:=xv) rfl (by kernel_rfl) (by kernel_rfl) (by kernel_rfl) (fun _ _ _ h=>h) (Or.inl ⟨by rfl,?_⟩) (by assumption) ?_
   · intro w hSw
     try dsimp only at hSw
     go_simp
   simp only[Act.put,siA,szA,ssA];have hlI:=HIL.out.1
   have hlO:(os.map Prod.fst).length<=1000000:=by rw[List.length_map];omega
   refine wpAnyH_ready (rs:=[5]) (by kernel_rfl) (by simp) ?_;refine AllReadyH.cons rfl (fun K hK=> ?_) AllReadyH.nil
   go_simp
   refine(show Calls Tryz.prog 93 #[iv,.int .i64 0] (World.drew wc) _ from Tb.qB (Tb.aF cs l) 0 hlI iv (World.drew wc) (Ts.ai HS.out.o5 (Nat.zero_le _))).mono ?_;rintro x w1 ⟨hb1,y1,rfl,hown1⟩;obtain⟨y1a,y1c,rfl⟩:=au hown1;have HS1:=hd (HS.out.below ((Below.refl _ wc).drew.trans hb1));have HT2:=hd (HT.out.below HS1.out.low);have e0:=HS1.out.k0.cell 0;have e1:=HS1.out.k1.cell 2;have e5:=HS1.out.k5.cell 0;have e6:=HS1.out.k6.cell 0;have ep:=(HT2.out.blk.cell 0).trans (show _=some sv from rfl);simp at e0 e1 e5 e6;have HO1:=hd hown1;clear hb1 hown1;refine hK.out _ _ ⟨e0,e1,e5,e6,ep⟩ (fun hHeld=> ?_);clear hK K
   try simp only[Act.put,siA,szA,ssA]
   refine wpAnyH_ready (rs:=[8]) (by kernel_rfl) (by simp) ?_;refine AllReadyH.cons rfl (fun K hK=> ?_) AllReadyH.nil
   go_simp
   have hwh:=Tb.F8 o w1;rw[HWT.out]at hwh;refine hwh.mono ?_;rintro x w2 ⟨hb2,y2,rfl,hown2⟩;obtain⟨y2a,y2c,rfl⟩:=au hown2;have HS2:=hd (HS1.out.below hb2);have HT3:=hd (HT.out.below HS2.out.low);have f0:=HS2.out.k0.cell 0;have f1:=HS2.out.k1.cell 2;have f5:=HS2.out.k5.cell 0;have f6:=HS2.out.k6.cell 0;have fp:=(HT3.out.blk.cell 0).trans (show _=some sv from rfl);simp at f0 f1 f5 f6;have HO2:=hd hown2;have OV:=hd (dA HO1.out hb2);clear hb2 hown2 hwh;refine hK.out _ _ ⟨f0,f1,f5,f6,fp⟩ (fun hHeld=> ?_);clear hK K
   try simp only[Act.put,siA,szA,ssA]
   refine wpAnyH_ready (rs:=[10]) (by kernel_rfl) (by simp) ?_;refine AllReadyH.cons rfl (fun K hK=> ?_) AllReadyH.nil
   go_simp
   have hdo:=Tb.qB (os.map Prod.fst) 0 hlO xv w2 (Ts.ai (by simpa using HS2.out.o6) (Nat.zero_le _));rw[List.length_map]at hdo;refine(show Calls Tryz.prog 93 #[xv,.int .i64 0] w2 _ from hdo).mono ?_;rintro x w3 ⟨hb3,y3,rfl,hown3⟩;obtain⟨y3a,y3c,rfl⟩:=au hown3;have HS3:=hd (HS2.out.below hb3);have HT4:=hd (HT.out.below HS3.out.low);have g0:=HS3.out.k0.cell 0;have g1:=HS3.out.k1.cell 2;have g5:=HS3.out.k5.cell 0;have g6:=HS3.out.k6.cell 0;have gp:=(HT4.out.blk.cell 0).trans (show _=some sv from rfl);simp at g0 g1 g5 g6;have HO3:=hd hown3;have OY:=hd (dA HO2.out hb3);have Oo:=hd (dA OV.out hb3);clear hb3 hown3 hdo;refine hK.out _ _ ⟨g0,g1,g5,g6,gp⟩ (fun hHeld=> ?_);clear hK K
   try simp only[Act.put,siA,szA,ssA]
   refine wpAnyH_ready (rs:=[11]) (by kernel_rfl) (by simp) ?_;refine AllReadyH.cons rfl (fun K hK=> ?_) AllReadyH.nil
   go_simp
   have HW4:Hid (Below w3.heap.size w3 (w3.alloc (.cells #[.slice y1a (Tb.aF cs l).length y1c,.slice y2a (Tb.demW o).length y2c,.slice y3a os.length y3c] 172))):=by show Below _ _ _;go_grown
   have HBL:=hd (af.new w3 #[.slice y1a (Tb.aF cs l).length y1c,.slice y2a (Tb.demW o).length y2c,.slice y3a os.length y3c] 172);have HS4:=hd (HS3.out.below HW4.out);have HT5:=hd (HT.out.below HS4.out.low);have h0:=HS4.out.k0.cell 0;have h1:=HS4.out.k1.cell 2;have h5:=HS4.out.k5.cell 0;have h6:=HS4.out.k6.cell 0;have hp:=(HT5.out.blk.cell 0).trans (show _=some sv from rfl);simp at h0 h1 h5 h6;refine hK.out _ _ ⟨h0,h1,h5,h6,hp⟩ (fun hHeld=> ?_);clear hK K
   try simp only[Act.put,siA,szA,ssA]
   refine wpAnyH_ready (rs:=[12]) (by kernel_rfl) (by simp) ?_;refine AllReadyH.cons rfl (fun K hK=> ?_) AllReadyH.nil
   go_simp
   have HDW:Hid ((Tb.demW o).length<=1):=by show _<=_;cases o<;>simp[Tb.demW]
   have HCC:=hd (Tb.Cm [.slice y1a (Tb.aF cs l).length y1c,.slice y2a (Tb.demW o).length y2c,.slice y3a os.length y3c] [(Tb.aF cs l).length,(Tb.demW o).length,os.length] [((Tb.aF cs l).map fun e=>(e,0)).flatMap Tb.eu,(Tb.demW o).flatMap Tb.eu,((os.map Prod.fst).map fun e=>(e,0)).flatMap Tb.eu] rfl rfl rfl (by have:=HIL.out.2;simp only[List.sum_cons,List.sum_nil];omega) (by have:=HDW.out;have:=Tb.D8 hc1 hlen;have:=Tb.Nn hc1 l;simp only[List.sum_cons,List.sum_nil];omega) w3.heap.size 3 (w3.alloc (.cells #[.slice y1a (Tb.aF cs l).length y1c,.slice y2a (Tb.demW o).length y2c,.slice y3a os.length y3c] 172)) HBL.out.lt (fun k h=>by
    match k,h with
    |0,_=>exact(HBL.out.cell 0)
    |1,_=>exact(HBL.out.cell 1)
    |2,_=>exact(HBL.out.cell 2)) (fun k h=>by
    match k,h with
    |0,_=>exact Ts.ai (dA Oo.out HW4.out) (Nat.zero_le _)
    |1,_=>exact Ts.ai (dA OY.out HW4.out) (Nat.zero_le _)
    |2,_=>exact Ts.ai (dA HO3.out HW4.out) (Nat.zero_le _)) (fun xs hxs u hu=>by
    simp only[List.mem_cons,List.not_mem_nil,or_false]at hxs
    rcases hxs with rfl|rfl|rfl<;>exact Tb.Jj hu))
   refine HCC.out.mono ?_;rintro x w5 ⟨hb5,y5,rfl,hown5⟩;obtain⟨y5a,y5c,rfl⟩:=au hown5;have HS5:=hd (HS4.out.below hb5);have HT6:=hd (HT.out.below HS5.out.low);have i0:=HS5.out.k0.cell 0;have i1:=HS5.out.k1.cell 2;have i5:=HS5.out.k5.cell 0;have i6:=HS5.out.k6.cell 0;have ip:=(HT6.out.blk.cell 0).trans (show _=some sv from rfl);simp at i0 i1 i5 i6
   have HO5:Hid (w5.ownsRow 0 191 2 (.slice y5a ((Tb.aF cs l).length+((Tb.demW o).length+os.length)) y5c) (Mg.je cs l o os).length ((Mg.je cs l o os).flatMap Tb.eu)):=by show World.ownsRow _ _ _ _ _ _ _;have h:=Ts.ai (Tb.IP hown5) (Nat.zero_le _);simpa using h
   clear hb5 hown5 HCC;refine hK.out _ _ ⟨i0,i1,i5,i6,ip⟩ (fun hHeld=> ?_);clear hK K
   try simp only[Act.put,siA,szA,ssA]
   refine wpAnyH_ready (rs:=[13]) (by kernel_rfl) (by simp) ?_;refine AllReadyH.cons rfl (fun K hK=> ?_) AllReadyH.nil
   go_simp
   have HCK:=hd (Tb.wX cs HO.out.cols sv (Mg.je cs l o os) HDO.out (by unfold Mg.je;simp only[List.length_append,List.length_map];have:=HDW.out;have:=Tb.Nn hc1 l;omega) _ w5 HT6.out.cols HO5.out);refine HCK.out.mono ?_;rintro x w6 ⟨hb6,hx6⟩;have HS6:=hd (HS5.out.below hb6);rcases hck:Mg.bO cs (Mg.je cs l o os)with c|un
   · rw[hck]at hx6;obtain rfl:=hx6;exact⟨rfl,HS6.out.low,by rw[hck];rfl⟩
   rw[hck]at hx6;obtain rfl:=hx6;have Fu:=hd hck;have HT7:=hd (HT.out.below HS6.out.low);have j0:=HS6.out.k0.cell 0;have j1:=HS6.out.k1.cell 2;have j5:=HS6.out.k5.cell 0;have j6:=HS6.out.k6.cell 0;have jp:=(HT7.out.blk.cell 0).trans (show _=some sv from rfl);simp at j0 j1 j5 j6;clear hb6 hck HCK;refine hK.out _ _ ⟨j0,j1,j5,j6,jp⟩ (fun hHeld=> ?_);clear hK K;refine wpAnyH_done (by kernel_rfl) ?_ _;refine hK _ _ ?_;have HS7:=hd (HS6.out.below ((Below.refl _ w6).alloc (nlr _) (.cells #[.slice none 0 0] 193)));have HK7:=hd (af.new w6 #[.slice none 0 0] 193);clear HS HS1 HS2 HS3 HS4 HS5 HT1 HT2 HT3 HT4 HT5 HT6 HT7 HO1 HO2 HO3 OV Oo OY HO5 HW4 HBL HDW d0 d1 d5 d6 dp e0 e1 e5 e6 ep f0 f1 f5 f6 fp g0 g1 g5 g6 gp h0 h1 h5 h6 hp i0 i1 i5 i6 ip j0 j1 j5 j6 jp hHeld
   refine jr fun K hK=> ?_
   go_wp2_with fail;have HLT:Hid (w.heap.size+1+1<w6.heap.size/\b5<w6.heap.size/\b6<w6.heap.size/\w.heap.size<=w6.heap.size/\(∀g∈own iv,g<w6.heap.size)/\∀g∈own xv,g<w6.heap.size):=⟨HS6.out.k2.lt,HS6.out.k5.lt,HS6.out.k6.lt,HS6.out.low.size,aZ HS6.out.o5,aZ HS6.out.o6⟩;generalize hV4:w6.alloc (.cells #[.slice none 0 0] 193)=V4 at*
   have HV4:Hid (V4.heap.size=w6.heap.size+1):=by rw[<-hV4];exact World.size_alloc _ _
   generalize hb7:w6.heap.size=b7 at*;refine F7 ?_
   refine jr fun K hK=> ?_
   have d0:=HS7.out.k0.cell 0;have d1:=HS7.out.k1.cell 2;simp at d0 d1;have hl0:=HS7.out.k0.lt;have hl1:=HS7.out.k1.lt;go_wp2_with fail;have hch:=Gg (some ⟨p,0,none⟩) o V4;rw[HWT.out]at hch;refine hch.mono ?_;rintro x w4 ⟨rfl,rfl⟩;clear hch;go_wp2_with fail
   have hbb:Below V4.heap.size V4 ((V4.alloc (.cells #[.pointer (some ⟨p,0,none⟩)] 94)).alloc (.cells #[wt] 98)):=by go_grown
   have HS8:=hd (HS7.out.below hbb);have HK8:=hd (HK7.out.below hbb HK7.out.lt);have HT0:=hd ((af.new V4 #[.pointer (some ⟨p,0,none⟩)] 94).alloc (.cells #[wt] 98));have HTW:Hid (af ((V4.alloc (.cells #[.pointer (some ⟨p,0,none⟩)] 94)).alloc (.cells #[wt] 98)) (V4.heap.size+1) #[wt] 98):=af.Qm (by simp)
   have h54:V4.heap.size+2=((V4.alloc (.cells #[.pointer (some ⟨p,0,none⟩)] 94)).alloc (.cells #[wt] 98)).heap.size:=by simp
   clear hbb HS7 HK7 hV4 hb7 d0 d1 hl0 hl1 HS6;generalize (V4.alloc (.cells #[.pointer (some ⟨p,0,none⟩)] 94)).alloc (.cells #[wt] 98)=V5 at*;refine rU (qV (n:=0) (gf:=151) (lb:=#[.pointer (some ⟨V4.heap.size,0,none⟩),.pointer (some ⟨V4.heap.size+1,0,none⟩)]) rfl (enters_of Tryz.func151 (by kernel_rfl) rfl) ?_);intro W1 hrec hdef hb1 hs1;have Dk:=hd hrec;have Iu:=hd hdef;have HB1:=hd hb1;have HS9:=hd (HS8.out.below hb1);clear hrec hdef;have hk8:=HK8.out.lt;show CallsIn Fence.wide (0-1) Tryz.prog 151 #[.func (.yield (V5.heap.size+1)) #[] #[],.pointer (some ⟨V4.heap.size,0,none⟩),.pointer (some ⟨V4.heap.size+1,0,none⟩)] W1 _
   skip
   have hv4:=HV4.out;have hlt:=HLT.out
   have EL:b7<W1.heap.size:=by omega
   have HTB:=hd (HT.out.below HS9.out.low);have hrise:=HO.out.rise
   have HMP:Hid (L.map (rowOf M)=M.map Prod.snd):=wC hrise HTB.out.eB fun m hm=>hm
   have HLW:Hid (w.heap.size+1+1<W1.heap.size/\b5<W1.heap.size/\b6<W1.heap.size/\(∀g∈own iv,g<W1.heap.size)/\∀g∈own xv,g<W1.heap.size):=⟨by omega,by omega,by omega,fun g hg=>Nat.lt_trans (hlt.2.2.2.2.1 g hg) EL,fun g hg=>Nat.lt_trans (hlt.2.2.2.2.2 g hg) EL⟩
   have HPE:Hid (∀dd∈Mg.je cs l o os,dd.1.ok 2000/\Mg.knows cs dd.1=true/\∃t,Mg.typ cs dd.1=.ok t):=fun dd hdd=>by
    obtain⟨q1,t,q2,_⟩:=Mg.lK Fu.out dd hdd;exact⟨HDO.out dd hdd,q1,t,q2⟩
   have HOO:Hid (∀e,o=some e->e.ok 2000/\Mg.knows cs e=true/\∃t,Mg.typ cs e=.ok t):=fun e he=>HPE.out (e,3) (by subst he;simp[Mg.je,Tb.demW])
   have HOI:Hid (∀e∈Tb.aF cs l,e.ok 2000/\Mg.knows cs e=true/\∃t,Mg.typ cs e=.ok t):=fun e he=>HPE.out (e,0) (List.mem_append_left _ (List.mem_append_left _ (List.mem_map.2 ⟨e,he,rfl⟩)))
   have HOR:Hid (∀e∈os.map Prod.fst,e.ok 2000/\Mg.knows cs e=true/\∃t,Mg.typ cs e=.ok t):=fun e he=>HPE.out (e,0) (List.mem_append_right _ (List.mem_map.2 ⟨e,he,rfl⟩))
   have HRW:Hid (∀e∈L,Mn.dM W1 e.2 (rowOf M e)/\Mg.iy cs (rowOf M e)):=fun e he=>by
    obtain⟨m,hm,q1,q2⟩:=HTB.out.eB.mem e he;rw[BI hrise hm q1];exact⟨q2,HO.out.rows m hm⟩
   refine(AP (0-1) (V5.heap.size+1) V4.heap.size (V4.heap.size+1) p cs HO.out.cols sv o HOO.out (rowOf M) L (V4.heap.size::(V4.heap.size+1)::p::(F++R))
     (fun Q C W=>∃fs fv es,C=own fv/\Fg w W1 W p #[.slice va l.length vc,.string tn,wt,.slice ua os.length uc,.bool lb,.int .i64 (ln:Nat)] b5 b6 b7 iv xv (Tb.aF cs l) (os.map Prod.fst) cs o (Q.map (rowOf M)) fs fv es 0)
     (fun c W=>∃k,Mg.foundM cs (Tb.aF cs l) (os.map Prod.fst) o (M.map Prod.snd)=.error k/\ku 0 k=.panicked c/\Below w.heap.size w W/\W1.heap.size<=W.heap.size/\W.heap[V5.heap.size]? =W1.heap[V5.heap.size]?) W1
     ⟨?gm,?gl,?ga,?gk,HTB.out.eB.Ji,?yield,?gs,?ge,?gx⟩ (by omega) ((hb1.cell (p:=⟨V4.heap.size,0,none⟩) HT0.out.lt).trans ((HT0.out.cell 0).trans rfl)) (by omega) (by rw[HWT.out];exact(hb1.cell (p:=⟨V4.heap.size+1,0,none⟩) HTW.out.lt).trans ((HTW.out.cell 0).trans rfl)) d (if d=0 then 0 else 1) 6 ve vk F (by omega) (by by_cases h:d=0;exact .inl h;right;simp[h]) HTB.out.root HTB.out.blk.lt ((HTB.out.blk.cell 0).trans rfl) ((HTB.out.blk.cell 1).trans rfl) ((HTB.out.blk.cell 2).trans rfl) HTB.out.cols HRW.out ⟨by simp,by simp,by simp,fun k hk=>by simp[hk],fun g hg=>by simp[HTB.out.colr g hg],fun e he g hg=>by simp[HTB.out.rows e he g hg]⟩ ?start).mono ?after
   case start=>exact⟨[],.slice none 0 0,[],rfl,HS9.out,HK8.out.below hb1 (by omega),World.ownsRow_nil _ _ _ _,rfl,fun j h1=>by simp at h1,rfl,nlr _,fun k _ _ _=>rfl⟩
   case gm=>
    rintro Q C W W' ⟨fs,fv,es,hC,hF⟩ hb;exact⟨fs,fv,es,hC,hF.below hb⟩
   case gl=>
    rintro Q C W ⟨fs,fv,es,rfl,hF⟩ k hk;exact Tb.jI hF.ow k hk
   case ga=>
    rintro Q C W W' ⟨fs,fv,es,hC,hF⟩ ha;exact⟨fs,fv,es,hC,hF.apart HLW.out EL ha⟩
   case gk=>
    rintro Q C W ⟨fs,fv,es,hC,hF⟩;refine⟨hF.size,fun k hk=> ?_⟩;simp only[List.mem_cons]at hk;rcases hk with rfl|rfl|hk
    · exact hF.kept _ (by omega) (by omega) (by omega)
    · exact hF.kept _ (by omega) (by omega) (by omega)
    have hkl:k<w.heap.size:=HT.out.lt k (by simpa using hk);rw[hF.sg.low.block k hkl,HS9.out.low.block k hkl]
   case gs=>
    rintro Q e S hQ hch C W ⟨fs,fv,es,hC,hF⟩;refine⟨fs,fv,es,hC,hF.sg,hF.k7,hF.ow,hF.len,hF.cells,?_,hF.size,hF.kept⟩;rw[List.map_append];exact Mg.Cq hF.found hch
   case ge=>
    rintro Q e S c hQ hch C W ⟨fs,fv,es,hC,hF⟩;refine⟨c,?_,rfl,hF.sg.low,hF.size,hF.kept _ (by omega) (by omega) (by omega)⟩;rw[<-HMP.out,<-hQ,List.map_append,List.map_cons];exact Mg.lT hF.found (.inl hch)
   case gx=>
    rintro c W W' ⟨k,h1,h2,h3,h4,h5⟩ ha;exact⟨k,h1,h2,h3.trans (ha.below (by have:=HS9.out.low.size;omega) (by have:=HS9.out.low.size;omega)),Nat.le_trans h4 ha.size,(ha.block _ (.inl (by omega)) (by omega)).trans h5⟩
   case yield=>
    rintro Q e S hQ hch m C W ⟨fs,fv,es,rfl,hF⟩ hs4
    have heL:e∈L:=by rw[<-hQ];simp
    have hrW:=(hF.kept (V5.heap.size+1) (by omega) (by omega) (by omega)).trans Dk.out;have hdW:=hF.kept V5.heap.size (by omega) (by omega) (by omega);obtain⟨z,ra,rn,rc,hez⟩:=HTB.out.eB.Ji e heL;obtain⟨hrv,JC⟩:=HRW.out e heL;have HQ:Hid (Q++e::S=L):=hQ;have HCH:=hd hch;refine⟨_,_,_,_,run_yield hrW rfl,wU trivial ⟨_,Tryz.func38⟩ ?_⟩;simp only[iT]
    gi_wp2
    refine⟨_,run_beginRound hrW rfl,?_⟩;generalize hW2:W.putObj (V5.heap.size+1) _=W2
    have hs2:W2.heap.size=W.heap.size:=by rw[<-hW2];simp[World.putObj]
    have HR2:Hid (∃r:Loop,W1.heap[V5.heap.size+1]? =some (.loop r)/\r.pending=none/\r.state=.ready/\W2.heap[V5.heap.size+1]? =some (.loop {r with state:=.busy})):=⟨_,Dk.out,rfl,rfl,by rw[<-hW2];exact World.putObj_heap_same (by omega)⟩
    have HP:Hid (∀k,k≠V5.heap.size+1->W2.heap[k]? =W.heap[k]?):=fun k hk=>by rw[<-hW2];exact World.putObj_heap_other hk
    have HL7:Hid (w.heap.size+1+1<b7/\b5<b7/\b6<b7/\(∀g∈own iv,g<b7)/\∀g∈own xv,g<b7):=⟨hlt.1,hlt.2.1,hlt.2.2.1,hlt.2.2.2.2.1,hlt.2.2.2.2.2⟩
    have HF2:Hid (Fg w W1 W2 p #[.slice va l.length vc,.string tn,wt,.slice ua os.length uc,.bool lb,.int .i64 (ln:Nat)] b5 b6 b7 iv xv (Tb.aF cs l) (os.map Prod.fst) cs o (Q.map (rowOf M)) fs fv es (V5.heap.size+1)):=by
     rw[<-hW2];exact hF.turn HL7.out (by omega) (by omega) _ _ (fun k h1 h2 h3=>(World.putObj_heap_other h3).trans (hF.kept k h1 h2 (by omega)))
    have HTW2:=hd (HT.out.below HF2.out.sg.low)
    have HRV2:Hid (Mn.dM W2 e.2 (rowOf M e)):=hrv.keep (by have:=hF.size;omega) fun g hg=>by
     have hgl:g<w.heap.size:=HT.out.low g (HT.out.rows e heL g hg);rw[HF2.out.sg.low.block g hgl,HS9.out.low.block g hgl]
    have OE:=hd JC;obtain⟨ek,er⟩:=e;injection hez with hz1 hz2;subst hz1 hz2;generalize hrow:rowOf M (.int .i64 z,.slice ra rn rc)=row at*;have KV:=hd hrow;have e0:=HF2.out.sg.k0.cell 0;have e5:=HF2.out.sg.k5.cell 0;have ep:=(HTW2.out.blk.cell 0).trans (show _=some sv from rfl);simp at e0 e5;have g0:=HF2.out.sg.k0.lt;have g5:=HF2.out.sg.k5.lt;have gp:=HTW2.out.blk.lt;have HVL:=hd (Tb.mX cs HO.out.cols row OE.out sv (.slice ra rn rc) (Tb.aF cs l) HOI.out HIL.out.1 iv (World.drew W2) HTW2.out.cols HRV2.out (Ts.ai HF2.out.sg.o5 (Nat.zero_le _)));clear hrW hF hW2 hrv JC hQ hch hrow
    gi_wp2
    gi_cut [10]from 41 (fun s10 wx=>∃a ga gc,s10=.slice ga a.length gc/\Mg.vals cs row (Tb.aF cs l)=.ok a/\wx.ownsRow W2.heap.size 39 3 (.slice ga a.length gc) a.length (a.flatMap Mg.vC)/\Below W2.heap.size W2 wx)
    case first=>
     refine nO (S:=fun w'=>w'.cell? ⟨w.heap.size,0,none⟩=some (.pointer (some ⟨p,0,none⟩))/\w'.cell? ⟨p,0,none⟩=some sv/\w'.cell? ⟨b5,0,none⟩=some iv) (by kernel_rfl) ?hL6 (by kernel_rfl) ?hS6 (fun hHeld=> ?_)
     case hL6=>rintro⟨a,w,h⟩;exact h
     case hS6=>exact⟨e0,ep,e5⟩
     refine wpAnyH_take (i:=0) (v:=(.pointer (some ⟨p,0,none⟩))) rfl (by kernel_rfl) (by kernel_rfl) (by kernel_rfl) (fun _ _ _ h=>h) (Or.inl ⟨by rfl,?_⟩) (by assumption) ?_
     · intro w hSw
       try dsimp only at hSw
       go_simp
     simp only[Act.put,siA,szA,ssA];refine wpAnyH_take (i:=1) (v:=(.pointer (some ⟨p,0,none⟩))) rfl (by kernel_rfl) (by kernel_rfl) (by kernel_rfl) (fun _ _ _ h=>h) (Or.inl ⟨by rfl,?_⟩) (by assumption) ?_
     · intro w hSw
       try dsimp only at hSw
       go_simp
     simp only[Act.put,siA,szA,ssA];refine wpAnyH_take (i:=2) (v:=(.pointer (some ⟨p,0,none⟩))) rfl (by kernel_rfl) (by kernel_rfl) (by kernel_rfl) (fun _ _ _ h=>h) (Or.inl ⟨by rfl,?_⟩) (by assumption) ?_
     · intro w hSw
       try dsimp only at hSw
       go_simp
     simp only[Act.put,siA,szA,ssA];refine wpAnyH_take (i:=3) (v:=sv) rfl (by kernel_rfl) (by kernel_rfl) (by kernel_rfl) (fun _ _ _ h=>h) (Or.inl ⟨by rfl,?_⟩) (by assumption) ?_
     · intro w hSw
       try dsimp only at hSw
       go_simp
     simp only[Act.put,siA,szA,ssA];refine wpAnyH_take (i:=4) (v:=iv) rfl (by kernel_rfl) (by kernel_rfl) (by kernel_rfl) (fun _ _ _ h=>h) (Or.inl ⟨by rfl,?_⟩) (by assumption) ?_
     · intro w hSw
       try dsimp only at hSw
       go_simp
     simp only[Act.put,siA,szA,ssA];refine wpAnyH_take (i:=5) (v:=(.slice ra rn rc)) rfl (by kernel_rfl) (by kernel_rfl) (by kernel_rfl) (fun _ _ _ h=>h) (Or.inl ⟨by rfl,?_⟩) (by assumption) ?_
     · intro w hSw
       try dsimp only at hSw
       go_simp
     simp only[Act.put,siA,szA,ssA];refine wpAnyH_ready (rs:=[6]) (by kernel_rfl) (by simp) ?_;refine AllReadyH.cons rfl (fun K hK=> ?_) AllReadyH.nil
     go_simp
     refine HVL.out.mono ?_;rintro x W3 ⟨hb3,hx⟩;have HB3:Hid (Below W2.heap.size W2 W3):=((Below.refl _ W2).drew).trans hb3;have hs3:=HB3.out.size;rcases hva:Mg.vals cs row (Tb.aF cs l)with k|a
     · rw[hva]at hx;obtain rfl:=hx;refine⟨rfl,_,⟨?_,?_,fun k hk=> .inl hk⟩,.inr ⟨_,rfl,k,?_,rfl,HF2.out.sg.low.trans (HB3.out.mono HF2.out.sg.low.size),?_,?_⟩⟩
       · omega
       · intro j h1 h2 _;rw[HB3.out.block j (by omega),HP.out j (by omega)]
       · rw[<-HMP.out,<-HQ.out,List.map_append,List.map_cons,KV.out];exact Mg.lT HF2.out.found (.inr ⟨HCH.out,.inl hva⟩)
       · omega
       rw[HB3.out.block _ (by omega),HP.out _ (by omega),hdW]
     rw[hva]at hx;obtain⟨v3,rfl,hown3⟩:=hx;obtain⟨ga,gc,rfl⟩:=au hown3;have HO3:=hd hown3;have HVA:=hd hva;have HF3:=hd (HF2.out.below HB3.out);have HTW3:=hd (HT.out.below HF3.out.sg.low);have q0:=HF3.out.sg.k0.cell 0;have q5:=HF3.out.sg.k5.cell 0;have qp:=(HTW3.out.blk.cell 0).trans (show _=some sv from rfl);simp at q0 q5;clear hb3 hown3 hva;refine hK.out _ _ ⟨q0,qp,q5⟩ (fun hHeld=> ?_);clear hK K
     try simp only[Act.put,siA,szA,ssA]
     refine wpAnyH_ready (rs:=[7]) (by kernel_rfl) (by simp) ?_;refine AllReadyH.cons rfl (fun K hK=> ?_) AllReadyH.nil
     go_simp
     refine hK.out _ _ hHeld (fun hHeld=> ?_);clear hK K;refine wpAnyH_done (by kernel_rfl) ?_ _
     gi_wp2
     gi_meet
     exact⟨a,ga,gc,rfl,HVA.out,HO3.out,HB3.out⟩
    case rest=>
     obtain⟨a,ga,gc,rfl,hva,hO3,hb3⟩:=hcut;have HVA:=hd hva;have HO3:=hd hO3;have HB3:=hd hb3;clear hva hO3 hb3 HVL e0 e5 ep g0 g5 gp;have HF3:=hd (HF2.out.below HB3.out);have HTW3:=hd (HT.out.below HF3.out.sg.low);have PU:=hd (HRV2.out.below HB3.out);have hs3:=HB3.out.size;have e0:=HF3.out.sg.k0.cell 0;have e6:=HF3.out.sg.k6.cell 0;have ep:=(HTW3.out.blk.cell 0).trans (show _=some sv from rfl);have e7:=HF3.out.k7.cell 0;simp at e0 e6 e7;have g7:=HF3.out.k7.lt;obtain⟨fa,fc,rfl⟩:=au HF3.out.ow
     have Pd:(os.map Prod.fst).length<=1000000:=by rw[List.length_map];omega
     have HVO:=hd (Tb.mX cs HO.out.cols row OE.out sv (.slice ra rn rc) (os.map Prod.fst) HOR.out Pd xv (World.drew wc) HTW3.out.cols PU.out (Ts.ai HF3.out.sg.o6 (Nat.zero_le _)))
     gi_wp2
     refine nO (S:=fun w'=>w'.cell? ⟨w.heap.size,0,none⟩=some (.pointer (some ⟨p,0,none⟩))/\w'.cell? ⟨p,0,none⟩=some sv/\w'.cell? ⟨b6,0,none⟩=some xv) (by kernel_rfl) ?hL7 (by kernel_rfl) ?hS7 (fun hHeld=> ?_)
     case hL7=>rintro⟨a,w,h⟩;exact h
     case hS7=>exact⟨e0,ep,e6⟩
     refine wpAnyH_take (i:=1) (v:=(.slice ga a.length gc)) rfl (by kernel_rfl) (by kernel_rfl) (by kernel_rfl) (fun _ _ _ h=>h) (Or.inl ⟨by rfl,?_⟩) (by assumption) ?_
     · intro w hSw
       try dsimp only at hSw
       go_simp
     simp only[Act.put,siA,szA,ssA];refine wpAnyH_take (i:=2) (v:=(.pointer (some ⟨p,0,none⟩))) rfl (by kernel_rfl) (by kernel_rfl) (by kernel_rfl) (fun _ _ _ h=>h) (Or.inl ⟨by rfl,?_⟩) (by assumption) ?_
     · intro w hSw
       try dsimp only at hSw
       go_simp
     simp only[Act.put,siA,szA,ssA];refine wpAnyH_take (i:=3) (v:=(.pointer (some ⟨p,0,none⟩))) rfl (by kernel_rfl) (by kernel_rfl) (by kernel_rfl) (fun _ _ _ h=>h) (Or.inl ⟨by rfl,?_⟩) (by assumption) ?_
     · intro w hSw
       try dsimp only at hSw
       go_simp
     simp only[Act.put,siA,szA,ssA];refine wpAnyH_take (i:=4) (v:=(.pointer (some ⟨p,0,none⟩))) rfl (by kernel_rfl) (by kernel_rfl) (by kernel_rfl) (fun _ _ _ h=>h) (Or.inl ⟨by rfl,?_⟩) (by assumption) ?_
     · intro w hSw
       try dsimp only at hSw
       go_simp
     simp only[Act.put,siA,szA,ssA];refine wpAnyH_take (i:=5) (v:=sv) rfl (by kernel_rfl) (by kernel_rfl) (by kernel_rfl) (fun _ _ _ h=>h) (Or.inl ⟨by rfl,?_⟩) (by assumption) ?_
     · intro w hSw
       try dsimp only at hSw
       go_simp
     simp only[Act.put,siA,szA,ssA];refine wpAnyH_take (i:=6) (v:=xv) rfl (by kernel_rfl) (by kernel_rfl) (by kernel_rfl) (fun _ _ _ h=>h) (Or.inl ⟨by rfl,?_⟩) (by assumption) ?_
     · intro w hSw
       try dsimp only at hSw
       go_simp
     simp only[Act.put,siA,szA,ssA];refine wpAnyH_take (i:=7) (v:=(.slice ra rn rc)) rfl (by kernel_rfl) (by kernel_rfl) (by kernel_rfl) (fun _ _ _ h=>h) (Or.inl ⟨by rfl,?_⟩) (by assumption) ?_
     · intro w hSw
       try dsimp only at hSw
       go_simp
     simp only[Act.put,siA,szA,ssA];obtain⟨j0,hj,hy0,hy1,hy2⟩:=info_parts Tryz.info195;refine wpAnyH_ready (rs:=[0,8]) (by kernel_rfl) (by simp) ?_;refine AllReadyH.cons rfl (fun K hK=> ?_) (AllReadyH.cons rfl (fun K hK=> ?_) AllReadyH.nil)
     go_simp
     refine hK.out _ _ ⟨e0,ep,e6⟩ (fun hHeld=> ?_);clear hK K
     try simp only[Act.put,siA,szA,ssA]
     refine wpAnyH_ready (rs:=[8]) (by kernel_rfl) (by simp) ?_;refine AllReadyH.cons rfl (fun K hK=> ?_) AllReadyH.nil
     go_simp
     refine HVO.out.mono ?_;rintro x W4 ⟨hb4,hx⟩;have HB4:Hid (Below wc.heap.size wc W4):=((Below.refl _ wc).drew).trans hb4;have QG:=HB4.out.size;have HF4:=hd (HF3.out.below HB4.out);rcases hvb:Mg.vals cs row (os.map Prod.fst)with k|b
     · rw[hvb]at hx;obtain rfl:=hx;refine⟨rfl,_,⟨?_,?_,fun k hk=> .inl hk⟩,.inr ⟨_,rfl,k,?_,rfl,HF4.out.sg.low,?_,?_⟩⟩
       · omega
       · intro j h1 h2 _;rw[HB4.out.block j (by omega),HB3.out.block j (by omega),HP.out j (by omega)]
       · rw[<-HMP.out,<-HQ.out,List.map_append,List.map_cons,KV.out];exact Mg.lT HF2.out.found (.inr ⟨HCH.out,.inr ⟨a,HVA.out,hvb⟩⟩)
       · omega
       rw[HB4.out.block _ (by omega),HB3.out.block _ (by omega),HP.out _ (by omega),hdW]
     rw[hvb]at hx;obtain⟨v4,rfl,iI⟩:=hx;obtain⟨kb,kc,rfl⟩:=au iI;have HO4:Hid (W4.ownsRow (W1.heap.size+4) 39 3 (.slice kb b.length kc) b.length (b.flatMap Mg.vC)):=Ts.ai iI (by have:wc.heap.size=(World.drew wc).heap.size:=rfl;omega);have OD:Hid (W4.ownsRow (W1.heap.size+4) 39 3 (.slice ga a.length gc) a.length (a.flatMap Mg.vC)):=Ts.ai (dA HO3.out HB4.out) (by omega);have HVB:=hd hvb;have HTW4:=hd (HT.out.below HF4.out.sg.low);have x0:=HF4.out.sg.k0.cell 0;have x6:=HF4.out.sg.k6.cell 0;have xp:=(HTW4.out.blk.cell 0).trans (show _=some sv from rfl);have x7:=HF4.out.k7.cell 0;simp at x0 x6 x7;have h7:=HF4.out.k7.lt;clear hb4 iI hvb;refine hK.out _ _ ⟨x0,xp,x6⟩ (fun hHeld=> ?_);clear hK K
     try simp only[Act.put,siA,szA,ssA]
     refine wpAnyH_take (i:=9) (v:=(.agg #[.slice ga a.length gc,.slice kb b.length kc])) rfl (by kernel_rfl) (by kernel_rfl) (by kernel_rfl) (fun _ _ _ h=>h) (Or.inl ⟨by rfl,?_⟩) (by assumption) ?_
     · intro w hSw
       try dsimp only at hSw
       go_simp
     try simp only[Act.put,siA,szA,ssA]
     refine wpAnyH_ready (rs:=[10]) (by kernel_rfl) (by simp) ?_;refine AllReadyH.cons rfl (fun K hK=> ?_) AllReadyH.nil
     go_simp
     refine hK.out _ _ ⟨ed x0,ed xp,ed x6⟩ (fun hHeld=> ?_);clear hK K
     try simp only[Act.put,siA,szA,ssA]
     rotate_left
     go_simp
     refine HVO.out.mono ?_;rintro x W4 ⟨hb4,hx⟩;have HB4:Hid (Below wc.heap.size wc W4):=((Below.refl _ wc).drew).trans hb4;have QG:=HB4.out.size;have HF4:=hd (HF3.out.below HB4.out);rcases hvb:Mg.vals cs row (os.map Prod.fst)with k|b
     · rw[hvb]at hx;obtain rfl:=hx;refine⟨rfl,_,⟨?_,?_,fun k hk=> .inl hk⟩,.inr ⟨_,rfl,k,?_,rfl,HF4.out.sg.low,?_,?_⟩⟩
       · omega
       · intro j h1 h2 _;rw[HB4.out.block j (by omega),HB3.out.block j (by omega),HP.out j (by omega)]
       · rw[<-HMP.out,<-HQ.out,List.map_append,List.map_cons,KV.out];exact Mg.lT HF2.out.found (.inr ⟨HCH.out,.inr ⟨a,HVA.out,hvb⟩⟩)
       · omega
       rw[HB4.out.block _ (by omega),HB3.out.block _ (by omega),HP.out _ (by omega),hdW]
     rw[hvb]at hx;obtain⟨v4,rfl,iI⟩:=hx;obtain⟨kb,kc,rfl⟩:=au iI;have HO4:Hid (W4.ownsRow (W1.heap.size+4) 39 3 (.slice kb b.length kc) b.length (b.flatMap Mg.vC)):=Ts.ai iI (by have:wc.heap.size=(World.drew wc).heap.size:=rfl;omega);have OD:Hid (W4.ownsRow (W1.heap.size+4) 39 3 (.slice ga a.length gc) a.length (a.flatMap Mg.vC)):=Ts.ai (dA HO3.out HB4.out) (by omega);have HVB:=hd hvb;have HTW4:=hd (HT.out.below HF4.out.sg.low);have x0:=HF4.out.sg.k0.cell 0;have x6:=HF4.out.sg.k6.cell 0;have xp:=(HTW4.out.blk.cell 0).trans (show _=some sv from rfl);have x7:=HF4.out.k7.cell 0;simp at x0 x6 x7;have h7:=HF4.out.k7.lt;clear hb4 iI hvb;refine hK.out _ _ ⟨x0,xp,x6⟩ (fun hHeld=> ?_);clear hK K
     try simp only[Act.put,siA,szA,ssA]
     refine wpAnyH_take (i:=9) (v:=(.agg #[.slice ga a.length gc,.slice kb b.length kc])) rfl (by kernel_rfl) (by kernel_rfl) (by kernel_rfl) (fun _ _ _ h=>h) (Or.inl ⟨by rfl,?_⟩) (by assumption) ?_
     · intro w hSw
       try dsimp only at hSw
       go_simp
     try simp only[Act.put,siA,szA,ssA]
     refine wpAnyH_ready (rs:=[0,10]) (by kernel_rfl) (by simp) ?_;refine AllReadyH.cons rfl (fun K hK=> ?_) (AllReadyH.cons rfl (fun K hK=> ?_) AllReadyH.nil)
     go_simp
     refine hK.out _ _ ⟨x0,xp,x6⟩ (fun hHeld=> ?_);clear hK K
     try simp only[Act.put,siA,szA,ssA]
     refine wpAnyH_ready (rs:=[10]) (by kernel_rfl) (by simp) ?_;refine AllReadyH.cons rfl (fun K hK=> ?_) AllReadyH.nil
     go_simp
     refine hK.out _ _ ⟨ed x0,ed xp,ed x6⟩ (fun hHeld=> ?_);clear hK K
     try simp only[Act.put,siA,szA,ssA]
     rotate_left
     go_simp
     refine hK.out _ _ ⟨ed x0,ed xp,ed x6⟩ (fun hHeld=> ?_);clear hK K
     try simp only[Act.put,siA,szA,ssA]
     refine wpAnyH_ready (rs:=[0]) (by kernel_rfl) (by simp) ?_;refine AllReadyH.cons rfl (fun K hK=> ?_) AllReadyH.nil
     go_simp
     refine hK.out _ _ hHeld (fun hHeld=> ?_);clear hK K
     try simp only[Act.put,siA,szA,ssA]
     rotate_left
     all_goals
      refine wpAnyH_ready (rs:=[11]) (by kernel_rfl) (by simp) ?_;refine AllReadyH.cons rfl (fun K hK=> ?_) AllReadyH.nil;rw[if_pos (by rfl)]
      have hel:es.length<=200:=by
       have h1:=Mg.uq HF4.out.found;have h2:=HF4.out.len;have h3:=congrArg List.length HQ.out;have h4:=HTB.out.eB.len;have h5:=HO.out.few;simp at h1 h3;omega
      refine ML _ _ 193 rfl (W1.heap.size+4) 195 j0 (.agg #[.slice none 0 0,.slice none 0 0]) 2 48 Tryz.underlying193 hj hy0 hy1 hy2 rfl (by decide) (.slice fa es.length fc) es.length (flatE es) rfl (HF4.out.ow.alloc _) ⟨W4.heap.size,0,none⟩ 1 1 [.slice ga a.length gc,.slice kb b.length kc] rfl rfl (Tb.zF W4 _ _ _) (by intro u hu;simp at hu;rcases hu with rfl|rfl<;>rfl) (by simp only[maxLen];omega) (by omega) (by simp;omega) ?_;intro v5 w5 hown5 mZ Mc;obtain⟨Iz,Ie,hs5,hk5,O8⟩:=HF4.out.mid HLW.out EL mZ;have HF5:=hd (HF4.out.add HL7.out EL (r:=row) mZ hown5 OD.out HO4.out (Mg.Ce HF4.out.found HCH.out HVA.out HVB.out));obtain⟨va5,vc5,rfl⟩:=au hown5;have HSG5:=hd Iz;have HK75:=hd Ie;have HK5:=hd hk5;have P7:=hd O8;have Pq:=hd Mc;have HOW5:=hd hown5;have HT5:=hd (HT.out.below Iz.low);have z0:=Iz.k0.cell 0;have z6:=Iz.k6.cell 0;have zp:=(HT5.out.blk.cell 0).trans (show _=some sv from rfl);have z7:=Ie.cell 0;have zf:=Ie.free 0;have zl:=Ie.lt;simp at z0 z6 z7;clear Iz Ie hk5 O8 Mc hown5 mZ;refine hK.out _ _ ⟨z0,zp,z6⟩ (fun hHeld=> ?_);clear hK K
      try simp only[Act.put,siA,szA,ssA]
      refine wpAnyH_ready (rs:=[12]) (by kernel_rfl) (by simp) ?_;refine AllReadyH.cons rfl (fun K hK=> ?_) AllReadyH.nil
      go_simp
      have hpw:p<w.heap.size:=hp;refine hK.out _ _ ⟨cell_far (by show b7≠w.heap.size;omega) z0,cell_far (by show b7≠p;omega) zp,cell_far (by show b7≠b6;omega) z6⟩ (fun hHeld=> ?_);clear hK K;refine wpAnyH_done (by kernel_rfl) ?_ _;obtain⟨r,hr1,hp1,Ps,hr2⟩:=HR2.out
      have hnv:V5.heap.size+1∉own (.slice fa es.length fc):=fun hx=>by have:=P7.out _ hx;omega
      have hr4:(w5.setCell ⟨b7,0,none⟩ (.slice va5 (es.length+1) vc5)).heap[V5.heap.size+1]? =some (.loop {r with state:=.busy}):=by
       rw[Below.heap_setCell _ _ _ _ (by show V5.heap.size+1≠b7;omega),HK5.out _ (by omega) hnv,HB4.out.block _ (by omega),HB3.out.block _ (by omega),hr2]
      refine⟨_,_,run_endRound none hr4,own (.slice va5 (es.length+1) vc5),⟨?_,?_,?_⟩,.inl ⟨rfl,fs++[(a,b)],.slice va5 (es.length+1) vc5,es++[(.slice ga a.length gc,.slice kb b.length kc)],rfl,?_⟩⟩
      · simp[World.putObj];omega
      · intro j h1 h2 h3;rw[World.putObj_heap_other (by omega),Below.heap_setCell _ _ _ _ (by show j≠b7;omega),HK5.out j (by omega) h3,HB4.out.block j (by omega),HB3.out.block j (by omega),HP.out j (by omega)]
      · intro k hk;rcases Pq.out k hk with h|h
        · exact .inl h
        rw[World.size_alloc]at h;right;omega
      rw[List.map_append,List.map_cons,List.map_nil,KV.out];refine HF5.out.turn HL7.out (by omega) (by omega) _ 0 (fun k h1 h2 h3=> ?_);by_cases hkn:k=V5.heap.size+1
      · subst hkn;rw[World.putObj_heap_same (by simp;omega),hr1]
        cases r
        cases hp1
        cases Ps
        rfl
      rw[World.putObj_heap_other hkn];exact HF5.out.kept k h1 h2 hkn
   case after=>
    rintro e0 W' h0;clear HK8 HT0 HTW HS8;rcases h0 with⟨rfl,C,fs,fv,es,rfl,hF⟩|⟨c,rfl,k,hk,Qf,hlow,hsz,NY⟩
    · have HF:=hd hF;clear hF;have hlt:=HLT.out;have hr2:=(HF.out.kept (V5.heap.size+1) (by omega) (by omega) (by omega)).trans Dk.out;have hd2:=(HF.out.kept V5.heap.size (by omega) (by omega) (by omega)).trans Iu.out;refine⟨_,_,run_endLoop hr2 (by simp[iT]),?_⟩
      have ht8:=fun(ob:Obj)=>HF.out.turn ⟨hlt.1,hlt.2.1,hlt.2.2.1,hlt.2.2.2.2.1,hlt.2.2.2.2.2⟩ (l:=V5.heap.size+1) (by omega) (by omega) ob (V5.heap.size+1) (fun k h1 h2 h3=>(World.putObj_heap_other h3).trans (HF.out.kept k h1 h2 (by omega)))
      generalize hW8:W'.putObj (V5.heap.size+1) _=W8;have HF8:=hd (hW8▸ht8 _)
      have HD8:Hid (W8.heap[V5.heap.size]? =some (.deferred (some []))):=by rw[<-hW8];exact(World.putObj_heap_other (by omega)).trans hd2
      clear ht8 hW8 hr2 hd2 HF;refine KG (n:=0) (wpIn_wide.2 ?_);have k7:=HF8.out.k7.cell 0;have l7:=HF8.out.k7.lt;have l1:=HF8.out.sg.k1.lt;simp at k7;go_wp2_with fail
      have OX:es.length<=1000000:=by
       have q1:=(Mg.jl HF8.out.found).1;have q2:=HO.out.few;have q3:=HF8.out.len;rw[HMP.out,List.length_map]at q1;omega
      have MX:=HF8.out.Re (fun r hr=>by obtain⟨e,he,rfl⟩:=List.mem_map.1 hr;exact(HRW.out e he).2) HOR.out;rw[List.length_map]at MX;refine(DU os (by omega) (Mg.KI cs (os.map Prod.fst)) (w.heap.size+1) (W1.heap.size+4) _ _ _ _ _ _ W8 es fs fv HF8.out.len OX HF8.out.ow HF8.out.sg.k1 (dA HOS.out HF8.out.sg.low) (by omega) (fun g hg=>by have:=aZ HOS.out g hg;omega) MX).mono ?_;rintro x W9 ⟨rfl,hT9,zs,hz1,hz2,hz3,hz4⟩;have HG:=hd (HF8.out.sorted HLW.out EL (df:=V5.heap.size) (by omega) HD8.out hT9 (fun z hz=>hz2.mem.1 hz) hz4);have HZ1:=hd hz1;have HZ2:=hd hz2;have HZ3:=hd hz3;obtain⟨fao,LC,rfl⟩:=au HF8.out.ow;have HWD:=hd (K7 HF8.out.found (fun z hz=>hz2.mem.1 hz))
      have HFS:Hid (Mg.foundM cs (Tb.aF cs l) (os.map Prod.fst) o (M.map Prod.snd)=.ok fs):=by have h:=HF8.out.found;rw[HMP.out]at h;exact h
      have HEL:=hd HF8.out.len
      have HKS:Hid (∀z∈zs,∃a n c,z.1.2=.slice a n c):=fun z hz=>by
       obtain⟨j,hj,rfl⟩:=List.mem_iff_getElem.1 (hz2.mem.1 hz);simp only[List.length_zip]at hj;simp only[List.getElem_zip];exact Ev (HF8.out.cells j (by omega) (by omega)).2
      have hcap:es.length<=LC:=Kg HF8.out.ow
      have HFB:Hid (∀g∈own (.slice fao es.length LC),g≠b7):=fun g hg=>by have:=HF8.out.ow.lt g (by simpa[own]using hg);omega
      have HL7:Hid (w.heap.size+1+1<b7/\b5<b7/\b6<b7/\(∀g∈own iv,g<b7)/\∀g∈own xv,g<b7):=⟨hlt.1,hlt.2.1,hlt.2.2.1,hlt.2.2.2.2.1,hlt.2.2.2.2.2⟩;clear hz1 hz2 hz3 hz4 hT9 MX HF8 HD8;obtain⟨ia,ic,rfl⟩:=au HG.out.sg.o5;have k4:=HG.out.sg.k1.cell 4;have k5:=HG.out.sg.k5.cell 0;have k9:=HG.out.sg.k1.cell 5;have k8:=HG.out.k7.cell 0;have f8:=HG.out.k7.free 0;have m1:=HG.out.sg.k1.lt;have m5:=HG.out.sg.k5.lt;have m7:=HG.out.k7.lt;simp at k4 k5 k8 k9;clear k7 l7 l1;have hil:=HIL.out
      have hb57:b7≠b5:=by have:=HL7.out;omega
      obtain⟨j0,hj,hy0,hy1,hy2⟩:=info_parts Tb.Tryz.info39;have HZS:Hid ((es.zip fs).map Prod.snd=fs):=List.map_snd_zip (by have:=HEL.out;omega);clear HEL
      cases lb
      go_wp2_with fail;have hN2:es.length<=1000000:=OX;have hN:zs.length=es.length:=HZ3.out
      have HYX:Hid ((zs.map Prod.snd).flatMap Prod.fst=zs.flatMap (fun z:(Value×Value)×(List Mg.V×List Mg.V)=>z.2.1)):=by
       exact(AL Prod.fst _).symm
      have HYW:=HWD;have HKY:=HKS;have HGX:=HG;clear k4 k5 k8 k9 f8 m1 m5 m7 HFB HG HWD HKS;obtain⟨WX,rfl⟩:∃x,x=W9:=⟨_,rfl⟩;obtain⟨ys,hys⟩:∃ys,ys=zs:=⟨_,rfl⟩;rw[<-hys]at hN HYW HKY HGX
      have HYX:Hid ((zs.map Prod.snd).flatMap Prod.fst=ys.flatMap (fun z:(Value×Value)×(List Mg.V×List Mg.V)=>z.2.1)):=by show _=_;rw[hys];exact HYX.out
      clear hys;generalize es.length=N at*;rotate_left;go_wp2_with fail
      have hmn:(min (ln:Int) (es.length:Int)).toNat=min ln es.length:=by omega
      have hmx:max (min (ln:Int) (es.length:Int)) 0=((min ln es.length:Nat):Int):=by omega
      try simp only[hmx]
      rw[hmn]
      have HKY:Hid (∀z∈zs.take (min ln es.length),∃a n c,z.1.2=.slice a n c):=fun z hz=>HKS.out z (List.mem_of_mem_take hz)
      have hN2:min ln es.length<=1000000:=by omega
      have hN:(zs.take (min ln es.length)).length=min ln es.length:=by rw[List.length_take,HZ3.out];omega
      have HYX:Hid (((zs.map Prod.snd).take ln).flatMap Prod.fst=(zs.take (min ln es.length)).flatMap (fun z:(Value×Value)×(List Mg.V×List Mg.V)=>z.2.1)):=by
       show _=_;rw[<-Hw,HZ3.out];exact(AL Prod.fst _).symm
      have HYW:Hid (∀z∈zs.take (min ln es.length),z.2.1.length=(Tb.aF cs l).length):=fun z hz=>HWD.out z (List.mem_of_mem_take hz)
      have HGX:=hd (HG.out.cut (min ln es.length) (by have:=HZ3.out;omega) HL7.out (by omega) (by omega) HFB.out)
      have hWX:(W9.setCell ⟨b7,0,none⟩ (.slice fao (min ln es.length) LC)).heap.size=W9.heap.size:=by simp
      generalize W9.setCell ⟨b7,0,none⟩ (.slice fao (min ln es.length) LC)=WX at*;rw[<-hWX];generalize zs.take (min ln es.length)=ys at*;generalize min ln es.length=N at*;clear k4 k5 k8 k9 f8 m1 m5 m7 HFB HG hmn hmx hWX HWD HKS;rotate_left
      all_goals
       have Pj:V5.heap.size<WX.heap.size:=(geA.1 HGX.out.dfr).1;have hlw:=HGX.out.sg.low.size;go_loopw [77] (fun i wr=>∃(k:Nat) (v:Value),i=.int .i64 k/\k<=N/\Hid (Below WX.heap.size WX wr)/\Hid (af wr WX.heap.size #[.int .i64 ((Tb.aF cs l).length:Nat),v,.int .i64 0] 29)/\Hid (wr.ownsRow (WX.heap.size+1) 39 3 v ((ys.take k).flatMap (fun z:(Value×Value)×(List Mg.V×List Mg.V)=>z.2.1)).length (((ys.take k).flatMap (fun z:(Value×Value)×(List Mg.V×List Mg.V)=>z.2.1)).flatMap Mg.vC))) (fun i _=>N-(intOf i).toNat)
       case atStart=>exact⟨0,_,rfl,Nat.zero_le _,(Below.refl _ _).alloc (nlr _) _,af.new _ _ _,World.ownsRow_nil _ _ _ _⟩
       case round=>
        obtain⟨k,v,rfl,hk,HB,HK,HOv⟩:=hrel;obtain⟨ka,kc,rfl⟩:=au HOv.out;have HGk:=hd (HGX.out.below HB.out Pj);have hks:=HB.out.size;have hkl:=HK.out.lt;by_cases hlt2:k<N
        · have hky:k<ys.length:=by omega
          obtain⟨ao',cap',he,hP⟩:=HGk.out.rows;obtain⟨g,hfg,hgl,c0,c1⟩:=hP k (by simpa using hky);injection he with he1 he2 he3;rw[<-he1]at hfg;have hC:=HGk.out.cells (ys[k]) (List.getElem_mem hky);have hw:=HYW.out (ys[k]) (List.getElem_mem hky);obtain⟨y2a,y2n,y2c,Oj⟩:=HKY.out (ys[k]) (List.getElem_mem hky);have HT2:=hd (FI (fun z:(Value×Value)×(List Mg.V×List Mg.V)=>z.2.1) ys k hky);simp only[List.getElem_map]at c0 c1
          have hfl:((ys.take k).flatMap (fun z:(Value×Value)×(List Mg.V×List Mg.V)=>z.2.1)).length<=1000000000000:=by
           have q1:=Ez (fun z:(Value×Value)×(List Mg.V×List Mg.V)=>z.2.1) (Tb.aF cs l).length (ys.take k) (fun z hz=>Nat.le_of_eq (HYW.out z (List.mem_of_mem_take hz)))
           have q2:(ys.take k).length<=1000000:=by rw[List.length_take];omega
           exact Nat.le_trans q1 (Nat.le_trans (Nat.mul_le_mul q2 hil.1) (by decide))
          generalize ys[k]=z at*;obtain⟨⟨z1,z2⟩,c,kk⟩:=z;simp only at c0 c1 hC hw HT2 Oj;subst Oj;obtain⟨gw,cw,rfl,hge,hgwl,hcw,_,hcell⟩:=Tb.Bd hC (by omega)
          have hcl:c.length<=1000000:=by omega
          clear hw;generalize ((ys.take k).flatMap (fun z:(Value×Value)×(List Mg.V×List Mg.V)=>z.2.1))=acc at*;have HCL:=hd hcell;clear hcell hC hP he1 he2 he3;subst hfg;have a1:=HK.out.cell 1;simp at a1;have HO2:=hd (HOv.out.alloc (.cells #[.slice (some ⟨gw,0,none⟩) c.length cw,.slice y2a y2n y2c] 195));have HB2:Hid (Below WX.heap.size WX (wr.alloc (.cells #[.slice (some ⟨gw,0,none⟩) c.length cw,.slice y2a y2n y2c] 195))):=HB.out.alloc HB.out.size _;have HK2:=hd (HK.out.alloc (.cells #[.slice (some ⟨gw,0,none⟩) c.length cw,.slice y2a y2n y2c] 195));go_wp2_with(first|(at_builtin;refine bu rfl _ _ 27 rfl (WX.heap.size+1) 39 j0 (.agg #[.int .i64 0,.int .i64 0,.string ⟨#[]⟩]) 3 32 Tryz.underlying27 hj hy0 hy1 hy2 rfl (by decide) _ _ _ rfl HO2.out ⟨gw,0,none⟩ c.length cw (c.flatMap Mg.vC) rfl (Mg.MM c) ?c1 ?c2 ?c3 ?c4 ?c5 ?_)|fail)
          case c1=>intro j u hu;first|(rw[Addr.add_lit,Nat.zero_add];exact ed (HCL.out j u hu))|exact HCL.out j u hu
          case c2=>first|exact Gu|(intro u x hx hu;exact Gu u (List.mem_flatMap.2 ⟨x,hx,hu⟩))
          case c3=>simp only[maxLen];omega
          case c4=>omega
          try(case c5=>first|omega|(simp;omega))
          intro v2 w3 hown hgrow _;have hb3:=hgrow.block WX.heap.size (by simp;omega) (fun e=>by have:=(HO2.out.lt _ e.symm).1;omega);have HB3:Hid (Below WX.heap.size WX w3):=Tb.dB HB2.out hgrow (fun k hk=>by have:=(HO2.out.lt k hk).1;omega) HB2.out.size
          have HK3:Hid (af w3 WX.heap.size #[.int .i64 ((Tb.aF cs l).length:Nat),.slice ka acc.length kc,.int .i64 0] 29):=by
           show af _ _ _ _;have h:=HK2.out;unfold af at*;rw[hb3];exact h
          obtain⟨va2,vc2,rfl⟩:=au hown
          have HO3:Hid (w3.ownsRow (WX.heap.size+1) 39 3 (.slice va2 (acc.length+c.length) vc2) (acc++c).length ((acc++c).flatMap Mg.vC)):=by
           show World.ownsRow _ _ _ _ _ _ _;rw[List.length_append,List.flatMap_append];exact hown
          have n1:=HK3.out.cell 1;have f1:=HK3.out.free 1;have n3:=HK3.out.lt;simp at n1;clear hown hgrow hb3 a1;go_wp2_with fail;go_roundw
          case rel=>exact⟨k+1,_,rfl,by omega,HB3.out.setCell (nlr _) _,hd (by simpa using HK3.out.set 1 (.slice va2 (acc.length+c.length) vc2)),by show World.ownsRow _ _ _ _ _ _ _;rw[HT2.out];exact aA HO3.out _ (by show WX.heap.size<_;omega)⟩
          case measure=>simp[intOf];omega
        have hkN:k=N:=by omega
        have hTK:ys.take k=ys:=List.take_of_length_le (by omega);generalize hnn:((ys.take k).flatMap (fun z:(Value×Value)×(List Mg.V×List Mg.V)=>z.2.1)).length=nn at*;rw[hTK]at hnn;have HNN:=hd hnn;clear hnn;have hOf:=HOv.out;rw[hTK]at hOf;have HOF:=hd hOf;clear hOf hTK;have c0:=HK.out.cell 0;have c1:=HK.out.cell 1;have c2:=HK.out.cell 2;have d0:=HGk.out.sg.k2.cell 0;have d1:=HGk.out.sg.k2.cell 1;have d2:=HGk.out.sg.k2.cell 2;have f0:=HGk.out.sg.k2.free 0;have f1:=HGk.out.sg.k2.free 1;have f2:=HGk.out.sg.k2.free 2;have l2:=HGk.out.sg.k2.lt;simp at c0 c1 c2 d0 d1 d2;go_wp2_with fail;have K9:=((HGk.out.sg.k2.set 0 (.int .i64 ((Tb.aF cs l).length:Nat))).set 1 (.slice ka nn kc)).set 2 (.int .i64 0);simp at K9;have OC:=((HGk.out.sg.low.setCell (p:=⟨w.heap.size+1+1,0,none⟩) (by show _<=w.heap.size+1+1;omega) (.int .i64 ((Tb.aF cs l).length:Nat))).setCell (p:=⟨w.heap.size+1+1,1,none⟩) (by show _<=w.heap.size+1+1;omega) (.slice ka nn kc)).setCell (p:=⟨w.heap.size+1+1,2,none⟩) (by show _<=w.heap.size+1+1;omega) (.int .i64 0);have l2w:=HGX.out.sg.k2.lt;have PL:=aA (aA (aA HOF.out (p:=⟨w.heap.size+1+1,0,none⟩) (.int .i64 ((Tb.aF cs l).length:Nat)) (by show w.heap.size+1+1<_;omega)) (p:=⟨w.heap.size+1+1,1,none⟩) (.slice ka nn kc) (by show w.heap.size+1+1<_;omega)) (p:=⟨w.heap.size+1+1,2,none⟩) (.int .i64 0) (by show w.heap.size+1+1<_;omega)
        have MW:V5.heap.size≠w.heap.size+1+1:=by have:=HL7.out.1;omega
        have HDW:(((wr.setCell ⟨w.heap.size+1+1,0,none⟩ (.int .i64 ((Tb.aF cs l).length:Nat))).setCell ⟨w.heap.size+1+1,1,none⟩ (.slice ka nn kc)).setCell ⟨w.heap.size+1+1,2,none⟩ (.int .i64 0)).heap[V5.heap.size]? =some (.deferred (some [])):=by
         rw[Below.heap_setCell _ _ _ _ (by show V5.heap.size≠w.heap.size+1+1;exact MW),Below.heap_setCell _ _ _ _ (by show V5.heap.size≠w.heap.size+1+1;exact MW),Below.heap_setCell _ _ _ _ (by show V5.heap.size≠w.heap.size+1+1;exact MW)];exact HGk.out.dfr
        generalize ((wr.setCell ⟨w.heap.size+1+1,0,none⟩ (.int .i64 ((Tb.aF cs l).length:Nat))).setCell ⟨w.heap.size+1+1,1,none⟩ (.slice ka nn kc)).setCell ⟨w.heap.size+1+1,2,none⟩ (.int .i64 0)=WA at*;refine⟨by simp,.inl ⟨_,_,rfl,run_takeDeferred HDW,?_⟩⟩;have hwl9:=OC.size;have hsz9:V5.heap.size<WA.heap.size:=(geA.1 HDW).1;have K10:=K9.below (jQ (o:=.deferred none) (nlr V5.heap.size)) (by omega);have LW:=OC.trans ((jQ (o:=.deferred none) (nlr V5.heap.size)).mono (by omega));have OW:=Ls PL (l:=V5.heap.size) (.deferred none) (by omega);generalize WA.putObj V5.heap.size (.deferred none)=W10 at*;have r0:=K10.cell 0;have r1:=K10.cell 1;have r2:=K10.cell 2;simp at r0 r1 r2;refine⟨.agg #[.int .i64 ((Tb.aF cs l).length:Nat),.slice ka nn kc,.int .i64 0],?_,LW,?_⟩
        · simp[results,Tryz.results38,go_sem,r0,r1,r2]
        rw[Fu.out];dsimp only;rw[HFS.out];dsimp only;refine⟨zs.map Prod.snd,_,So.cK.map (f:=Prod.snd) (lt:=fun a b=>decide (Mg.vS (os.map Prod.snd) a b<0)) HZ1.out,?_,rfl,?_⟩
        · have h:=So.dF.map (lt:=fun a b=>decide (Mg.vS (os.map Prod.snd) a b<0)) (Mg.Jl _).swo (f:=Prod.snd) HZ2.out;rw[HZS.out]at h;exact h
        first|rw[if_pos rfl,HYX.out,HNN.out]|rw[if_neg (by decide),HYX.out,HNN.out]
        exact Ts.ai OW (by omega)
    have hd2:=NY.trans Iu.out;refine⟨by simp,.inl ⟨_,_,rfl,run_takeDeferred hd2,?_⟩⟩;have hw1:=HS9.out.low.size;have hlt:=HLT.out;refine⟨hlow.trans (jQ (by omega)),?_⟩;rw[Fu.out];dsimp only;rw[hk];exact Qf.symm
end Tw
end
end Go.Proofs.YthhhfcdakfbpkaaGreatDoor
