/- Parts of the proof -/
import Derived.Test.YthhhfcdakfbpkaaGreatDoorO8
import Derived.Test.YthhhfcdakfbpkaaGreatDoorO10
import Derived.Test.YthhhfcdakfbpkaaGreatDoorO3
import Derived.Test.YthhhfcdakfbpkaaGreatDoorO1
import Derived.Test.YthhhfcdakfbpkaaGreatDoorO5
import Derived.Deep.CutRange
import Derived.Test.YthhhfcdakfbpkaaGreatDoorO9
import Derived.Deep.RegionWith
namespace Go.Proofs.YthhhfcdakfbpkaaGreatDoor
set_option linter.unusedSimpArgs false
set_option linter.unusedVariables false
set_option maxRecDepth 100000
set_option maxHeartbeats 16000000
open Go.RowKit
variable {F G l:List Nat}{w w':World}{B base d hi lo n s size x:Nat}{T e:TypeId}{v ve vk:Value}{xs:List Value}
namespace Mn
theorem Ef.of{v:Mg.V}(h:Mg.EB v):Ef v:=by
 rcases h.kind with k|k|k|k
 · obtain⟨h1,h2⟩:=h.null k;exact⟨by omega,by rw[h2];simp⟩
 · obtain⟨h1,h2⟩:=h.truth k;exact⟨by omega,by rw[h2];simp⟩
 · obtain⟨h1,h2⟩:=h.num k;exact⟨h1,by rw[h2];simp⟩
 obtain⟨h1,h2⟩:=h.text k;exact⟨by omega,by omega⟩
theorem xN(cs:Mg.ax)(hcs:Mg.dN cs)(row:List Mg.V)(hr:Mg.iN cs row)(sv rv:Value)(e:Px.E):∀(t:Nat),e.ok 2000->Mg.knows cs e=true->Mg.typ cs e=.ok t->∀(w:World),aM w sv cs->dQ w rv row->Calls Tryz.prog 147 #[sv,ev e,rv] w (gG w (Mg.value cs row e)):=by
 induction e with
 |null=>intro t _ _ _ w _ _;exact Dc sv rv w
 |bool b=>
  intro t _ _ _ w _ _
  cases b
  · exact Ay sv rv w
  exact DW sv rv w
 |num z=>intro t _ _ _ w _ _;exact FY z sv rv w
 |str s=>intro t _ _ _ w _ _;exact G9 s sv rv w
 |nm s=>intro t _ hk _ w hC hR;exact Jn cs hcs.1 row hr.len s hk sv rv w hC hR
 |un k a iha=>
  intro t he hk ht w hC hR
  cases hta:Mg.typ cs a with
  |error c=>simp only[Mg.typ,hta]at ht;cases ht
  |ok ta=>exact Jl cs row k a ⟨he.1,he.2.1⟩ sv rv (iha ta he.2.2.2 hk hta) (fun v hv=>(Ef.of (Mg.sound hr a ta v he.2.2.2 hta hv).1).1) w hC hR
 |bin k a b iha ihb=>
  intro t he hk ht w hC hR
  have hkk:Mg.knows cs a=true/\Mg.knows cs b=true:=by simpa[Mg.knows]using hk
  cases hta:Mg.typ cs a with
  |error c=>simp only[Mg.typ,hta]at ht;cases ht
  |ok ta=>
   cases htb:Mg.typ cs b with
   |error c=>simp only[Mg.typ,hta,htb]at ht;cases ht
   |ok tb=>
    exact value_bin cs row k a b ⟨he.1,he.2.1⟩ sv rv (iha ta he.2.2.1 hkk.1 hta) (ihb tb he.2.2.2 hkk.2 htb) (fun v hv=>Ef.of (Mg.sound hr a ta v he.2.2.1 hta hv).1) (fun v hv=>Ef.of (Mg.sound hr b tb v he.2.2.2 htb hv).1) w hC hR
end Mn
namespace Bt
def weave{α:Type}:List (List α)->List α->List α
 |l::ls,e::es=>l++e::weave ls es
 |l::_,[]=>l
 |[],_=>[]
theorem nJ{α:Type}:∀(es:List α) (ls:List (List α)) (l x:List α),ls.length=es.length->weave (ls++[l++x]) es=weave (ls++[l]) es++x
 |[],[],l,x,_=>by simp[weave]
 |[],_::_,_,_,h=>by simp at h
 |a::es,[],_,_,h=>by simp at h
 |a::es,l0::ls,l,x,h=>by
  have:=nJ es ls l x (by simpa using h);simp[weave,this]
def flatE:List (Value×Value)->List Value
 |[]=>[]
 |e::r=>e.1::e.2::flatE r
theorem ma:∀L:List (Value×Value),(flatE L).length=L.length*2
 |[]=>rfl
 |e::r=>by simp[flatE,ma r];omega
theorem jB:∀L M:List (Value×Value),flatE (L++M)=flatE L++flatE M
 |[],_=>rfl
 |e::r,M=>by simp[flatE,jB r M]
theorem vN:∀(L:List (Value×Value)) (n:Nat),(flatE L).take (n*2)=flatE (L.take n)
 |[],n=>by simp[flatE]
 |e::r,0=>by simp[flatE]
 |e::r,n+1=>by
  have:=vN r n;rw[show(n+1)*2=n*2+1+1 by omega];simp[flatE,this]
theorem uU:∀(L:List (Value×Value)) (n:Nat),(flatE L).drop (n*2)=flatE (L.drop n)
 |[],n=>by simp[flatE]
 |e::r,0=>by simp[flatE]
 |e::r,n+1=>by
  have:=uU r n;rw[show(n+1)*2=n*2+1+1 by omega];simp[flatE,this]
theorem ig:∀(L:List (Value×Value)) (i:Nat) (h:i<L.length),(flatE L)[i*2]? =some L[i].1
 |e::r,0,_=>by simp[flatE]
 |e::r,i+1,h=>by
  have:=ig r i (by simpa using h);rw[show(i+1)*2=i*2+1+1 by omega];simp[flatE,this]
theorem gZ:∀(L:List (Value×Value)) (i:Nat) (h:i<L.length),(flatE L)[i*2+1]? =some L[i].2
 |e::r,0,_=>by simp[flatE]
 |e::r,i+1,h=>by
  have:=gZ r i (by simpa using h);rw[show(i+1)*2+1=i*2+1+1+1 by omega];simp[flatE,this]
end Bt
namespace Bt
structure aG(F:List Nat)(w w':World):Prop where
 os:w'.os=w.os
 tape:w'.tape=w.tape
 output:w'.output=w.output
 size:w.heap.size<=w'.heap.size
 block:∀k,k<w.heap.size->k∉F->w'.heap[k]? =w.heap[k]?
theorem aG.refl(F:List Nat)(w:World):aG F w w:=⟨rfl,rfl,rfl,nlr _,fun _ _ _=>rfl⟩
theorem aG.trans{w1 w2:World}(h:aG F w w1)(k:aG G w1 w2)(hG:∀b∈G,b∈F\/w.heap.size<=b):aG F w w2:=
 ⟨k.os.trans h.os,k.tape.trans h.tape,k.output.trans h.output,Nat.le_trans h.size k.size,fun b hb hF=>
  (k.block b (nlA hb h.size) (fun hg=>by rcases hG b hg with h1|h1;exact hF h1;omega)).trans (h.block b hb hF)⟩
theorem aG.more(h:aG F w w')(hG:∀b∈F,b∈G):aG G w w':=
 ⟨h.os,h.tape,h.output,h.size,fun b hb hF=>h.block b hb (fun x=>hF (hG b x))⟩
theorem aG.of(h:Below w.heap.size w w'):aG F w w':=⟨h.os,h.tape,h.output,h.size,fun b hb _=>h.block b hb⟩
theorem aG.grown{r:Option Nat}(h:w.grownBy w' r)(hr:∀k,r=some k->k∈F):aG F w w':=
 ⟨h.os,h.tape,h.output,h.size,fun b hb hF=>h.block b hb (fun e=>hF (hr b e.symm))⟩
theorem aG.set(h:aG F w w')(p:Addr)(v:Value)(hp:p.block∈F\/w.heap.size<=p.block):aG F w (w'.setCell p v):=
 ⟨h.os,h.tape,h.output,by show _<=(w'.heap.modify _ _).size;rw[Array.size_modify];exact h.size,fun b hb hF=>by
  rw[Below.heap_setCell _ _ _ _ (fun e=>by subst e;rcases hp with hp|hp;exact hF hp;omega)]
  exact h.block b hb hF⟩
theorem aG.drew(h:aG F w w'):aG F w w'.drew:=⟨h.os,h.tape,h.output,h.size,h.block⟩
theorem aG.drewN(h:aG F w w')(n:Nat):aG F w (w'.drewN n):=⟨h.os,h.tape,h.output,h.size,h.block⟩
theorem aG.eT(h:aG F w.drew w'):aG F w w':=⟨h.os,h.tape,h.output,h.size,h.block⟩
theorem aG.blk(h:aG F w w'){b:Nat}{cs:Array Value}{t:TypeId}(k:af w b cs t)(hb:b∉F):af w' b cs t:=by
 unfold af at*;rw[h.block b (geA.1 k).1 hb];exact k
def own(v:Value):List Nat:=v.ownBlock.toList
theorem bK(h:w.ownsRow base e size v n xs)(hk:∀g∈own v,w'.heap[g]? =w.heap[g]?):w'.ownsRow base e size v n xs:=by
 refine⟨h.1,?_⟩;rcases h.2 with h1|⟨g,cap,cur,rfl,h1,h2,h3⟩
 · exact .inl h1
 exact .inr ⟨g,cap,cur,rfl,h1,by rw[hk g (by simp[own,Value.ownBlock])];exact h2,h3⟩
theorem bf(h:w.ownsRow base e size v n xs):∀g∈own v,g<w.heap.size:=by
 intro g hg;simp only[own,Option.mem_toList]at hg;exact(h.lt g hg).2
theorem yP(h:w.ownsRow base e size v n xs)(hn:n≠0):∃g cap,v=.slice (some ⟨g,0,none⟩) n cap/\base<=g/\g<w.heap.size/\n<=cap/\cap<=maxLen/\∀j u,xs[j]? =some u->w.cell? ⟨g,j,none⟩=some u:=by
 rcases h.2 with⟨_,h0⟩|⟨g,cap,cur,rfl,hb,hg,h1,h2,_⟩
 · exact absurd h0 hn
 refine⟨g,cap,rfl,hb,(geA.1 hg).1,h1,h2,fun j u hu=> ?_⟩;have:=h.cells (g:=g) rfl j u hu;simpa only[Addr.add_lit,Nat.zero_add]using this
theorem au(h:w.ownsRow base e size v n xs):∃ao cap,v=.slice ao n cap:=by
 rcases h.2 with⟨h1,rfl⟩|⟨g,cap,cur,h1,_⟩
 · exact⟨_,_,h1⟩
 exact⟨_,_,h1⟩
structure Ty where
 te:TypeId
 tk:TypeId
 tn:TypeId
structure fU where
 b:Nat
 L:List (Value×Value)
 ve:Value
 vk:Value
 F:List Nat
def fU.ptr(k:fU):Value:=.pointer (some ⟨k.b,0,none⟩)
def Nd(T:Ty)(w:World):Nat->Nat->Nat->List (Value×Value)->Value->Value->List Nat->Prop
 |0,lo,hi,L,ve,vk,F=>(lo<=L.length/\L.length<=hi)/\w.ownsRow 0 T.te 2 ve L.length (flatE L)/\(∃ka kc,vk=.slice ka 0 kc)/\F=own ve
 |d+1,lo,hi,L,ve,vk,F=>∃(es:List (Value×Value)) (ks:List fU),(lo<=es.length/\es.length<=hi)/\ks.length=es.length+1/\w.ownsRow 0 T.te 2 ve es.length (flatE es)/\
     w.ownsRow 0 T.tk 1 vk ks.length (ks.map fU.ptr)/\L=weave (ks.map fU.L) es/\F=own ve++own vk++ks.flatMap (fun k=>k.b::k.F)/\∀k∈ks,af w k.b #[k.ve,k.vk] T.tn/\Nd T w d 3 6 k.L k.ve k.vk k.F
theorem Nd.keep{T:Ty}:∀{d lo hi:Nat} {L:List (Value×Value)} {ve vk:Value} {F:List Nat},Nd T w d lo hi L ve vk F->(∀k∈F,w'.heap[k]? =w.heap[k]?)->Nd T w' d lo hi L ve vk F
 |0,lo,hi,L,ve,vk,F,h,hk=>by
  obtain⟨h1,h2,h3,rfl⟩:=h;exact⟨h1,bK h2 hk,h3,rfl⟩
 |d+1,lo,hi,L,ve,vk,F,h,hk=>by
  obtain⟨es,ks,h1,h2,h3,h4,h5,rfl,h6⟩:=h;refine⟨es,ks,h1,h2,bK h3 fun g hg=>hk g (by simp[hg]),bK h4 fun g hg=>hk g (by simp[hg]),h5,rfl,fun k hm=> ?_⟩;obtain⟨h7,h8⟩:=h6 k hm;refine⟨?_,h8.keep fun g hg=>hk g ?_⟩
  · unfold af at*;rw[hk k.b (List.mem_append_right _ (List.mem_flatMap.2 ⟨k,hm,by simp⟩))];exact h7
  exact List.mem_append_right _ (List.mem_flatMap.2 ⟨k,hm,by simp[hg]⟩)
theorem Nd.lt{T:Ty}:∀{d lo hi:Nat} {L:List (Value×Value)} {ve vk:Value} {F:List Nat},Nd T w d lo hi L ve vk F->∀k∈F,k<w.heap.size
 |0,lo,hi,L,ve,vk,F,h,k,hk=>by
  obtain⟨h1,h2,h3,rfl⟩:=h;exact bf h2 k hk
 |d+1,lo,hi,L,ve,vk,F,h,k,hk=>by
  obtain⟨es,ks,h1,h2,h3,h4,h5,rfl,h6⟩:=h;rcases List.mem_append.1 hk with h|h
  · rcases List.mem_append.1 h with h|h
    · exact bf h3 k h
    exact bf h4 k h
  obtain⟨q,hq,hm⟩:=List.mem_flatMap.1 h;obtain⟨h7,h8⟩:=h6 q hq;rcases List.mem_cons.1 hm with rfl|hm
  · exact h7.lt
  exact h8.lt k hm
theorem Nd.wide{T:Ty}{lo' hi':Nat}{L:List (Value×Value)}(h:Nd T w d lo hi L ve vk F)(h1:lo'<=lo)(h2:hi<=hi'):Nd T w d lo' hi' L ve vk F:=by
 cases d with
 |zero=>exact⟨⟨Nat.le_trans h1 h.1.1,Nat.le_trans h.1.2 h2⟩,h.2⟩
 |succ d=>
  obtain⟨es,ks,h3,h4⟩:=h;exact⟨es,ks,⟨Nat.le_trans h1 h3.1,Nat.le_trans h3.2 h2⟩,h4⟩
theorem Nd.touch{T:Ty}{L:List (Value×Value)}(h:Nd T w d lo hi L ve vk F)(ht:aG G w w')(hd:∀k∈F,k∉G):Nd T w' d lo hi L ve vk F:=
 h.keep fun k hk=>ht.block k (h.lt k hk) (hd k hk)
theorem Nd.below{T:Ty}{L:List (Value×Value)}(h:Nd T w d lo hi L ve vk F)(hb:Below w.heap.size w w'):Nd T w' d lo hi L ve vk F:=
 h.keep fun k hk=>hb.block k (h.lt k hk)
theorem sI{P:Program}(w:World)(base:Nat)(t ty e:TypeId)(i:TypeInfo)(z:Value)(size bytes:Nat)(ht:P.underlying t=some (.slice e))(hi:P.info? e=some i)(hz:i.zero=some z)
   (hsize:i.size=size) (hby:i.bytes=bytes) (hzs:z.cells.size=size) (hsz:0<size)
   (v:Value) (n:Nat) (xs:List Value) (hown:w.ownsRow base e size v n xs)
   (a:Addr) (m c:Nat) (news:List Value) (hl:news.length=m*size) (hnews:∀j u,news[j]? =some u->w.cell? (a.add j)=some u) (h1:∀u∈news,u.oneCell'=true)
   (h63:n+m<=maxLen) (hbytes:(n+m)*bytes<=140737488355328) (hbase:base<=w.heap.size):
   ∃v' w',(Builtin.append_ #[t,t] ty #[v,.slice (some a) m c]).run P w=.ok v' w'/\w'.ownsRow base e size v' (n+m) (xs++news)/\w.grownBy w' v.ownBlock/\(∀g∈own v',g∈own v\/w.heap.size<=g):=by
 obtain⟨v',w',hr,h2,h3,h4⟩:=run_append_own (P:=P) w base t ty e i z size bytes ht hi hz hsize hby hzs hsz v n xs hown a m c news hl hnews h1 h63 hbytes hbase;refine⟨v',w',hr,h2,h3,fun g hg=> ?_⟩;subst hsize;subst hby;rcases hown.2 with⟨rfl,rfl⟩|⟨g0,cap,cur,rfl,hbg,hg0,hnc,hcm,hcs,htake⟩
 · have hx:xs=[]:=List.eq_nil_of_length_eq_zero (by simpa using hown.1);by_cases hm:m=0
   · rw[h4.2 ⟨rfl,hm⟩]at hg;simp[own,Value.ownBlock]at hg
   have hr':=run_append_nil (P:=P) w t ty e i z ht hi hz a m c news hl hnews (by omega) (by simp only[maxLen]at h63;omega) (by have hb:=hbytes;simp only[Nat.zero_add]at hb;omega);rw[hr]at hr';injection hr' with e1 e2;rw[e1]at hg;simp[own,Value.ownBlock]at hg
   right;omega
 by_cases hroom:n+m<=cap
 · have hfit:n*i.size+news.length<=cur.size:=by rw[hl,hcs,<-Nat.add_mul];exact Nat.mul_le_mul_right _ hroom
   have hr':=run_append_room (P:=P) w t ty e i ht hi g0 n cap cur hg0 a m c news hl hnews h1 hroom hfit;rw[hr]at hr';injection hr' with e1 e2;rw[e1]at hg
   left
   simpa[own,Value.ownBlock]using hg
 have holds:∀j u,xs[j]? =some u->w.cell? ((⟨g0,0,none⟩:Addr).add j)=some u:=hown.cells (g:=g0) rfl;have hr':=run_append_grow (P:=P) w t ty e i z ht hi hz ⟨g0,0,none⟩ n cap xs hown.1 holds a m c news hl hnews (by omega) (by simp only[maxLen]at h63;omega) (growslice_fits (by omega) hbytes);rw[hr]at hr';injection hr' with e1 e2;rw[e1]at hg;simp[own,Value.ownBlock]at hg
 right;omega
theorem bB{P:Program}{ops:Array Oper}{rest:List Oper}{o:Oper}{a:Act}{Q:Exit->Act->World->Prop}(hgd:o.guard=none)(s x:Operand)(t:TypeId)
   (ho:o.op=.call {callee:=.builtin .append,args:=#[s,x],argTypes:=#[t,t]})
   (base:Nat) (e:TypeId) (i:TypeInfo) (z:Value) (size bytes:Nat) (ht:P.underlying t=some (.slice e)) (hi:P.info? e=some i) (hz:i.zero=some z)
   (hsize:i.size=size) (hby:i.bytes=bytes) (hzs:z.cells.size=size) (hsz:0<size)
   (v:Value) (n:Nat) (xs:List Value) (hs:a.eval s=v) (hown:w.ownsRow base e size v n xs)
   (ad:Addr) (m c:Nat) (news:List Value) (hx:a.eval x=.slice (some ad) m c) (hl:news.length=m*size) (hnews:∀j u,news[j]? =some u->w.cell? (ad.add j)=some u) (h1:∀u∈news,u.oneCell'=true)
   (h63:n+m<=maxLen) (hbytes:(n+m)*bytes<=140737488355328) (hbase:base<=w.heap.size)
   (h:∀v' w',w'.ownsRow base e size v' (n+m) (xs++news)->w.grownBy w' v.ownBlock->(∀g∈own v',g∈own v\/w.heap.size<=g)->wpList P ops Q rest (a.put o.dst v') w'):wpList P ops Q (o::rest) a w:=
 wpList_plain hgd fun _ hK=>by
  obtain⟨v',w',hr,h2,h3,h4⟩:=sI (P:=P) w base t o.type e i z size bytes ht hi hz hsize hby hzs hsz v n xs hown ad m c news hl hnews h1 h63 hbytes hbase;unfold Oper.wp execOp;simp only[ho,resolve,invoke,builtin,Sem.run_bind,Sem.run_pure,Result.andThen_ok,List.map_toArray,List.map_cons,List.map_nil,hs,hx,hr];exact hK _ _ (h v' w' h2 h3 h4)
end Bt
namespace Bt
theorem Lv(v:Value):own v=[]\/∃g,own v=[g]:=by
 unfold own
 cases v.ownBlock with
 |none=>exact .inl rfl
 |some g=>exact .inr ⟨g,rfl⟩
theorem jY(v:Value)(x:Nat):(own v).count x<=1:=by
 rcases Lv v with h|⟨g,h⟩<;>rw[h]
 · simp
 rw[List.count_cons,List.count_nil];split<;>omega
theorem Ei{A:Nat}(h:∀g∈l,A<=g/\g<B):l.count x=0\/(A<=x/\x<B):=by
 by_cases hx:x∈l
 · exact .inr (h x hx)
 exact .inl (List.count_eq_zero.2 hx)
theorem cnt_lt(h:∀g∈l,g<B):l.count x=0\/x<B:=by
 by_cases hx:x∈l
 · exact .inr (h x hx)
 exact .inl (List.count_eq_zero.2 hx)
theorem Lu{v':Value}{N M:Nat}(h:∀k∈own v',k∈own v\/N<=k)(hl:∀k∈own v',k<M):(own v').count x<=(own v).count x\/(N<=x/\x<M/\(own v').count x<=1):=by
 by_cases hx:x∈own v'
 · rcases h x hx with h1|h1
   · left
     have:=jY v' x;have:=List.count_pos_iff.2 h1;omega
   exact .inr ⟨h1,hl x hx,jY v' x⟩
 left;rw[List.count_eq_zero.2 hx];omega
theorem om(h:∀x,l.count x<=1):l.Nodup:=List.nodup_iff_count.2 h
theorem eP(h:l.Nodup)(x:Nat):l.count x<=1:=List.nodup_iff_count.1 h x
theorem bF(a x:Nat)(l:List Nat):(a::l).count x=l.count x+(if a=x then 1 else 0):=by
 rw[List.count_cons];simp[beq_iff_eq]
theorem gX(x:Nat)(l m:List Nat):(l++m).count x=l.count x+m.count x:=List.count_append
def dz(k:fU):List Nat:=k.b::k.F
theorem Hq(ks:List fU)(n:Nat)(x:Nat):(ks.flatMap dz).count x=((ks.take n).flatMap dz).count x+((ks.drop n).flatMap dz).count x:=by
 rw[<-List.count_append,<-List.flatMap_append,List.take_append_drop]
theorem JV(ks ms:List fU)(x:Nat):((ks++ms).flatMap dz).count x=(ks.flatMap dz).count x+(ms.flatMap dz).count x:=by
 rw[List.flatMap_append,List.count_append]
theorem BP(k:fU)(x:Nat):([k].flatMap dz).count x=(if k.b=x then 1 else 0)+k.F.count x:=by
 simp only[List.flatMap_cons,List.flatMap_nil,List.append_nil,dz];rw[bF];omega
theorem Lg{ks:List fU}(h:∀k∈ks,k.b<B/\∀g∈k.F,g<B):(ks.flatMap dz).count x=0\/x<B:=cnt_lt fun g hg=>by
 obtain⟨k,hk,hm⟩:=List.mem_flatMap.1 hg;rcases List.mem_cons.1 hm with rfl|hm
 · exact(h k hk).1
 exact(h k hk).2 g hm
def pre{α:Type}:List (List α)->List α->Nat->List α
 |l::ls,e::es,i+1=>l++e::pre ls es i
 |_,_,_=>[]
theorem pg{α:Type}(ls:List (List α))(es:List α):pre ls es 0=[]:=by cases ls<;>cases es<;>rfl
theorem Bl{α:Type}:∀(ls:List (List α)) (es:List α) (i:Nat) (h:i<es.length) (h2:i<ls.length),pre ls es (i+1)=pre ls es i++ls[i]++[es[i]]
 |[],_,i,_,h2=>by simp at h2
 |_::_,[],i,h,_=>by simp at h
 |l::ls,e::es,0,_,_=>by simp[pre,pg]
 |l::ls,e::es,i+1,h,h2=>by
  have:=Bl ls es i (by simpa using h) (by simpa using h2);simp[pre,this]
theorem zR{α:Type}:∀(ls:List (List α)) (es:List α) (h:ls.length=es.length+1),weave ls es=pre ls es es.length++ls[es.length]
 |[],_,h=>by simp at h
 |l::ls,[],h=>by simp[weave,pg]
 |l::ls,e::es,h=>by
  have:=zR ls es (by simpa using h);simp[weave,pre,this]
theorem yz{α:Type}:∀(ls:List (List α)) (es:List α) (i:Nat) (h:i<es.length) (h2:ls.length=es.length+1),∃S,weave ls es=pre ls es i++ls[i]++es[i]::S
 |[],_,i,_,h2=>by simp at h2
 |_::_,[],i,h,_=>by simp at h
 |l::ls,e::es,0,_,_=>⟨weave ls es,by simp[weave,pg]⟩
 |l::ls,e::es,i+1,h,h2=>by
  obtain⟨S,hS⟩:=yz ls es i (by simpa using h) (by simpa using h2);exact⟨S,by simp[weave,pre,hS]⟩
theorem tL{α:Type}:∀(ls:List (List α)) (es:List α),ls.length=es.length+1->∀e∈es,e∈weave ls es
 |[],_,h,_,_=>by simp at h
 |l::ls,[],h,e,he=>by simp at he
 |l::ls,a::es,h,e,he=>by
  have:=tL ls es (by simpa using h);rcases List.mem_cons.1 he with rfl|he
  · simp[weave]
  simp[weave,this e he]
theorem vF{α:Type}:∀(es:List α) (ls:List (List α)) (l m:List α) (e:α),ls.length=es.length->weave (ls++[l,m]) (es++[e])=weave (ls++[l++e::m]) es
 |[],[],l,m,e,_=>by simp[weave]
 |[],_::_,_,_,_,h=>by simp at h
 |a::es,[],_,_,_,h=>by simp at h
 |a::es,l0::ls,l,m,e,h=>by
  have:=vF es ls l m e (by simpa using h);simp[weave,this]
theorem Cr{α:Type}(es:List α)(ls:List (List α))(h1:es.length=7)(h2:ls.length=8):∃e,es[3]? =some e/\weave ls es=weave (ls.take 4) (es.take 3)++e::weave (ls.drop 4) (es.drop 4):=by
 match es,h1 with
 |[a,b,c,d,e,f,g],_=>
  match ls,h2 with
  |[l0,l1,l2,l3,l4,l5,l6,l7],_=>exact⟨d,rfl,by simp[weave]⟩
end Bt
namespace Bt
def Tr:Ty:=⟨265,266,124⟩
theorem ni(b off:Nat)(ka:Option Addr)(kc:Nat)(w:World)(hb:b<w.heap.size)(c1:w.cell? ⟨b,off+1,none⟩=some (.slice ka 0 kc)):
   Calls Tryz.prog 154 #[.pointer (some ⟨b,off,none⟩)] w fun x w'=>x=.returned (.bool true)/\w'=w:=by
 go_enter Tryz.func154,Tryz.ntmps154;go_wp2_with fail;go_ret;exact⟨rfl,rfl⟩
theorem p9(b off n:Nat)(ka:Option Addr)(kc:Nat)(w:World)(hn:((n:Int)==0)=false)(hb:b<w.heap.size)(c1:w.cell? ⟨b,off+1,none⟩=some (.slice ka n kc)):
   Calls Tryz.prog 154 #[.pointer (some ⟨b,off,none⟩)] w fun x w'=>x=.returned (.bool false)/\w'=w:=by
 go_enter Tryz.func154,Tryz.ntmps154;go_wp2_with fail;go_ret;exact⟨rfl,rfl⟩
def OO(e:Value×Value):Prop:=∃z ra rn rc,e=(.int .i64 z,.slice ra rn rc)
theorem qo:∀{L:List (Value×Value)},(∀e∈L,OO e)->∀u∈flatE L,u.oneCell'=true
 |[],_,u,hu=>by simp[flatE]at hu
 |e::r,h,u,hu=>by
  obtain⟨z,ra,rn,rc,rfl⟩:=h e (by simp);simp only[flatE,List.mem_cons]at hu;rcases hu with rfl|rfl|hu
  · rfl
  · rfl
  exact qo (fun e he=>h e (by simp[he])) u hu
theorem sV{gv i cap:Nat}{cur:Array Value}(hg:w.heap[gv]? =some (.cells cur T (0,0)))(hx:xs.length=i*s)(hi:i<=cap)(hm:cap<=maxLen)(hs:cur.size=cap*s)(ht:cur.toList.take (i*s)=xs):
   w.ownsRow 0 T s (.slice (some ⟨gv,0,none⟩) i cap) i xs:=⟨hx,.inr ⟨gv,cap,cur,rfl,Nat.zero_le _,hg,hi,hm,hs,ht⟩⟩
theorem gz(h:w.ownsRow 0 T s v n xs)(hn:n≠0):∃gv cap cur,v=.slice (some ⟨gv,0,none⟩) n cap/\w.heap[gv]? =some (.cells cur T (0,0))/\n<=cap/\cap<=maxLen/\cur.size=cap*s/\cur.toList.take (n*s)=xs:=by
 have hl:=h.1;rcases h.2 with⟨_,h0⟩|⟨g,cap,cur,rfl,hb,hg,h1,h2,h3,h4⟩
 · exact absurd h0 hn
 exact⟨g,cap,cur,rfl,hg,h1,h2,h3,h4⟩
end Bt
namespace Tb
theorem iI(c:Int)(w:World):Calls Tryz.prog 73 #[.bool true,.int .i64 c] w fun x w'=>x=.returned (.tuple #[])/\w'=w:=by
 go_enter Tryz.func73,Tryz.ntmps73;go_wp2
 go_end0
 exact⟨rfl,rfl⟩
theorem Tryz.info39:(Tryz.prog.info? 39).map (fun i=>(i.zero,i.size,i.bytes))=some (some (.agg #[.int .i64 0,.int .i64 0,.string ⟨#[]⟩]),3,32):=by kernel_rfl
theorem Mt(w:World)(a b c:Value)(t:TypeId):∀j u,([a,b,c]:List Value)[j]? =some u->(w.alloc (.cells #[a,b,c] t)).cell? ((⟨w.heap.size,0,none⟩:Addr).add j)=some u:=by
 intro j u hu;rw[Addr.add_lit,Nat.zero_add,(af.new w #[a,b,c] t).cell];simpa using hu
end Tb
section
namespace Tb
open Bt
theorem dx{b:Nat}(h:w.ownsRow b T s v n xs):∃ao cap,v=.slice ao n cap/\∀j u,xs[j]? =some u->∃g,ao=some ⟨g,0,none⟩/\g<w.heap.size/\w.cell? ⟨g,j,none⟩=some u:=by
 have hl:=h.1;rcases h.2 with⟨rfl,rfl⟩|⟨g,cap,cur,rfl,hb,hg,h1,h2,h3,h4⟩
 · refine⟨none,0,rfl,fun j u hu=> ?_⟩;have:xs=[]:=List.eq_nil_of_length_eq_zero (by simpa using hl);subst this;simp at hu
 refine⟨_,_,rfl,fun j u hu=>⟨g,rfl,(geA.1 hg).1,?_⟩⟩;have:=h.cells (g:=g) rfl j u hu;simpa only[Addr.add_lit,Nat.zero_add]using this
theorem yS:∀(es:List Px.E) (k:Nat) (h:k<es.length),(es.flatMap gQ)[k]? =some (ev es[k])
 |e::r,0,_=>by simp[gQ]
 |e::r,k+1,h=>by simpa[gQ]using yS r k (by simpa using h)
theorem gP{α:Type}(es:List α)(k:Nat)(h:k<es.length):es.take (k+1)=es.take k++[es[k]]/\es=es.take k++es[k]::es.drop (k+1):=by
 refine⟨List.take_succ_eq_append_getElem h,?_⟩;have:=List.take_append_drop k es;rw[List.drop_eq_getElem_cons h]at this;exact this.symm
def Q8(w:World)(r:Except Nat (List Mg.V))(x:Ending)(w':World):Prop:=Below w.heap.size w w'/\match r with
 |.ok l=>∃v,x=.returned v/\w'.ownsRow w.heap.size 39 3 v l.length (l.flatMap Mg.vC)
 |.error c=>x=kJ 0 c
theorem dI{w1 w3:World}{r:Option Nat}(h:Below B w w1)(hg:w1.grownBy w3 r)(hr:∀k,r=some k->B<=k)(hB:B<=w1.heap.size):Below B w w3:=
 ⟨hg.os.trans h.os,hg.tape.trans h.tape,hg.output.trans h.output,Nat.le_trans h.size hg.size,fun k hk=>(hg.block k (nlA hk hB) (fun e=>by have:=hr k e.symm;omega)).trans (h.block k hk)⟩
theorem mY(cs:Mg.ax)(hcs:Mg.dN cs)(row:List Mg.V)(hr:Mg.iN cs row)(sv rv:Value)(es:List Px.E)(hes:∀e∈es,e.ok 2000/\Mg.knows cs e=true/\∃t,Mg.typ cs e=.ok t)(hn:es.length<=1000000)(v:Value)(w:World)(hC:Mn.aM w sv cs)(hR:Mn.dQ w rv row)
   (hE:w.ownsRow 0 98 1 v es.length (es.flatMap gQ)):Calls Tryz.prog 80 #[sv,v,rv] w (Q8 w (Mg.vals cs row es)):=by
 obtain⟨i0,hi,hz0,hz1,hz2⟩:=info_parts Tryz.info39;obtain⟨ao,cap,rfl,hEE⟩:=dx hE;have HE:=hd hEE;have HES:=hd hes;have HCS:=hd hcs;have HRO:=hd hr;have HCA:=hd hC;have HRV:=hd hR;clear hE hEE hes hcs hr hC hR;go_enter Tryz.func80,Tryz.ntmps80;go_wp2_with fail;go_loopw [7,12] (fun v i wr=>∃(k:Nat) (l:List Mg.V),i=.int .i64 k/\k<=es.length/\Hid (Below w.heap.size w wr)/\Hid (l.length=k/\Mg.vals cs row (es.take k)=.ok l)/\Hid (wr.ownsRow w.heap.size 39 3 v l.length (l.flatMap Mg.vC))) (fun _ i _=>es.length-(intOf i).toNat)
 case atStart=>exact⟨0,[],rfl,Nat.zero_le _,Below.refl _ _,⟨rfl,rfl⟩,World.ownsRow_nil _ _ _ _⟩
 case round=>
  obtain⟨k,l,rfl,hk,HW,HV,HO⟩:=hrel;obtain⟨va,vc,rfl⟩:=au HO.out;by_cases hlt:k<es.length
  · obtain⟨g,hao,hg,c0⟩:=HE.out k _ (yS es k hlt);obtain⟨et,ex,hev⟩:=gH es[k];have d0:=(HW.out.cell (p:=⟨g,k,none⟩) hg).trans c0;have hg2:=nlA hg HW.out.size;obtain⟨ho,hkn,t,ht⟩:=HES.out es[k] (List.getElem_mem hlt);have hvl:=Mn.xN cs HCS.out row HRO.out sv rv es[k] t ho hkn ht wr (HCA.out.below (HW.out.mono (nlr _))) (HRV.out.below HW.out);obtain⟨HC1,HC2⟩:=gP es k hlt;have HCU:=hd (And.intro HC1 HC2);generalize es[k]=e at*;rw[hev]at d0 hvl;have HVL:=hd hvl;clear hvl hev c0 ho hkn ht HC1 HC2;subst hao;go_wp2_with fail;refine HVL.out.mono ?_;rintro x w1 ⟨hb,hx⟩;have HW1:Hid (Below w.heap.size w w1):=HW.out.trans (hb.mono HW.out.size);have HO1:=hd (dG HO.out hb);have HX:=hd hx;clear hb hx
    cases hv:Mg.value cs row e with
    |error c=>
     rw[hv]at HX;obtain rfl:=HX.out
     have hall:Mg.vals cs row es=.error c:=by rw[HCU.out.2];exact Mg.Bq hv HV.out.2
     exact⟨rfl,HW1.out,by rw[hall];rfl⟩
    |ok u=>
     rw[hv]at HX;obtain rfl:=HX.out
     have HSN:Hid (Mg.vals cs row (es.take (k+1))=.ok (l++[u])):=by show _=_;rw[HCU.out.1];exact Mg.xA hv HV.out.2
     have hll:l.length<=1000000:=by have:=HV.out.1;omega
     obtain⟨uk,uz,ut⟩:=u;unfold Mn.vV;clear HX hv HVL;have HO2:=hd (HO1.out.alloc (.cells #[.int .i64 uk,.int .i64 uz,.string ⟨ut.toArray⟩] 39))
     go_wp2_with(first
      |(at_builtin;refine bB rfl _ _ 27 rfl w.heap.size 39 i0 (.agg #[.int .i64 0,.int .i64 0,.string ⟨#[]⟩]) 3 32 Tryz.underlying27 hi hz0 hz1 hz2 rfl (by decide) _ _ _ rfl HO2.out ⟨w1.heap.size,0,none⟩ 1 1 [.int .i64 uk,.int .i64 uz,.string ⟨ut.toArray⟩] rfl rfl ?c1 ?c2 ?c3 ?c4 ?c5 ?_)
      |fail)
     case c1=>exact Mt w1 _ _ _ _
     case c2=>intro u hu;simp at hu;rcases hu with rfl|rfl|rfl<;>rfl
     case c3=>simp only[maxLen];omega
     case c4=>omega
     case c5=>have:=HW1.out.size;simp;omega
     intro v' w3 hown hgrow _;have HB3:Hid (Below w.heap.size w w3):=dI (HW1.out.alloc HW1.out.size _) hgrow (fun k hk=>(HO2.out.lt k hk).1) (by have:=HW1.out.size;simp;omega)
     have HO3:Hid (w3.ownsRow w.heap.size 39 3 v' (l++[(⟨uk,uz,ut⟩:Mg.V)]).length ((l++[(⟨uk,uz,ut⟩:Mg.V)]).flatMap Mg.vC)):=by
      show World.ownsRow _ _ _ _ _ _ _;rw[List.flatMap_append,List.length_append];exact hown
     obtain⟨va',vc',rfl⟩:=au hown;clear hown hgrow HO1 HO2;go_wp2_with fail;go_roundw
     case rel=>exact⟨k+1,_,rfl,by omega,HB3,⟨by simp[HV.out.1],HSN.out⟩,HO3⟩
     case measure=>simp[intOf];omega
  obtain rfl:k=es.length:=by omega
  go_wp2_with fail;go_ret;refine⟨HW.out,?_⟩;have:=HV.out.2;rw[List.take_length]at this;rw[this];exact⟨_,rfl,HO.out⟩
end Tb
end
namespace Tb
theorem aN(c:Int)(w:World):Calls Tryz.prog 73 #[.bool true,.int .i64 c] w fun x w'=>x=.returned (.tuple #[])/\w'=w:=by
 go_enter Tryz.func73,Tryz.ntmps73;go_wp2
 go_end0
 exact⟨rfl,rfl⟩
structure CJ(w:World)(b:Nat)(cs:Array Value)(T:TypeId):Prop where
 blk:af w b cs T
 eO:cs[2]? =some (.slice none 0 0)
 kids:cs[3]? =some (.slice none 0 0)
 cnt:cs[4]? =some (.int .i64 0)
theorem CJ.below{b:Nat}{cs:Array Value}(h:CJ w b cs T)(hb:Below w.heap.size w w'):CJ w' b cs T:=⟨h.blk.below hb h.blk.lt,h.eO,h.kids,h.cnt⟩
end Tb
namespace Tb
structure OH(w:World)(p g cap:Nat)(nm:ByteArray)(cs:Array Value):Prop where
 blk:af w p cs 128
 cols:cs[0]? =some (.slice (some ⟨g,0,none⟩) 1 cap)
 hg:g<w.heap.size
 name:w.cell? ⟨g,0,none⟩=some (.string nm)
 type:w.cell? ⟨g,1,none⟩=some (.int .i64 1)
theorem Tryz.info191:(Tryz.prog.info? 191).map (fun i=>(i.zero,i.size,i.bytes))=some (some (.agg #[.nilIface,.int .i64 0]),2,24):=by kernel_rfl
theorem zy(w:World)(a b:Value)(t:TypeId):∀j u,([a,b]:List Value)[j]? =some u->(w.alloc (.cells #[a,b] t)).cell? ((⟨w.heap.size,0,none⟩:Addr).add j)=some u:=by
 intro j u hu;rw[Addr.add_lit,Nat.zero_add,(af.new w #[a,b] t).cell];simpa using hu
end Tb
section
namespace Tb
open Bt
theorem ji(c:Nat)(w:World):Calls Tryz.prog 73 #[.bool false,.int .i64 (c:Int)] w fun x w'=>x=kJ 0 c/\w'=w:=by
 go_enter Tryz.func73,Tryz.ntmps73;go_wp2;exact⟨rfl,rfl,rfl⟩
theorem EU(w:World):Calls Tryz.prog 73 #[.bool false,.int .i64 9] w fun x w'=>x=kJ 0 9/\w'=w:=ji 9 w
def Mq(f:Bool)(c:Nat)(x:Ending):Prop:=match f with
 |true=>x=.returned (.tuple #[])
 |false=>x=kJ 0 c
theorem GK(f:Bool)(c:Nat)(w:World):Calls Tryz.prog 73 #[.bool f,.int .i64 (c:Int)] w fun x w'=>w'=w/\Mq f c x:=by
 cases f
 · exact(ji c w).mono fun x w' h=>⟨h.2,h.1⟩
 exact(iI c w).mono fun x w' h=>⟨h.2,h.1⟩
def eH(d:Px.E×Nat):List Value:=[ev d.1,.int .i64 (d.2:Nat)]
theorem oC:∀(ds:List (Px.E×Nat)) (k:Nat) (h:k<ds.length),(ds.flatMap eH)[k*2]? =some (ev ds[k].1)/\(ds.flatMap eH)[k*2+1]? =some (.int .i64 (ds[k].2:Nat))
 |d::r,0,_=>by simp[eH]
 |d::r,k+1,h=>by
  have:=oC r k (by simpa using h);rw[show(k+1)*2=k*2+1+1 by omega];simpa[eH]using this
def Pb(w:World)(r:Except Nat Unit)(x:Ending)(w':World):Prop:=Below w.heap.size w w'/\match r with
 |.ok _=>x=.returned (.tuple #[])
 |.error c=>x=kJ 0 c
theorem vG{α:Type}{l:List α}{p:α->Bool}{k:Nat}{a:α}(h:l.take (k+1)=l.take k++[a])(h1:(l.take k).all p=true)(h2:p a=true):(l.take (k+1)).all p=true:=by
 rw[h,List.all_append,h1];simp[h2]
theorem xY(cs:Mg.ax)(hcs:Mg.dN cs)(sv:Value)(ds:List (Px.E×Nat))(hds:∀d∈ds,d.1.ok 2000)(hn:ds.length<=1000000)(v:Value)(w:World)(hC:Mn.aM w sv cs)(hE:w.ownsRow 0 191 2 v ds.length (ds.flatMap eH)):
   Calls Tryz.prog 78 #[sv,v] w (Pb w (Mg.dw cs ds)):=by
 obtain⟨ao,cap,rfl,hEE⟩:=dx hE;have HE:=hd hEE;have HDS:=hd hds;have HCS:=hd hcs;have HCA:=hd hC;clear hE hEE hds hcs hC;go_enter Tryz.func78,Tryz.ntmps78;go_wp2_with fail;go_loopw [10] (fun i wr=>∃k:Nat,i=.int .i64 k/\k<=ds.length/\Hid (Below w.heap.size w wr)/\Hid ((ds.take k).all (fun d=>Mg.knows cs d.1)=true)) (fun i _=>ds.length-(intOf i).toNat)
 case atStart=>exact⟨0,rfl,Nat.zero_le _,Below.refl _ _,by show _=_;simp⟩
 case round=>
  obtain⟨k,rfl,hk,HW,HA⟩:=hrel;by_cases hlt:k<ds.length
  · obtain⟨g,hao,hg,c0⟩:=HE.out _ _ (oC ds k hlt).1;obtain⟨g',hao',hg',c1⟩:=HE.out _ _ (oC ds k hlt).2;rw[hao]at hao';injection hao' with hgg;injection hgg with hgg;subst hgg;obtain⟨et,ex,hev⟩:=gH ds[k].1;have d0:=(HW.out.cell (p:=⟨g,k*2,none⟩) hg).trans c0;have d1:=(HW.out.cell (p:=⟨g,k*2+1,none⟩) hg).trans c1;have hg2:=nlA hg HW.out.size;have HW1:Hid (Below w.heap.size w (wr.alloc (.cells #[.iface et ex,.int .i64 (ds[k].2:Nat)] 191))):=HW.out.alloc HW.out.size _;have hkn:=Mn.G5 cs HCS.out.1 sv ds[k].1 _ (HCA.out.below HW1.out);obtain⟨HC1,HC2⟩:=gP ds k hlt;have HCU:=hd (And.intro HC1 HC2);have HME:=hd (List.getElem_mem hlt);generalize ds[k]=d at*;obtain⟨e,t⟩:=d;simp only at hev d0 d1 hkn HW1;rw[hev]at d0 hkn;have HKN:=hd hkn;clear hkn hev c0 c1 HC1 HC2;subst hao
    cases hkk:Mg.knows cs e with
    |false=>
     rw[hkk]at HKN;have HF:Hid (Mg.dw cs ds=.error 9):=Mg.FR HME.out hkk;go_wp2_with fail;refine HKN.out.mono ?_;rintro x w1 ⟨rfl,hb⟩;have HW2:Hid (Below w.heap.size w w1):=HW1.out.trans (hb.mono HW1.out.size);clear hb;go_wp2_with fail;refine(EU _).mono ?_;rintro x w1 ⟨rfl,rfl⟩;exact⟨rfl,HW2.out,by rw[HF.out];rfl⟩
    |true=>
     rw[hkk]at HKN;have HS:=hd (vG (p:=fun d=>Mg.knows cs d.1) HCU.out.1 HA.out hkk);clear hkk;go_wp2_with fail;refine HKN.out.mono ?_;rintro x w1 ⟨rfl,hb⟩;have HW2:Hid (Below w.heap.size w w1):=HW1.out.trans (hb.mono HW1.out.size);clear hb;go_wp2_with fail;refine(iI _ _).mono ?_;rintro x w1 ⟨rfl,rfl⟩;go_wp2_with fail;go_roundw
     case rel=>exact⟨k+1,rfl,by omega,HW2,HS⟩
     case measure=>simp[intOf];omega
  obtain rfl:k=ds.length:=by omega
  have LA:Hid (ds.all (fun d=>Mg.knows cs d.1)=true):=by have:=HA.out;rwa [List.take_length]at this
  clear HA;go_wp2_with fail;go_loopw [22] (fun i wr'=>∃k:Nat,i=.int .i64 k/\k<=ds.length/\Hid (Below w.heap.size w wr')/\Hid ((ds.take k).all (Mg.demOk cs)=true)) (fun i _=>ds.length-(intOf i).toNat)
  case atStart=>exact⟨0,rfl,Nat.zero_le _,HW,by show _=_;simp⟩
  case round=>
   obtain⟨k,rfl,hk,HV,HA⟩:=hrel;by_cases hlt:k<ds.length
   · obtain⟨g,hao,hg,c0⟩:=HE.out _ _ (oC ds k hlt).1;obtain⟨g',hao',hg',c1⟩:=HE.out _ _ (oC ds k hlt).2;rw[hao]at hao';injection hao' with hgg;injection hgg with hgg;subst hgg;obtain⟨et,ex,hev⟩:=gH ds[k].1;have d0:=(HV.out.cell (p:=⟨g,k*2,none⟩) hg).trans c0;have d1:=(HV.out.cell (p:=⟨g,k*2+1,none⟩) hg).trans c1;have hg2:=nlA hg HV.out.size;have HBX:=hd (af.new wr #[.iface et ex,.int .i64 (ds[k].2:Nat)] 191);have HV1:Hid (Below w.heap.size w (World.drew (wr.alloc (.cells #[.iface et ex,.int .i64 (ds[k].2:Nat)] 191)))):=(HV.out.alloc HV.out.size _).drew;have hty:=Mn.type_any cs HCS.out sv ds[k].1 (HDS.out _ (List.getElem_mem hlt)) (List.all_eq_true.1 LA.out _ (List.getElem_mem hlt)) _ (HCA.out.below HV1.out);obtain⟨HC1,HC2⟩:=gP ds k hlt;have HCU:=hd (And.intro HC1 HC2);have HME:=hd (List.getElem_mem hlt);generalize ds[k]=d at*;obtain⟨e,t⟩:=d;simp only at hev d0 d1 hty HV1 HBX;rw[hev]at d0 hty;have HTY:=hd hty;have hlx:=HBX.out.lt;have b0:=HBX.out.cell 0;have b1:=HBX.out.cell 1;simp at b0 b1;clear hty hev c0 c1 HC1 HC2;subst hao;go_wp2_with fail
     go_region_with (first
      |(go_at_call 145
        refine HTY.out.mono ?_;rintro x w1 ⟨hb1,hx1⟩;have HB1:=hd (HV1.out.trans (hb1.mono HV1.out.size));have K1:=HBX.out.drew.below hb1 hlx;rcases hta:Mg.typ cs e with c|u
        · rw[hta]at hx1;obtain rfl:=hx1;have hc:=Mg.ME hta;subst hc;exact⟨rfl,HB1.out,by rw[Mg.uM LA.out HME.out (by simp[Mg.demOk,hta])];rfl⟩
        rw[hta]at hx1;obtain rfl:=hx1;have HTA:=hd hta;have q0:=K1.cell 0;have q1:=K1.cell 1;have hl1:=K1.lt;simp at q0 q1
        clear hb1 hta K1)
      |(go_at_call 144
        refine(Mn.CK u t _).mono ?_;rintro x w1 ⟨rfl,rfl⟩
        have HFT:Hid (Mg.demOk cs (e,t)=Mg.fits u t):=by show _=_;simp[Mg.demOk,HTA.out]
        generalize Mg.fits u t=f at*)
      |(go_at_call 73
        refine(GK f 10 _).mono ?_;rintro x w2 ⟨rfl,hx2⟩
        cases f
        · obtain rfl:=hx2;exact⟨rfl,HB1.out,by rw[Mg.uM LA.out HME.out HFT.out];rfl⟩
        obtain rfl:=hx2))
     all_goals
      go_wp2_with fail;go_roundw
      case rel=>exact⟨k+1,rfl,by omega,HB1,vG HCU.out.1 HA.out HFT.out⟩
      case measure=>simp[intOf];omega
   obtain rfl:k=ds.length:=by omega
   have HD:Hid (ds.all (Mg.demOk cs)=true):=by have:=HA.out;rwa [List.take_length]at this
   go_wp2_with fail
   go_end0
   exact⟨HV.out,by rw[Mg.IP LA.out HD.out]⟩
end Tb
end
namespace Tb
theorem tY(h:w.ownsRow base e size v n xs)(hn:n≠0):∃g cap,v=.slice (some ⟨g,0,none⟩) n cap/\base<=g/\g<w.heap.size/\n<=cap/\cap<=maxLen/\∀j u,xs[j]? =some u->w.cell? ⟨g,j,none⟩=some u:=by
 rcases h.2 with⟨_,h0⟩|⟨g,cap,cur,rfl,hb,hg,h1,h2,_⟩
 · exact absurd h0 hn
 refine⟨g,cap,rfl,hb,(geA.1 hg).1,h1,h2,fun j u hu=> ?_⟩;have:=h.cells (g:=g) rfl j u hu;simpa only[Addr.add_lit,Nat.zero_add]using this
theorem Tryz.info27:(Tryz.prog.info? 27).map (fun i=>(i.zero,i.size,i.bytes))=some (some (.slice none 0 0),1,24):=by kernel_rfl
theorem Aj(w:World)(a:Value)(t:TypeId):∀j u,([a]:List Value)[j]? =some u->(w.alloc (.cells #[a] t)).cell? ((⟨w.heap.size,0,none⟩:Addr).add j)=some u:=by
 intro j u hu;rw[Addr.add_lit,Nat.zero_add,(af.new w #[a] t).cell];simpa using hu
structure Sj(w:World)(gv:Nat)(z:Int):Prop where
 lt:gv<w.heap.size
 c0:w.cell? ⟨gv,0,none⟩=some (.int .i64 16)
 c1:w.cell? ⟨gv,1,none⟩=some (.int .i64 z)
 c2:w.cell? ⟨gv,2,none⟩=some (.string ⟨#[]⟩)
end Tb
namespace Tq
theorem G8(w:World):Calls Tryz.prog 84 #[.nilIface] w fun x w'=>x=.returned (.slice none 0 0)/\w'=w:=by
 go_enter Tryz.func84,Tryz.ntmps84;go_wp2_with fail;go_ret;exact⟨rfl,rfl⟩
theorem D5(tp:Option Addr)(w:World):Calls Tryz.prog 85 #[.pointer tp,.nilIface] w fun x w'=>x=.returned (.func (.func 151) #[] #[.pointer (some ⟨w.heap.size,0,none⟩),.pointer (some ⟨w.heap.size+1,0,none⟩)])/\w'=(w.alloc (.cells #[.pointer tp] 94)).alloc (.cells #[.nilIface] 98):=by
 go_enter Tryz.func85,Tryz.ntmps85;go_wp2_with fail;go_ret;exact⟨by simp,rfl⟩
theorem Tryz.info98:(Tryz.prog.info? 98).map (fun i=>(i.zero,i.size,i.bytes))=some (some .nilIface,1,16):=by kernel_rfl
end Tq
section
namespace Tb
open Bt
theorem rH(es:List Px.E)(t:Nat)(hn:es.length<=1000000)(v:Value)(w:World)(hE:w.ownsRow 0 98 1 v es.length (es.flatMap gQ)):
   Calls Tryz.prog 93 #[v,.int .i64 (t:Int)] w fun x w'=>Below w.heap.size w w'/\∃u,x=.returned u/\w'.ownsRow w.heap.size 191 2 u es.length ((es.map fun e=>(e,t)).flatMap eH):=by
 obtain⟨i0,hi,hz0,hz1,hz2⟩:=info_parts Tryz.info191;obtain⟨ao,cap,rfl,hEE⟩:=dx hE;have HE:=hd hEE;clear hE hEE;go_enter Tryz.func93,Tryz.ntmps93;go_wp2_with fail;go_loopw [5,10] (fun v i wr=>∃(k:Nat),i=.int .i64 k/\k<=es.length/\Hid (Below w.heap.size w wr)/\Hid (wr.ownsRow w.heap.size 191 2 v k (((es.map fun e=>(e,t)).take k).flatMap eH))) (fun _ i _=>es.length-(intOf i).toNat)
 case atStart=>exact⟨0,rfl,Nat.zero_le _,Below.refl _ _,World.ownsRow_nil _ _ _ _⟩
 case round=>
  obtain⟨k,rfl,hk,HW,HO⟩:=hrel;obtain⟨va,vc,rfl⟩:=au HO.out;by_cases hlt:k<es.length
  · obtain⟨g,hao,hg,c0⟩:=HE.out k _ (yS es k hlt);obtain⟨et,ex,hev⟩:=gH es[k];have d0:=(HW.out.cell (p:=⟨g,k,none⟩) hg).trans c0;have hg2:=nlA hg HW.out.size;obtain⟨HC1,HC2⟩:=gP es k hlt;have HCU:=hd HC1;generalize es[k]=e at*;rw[hev]at d0;have HEV:=hd hev;clear hev c0 HC1 HC2;subst hao;have HO2:=hd (HO.out.alloc (.cells #[.iface et ex,.int .i64 (t:Int)] 191))
    go_wp2_with(first
     |(at_builtin;refine bB rfl _ _ 172 rfl w.heap.size 191 i0 (.agg #[.nilIface,.int .i64 0]) 2 24 Tryz.underlying172 hi hz0 hz1 hz2 rfl (by decide) _ _ _ rfl HO2.out ⟨wr.heap.size,0,none⟩ 1 1 [.iface et ex,.int .i64 (t:Int)] rfl rfl ?c1 ?c2 ?c3 ?c4 ?c5 ?_)
     |fail)
    case c1=>exact zy wr _ _ _
    case c2=>intro u hu;simp at hu;rcases hu with rfl|rfl<;>rfl
    case c3=>simp only[maxLen];omega
    case c4=>omega
    case c5=>have:=HW.out.size;simp;omega
    intro v' w3 hown hgrow _;have HB3:Hid (Below w.heap.size w w3):=dI (HW.out.alloc HW.out.size _) hgrow (fun k hk=>(HO2.out.lt k hk).1) (by have:=HW.out.size;simp;omega)
    have HO3:Hid (w3.ownsRow w.heap.size 191 2 v' (k+1) (((es.map fun e=>(e,t)).take (k+1)).flatMap eH)):=by
     show World.ownsRow _ _ _ _ _ _ _;rw[<-List.map_take,HCU.out,List.map_append,List.flatMap_append,List.map_take];simp only[List.map_cons,List.map_nil,List.flatMap_cons,List.flatMap_nil,List.append_nil];rw[show eH (e,t)=[.iface et ex,.int .i64 (t:Int)]from by simp[eH,HEV.out]];exact hown
    obtain⟨va',vc',rfl⟩:=au hown;clear hown hgrow HO2;go_wp2_with fail;go_roundw
    case rel=>exact⟨k+1,rfl,by omega,HB3,HO3⟩
    case measure=>simp[intOf];omega
  obtain rfl:k=es.length:=by omega
  have HO4:Hid (wr.ownsRow w.heap.size 191 2 (.slice va es.length vc) es.length ((es.map fun e=>(e,t)).flatMap eH)):=by have:=HO.out;rwa [List.take_of_length_le (by simp)]at this
  clear HO;go_wp2_with fail;go_ret;exact⟨HW.out,_,rfl,HO4.out⟩
def demW:Option Px.E->List (Px.E×Nat)
 |none=>[]
 |some e=>[(e,3)]
theorem FK(o:Option Px.E)(w:World):Calls Tryz.prog 84 #[ev? o] w fun x w'=>Below w.heap.size w w'/\∃u,x=.returned u/\w'.ownsRow w.heap.size 191 2 u (demW o).length ((demW o).flatMap eH):=by
 cases o with
 |none=>
  refine(Tq.G8 w).mono ?_;rintro x w1 ⟨rfl,rfl⟩;exact⟨Below.refl _ _,_,rfl,World.ownsRow_nil _ _ _ _⟩
 |some e=>
  obtain⟨et,ex,hev⟩:=gH e;have wD:ev? (some e)=.iface et ex:=hev
  have HB0:Hid (Below w.heap.size w (w.alloc (.cells #[.iface et ex,.int .i64 3] 191))):=by show Below _ _ _;go_grown
  have HO:Hid ((w.alloc (.cells #[.iface et ex,.int .i64 3] 191)).ownsRow w.heap.size 191 2 (.slice (some ⟨w.heap.size,0,none⟩) 1 1) (demW (some e)).length ((demW (some e)).flatMap eH)):=by
   show World.ownsRow _ _ _ _ _ _ _;refine⟨rfl,.inr ⟨w.heap.size,1,_,rfl,nlr _,heap_alloc_new w _,nlr _,by simp[maxLen],rfl,?_⟩⟩;simp[demW,eH,hev]
  rw[wD];clear hev wD;go_enter Tryz.func84,Tryz.ntmps84;go_wp2_with fail;go_ret;exact⟨HB0.out,_,rfl,HO.out⟩
theorem jE:∀(os:List (Px.E×Bool)) (k:Nat) (h:k<os.length),(os.flatMap bA)[k*2]? =some (ev os[k].1)/\(os.flatMap bA)[k*2+1]? =some (.bool os[k].2)
 |d::r,0,_=>by simp[bA]
 |d::r,k+1,h=>by
  have:=jE r k (by simpa using h);rw[show(k+1)*2=k*2+1+1 by omega];simpa[bA]using this
theorem uh(os:List (Px.E×Bool))(hn:os.length<=1000000)(v:Value)(w:World)(hE:w.ownsRow 0 227 2 v os.length (os.flatMap bA)):
   Calls Tryz.prog 91 #[v] w fun x w'=>Below w.heap.size w w'/\∃u,x=.returned u/\w'.ownsRow w.heap.size 98 1 u os.length ((os.map Prod.fst).flatMap gQ):=by
 obtain⟨i0,hi,hz0,hz1,hz2⟩:=info_parts Tq.Tryz.info98;obtain⟨ao,cap,rfl,hEE⟩:=dx hE;have HE:=hd hEE;clear hE hEE;go_enter Tryz.func91,Tryz.ntmps91;go_wp2_with fail;go_loopw [3,8] (fun v i wr=>∃(k:Nat),i=.int .i64 k/\k<=os.length/\Hid (Below w.heap.size w wr)/\Hid (wr.ownsRow w.heap.size 98 1 v k (((os.map Prod.fst).take k).flatMap gQ))) (fun _ i _=>os.length-(intOf i).toNat)
 case atStart=>exact⟨0,rfl,Nat.zero_le _,Below.refl _ _,World.ownsRow_nil _ _ _ _⟩
 case round=>
  obtain⟨k,rfl,hk,HW,HO⟩:=hrel;obtain⟨va,vc,rfl⟩:=au HO.out;by_cases hlt:k<os.length
  · obtain⟨g,hao,hg,c0⟩:=HE.out _ _ (jE os k hlt).1;obtain⟨g',hao',hg',c1⟩:=HE.out _ _ (jE os k hlt).2;rw[hao]at hao';injection hao' with hgg;injection hgg with hgg;subst hgg;obtain⟨et,ex,hev⟩:=gH os[k].1;have d0:=(HW.out.cell (p:=⟨g,k*2,none⟩) hg).trans c0;have d1:=(HW.out.cell (p:=⟨g,k*2+1,none⟩) hg).trans c1;have hg2:=nlA hg HW.out.size;obtain⟨HC1,HC2⟩:=gP os k hlt;have HCU:=hd HC1;generalize os[k]=o at*;obtain⟨e,dsc⟩:=o;simp only at hev d0 d1;rw[hev]at d0;have HEV:=hd hev;clear hev c0 c1 HC1 HC2;subst hao;have HO2:=hd ((HO.out.alloc (.cells #[.iface et ex,.bool dsc] 227)).alloc (.cells #[.iface et ex] 98));have HW2:Hid (Below w.heap.size w ((wr.alloc (.cells #[.iface et ex,.bool dsc] 227)).alloc (.cells #[.iface et ex] 98))):=(HW.out.alloc HW.out.size _).alloc (HW.out.alloc HW.out.size _).size _
    go_wp2_with(first
     |(at_builtin;refine bB rfl _ _ 132 rfl w.heap.size 98 i0 .nilIface 1 16 Tryz.underlying132 hi hz0 hz1 hz2 rfl (by decide) _ _ _ rfl HO2.out ⟨wr.heap.size+1,0,none⟩ 1 1 [.iface et ex] rfl rfl ?c1 ?c2 ?c3 ?c4 ?c5 ?_)
     |fail)
    try(case c1=>have:=Aj (wr.alloc (.cells #[.iface et ex,.bool dsc] 227)) (.iface et ex) 98;rwa [World.size_alloc]at this)
    case c2=>first|rfl|(intro u hu;simp at hu;subst hu;rfl)
    case c3=>simp only[maxLen];omega
    case c4=>omega
    case c5=>first|exact HW2.out.size|(have:=HW2.out.size;simp at this⊢;omega)
    intro v' w3 hown hgrow _;have HB3:Hid (Below w.heap.size w w3):=dI HW2.out hgrow (fun k hk=>(HO2.out.lt k hk).1) HW2.out.size
    have HO3:Hid (w3.ownsRow w.heap.size 98 1 v' (k+1) (((os.map Prod.fst).take (k+1)).flatMap gQ)):=by
     show World.ownsRow _ _ _ _ _ _ _;rw[<-List.map_take,HCU.out,List.map_append,List.flatMap_append,List.map_take];simp only[List.map_cons,List.map_nil,List.flatMap_cons,List.flatMap_nil,List.append_nil];rw[show gQ e=[.iface et ex]from by simp[gQ,HEV.out]];exact hown
    obtain⟨va',vc',rfl⟩:=au hown;clear hown hgrow HO2;go_wp2_with fail;go_roundw
    case rel=>exact⟨k+1,rfl,by omega,HB3,HO3⟩
    case measure=>simp[intOf];omega
  obtain rfl:k=os.length:=by omega
  have HO4:Hid (wr.ownsRow w.heap.size 98 1 (.slice va os.length vc) os.length ((os.map Prod.fst).flatMap gQ)):=by have:=HO.out;rwa [List.take_of_length_le (by simp)]at this
  clear HO;go_wp2_with fail;go_ret;exact⟨HW.out,_,rfl,HO4.out⟩
end Tb
end
section
namespace Mg
def fH(cs:ax)(r:List Px.E):List (Px.E×Nat):=(r.zip cs).map fun x=>(x.1,x.2.2%4)
def aO(cs:ax)(l:List (List Px.E)):List (Px.E×Nat):=l.flatMap (fH cs)
theorem nO{cs:ax}{r:List Px.E}(h:r.length=cs.length):(fH cs r).length=r.length:=by simp[fH,h]
theorem Gd{cs:ax}{r:List Px.E}(h:r.length=cs.length)(j:Nat)(hj:j<r.length)(hj2:j<cs.length):(fH cs r).take (j+1)=(fH cs r).take j++[(r[j],cs[j].2%4)]:=by
 have hl:j<(fH cs r).length:=by rw[nO h];exact hj
 rw[List.take_succ_eq_append_getElem hl];simp[fH]
def nullsM:ax->List V->Except Nat Unit
 |c::cs,v::r=>if isNull v=true/\4<=c.2 then .error 11 else nullsM cs r
 |_,_=> .ok ()
theorem xg:∀{cs:ax} {r:List V} {k:Nat} (h1:k<cs.length) (h2:k<r.length),isNull r[k]=true->4<=cs[k].2->nullsM cs r=.error 11
 |c::cs,v::r,0,_,_,h,h'=>by
  unfold nullsM;rw[if_pos ⟨by simpa using h,by simpa using h'⟩]
 |c::cs,v::r,k+1,h1,h2,h,h'=>by
  unfold nullsM
  split
  · rfl
  exact xg (k:=k) (by simpa using h1) (by simpa using h2) (by simpa using h) (by simpa using h')
 |[],_,_,h1,_,_,_=>by simp at h1
 |_::_,[],_,_,h2,_,_=>by simp at h2
theorem sH:∀{cs:ax} {r:List V},(∀(k:Nat) (h1:k<cs.length) (h2:k<r.length),¬(isNull r[k]=true/\4<=cs[k].2))->nullsM cs r=.ok ()
 |[],_,_=>by simp[nullsM]
 |_::_,[],_=>by simp[nullsM]
 |c::cs,v::r,h=>by
  unfold nullsM;rw[if_neg (show¬(isNull v=true/\4<=c.2)from h 0 (by simp) (by simp))]
  exact sH fun k h1 h2=>h (k+1) (by simpa using h1) (by simpa using h2)
end Mg
namespace Tb
open Bt
theorem Db(cs:Mg.ax)(hcs:Mg.dN cs)(sv:Value)(p k:Nat)(hk:k<cs.length)(w:World)(hp:p<w.heap.size)(hpc:w.cell? ⟨p,0,none⟩=some sv)(hC:Mn.aM w sv cs):
   Calls Tryz.prog 146 #[.pointer (some ⟨p,0,none⟩),.int .i64 k] w fun x w'=>x=.returned (.int .i64 ((cs[k].2%4:Nat):Int))/\w'=w:=by
 obtain⟨ao,cap,rfl,hCC⟩:=hC;obtain⟨g,rfl,hg,c0,c1⟩:=hCC k hk;have hc:=hcs.2 cs[k] (List.getElem_mem hk);have hlen:=hcs.1;generalize cs[k]=c at*;obtain⟨cn,ct⟩:=c;simp only at hc c0 c1⊢
 have j1:(k:Int)<(cs.length:Int):=by omega
 clear hCC hcs;generalize cs.length=n at*;rcases hc with rfl|rfl|rfl|rfl|rfl|rfl
 all_goals
  go_enter Tryz.func146,Tryz.ntmps146;go_wp2_with fail;go_ret;exact⟨rfl,rfl⟩
theorem uj(cs:Mg.ax)(hcs:Mg.dN cs)(row:List Mg.V)(hr:row.length=cs.length)(sv rv:Value)(p:Nat)(w:World)(hp:p<w.heap.size)(hpc:w.cell? ⟨p,0,none⟩=some sv)(hC:Mn.aM w sv cs)(hR:Mn.dQ w rv row):
   Calls Tryz.prog 81 #[.pointer (some ⟨p,0,none⟩),rv] w (Pb w (Mg.nullsM cs row)):=by
 obtain⟨ao,cap,rfl,hCC⟩:=hC;obtain⟨ro,rcap,rfl,hRR⟩:=hR;have HC:=hd hCC;have HR:=hd hRR;have HCS:=hd hcs;have HLN:=hd hr
 have hlen:row.length<=1000:=by have:=hcs.1;omega
 clear hCC hRR hcs hr;go_enter Tryz.func81,Tryz.ntmps81;go_wp2_with fail;go_loopw [8] (fun i wr=>∃k:Nat,i=.int .i64 k/\k<=row.length/\Hid (Below w.heap.size w wr)/\Hid (∀(j:Nat) (h1:j<cs.length) (h2:j<row.length),j<k->¬(Mg.isNull row[j]=true/\4<=cs[j].2))) (fun i _=>row.length-(intOf i).toNat)
 case atStart=>exact⟨0,rfl,Nat.zero_le _,Below.refl _ _,fun j _ _ h=>by omega⟩
 case round=>
  obtain⟨k,rfl,hk,HW,HZ⟩:=hrel;by_cases hlt:k<row.length
  · have hkc:k<cs.length:=by rw[<-HLN.out];exact hlt
    obtain⟨g,hro,hg,r0,r1,r2⟩:=HR.out k hlt;obtain⟨gc,hao,hgc,c0,c1⟩:=HC.out k hkc;have HBAD:Hid (Mg.isNull row[k]=true->4<=cs[k].2->Mg.nullsM cs row=.error 11):=Mg.xg hkc hlt
    have HNX:Hid (¬(Mg.isNull row[k]=true/\4<=cs[k].2)->∀(j:Nat) (h1:j<cs.length) (h2:j<row.length),j<k+1->¬(Mg.isNull row[j]=true/\4<=cs[j].2)):=by
     intro hz j j1 j2 hj;rcases Nat.lt_or_eq_of_le (Nat.le_of_lt_succ hj)with h|rfl
     · exact HZ.out j j1 j2 h
     exact hz
    have hct:=HCS.out.2 cs[k] (List.getElem_mem hkc);have x0:=(HW.out.cell (p:=⟨g,k*3,none⟩) hg).trans r0;have x1:=(HW.out.cell (p:=⟨g,k*3+1,none⟩) hg).trans r1;have x2:=(HW.out.cell (p:=⟨g,k*3+2,none⟩) hg).trans r2;have lg:=nlA hg HW.out.size;have hin:=Mn.Jz row[k]
    have j1:(k:Int)<(cs.length:Int):=by omega
    generalize row[k]=v at*;generalize cs[k]=c at*;obtain⟨v0,v1,v2⟩:=v;obtain⟨cn,ct⟩:=c;unfold Mn.vV at hin;simp only at x0 x1 x2 c0 c1 hct HBAD HNX hin;have HIN:=hd hin;have HW1:Hid (Below w.heap.size w (wr.alloc (.cells #[.int .i64 v0,.int .i64 v1,.string ⟨v2.toArray⟩] 39))):=HW.out.alloc HW.out.size _;have lp1:=nlA hp HW1.out.size
    have HPC:Hid (∀W,Below w.heap.size w W->W.cell? ⟨p,0,none⟩=some (.slice ao cs.length cap)/\W.cell? ⟨gc,k*2+1,none⟩=some (.int .i64 (ct:Nat))/\p<W.heap.size/\gc<W.heap.size):=fun W hW=>⟨(hW.cell (p:=⟨p,0,none⟩) hp).trans hpc,(hW.cell (p:=⟨gc,k*2+1,none⟩) hgc).trans c1,nlA hp hW.size,nlA hgc hW.size⟩
    clear r0 r1 r2 c0 c1 hin;subst hro hao;generalize Mg.isNull ⟨v0,v1,v2⟩=nl at*;go_wp2_with fail;refine(HIN.out _).mono ?_;rintro x w1 ⟨rfl,hb1⟩;have HW2:Hid (Below w.heap.size w w1):=HW1.out.trans (hb1.mono HW1.out.size);obtain⟨y0,y1,y2,y3⟩:=HPC.out w1 HW2.out;clear hb1
    cases nl
    · have HN:=hd (HNX.out (by simp));clear HBAD HNX;go_wp2_with fail;refine(iI _ _).mono ?_;rintro x w1 ⟨rfl,rfl⟩;go_wp2_with fail;go_roundw
      case rel=>exact⟨k+1,rfl,by omega,HW2,HN⟩
      case measure=>simp[intOf];omega
    rcases(show(ct=1\/ct=2\/ct=3)\/(ct=5\/ct=6\/ct=7) by omega)with h|h
    · have HN:=hd (HNX.out (by simp;omega));clear HBAD HNX hct;rcases h with rfl|rfl|rfl
      all_goals
       go_wp2_with fail;refine(iI _ _).mono ?_;rintro x w1 ⟨rfl,rfl⟩;go_wp2_with fail;go_roundw
       case rel=>exact⟨k+1,rfl,by omega,HW2,HN⟩
       case measure=>simp[intOf];omega
    have HB:=hd (HBAD.out rfl (by omega));clear HBAD HNX hct;rcases h with rfl|rfl|rfl
    all_goals
     go_wp2_with fail;refine(ji 11 _).mono ?_;rintro x w1 ⟨rfl,rfl⟩;exact⟨rfl,HW2.out,by rw[HB.out];rfl⟩
  obtain rfl:k=row.length:=by omega
  have HG:Hid (Mg.nullsM cs row=.ok ()):=Mg.sH fun j h1 h2=>HZ.out j h1 h2 h2
  go_wp2_with fail
  go_end0
  exact⟨HW.out,by rw[HG.out]⟩
end Tb
end
end Go.Proofs.YthhhfcdakfbpkaaGreatDoor
