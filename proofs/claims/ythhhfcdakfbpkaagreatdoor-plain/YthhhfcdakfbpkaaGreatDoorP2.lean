/- Parts of the proof -/
import Derived.Test.YthhhfcdakfbpkaaGreatDoorP1
import Derived.Test.YthhhfcdakfbpkaaGreatDoorPShelf
import Derived.Deep.RegionHeld3
import Derived.Deep.DrawnRows
import Derived.Deep.RegionWith
import Derived.Test.YthhhfcdakfbpkaaGreatDoorRows
import Derived.Lib.LaidU8T
import Derived.PinnedBridge
import Derived.Deep.Strs
import Derived.Lib.ItoaMem
import Derived.Lib.Replace
import Derived.Lib.CountLaws
import Derived.Lib.IndexBytes
namespace Go.Proofs.YthhhfcdakfbpkaaGreatDoor
set_option linter.unusedSimpArgs false
set_option linter.unusedVariables false
set_option maxRecDepth 100000
set_option maxHeartbeats 16000000
open Go.RowKit
variable {w w' w1:World}{B g k n st sz:Nat}{s:ByteArray}{lv:Value}{dp:Bool}{t:TypeId}
def jH:List Lx.Bs:=Lx.De++Lx.ones
structure Env(w:World):Prop where
 tabs:Lib.Utf8Tabs 5 6 w
 kws:∃t fr,w.heap[4]? =some (.cells (dY Lx.keys) t fr)
 sgs:∃t fr,w.heap[1]? =some (.cells (dY jH) t fr)
 room:12<=w.heap.size
theorem Env.grown(h:Env w)(hg:w.grownBy w' (some B))(hB:12<=B):Env w':=by
 have hr:=h.room
 have hb:∀k,k<12->w'.heap[k]? =w.heap[k]?:=fun k hk=>hg.block k (by omega) (by simp;omega)
 refine⟨⟨fun c hc=> ?_,fun i hi=> ?_⟩,?_,?_,Nat.le_trans hr hg.size⟩
 · rw[World.cell?_of_block (w:=w) (hb _ (by simp))];exact h.tabs.1 c hc
 · rw[World.cell?_of_block (w:=w) (hb _ (by simp)),World.cell?_of_block (w:=w) (hb _ (by simp))];exact h.tabs.2 i hi
 · rw[hb _ (by simp)];exact h.kws
 rw[hb _ (by simp)];exact h.sgs
theorem Env.below(h:Env w)(hb:Below w.heap.size w w'):Env w':=h.grown (B:=w.heap.size) (Below.grownBy hb) h.room
structure Nf(w:World):Prop where
 tabs:Lib.Utf8Tabs 5 6 w
 kws:∃t fr,w.heap[4]? =some (.cells (dY Lx.keys) t fr)
 room:12<=w.heap.size
theorem Env.weak(h:Env w):Nf w:=⟨h.tabs,h.kws,h.room⟩
theorem av{w2:World}{row:Option Nat}(h:w.grownBy w1 row)(k:w1.grownBy w2 row):w.grownBy w2 row:=
 ⟨k.os.trans h.os,k.tape.trans h.tape,k.output.trans h.output,Nat.le_trans h.size k.size,fun i hi hne=>(k.block i (nlA hi h.size) hne).trans (h.block i hi hne)⟩
theorem grownBy_refl(w:World)(row:Option Nat):w.grownBy w row:=⟨rfl,rfl,rfl,nlr _,fun _ _ _=>rfl⟩
theorem mY(w:World)(B i:Nat)(v:Value):w.grownBy (w.setCell ⟨B,i,none⟩ v) (some B):=
 ⟨rfl,rfl,rfl,by simp[World.setCell],fun k _ hne=>Below.heap_setCell w _ v k (by simpa using hne)⟩
theorem grownBy_drew{row:Option Nat}(h:w.grownBy w1 row):w.grownBy w1.drew row:=⟨h.os,h.tape,h.output,h.size,h.block⟩
structure Rd(w:World)(B:Nat)(s:ByteArray)(k st:Nat):Prop where
 blk:af w B #[.string s,.int .i64 (k:Int),.int .i64 (st:Int)] 143
 low:12<=B
 env:Env w
 le:k<=s.size
 small:s.size<=2000
theorem Rd.below(h:Rd w B s k st)(hb:Below w.heap.size w w'):Rd w' B s k st:=
 ⟨h.blk.below hb h.blk.lt,h.low,h.env.below hb,h.le,h.small⟩
theorem Rd.drew(h:Rd w B s k st):Rd w.drew B s k st:=
 ⟨h.blk,h.low,⟨h.env.tabs,h.env.kws,h.env.sgs,h.env.room⟩,h.le,h.small⟩
theorem Rd.set1(h:Rd w B s k st)(j:Nat)(hj:j<=s.size):Rd (w.setCell ⟨B,1,none⟩ (.int .i64 (j:Int))) B s j st:=
 ⟨h.blk.set 1 _,h.low,h.env.grown (mY w B 1 _) h.low,hj,h.small⟩
theorem Rd.set2(h:Rd w B s k st)(j:Nat):Rd (w.setCell ⟨B,2,none⟩ (.int .i64 (j:Int))) B s k j:=
 ⟨h.blk.set 2 _,h.low,h.env.grown (mY w B 2 _) h.low,h.le,h.small⟩
def NS(r:Int):Bool:=decide (r=9\/r=10\/r=13\/r=32)
def wY(r:Int):Bool:=decide (r≠10)
def tT(r:Int):Bool:=decide (48<=r/\r<=57)
def JZ(r:Int):Bool:=decide ((97<=r/\r<=122)\/(65<=r/\r<=90)\/r=95\/(48<=r/\r<=57))
theorem qw(r:Int)(w:World):Calls Tryz.prog 111 #[.int .i32 r] w fun e w'=>e=.returned (.bool (NS r))/\w'=w:=by
 go_enter Tryz.func111,Tryz.ntmps111;go_wp2
 all_goals
  go_ret;refine⟨fG ?_,rfl⟩;rw[Bool.eq_iff_iff];simp[NS];omega
theorem si(r:Int)(w:World):Calls Tryz.prog 113 #[.int .i32 r] w fun e w'=>e=.returned (.bool (wY r))/\w'=w:=by
 go_enter Tryz.func113,Tryz.ntmps113;go_wp2
 all_goals
  go_ret;refine⟨fG ?_,rfl⟩;rw[Bool.eq_iff_iff];simp[wY]
theorem iQ(r:Int)(w:World):Calls Tryz.prog 173 #[.int .i32 r] w fun e w'=>e=.returned (.bool (tT r))/\w'=w:=by
 go_enter Tryz.func173,Tryz.ntmps173;go_wp2
 all_goals
  go_ret;refine⟨fG ?_,rfl⟩;rw[Bool.eq_iff_iff];simp[tT];omega
theorem ib(r:Int)(w:World):Calls Tryz.prog 175 #[.int .i32 r] w fun e w'=>e=.returned (.bool (JZ r))/\w'=w:=by
 go_enter Tryz.func175,Tryz.ntmps175;go_wp2_with(go_at_call 173;refine(iQ _ _).mono ?_;rintro e w' ⟨rfl,rfl⟩)
 all_goals
  go_ret;refine⟨fG ?_,rfl⟩;rw[Bool.eq_iff_iff];simp[JZ,tT]<;>omega
theorem iA(w:World)(B:Nat)(s:ByteArray)(k st:Nat)(c:Int)(h:Rd w B s k st):
   Calls Tryz.prog 228 #[.pointer (some ⟨B,0,none⟩),.int .i64 c] w fun e w'=>e=.panicked [{v:=.iface 74 (.agg #[.int .i64 (st:Int),.int .i64 c]),recovered:=false}]/\w'=w:=by
 obtain⟨⟨b0,b1,b2⟩,b3,b4,b5⟩:=h.blk.three;go_enter Tryz.func228,Tryz.ntmps228;go_wp2;exact⟨rfl,rfl,rfl⟩
def bf(s:ByteArray)(k:Nat):Int×Nat:=
 if k<s.size then(if Lx.aD (s.data.toList.drop k)=0 then(-2,1)else((Utf8.decode s k).1,Lx.aD (s.data.toList.drop k)))else(-1,0)
theorem get_extract(s:ByteArray)(k j:Nat):(s.extract k s.size).get! j=s.get! (k+j):=by
 have e:(s.extract k s.size).data.toList=s.data.toList.drop k:=Lib.extract_to_end s k
 have g:∀(t:ByteArray) (i:Nat),t.get! i=(t.data.toList[i]?).getD default:=by
  intro t i;show t.data[i]! =_;rw[getElem!_def];simp only[Array.getElem?_toList]
  cases t.data[i]? <;>rfl
 rw[g,g,e,List.getElem?_drop]
theorem decode_extract(s:ByteArray)(k:Nat)(h:k<=s.size):Utf8.decode (s.extract k s.size) 0=Utf8.decode s k:=by
 rw[Lib.decode_at,Lib.decode_at];rw[get_extract,get_extract,get_extract,get_extract];simp only[Nat.zero_add,Nat.add_zero,Nat.sub_zero]
 congr 1
 simp
theorem ql(s:ByteArray)(k:Nat)(h:k<s.size):Lib.decodeGo (s.extract k s.size)=Utf8.decode s k:=by
 unfold Lib.decodeGo;rw[if_neg (by simp;omega),decode_extract s k (by omega)]
theorem yn(s:ByteArray)(k:Nat)(h:¬k<s.size):Lib.decodeGo (s.extract k s.size)=(65533,0):=by
 unfold Lib.decodeGo;rw[if_pos (by simp;omega)]
theorem nU(w:World)(B:Nat)(s:ByteArray)(k st:Nat)(h:Rd w B s k st):
   Calls Tryz.prog 172 #[.pointer (some ⟨B,0,none⟩)] w fun e w'=>e=.returned (.tuple #[.int .i32 (bf s k).1,.int .i64 ((bf s k).2:Int)])/\Below w.heap.size w w':=by
 obtain⟨⟨b0,b1,b2⟩,b3,b4,b5⟩:=h.blk.three;have hle:=h.le;have hsm:=h.small;by_cases hk:k<s.size
 · by_cases hc:Lx.aD (s.data.toList.drop k)=0
   · have hp:bf s k=(-2,1):=by unfold bf;rw[if_pos hk,if_pos hc]
     have hd:=(ql s k hk).trans (oN s k hk hc).1;rw[hp];clear hp hc;go_enter Tryz.func172,Tryz.ntmps172;go_wp2
     go_region_with (go_at_call 227;refine(Tryz.utf8_DecodeRuneInString _ _ h.drew.env.tabs).mono ?_;rintro e w1 ⟨rfl,hb1⟩;simp only[hd])
     all_goals
      go_wp2
      go_ret2
      exact⟨rfl,(Below.refl _ _).drew.trans (by assumption)⟩
   obtain⟨hg1,hg2,hg3⟩:=jk s k hk hc
   have hp:bf s k=(((Utf8.decode s k).1:Int),(Utf8.decode s k).2):=by unfold bf;rw[if_pos hk,if_neg hc,hg1]
   have hd:=ql s k hk
   have hx:¬((Utf8.decode s k).1=65533/\(Utf8.decode s k).2<=1):=by
    rintro⟨q1,q2⟩;rcases hg3 with⟨_,q3,q4⟩|⟨q3,_⟩<;>omega
   rw[hp];generalize Utf8.decode s k=d at*;obtain⟨c,n⟩:=d;clear hp hc hg1 hg2 hg3;simp only;by_cases hc1:c=65533
   · subst hc1
     have hn:1<n:=by simp at hx;omega
     clear hx;go_enter Tryz.func172,Tryz.ntmps172;go_wp2
     go_region_with (go_at_call 227;refine(Tryz.utf8_DecodeRuneInString _ _ h.drew.env.tabs).mono ?_;rintro e w1 ⟨rfl,hb1⟩;simp only[hd])
     all_goals
      go_wp2
      go_ret2
      exact⟨rfl,(Below.refl _ _).drew.trans (by assumption)⟩
   have hn:¬(c:Int)=65533:=by omega
   clear hx hc1;go_enter Tryz.func172,Tryz.ntmps172;go_wp2
   go_region_with (go_at_call 227;refine(Tryz.utf8_DecodeRuneInString _ _ h.drew.env.tabs).mono ?_;rintro e w1 ⟨rfl,hb1⟩;simp only[hd])
   all_goals
    go_wp2
    go_ret2
    exact⟨rfl,(Below.refl _ _).drew.trans (by assumption)⟩
 have hp:bf s k=(-1,0):=by unfold bf;rw[if_neg hk]
 have hd:=yn s k hk;rw[hp];clear hp;go_enter Tryz.func172,Tryz.ntmps172;go_wp2
 go_region_with (go_at_call 227;refine(Tryz.utf8_DecodeRuneInString _ _ h.drew.env.tabs).mono ?_;rintro e w1 ⟨rfl,hb1⟩;simp only[hd])
 all_goals
  go_wp2
  go_ret2
  exact⟨rfl,(Below.refl _ _).drew.trans (by assumption)⟩
section
namespace Px
open Lx (Bs Tok)
inductive E where
 |null
 |bool (b:Bool)
 |num (z:Int)
 |str (s:Bs)
 |nm (s:Bs)
 |un (k:Nat) (e:E)
 |bin (k:Nat) (a b:E)
def E.nodes:E->List Nd
 |.null=>leaf 14 [] 0
 |.bool b=>leaf 15 [] (if b=true then 1 else 0)
 |.num z=>leaf 16 [] z
 |.str s=>leaf 17 s 0
 |.nm s=>leaf 18 s 0
 |.un k e=>aO k e.nodes
 |.bin k a b=>bI k a.nodes b.nodes
def E.depth:E->Nat
 |.un _ e=>e.depth+1
 |.bin _ a b=>max a.depth b.depth+1
 |_=>1
def E.size:E->Nat
 |.un _ e=>e.size+1
 |.bin _ a b=>a.size+b.size+1
 |_=>1
def E.isNum:E->Bool
 |.num _=>true
 |_=>false
def E.ok(n:Nat):E->Prop
 |.num z=> -9223372036854775808<=z/\z<=9223372036854775807
 |.str s=>s.length<=n
 |.nm s=>s.length<=30
 |.un k e=>19<=k/\k<=22/\(k=19->e.isNum=false)/\e.ok n
 |.bin k a b=>23<=k/\k<=36/\a.ok n/\b.ok n
 |_=>True
theorem E.yE(e:E):e.nodes.length=e.size:=by
 induction e with
 |un k e ih=>simp[E.nodes,E.size,aO,ih]
 |bin k a b iha ihb=>simp[E.nodes,E.size,bI,iha,ihb]
 |_=>simp[E.nodes,E.size,leaf]
theorem E.size_pos(e:E):1<=e.size:=by cases e<;>simp[E.size]
theorem E.nY(e:E):e.depth<=e.size:=by
 induction e with
 |un k e ih=>simp[E.depth,E.size];omega
 |bin k a b iha ihb=>simp[E.depth,E.size];omega
 |_=>simp[E.depth,E.size]
theorem E.tree(e:E)(h:e.ok n):Cc e.nodes e.depth:=by
 induction e with
 |un k e ih=>exact(ih h.2.2.2).aO _ (by have:=h.1;have:=h.2.1;simp[dX];omega)
 |bin k a b iha ihb=>exact(iha h.2.2.1).bI _ (by have:=h.1;have:=h.2.1;simp[dX];omega) (ihb h.2.2.2)
 |null=>exact Cc.leaf _ _ _ (by decide)
 |bool b=>exact Cc.leaf _ _ _ (by decide)
 |num b=>exact Cc.leaf _ _ _ (by decide)
 |str b=>exact Cc.leaf _ _ _ (by decide)
 |nm b=>exact Cc.leaf _ _ _ (by decide)
theorem sQ(p:Nat)(z:Int)(r:List Tok):negate p (E.num z).nodes r=if z=bot then some (.error (p,3))else some (.ok ((E.num (-z)).nodes,r)):=by
 simp only[E.nodes,leaf,negate];rw[if_neg (by decide)]
theorem Cv(p n:Nat)(e:E)(r:List Tok)(h:e.isNum=false)(ho:e.ok n):negate p e.nodes r=some (.ok ((E.un 19 e).nodes,r)):=by
 cases e with
 |num z=>simp[E.isNum]at h
 |un k e=>
  have:=ho.1;have:=ho.2.1;simp only[E.nodes,aO,negate];rw[if_pos (by omega)];rfl
 |bin k a b=>
  have:=ho.1;have:=ho.2.1;simp only[E.nodes,bI,negate];rw[if_pos (by omega)];rfl
 |_=>
  simp only[E.nodes,leaf,negate];rw[if_pos (by decide)];rfl
end Px
end
section
namespace Px
open Lx (Bs Tok)
abbrev Rg(α:Type):=List Tok->iq α->Prop
def mapR{α β:Type}(f:α->β):iq α->iq β
 |.error e=> .error e
 |.ok (a,q)=> .ok (f a,q)
def Rg.seq{α β:Type}(x:Rg α)(f:α->Rg β):Rg β:=fun ts r=>∃r1,x ts r1/\Then r1 f r
theorem Rg.err{α β:Type}{x:Rg α}{f:α->Rg β}{ts:List Tok}{e:Nat×Nat}(h:x ts (.error e)):Rg.seq x f ts (.error e):=⟨_,h,rfl⟩
theorem Rg.go{α β:Type}{x:Rg α}{f:α->Rg β}{ts q:List Tok}{a:α}{r:iq β}(h:x ts (.ok (a,q)))(h':f a q r):Rg.seq x f ts r:=⟨_,h,h'⟩
def Rg.ret{α:Type}(a:α):Rg α:=fun ts r=>r=.ok (a,ts)
def bG(sz:Nat)(s:Bs):Rg Unit:=fun ts r=>must sz s ts=some r
def nameR(sz:Nat):Rg Bs:=fun ts r=>name sz ts=some r
def zU(sz:Nat):Rg E:=fun ts r=>Ex sz 1 [] ts (mapR E.nodes r)/\∀e q,r=.ok (e,q)->e.ok 2000/\e.size+q.length<=ts.length
inductive Reach{α:Type}(x:Nat->Rg α)(ts:List Tok):List α->List Tok->Prop
 |first{a:α} {q:List Tok}:x 0 ts (.ok (a,q))->Reach x ts [a] q
 |step {l:List α} {q:List Tok} {a:α} {q':List Tok}:Reach x ts l q->sees iK q=true->x l.length q.tail (.ok (a,q'))->Reach x ts (l++[a]) q'
inductive Sep{α:Type}(x:Nat->Rg α)(ts:List Tok):iq (List α)->Prop
 |err0 {e:Nat×Nat}:x 0 ts (.error e)->Sep x ts (.error e)
 |err {l:List α} {q:List Tok} {e:Nat×Nat}:Reach x ts l q->sees iK q=true->x l.length q.tail (.error e)->Sep x ts (.error e)
 |stop {l:List α} {q:List Tok}:Reach x ts l q->sees iK q=false->Sep x ts (.ok (l,q))
def iV{β:Type}(item:Nat->β->List Tok->Out β)(n:Nat)(b:β)(q:List Tok):Out β:=if sees iK q=true then sep item n b q.tail else some (.ok (b,q))
theorem dN{β:Type}(item:Nat->β->List Tok->Out β)(n:Nat)(a:β)(ts:List Tok):sep item (n+1) a ts=obind (item n a ts) (iV item n):=rfl
theorem az{β:Type}{item:Nat->β->List Tok->Out β}(h:∀b ts,cO fun n=>item n b ts):∀b ts,cO fun n=>sep item n b ts:=by
 have key:∀n k b ts r,n<=k->sep item n b ts=some r->sep item k b ts=some r:=by
  intro n
  induction n with
  |zero=>intro k b ts r _ hh;cases hh
  |succ n ih=>
   intro k b ts r hk hh
   cases k with
   |zero=>omega
   |succ k=>
    rw[dN]at hh⊢;rcases tF hh with⟨e,h1,rfl⟩|⟨a,q,h1,h2⟩
    · rw[show item k b ts=_ from h b ts n k _ (by omega) h1];rfl
    rw[show item k b ts=_ from h b ts n k _ (by omega) h1];show iV item k a q=some r;unfold iV at h2⊢
    split at h2
    · rename_i c;rw[if_pos c];exact ih k _ _ _ (by omega) h2
    rename_i c;rw[if_neg c];exact h2
 intro b ts n k r hnk hh;exact key n k b ts r hnk hh
theorem qL{β:Type}{item:Nat->β->List Tok->Out β}(h:∀b ts,cO fun n=>item n b ts)(b:β)(q:List Tok):cO fun n=>iV item n b q:=by
 unfold iV;exact aR (az h _ _) (ag _)
def uh{α β:Type}(x:Nat->Rg α)(item:Nat->β->List Tok->Out β)(acc:List α->β):Prop:=
 ∀(l:List α) (ts:List Tok) (r:iq α),x l.length ts r->∃n,item n (acc l) ts=some (mapR (fun a=>acc (l++[a])) r)
theorem wL{α β:Type}{x:Nat->Rg α}{item:Nat->β->List Tok->Out β}{acc:List α->β}(hg:∀b ts,cO fun n=>item n b ts)(hm:uh x item acc){ts:List Tok}{l:List α}{q:List Tok}(h:Reach x ts l q):
   ∀r,(∃n,iV item n (acc l) q=some r)->∃n,sep item n (acc []) ts=some r:=by
 induction h with
 |first h1=>
  rename_i a q;rintro r ⟨n,hn⟩;obtain⟨k,hk⟩:=hm [] ts _ h1;refine⟨max n k+1,?_⟩;rw[dN,show item (max n k) (acc []) ts=_ from hg _ _ k _ _ (Nat.le_max_right _ _) hk];exact qL hg _ _ n _ _ (Nat.le_max_left _ _) hn
 |step h1 hs hx ih=>
  rename_i l q a q';rintro r ⟨n,hn⟩;obtain⟨k,hk⟩:=hm l _ _ hx;refine ih r ⟨max n k+1,?_⟩;unfold iV;rw[if_pos hs,dN,show item (max n k) (acc l) q.tail=_ from hg _ _ k _ _ (Nat.le_max_right _ _) hk];exact qL hg _ _ n _ _ (Nat.le_max_left _ _) hn
theorem jw{α β:Type}{x:Nat->Rg α}{item:Nat->β->List Tok->Out β}{acc:List α->β}(hg:∀b ts,cO fun n=>item n b ts)(hm:uh x item acc){ts:List Tok}{r:iq (List α)}(h:Sep x ts r):
   ∃n,sep item n (acc []) ts=some (mapR acc r):=by
 cases h with
 |err0 h1=>
  obtain⟨k,hk⟩:=hm [] ts _ h1;exact⟨k+1,by rw[dN,hk];rfl⟩
 |err h1 hs hx=>
  rename_i l q e;obtain⟨k,hk⟩:=hm l _ _ hx;refine wL hg hm h1 _ ⟨k+1,?_⟩;unfold iV;rw[if_pos hs,dN,hk];rfl
 |stop h1 hs=>
  refine wL hg hm h1 _ ⟨0,?_⟩;unfold iV;rw[if_neg (by simp[hs])]
  rfl
def aP{α:Type}(x:Rg α):Prop:=∀ts a q,x ts (.ok (a,q))->q.length<=ts.length
theorem Reach.len{α:Type}{x:Nat->Rg α}(hx:∀i,aP (x i)){ts:List Tok}{l:List α}{q:List Tok}(h:Reach x ts l q):q.length+l.length<=ts.length+1:=by
 induction h with
 |first h1=>have:=hx _ _ _ _ h1;simp;omega
 |step h1 hs h2 ih=>
  have:=hx _ _ _ _ h2;have:=aW hs;simp;omega
inductive St where
 |create (t:Bs) (cols:List (Bs×Nat))
 |drop (t:Bs)
 |insert (t:Bs) (rows:List (List E))
 |delete (t:Bs) (w:Option E)
 |update (t:Bs) (sets:List (Bs×E)) (w:Option E)
 |select (items:List (Option E)) (t:Bs) (w:Option E) (orders:List (E×Bool)) (lim:Option Nat)
def mJ(c:Bs×Nat):Nd:=⟨2,c.1,c.2,0⟩
def Gp(r:List E):List Nd:=⟨5,[],0,r.length⟩::r.flatMap E.nodes
def Bw(s:Bs×E):List Nd:=⟨8,s.1,0,1⟩::s.2.nodes
def itemN:Option E->List Nd
 |none=>[⟨10,[],0,0⟩]
 |some e=>e.nodes
def dH(o:E×Bool):List Nd:=⟨12,[],if o.2=true then 1 else 0,1⟩::o.1.nodes
def dO:Option E->List Nd
 |none=>[]
 |some e=>aO 11 e.nodes
def limN:Option Nat->List Nd
 |none=>[]
 |some n=>[⟨13,[],n,0⟩]
def one?{α:Type}:Option α->Nat
 |none=>0
 |some _=>1
def St.nodes:St->List Nd
 |.create t c=>⟨1,t,0,c.length⟩::c.map mJ
 |.drop t=>[⟨3,t,0,0⟩]
 |.insert t r=>⟨4,t,0,r.length⟩::r.flatMap Gp
 |.delete t w=>⟨6,t,0,one? w⟩::dO w
 |.update t s w=>⟨7,t,0,s.length+one? w⟩::(s.flatMap Bw++dO w)
 |.select i t w o l=>⟨9,t,0,i.length+one? w+o.length+one? l⟩::(i.flatMap itemN++dO w++o.flatMap dH++limN l)
def deepest:List E->Nat
 |[]=>0
 |e::l=>max e.depth (deepest l)
def St.exprs:St->List E
 |.create _ _=>[]
 |.drop _=>[]
 |.insert _ r=>r.flatten
 |.delete _ w=>w.toList
 |.update _ s w=>s.map (·.2)++w.toList
 |.select i _ w o _=>i.filterMap id++w.toList++o.map (·.1)
def fu(sz:Nat):Rg Nat:=fun ts r=>
 if sees kG ts=true then r=.ok (1,ts.tail)else if sees mI ts=true then r=.ok (2,ts.tail)else Rg.seq (bG sz iD) (fun _=>Rg.ret 3) ts r
def iX(sz:Nat)(n:Bs)(k:Nat):Rg (Bs×Nat):=fun ts r=>
 if sees jq ts=true then Rg.seq (bG sz aX) (fun _=>Rg.ret (n,k+4)) ts.tail r else r=.ok ((n,k),ts)
def jh(sz:Nat)(i:Nat):Rg (Bs×Nat):=fun ts r=>
 Rg.seq (nameR sz) (fun n q r=>if 6<=i then r=.error (plc sz ts,4)else Rg.seq (fu sz) (iX sz n) q r) ts r
def yG(sz:Nat):Rg St:=
 Rg.seq (bG sz kZ) fun _=>Rg.seq (nameR sz) fun t=>Rg.seq (bG sz mD) fun _=>Rg.seq (Sep (jh sz)) fun l=>Rg.seq (bG sz kE) fun _=>Rg.ret (.create t l)
def yL(sz:Nat):Rg (List E):=Rg.seq (bG sz mD) fun _=>Rg.seq (Sep fun _=>zU sz) fun l=>Rg.seq (bG sz kE) fun _=>Rg.ret l
def yl(sz:Nat):Rg St:=Rg.seq (bG sz DZ) fun _=>Rg.seq (nameR sz) fun t=>Rg.seq (bG sz rG) fun _=>Rg.seq (Sep fun _=>yL sz) fun l=>Rg.ret (.insert t l)
def eY(sz:Nat):Rg (Option E):=fun ts r=>if sees uy ts=true then Rg.seq (zU sz) (fun e=>Rg.ret (some e)) ts.tail r else r=.ok (none,ts)
def zg(sz:Nat):Rg (Bs×E):=Rg.seq (nameR sz) fun n=>Rg.seq (bG sz QX) fun _=>Rg.seq (zU sz) fun e=>Rg.ret (n,e)
def yo(sz:Nat):Rg St:=Rg.seq (nameR sz) fun t=>Rg.seq (bG sz KH) fun _=>Rg.seq (Sep fun _=>zg sz) fun l=>Rg.seq (eY sz) fun w=>Rg.ret (.update t l w)
def fO(sz:Nat):Rg (Option E):=fun ts r=>if sees JA ts=true then r=.ok (none,ts.tail)else Rg.seq (zU sz) (fun e=>Rg.ret (some e)) ts r
def iF(e:E):Rg (E×Bool):=fun ts r=>
 if sees Ab ts=true then r=.ok ((e,true),ts.tail)else if sees Ni ts=true then r=.ok ((e,false),ts.tail)else r=.ok ((e,false),ts)
def jf(sz:Nat):Rg (E×Bool):=Rg.seq (zU sz) iF
def bX(sz:Nat):Rg (List (E×Bool)):=fun ts r=>if sees qf ts=true then Rg.seq (bG sz NQ) (fun _=>Sep fun _=>jf sz) ts.tail r else r=.ok ([],ts)
def zy(sz:Nat):Rg (Option Nat):=fun ts r=>if sees jc ts=true then Rg.seq (fun ts r=>limit sz ts=some r) (fun n=>Rg.ret (some n)) ts.tail r else r=.ok (none,ts)
def zQ(sz:Nat):Rg St:=
 Rg.seq (Sep fun _=>fO sz) fun i=>Rg.seq (bG sz qC) fun _=>Rg.seq (nameR sz) fun t=>Rg.seq (eY sz) fun w=>Rg.seq (bX sz) fun o=>Rg.seq (zy sz) fun l=>Rg.ret (.select i t w o l)
def LZ(sz:Nat):Rg St:=Rg.seq (bG sz kZ) fun _=>Rg.seq (nameR sz) fun t=>Rg.ret (.drop t)
def yu(sz:Nat):Rg St:=Rg.seq (bG sz qC) fun _=>Rg.seq (nameR sz) fun t=>Rg.seq (eY sz) fun w=>Rg.ret (.delete t w)
def cZ(sz:Nat):Rg St:=fun ts r=>
 if sees eP ts=true then yG sz ts.tail r else if sees kz ts=true then LZ sz ts.tail r else if sees gz ts=true then yl sz ts.tail r
 else if sees gP ts=true then yu sz ts.tail r else if sees iP ts=true then yo sz ts.tail r
 else Rg.seq (bG sz jK) (fun _=>zQ sz) ts r
def ParseR(s:Bs)(r:Except (Nat×Nat) St):Prop:=
 match Lx.lex s with
 |.error e=>r=.error e
 |.ok ts=>∃q,cZ s.length ts q/\match q with
  |.error e=>r=.error e
  |.ok (a,u)=>if u=[]then r=(if 40<deepest a.exprs then .error (0,6)else .ok a)else r=.error (plc s.length u,4)
end Px
end
section
namespace Px
open Lx (Bs Tok)
def All{α:Type}(x:Rg α)(P:α->Prop):Prop:=∀ts a q,x ts (.ok (a,q))->P a
theorem seq_ok{α β:Type}{x:Rg α}{f:α->Rg β}{ts:List Tok}{r:iq β}(h:Rg.seq x f ts r):(∃e,x ts (.error e)/\r=.error e)\/∃a q,x ts (.ok (a,q))/\f a q r:=by
 obtain⟨r1,h1,h2⟩:=h
 match r1,h1,h2 with
 |.error e,h1,h2=>exact .inl ⟨e,h1,h2⟩
 |.ok (a,q),h1,h2=>exact .inr ⟨a,q,h1,h2⟩
theorem All.seq{α β:Type}{x:Rg α}{f:α->Rg β}{P:α->Prop}{Q:β->Prop}(hx:All x P)(hf:∀a,P a->All (f a) Q):All (Rg.seq x f) Q:=by
 intro ts b q h;rcases seq_ok h with⟨e,_,h2⟩|⟨a,q1,h1,h2⟩
 · cases h2
 exact hf a (hx _ _ _ h1) _ _ _ h2
theorem All.ret{α:Type}{a:α}{P:α->Prop}(h:P a):All (Rg.ret a) P:=by
 intro ts b q hb
 cases hb;exact h
theorem All.any{α:Type}(x:Rg α):All x fun _=>True:=fun _ _ _ _=>trivial
theorem All.reach{α:Type}{x:Nat->Rg α}{P:α->Prop}(hx:∀i,All (x i) P){ts:List Tok}{l:List α}{q:List Tok}(h:Reach x ts l q):∀a∈l,P a:=by
 induction h with
 |first h1=>intro a ha;simp at ha;subst ha;exact hx _ _ _ _ h1
 |step h1 hs h2 ih=>
  intro a ha;rcases List.mem_append.1 ha with ha|ha
  · exact ih a ha
  simp at ha;subst ha;exact hx _ _ _ _ h2
theorem All.sep{α:Type}{x:Nat->Rg α}{P:α->Prop}(hx:∀i,All (x i) P):All (Sep x) fun l=>∀a∈l,P a:=by
 intro ts l q h
 cases h with
 |stop h1 _=>exact All.reach hx h1
theorem fA(sz:Nat)(s:Bs):aP (bG sz s):=by
 intro ts a q h;rcases aK h with⟨h1,h2⟩|⟨h1,h2⟩
 · cases h2;have:=aW h1;omega
 cases h2
theorem oh(sz:Nat):aP (nameR sz):=by
 intro ts a q h;unfold nameR at h
 cases ts with
 |nil=>simp[name]at h
 |cons t r=>
  simp only[name]at h
  split at h
  · cases h
  split at h
  · cases h
  cases h;simp
theorem fV(sz:Nat):aP (zU sz):=by
 intro ts a q h;have:=(h.2 _ _ rfl).2;have:=a.size_pos;omega
theorem aP.seq{α β:Type}{x:Rg α}{f:α->Rg β}(hx:aP x)(hf:∀a,aP (f a)):aP (Rg.seq x f):=by
 intro ts b q h;rcases seq_ok h with⟨e,_,h2⟩|⟨a,q1,h1,h2⟩
 · cases h2
 exact Nat.le_trans (hf a _ _ _ h2) (hx _ _ _ h1)
theorem aP.ret{α:Type}(a:α):aP (Rg.ret a):=by intro ts b q h;cases h;exact nlr _
theorem aP.sep{α:Type}{x:Nat->Rg α}(hx:∀i,aP (x i)):aP (Sep x):=by
 intro ts l q h
 cases h with
 |stop h1 _=>
  have:=h1.len hx
  have:1<=l.length:=by cases h1<;>simp
  omega
theorem gM(ts:List Tok):ts.tail.length<=ts.length:=by cases ts<;>simp
theorem yD(sz:Nat):aP (fu sz):=by
 intro ts a q h;unfold fu at h
 split at h
 · cases h;exact gM _
 split at h
 · cases h;exact gM _
 exact(fA sz _).seq (fun _=>aP.ret _) _ _ _ h
theorem xU(sz:Nat)(n:Bs)(k:Nat):aP (iX sz n k):=by
 intro ts a q h;unfold iX at h
 split at h
 · exact Nat.le_trans ((fA sz _).seq (fun _=>aP.ret _) _ _ _ h) (gM _)
 cases h;exact nlr _
theorem qF(sz i:Nat):aP (jh sz i):=by
 intro ts a q h;unfold jh at h;rcases seq_ok h with⟨e,_,h2⟩|⟨a,q1,h1,h2⟩
 · cases h2
 have:=oh sz _ _ _ h1
 split at h2
 · cases h2
 exact Nat.le_trans ((yD sz).seq (xU sz _) _ _ _ h2) this
theorem qP(sz:Nat):aP (yL sz):=(fA sz _).seq fun _=>(aP.sep fun _=>fV sz).seq fun _=>(fA sz _).seq fun _=>aP.ret _
theorem qK(sz:Nat):aP (zg sz):=(oh sz).seq fun _=>(fA sz _).seq fun _=>(fV sz).seq fun _=>aP.ret _
theorem oO(sz:Nat):aP (fO sz):=by
 intro ts a q h;unfold fO at h
 split at h
 · cases h;exact gM _
 exact(fV sz).seq (fun _=>aP.ret _) _ _ _ h
theorem mE(sz:Nat):aP (jf sz):=(fV sz).seq fun e=>by
 intro ts a q h;unfold iF at h
 split at h
 · cases h;exact gM _
 split at h
 · cases h;exact gM _
 cases h;exact nlr _
theorem ay{α β α' β':Type}{x:Rg α}{f:α->Rg β}{X:Nat->Out α'}{F:Nat->α'->List Tok->Out β'}{g:α->α'}{h:β->β'}{ts:List Tok}{r:iq β}
   (hs:Rg.seq x f ts r) (h1:∀r1,x ts r1->∃n,X n=some (mapR g r1)) (h2:∀a q,x ts (.ok (a,q))->f a q r->∃n,F n (g a) q=some (mapR h r)) (hX:cO X) (hF:∀a q,cO fun n=>F n a q):∃n,obind (X n) (F n)=some (mapR h r):=by
 rcases seq_ok hs with⟨e,ha,rfl⟩|⟨a,q,ha,hb⟩
 · obtain⟨n,hn⟩:=h1 _ ha;exact⟨n,by rw[hn];rfl⟩
 obtain⟨n,hn⟩:=h1 _ ha;obtain⟨k,hk⟩:=h2 a q ha hb;refine⟨max n k,?_⟩;rw[show X (max n k)=_ from hX n _ _ (Nat.le_max_left _ _) hn];exact hF _ _ k _ _ (Nat.le_max_right _ _) hk
theorem yc{α:Type}(r:iq α):mapR id r=r:=by
 match r with
 |.error _=>rfl
 |.ok (_,_)=>rfl
theorem bD{s:Bs}{ts:List Tok}:∀r1,bG sz s ts r1->∃_:Nat,must sz s ts=some (mapR id r1):=fun _ h=>⟨0,by rw[yc];exact h⟩
theorem eT{ts:List Tok}:∀r1,nameR sz ts r1->∃_:Nat,name sz ts=some (mapR id r1):=fun _ h=>⟨0,by rw[yc];exact h⟩
theorem om{ts:List Tok}:∀r1,zU sz ts r1->∃n:Nat,ex sz n 1 [] ts=some (mapR E.nodes r1):=fun _ h=>h.1
theorem dD(sz:Nat):∀b ts,cO fun n=>item sz n b ts:=fun b ts=>aI (bB sz 1 [] ts) fun _ _=>ag _
def nu{α:Type}(g:α->List Nd)(l:List α):List Nd×Nat:=(l.flatMap g,l.length)
theorem eZ{α:Type}(g:α->List Nd)(l:List α)(a:α):nu g (l++[a])=((nu g l).1++g a,(nu g l).2+1):=by simp[nu]
theorem Dp(sz:Nat):uh (fun _=>zU sz) (item sz) (nu E.nodes):=by
 intro l ts r h;obtain⟨n,hn⟩:=h.1;refine⟨n,?_⟩;unfold item;rw[hn]
 match r with
 |.error e=>rfl
 |.ok (e,q)=>simp only[mapR,obind,eZ]
theorem gV(sz:Nat):∀b ts,cO fun n=>row sz n b ts:=fun b ts=>aI (ag _) fun _ _=>aI (az (dD sz) _ _) fun _ _=>aI (ag _) fun _ _=>ag _
theorem EK(sz:Nat):uh (fun _=>yL sz) (row sz) (nu Gp):=by
 intro l ts r h;unfold row;refine ay h bD (fun _ q _ h=> ?_) ?_ (fun _ _=> ?_);refine ay h (fun _ h1=>jw (dD sz) (Dp sz) h1) (fun m q _ h=> ?_) ?_ (fun _ _=> ?_);refine ay h bD (fun _ q _ h=> ?_) ?_ (fun _ _=> ?_);refine⟨0,?_⟩
 cases h
 simp only[mapR,eZ]
 rfl
 all_goals repeat' (first|exact ag _|exact bB _ _ _ _|exact az (dD _) _ _|refine aI ?_ (fun _ _=> ?_)|refine aR ?_ ?_)
theorem fe(sz:Nat)(ts:List Tok):cO fun n=>eU sz n ts:=aR (aI (bB sz 1 [] _) fun _ _=>ag _) (ag _)
theorem lh{ts:List Tok}:∀r,eY sz ts r->∃n,eU sz n ts=some (mapR (fun w=>(dO w,one? w)) r):=by
 intro r h;unfold eY at h;unfold eU
 split at h
 · rename_i c;simp only[if_pos c];refine ay h om (fun e q _ h=> ?_) ?_ (fun _ _=> ?_)
   cases h
   exact⟨0,rfl⟩
   all_goals repeat' (first|exact ag _|exact bB _ _ _ _|exact az (dD _) _ _|refine aI ?_ (fun _ _=> ?_)|refine aR ?_ ?_)
 rename_i c;simp only[if_neg c]
 cases h
 exact⟨0,rfl⟩
theorem dS(sz:Nat):∀b ts,cO fun n=>zi sz n b ts:=fun b ts=>aI (ag _) fun _ _=>aI (ag _) fun _ _=>aI (bB sz 1 [] _) fun _ _=>ag _
theorem yB(sz:Nat):uh (fun _=>zg sz) (zi sz) (nu Bw):=by
 intro l ts r h;unfold zi;refine ay h eT (fun n q _ h=> ?_) ?_ (fun _ _=> ?_);refine ay h bD (fun _ q _ h=> ?_) ?_ (fun _ _=> ?_);refine ay h om (fun e q _ h=> ?_) ?_ (fun _ _=> ?_);refine⟨0,?_⟩
 cases h
 simp only[mapR,eZ]
 rfl
 all_goals repeat' (first|exact ag _|exact bB _ _ _ _|refine aI ?_ (fun _ _=> ?_)|refine aR ?_ ?_)
theorem eX(sz:Nat):∀b ts,cO fun n=>pick sz n b ts:=fun b ts=>aR (ag _) (dD sz b ts)
theorem DF(sz:Nat):uh (fun _=>fO sz) (pick sz) (nu itemN):=by
 intro l ts r h;unfold fO at h;unfold pick
 split at h
 · rename_i c;simp only[if_pos c];refine⟨0,?_⟩
   cases h
   simp only[mapR,eZ]
   rfl
 rename_i c;simp only[if_neg c];unfold item;refine ay h om (fun e q _ h=> ?_) ?_ (fun _ _=> ?_);refine⟨0,?_⟩
 cases h
 simp only[mapR,eZ]
 rfl
 all_goals repeat' (first|exact ag _|exact bB _ _ _ _|refine aI ?_ (fun _ _=> ?_)|refine aR ?_ ?_)
theorem jm{s t:Bs}{ts:List Tok}(h:sees s ts=true)(hne:s≠t):sees t ts=false:=by
 obtain⟨x,r,rfl⟩:=pR h;simp only[sees,Bool.and_eq_true,beq_iff_eq]at h;simp only[sees,Bool.and_eq_false_iff,beq_eq_false_iff_ne];exact .inr (by rw[h.2];exact hne)
theorem dL(sz:Nat):∀b ts,cO fun n=>order sz n b ts:=fun b ts=>aI (bB sz 1 [] _) fun _ _=>ag _
theorem yR{ts:List Tok}{r:iq St}(h:yl sz ts r):∃n,insert sz n ts=some (mapR St.nodes r):=by
 unfold insert;refine ay h bD (fun _ q _ h=> ?_) ?_ (fun _ _=> ?_);refine ay h eT (fun t q _ h=> ?_) ?_ (fun _ _=> ?_);refine ay h bD (fun _ q _ h=> ?_) ?_ (fun _ _=> ?_);refine ay h (fun _ h1=>jw (gV sz) (EK sz) h1) (fun m q _ h=> ?_) ?_ (fun _ _=> ?_)
 cases h
 exact⟨0,rfl⟩
 all_goals repeat' (first|exact ag _|exact bB _ _ _ _|exact fe _ _|exact az (dD _) _ _|exact az (gV _) _ _|exact az (dS _) _ _|exact az (eX _) _ _|exact az (dL _) _ _|refine aI ?_ (fun _ _=> ?_)|refine aR ?_ ?_)
theorem zR{ts:List Tok}{r:iq St}(h:yo sz ts r):∃n,update sz n ts=some (mapR St.nodes r):=by
 unfold update;refine ay h eT (fun t q _ h=> ?_) ?_ (fun _ _=> ?_);refine ay h bD (fun _ q _ h=> ?_) ?_ (fun _ _=> ?_);refine ay h (fun _ h1=>jw (dS sz) (yB sz) h1) (fun m q _ h=> ?_) ?_ (fun _ _=> ?_);refine ay h lh (fun w q _ h=> ?_) ?_ (fun _ _=> ?_)
 cases h
 exact⟨0,rfl⟩
 all_goals repeat' (first|exact ag _|exact bB _ _ _ _|exact fe _ _|exact az (dD _) _ _|exact az (gV _) _ _|exact az (dS _) _ _|exact az (eX _) _ _|exact az (dL _) _ _|refine aI ?_ (fun _ _=> ?_)|refine aR ?_ ?_)
theorem x9{ts:List Tok}{r:iq St}(h:yu sz ts r):∃n,delete sz n ts=some (mapR St.nodes r):=by
 unfold delete;refine ay h bD (fun _ q _ h=> ?_) ?_ (fun _ _=> ?_);refine ay h eT (fun t q _ h=> ?_) ?_ (fun _ _=> ?_);refine ay h lh (fun w q _ h=> ?_) ?_ (fun _ _=> ?_)
 cases h
 exact⟨0,rfl⟩
 all_goals repeat' (first|exact ag _|exact bB _ _ _ _|exact fe _ _|exact az (dD _) _ _|exact az (gV _) _ _|exact az (dS _) _ _|exact az (eX _) _ _|exact az (dL _) _ _|refine aI ?_ (fun _ _=> ?_)|refine aR ?_ ?_)
theorem Dc{ts:List Tok}{r:iq St}(h:LZ sz ts r):∃_:Nat,drop sz ts=some (mapR St.nodes r):=by
 unfold drop;refine ay h bD (fun _ q _ h=> ?_) ?_ (fun _ _=> ?_);refine ay h eT (fun t q _ h=> ?_) ?_ (fun _ _=> ?_)
 cases h
 exact⟨0,rfl⟩
 all_goals repeat' (first|exact ag _|exact bB _ _ _ _|exact fe _ _|exact az (dD _) _ _|exact az (gV _) _ _|exact az (dS _) _ _|exact az (eX _) _ _|exact az (dL _) _ _|refine aI ?_ (fun _ _=> ?_)|refine aR ?_ ?_)
end Px
end
section
namespace Px
open Lx (Bs Tok)
theorem oz(sz:Nat)(x:List Nd×Nat)(ts:List Tok):cO fun n=>orders sz n x ts:=aR (aI (ag _) fun _ _=>az (dL sz) _ _) (ag _)
theorem uG(sz:Nat)(x:List Nd×Nat):uh (fun _=>jf sz) (order sz) (fun l=>(x.1++(nu dH l).1,x.2+(nu dH l).2)):=by
 intro l ts r h;unfold order;refine ay h om (fun e q _ h=> ?_) (bB _ _ _ _) (fun _ _=>ag _);refine⟨0,?_⟩;unfold iF at h
 split at h
 · rename_i c;rw[if_neg (by rw[jm c (by decide)];decide),if_pos c]
   cases h
   simp only[mapR,eZ,laa,Nat.add_assoc]
   rfl
 rename_i c
 split at h
 · rename_i c2;rw[if_pos c2]
   cases h
   simp only[mapR,eZ,laa,Nat.add_assoc]
   rfl
 rename_i c2;rw[if_neg c2,if_neg c]
 cases h
 simp only[mapR,eZ,laa,Nat.add_assoc]
 rfl
theorem zo{x:List Nd×Nat}{ts:List Tok}:∀r,bX sz ts r->∃n,orders sz n x ts=some (mapR (fun l=>(x.1++(nu dH l).1,x.2+(nu dH l).2)) r):=by
 intro r h;unfold bX at h;unfold orders
 split at h
 · rename_i c;simp only[if_pos c];refine ay h bD (fun _ q _ h=> ?_) (ag _) (fun _ _=>az (dL sz) _ _);have:=jw (dL sz) (uG sz x) h;simpa[nu]using this
 rename_i c;simp only[if_neg c]
 cases h
 exact⟨0,by simp[mapR,nu]⟩
theorem xP{x:List Nd×Nat}{ts:List Tok}:∀r,zy sz ts r->∃_:Nat,limits sz x ts=some (mapR (fun l=>(x.1++limN l,x.2+one? l)) r):=by
 intro r h;unfold zy at h;unfold limits
 split at h
 · rename_i c;simp only[if_pos c];refine ay (g:=id) h (fun r1 h1=>⟨0,by rw[yc];exact h1⟩) (fun _ q _ h=> ?_) (ag _) (fun _ _=>ag _)
   cases h
   exact⟨0,rfl⟩
 rename_i c;simp only[if_neg c]
 cases h
 exact⟨0,by simp[mapR,limN,one?]⟩
theorem zL{ts:List Tok}{r:iq St}(h:zQ sz ts r):∃n,choose sz n ts=some (mapR St.nodes r):=by
 unfold choose;refine ay h (fun _ h1=>jw (eX sz) (DF sz) h1) (fun i q _ h=> ?_) ?_ (fun _ _=> ?_);refine ay h bD (fun _ q _ h=> ?_) ?_ (fun _ _=> ?_);refine ay h eT (fun t q _ h=> ?_) ?_ (fun _ _=> ?_);refine ay h lh (fun w q _ h=> ?_) ?_ (fun _ _=> ?_);refine ay h zo (fun o q _ h=> ?_) ?_ (fun _ _=> ?_);refine ay h xP (fun l q _ h=> ?_) ?_ (fun _ _=> ?_)
 · refine⟨0,?_⟩
   cases h
   simp only[mapR,nu,St.nodes,id,Option.some.injEq,Except.ok.injEq,Prod.mk.injEq,List.cons.injEq,Nd.mk.injEq,true_and,and_true];omega
 all_goals repeat' (first|exact ag _|exact fe _ _|exact oz _ _ _|exact az (eX _) _ _|refine aI ?_ (fun _ _=> ?_))
theorem tO{q:List Tok}{r:iq Nat}(h:fu sz q r):Eh sz q=some (mapR (fun k:Nat=>(k:Int)) r)\/∃q1,r=.ok (1,q1)/\sees mI q1=true/\Eh sz q=some (.error (plc sz q1,4)):=by
 unfold fu at h;unfold Eh
 split at h
 · rename_i c;rw[if_pos c];subst h;by_cases ht:sees mI q.tail=true
   · right;exact⟨_,rfl,ht,by rw[if_pos ht]⟩
   left;rw[if_neg ht];rfl
 rename_i c;rw[if_neg c]
 left
 split at h
 · rename_i c2;rw[if_pos c2,h];rfl
 rename_i c2;rw[if_neg c2];rcases seq_ok h with⟨e,h1,rfl⟩|⟨a,q1,h1,h2⟩
 · rw[show must sz iD q=_ from h1];rfl
 rw[show must sz iD q=_ from h1]
 cases h2;rfl
theorem lQ(sz:Nat){l:List (Bs×Nat)}{ts:List Tok}{r:iq (Bs×Nat)}(hl:l.length<=6)(h:jh sz l.length ts r):
   Aq sz (l.map mJ) ts=some (mapR (fun a=>(l++[a]).map mJ) r)\/∃a q,r=.ok (a,q)/\sees mI q=true/\Aq sz (l.map mJ) ts=some (.error (plc sz q,4)):=by
 unfold jh at h;unfold Aq;rcases seq_ok h with⟨e,h1,rfl⟩|⟨n,q,h1,h2⟩
 · left
   rw[show name sz ts=_ from h1];rfl
 rw[show name sz ts=_ from h1];simp only[obind,List.length_map]
 split at h2
 · rename_i c;subst h2
   left;rw[if_pos (by omega)];rfl
 rename_i c;rw[if_neg (by omega)];rcases seq_ok h2 with⟨e,h3,rfl⟩|⟨k,q1,h3,h4⟩
 · rcases tO h3 with h5|⟨_,h5,_⟩
   · left;rw[h5];rfl
   cases h5
 rcases tO h3 with h5|⟨q2,h5,h6,h7⟩
 · left
   rw[h5];simp only[mapR];unfold iX at h4
   split at h4
   · rename_i c2;rw[if_pos c2];rcases seq_ok h4 with⟨e,h8,rfl⟩|⟨_,q3,h8,h9⟩
     · rw[show must sz aX q1.tail=_ from h8]
     rw[show must sz aX q1.tail=_ from h8]
     cases h9
     simp[mapR,mJ]
   rename_i c2;rw[if_neg c2];subst h4;simp[mapR,mJ]
 right
 cases h5
 have hn:=jm h6 (t:=jq) (by decide);unfold iX at h4;rw[if_neg (by simp[hn])]at h4;exact⟨_,_,h4,h6,by rw[h7]⟩
theorem wB(sz:Nat):∀(b:List Nd) ts,cO fun n=>(fun(_:Nat) l q=>Aq sz l q) n b ts:=fun _ _=>ag _
theorem wK{ts:List Tok}{l:List (Bs×Nat)}{q:List Tok}(h:Reach (jh sz) ts l q):
   l.length<=6/\((∀r,(∃n,iV (fun _ l q=>Aq sz l q) n (l.map mJ) q=some r)->∃n,sep (fun _ l q=>Aq sz l q) n [] ts=some r)\/(sees mI q=true/\∃n,sep (fun _ l q=>Aq sz l q) n [] ts=some (.error (plc sz q,4)))):=by
 have six:∀{i:Nat} {ts:List Tok} {a:Bs×Nat} {q:List Tok},jh sz i ts (.ok (a,q))->i<6:=by
  intro i ts a q h;unfold jh at h;rcases seq_ok h with⟨e,h1,h2⟩|⟨n,q,h1,h2⟩
  · cases h2
  split at h2
  · cases h2
  omega
 induction h with
 |first h1=>
  rename_i a q;refine⟨by simp,?_⟩;rcases lQ sz (l:=[]) (by simp) h1 with h2|⟨a',q',h3,h4,h5⟩
  · left
    rintro r ⟨n,hn⟩;refine⟨n+1,?_⟩;rw[dN];rw[show Aq sz [] ts=_ from h2];exact hn
  right
  cases h3
  exact⟨h4,1,by rw[dN,show Aq sz [] ts=_ from h5];rfl⟩
 |step h1 hs hx ih=>
  rename_i l q a q';obtain⟨i1,i2⟩:=ih;have:=six hx;refine⟨by simp;omega,?_⟩;rcases i2 with i2|⟨i2,_⟩
  · rcases lQ sz i1 hx with h2|⟨a',q2,h3,h4,h5⟩
    · left
      rintro r ⟨n,hn⟩;refine i2 r ⟨n+1,?_⟩;unfold iV;rw[if_pos hs,dN,h2];exact hn
    right
    cases h3
    refine⟨h4,i2 _ ⟨1,?_⟩⟩;unfold iV;rw[if_pos hs,dN,h5];rfl
  exfalso
  rw[jm i2 (by decide)]at hs
  cases hs
theorem yx{ts:List Tok}{r:iq St}(h:yG sz ts r):∃n,create sz n ts=some (mapR St.nodes r):=by
 unfold create;refine ay h bD (fun _ q _ h=> ?_) (ag _) (fun _ _=> ?_);refine ay h eT (fun t q _ h=> ?_) (ag _) (fun _ _=> ?_);refine ay h bD (fun _ q _ h=> ?_) (ag _) (fun _ _=> ?_)
 · rcases seq_ok h with⟨e,h1,rfl⟩|⟨l,q1,h1,h2⟩
   · have key:∃n,sep (fun _ l q=>Aq sz l q) n [] q=some (.error e):=by
      cases h1 with
      |err0 h3=>
       rcases lQ sz (l:=[]) (by simp) h3 with h4|⟨_,_,h4,_⟩
       · exact⟨1,by rw[dN,show Aq sz [] q=_ from h4];rfl⟩
       cases h4
      |err h3 hs h4=>
       rename_i l q2;obtain⟨i1,i2⟩:=wK h3;rcases i2 with i2|⟨i2,_⟩
       · rcases lQ sz i1 h4 with h5|⟨_,_,h5,_⟩
         · refine i2 _ ⟨1,?_⟩;unfold iV;rw[if_pos hs,dN,h5];rfl
         cases h5
       exfalso
       rw[jm i2 (by decide)]at hs
       cases hs
     obtain⟨n,hn⟩:=key;exact⟨n,by rw[hn];rfl⟩
   cases h1 with
   |stop h3 hs=>
    obtain⟨i1,i2⟩:=wK h3;rcases i2 with i2|⟨i2,n,hn⟩
    · obtain⟨n,hn⟩:=i2 (.ok (l.map mJ,q1)) ⟨0,by unfold iV;rw[if_neg (by simp[hs])]⟩;refine⟨n,?_⟩;rw[hn];simp only[obind];rcases seq_ok h2 with⟨e,h4,rfl⟩|⟨_,q3,h4,h5⟩
      · rw[show must sz kE q1=_ from h4];rfl
      rw[show must sz kE q1=_ from h4]
      cases h5
      simp[mapR,St.nodes]
    refine⟨n,?_⟩;rw[hn];simp only[obind];rcases seq_ok h2 with⟨e,h4,rfl⟩|⟨_,q3,h4,h5⟩
    · rcases aK h4 with⟨h6,_⟩|⟨_,h6⟩
      · rw[jm i2 (by decide)]at h6;cases h6
      cases h6;rfl
    rcases aK h4 with⟨h6,_⟩|⟨_,h6⟩
    · rw[jm i2 (by decide)]at h6;cases h6
    cases h6
 all_goals repeat' (first|exact ag _|exact az (wB sz) _ _|refine aI ?_ (fun _ _=> ?_))
def nZ(t:Tok):Prop:=t.kind=51->Lx.hasB Lx.keys t.text=false
theorem Ao{s:Bs}{t:Tok}{r:List Tok}(hk:Lx.hasB Lx.keys s=true)(ht:nZ t):(sees s (t::r)=true)↔(t.kind=50/\t.text=s):=by
 simp only[sees,Bool.and_eq_true,Bool.or_eq_true,decide_eq_true_eq,beq_iff_eq]
 constructor
 · rintro⟨h|h,h2⟩
   · exact⟨h,h2⟩
   have:=ht h;rw[h2,hk]at this
   cases this
 rintro⟨h1,h2⟩;exact⟨.inl h1,h2⟩
theorem Cn{ts:List Tok}{r:iq St}(ht:∀t∈ts,nZ t)(h:cZ sz ts r):∃n,stmt sz n ts=some (mapR St.nodes r):=by
 unfold cZ at h
 cases ts with
 |nil=>
  simp only[sees,Bool.false_eq_true,if_false]at h;rcases seq_ok h with⟨e,h1,rfl⟩|⟨_,q3,h1,h5⟩
  · exact⟨0,by rcases aK h1 with⟨h6,_⟩|⟨_,h6⟩
               · cases h6
               cases h6;rfl⟩
  rcases aK h1 with⟨h6,_⟩|⟨_,h6⟩
  · cases h6
  cases h6
 |cons t q=>
  have hs:=ht t (by simp)
  have K:∀s,Lx.hasB Lx.keys s=true->((sees s (t::q)=true)↔(t.kind=50/\t.text=s)):=fun s hk=>Ao hk hs
  simp only[K eP (by decide),K kz (by decide),K gz (by decide),K gP (by decide),K iP (by decide),List.tail_cons]at h;by_cases h50:t.kind=50
  · simp only[h50,true_and]at h;unfold stmt;simp only[h50,ne_eq,not_true_eq_false,if_false]
    split at h
    · rename_i c;simp only[if_pos c];exact yx h
    rename_i c;simp only[if_neg c]
    split at h
    · rename_i c;simp only[if_pos c];exact Dc h
    rename_i c;simp only[if_neg c]
    split at h
    · rename_i c;simp only[if_pos c];exact yR h
    rename_i c;simp only[if_neg c]
    split at h
    · rename_i c;simp only[if_pos c];exact x9 h
    rename_i c;simp only[if_neg c]
    split at h
    · rename_i c;simp only[if_pos c];exact zR h
    rename_i c;simp only[if_neg c];rcases seq_ok h with⟨e,h1,rfl⟩|⟨_,q3,h1,h5⟩
    · rcases aK h1 with⟨_,h6⟩|⟨h6,h7⟩
      · cases h6
      cases h7
      refine⟨0,?_⟩
      rw[if_neg (fun e=>by
       have:=(K jK (by decide)).2 ⟨h50,e⟩
       rw[h6]at this;cases this)]
      rfl
    rcases aK h1 with⟨h6,h7⟩|⟨_,h6⟩
    · cases h7
      simp only[if_pos ((K jK (by decide)).1 h6).2];exact zL h5
    cases h6
  simp only[h50,false_and,if_false]at h;unfold stmt;simp only[h50,ne_eq,not_false_eq_true,if_true];rcases seq_ok h with⟨e,h1,rfl⟩|⟨_,q3,h1,h5⟩
  · rcases aK h1 with⟨_,h6⟩|⟨h6,h7⟩
    · cases h6
    cases h7;exact⟨0,rfl⟩
  rcases aK h1 with⟨h6,h7⟩|⟨_,h6⟩
  · exact absurd ((K jK (by decide)).1 h6).1 h50
  cases h6
end Px
end
section
namespace Px
open Lx (Bs Tok)
theorem fJ(a b:List E):deepest (a++b)=max (deepest a) (deepest b):=by
 induction a with
 |nil=>simp[deepest]
 |cons e a ih=>simp[deepest,ih,Nat.max_assoc]
theorem fM.exprs:∀(l:List E),(∀e∈l,e.ok 2000)->fM (l.flatMap E.nodes) (deepest l)
 |[],_=>fM.nil
 |e::l,h=>by
  rw[List.flatMap_cons];exact(fM.tree (e.tree (h e (by simp)))).append (fM.exprs l (fun x hx=>h x (by simp[hx])))
theorem fM.flat{α:Type}(g:α->List Nd)(ex:α->List E)(h:∀a,(∀e∈ex a,e.ok 2000)->fM (g a) (deepest (ex a))):∀(l:List α),(∀e∈l.flatMap ex,e.ok 2000)->fM (l.flatMap g) (deepest (l.flatMap ex))
 |[],_=>fM.nil
 |a::l,hl=>by
  rw[List.flatMap_cons,List.flatMap_cons,fJ]
  exact(h a (fun e he=>hl e (by simp[he]))).append (fM.flat g ex h l (fun e he=>hl e (by
   rw[List.flatMap_cons];exact List.mem_append.2 (.inr he))))
theorem fM.eU(w:Option E)(h:∀e∈w.toList,e.ok 2000):fM (dO w) (deepest w.toList):=by
 cases w with
 |none=>exact fM.nil
 |some e=>
  have:=fM.cons (x:=⟨11,[],0,1⟩) (by decide) (fM.tree (e.tree (h e (by simp))));simpa[deepest,dO,aO]using this
theorem kU{α β:Type}(f:α->β)(l:List α):l.flatMap (fun x=>[f x])=l.map f:=by
 induction l with
 |nil=>rfl
 |cons a l ih=>rw[List.flatMap_cons,ih];rfl
theorem xc{α β:Type}(l:List α):l.flatMap (fun _=>([]:List β))=[]:=by
 induction l with
 |nil=>rfl
 |cons a l ih=>rw[List.flatMap_cons,ih];rfl
theorem BZ(i:List (Option E)):i.filterMap id=i.flatMap Option.toList:=by
 induction i with
 |nil=>rfl
 |cons a i ih=>cases a<;>simp[ih]
theorem St.Q5(s:St)(h:∀e∈s.exprs,e.ok 2000):fM s.nodes (deepest s.exprs):=by
 cases s with
 |create t c=>
  refine fM.cons (by decide:dX (1:Int)=false) ?_;have:=fM.flat (fun x=>[mJ x]) (fun _=>[]) (fun a _=>fM.plain _ rfl) c (by rw[xc];intro e he;cases he);rw[kU,xc]at this;exact this
 |drop t=>exact fM.plain _ rfl
 |insert t r=>
  refine fM.cons (by decide:dX (4:Int)=false) ?_;have:=fM.flat Gp id (fun a ha=>fM.cons (by decide:dX (5:Int)=false) (fM.exprs a ha)) r (by simpa[St.exprs]using h);simpa[St.exprs]using this
 |delete t w=>exact fM.cons (by decide:dX (6:Int)=false) (fM.eU w h)
 |update t s w=>
  refine fM.cons (by decide:dX (7:Int)=false) ?_
  have h1:=fM.flat Bw (fun x=>[x.2]) (fun a ha=>by
   have:=fM.cons (x:=⟨8,a.1,0,1⟩) rfl (fM.tree (a.2.tree (ha a.2 (by simp))))
   simpa[deepest,Bw]using this) s (fun e he=>h e (by
    rw[kU]at he;exact List.mem_append.2 (.inl he)))
  have h2:=fM.eU w (fun e he=>h e (by simp only[St.exprs];exact List.mem_append.2 (.inr he)));have:=h1.append h2;rw[<-fJ]at this;rw[kU]at this;exact this
 |select i t w o l=>
  refine fM.cons (by decide:dX (9:Int)=false) ?_;simp only[St.exprs]at h⊢;rw[BZ]at h⊢
  have h1:=fM.flat itemN Option.toList (fun a ha=>by
   cases a with
   |none=>exact fM.plain _ rfl
   |some e=>have:=fM.tree (e.tree (ha e (by simp)));simpa[deepest,itemN]using this) i (fun e he=>h e (by simp only[List.mem_append];exact .inl (.inl he)))
  have h2:=fM.eU w (fun e he=>h e (by simp only[List.mem_append];exact .inl (.inr he)))
  have h3:=fM.flat dH (fun x=>[x.1]) (fun a ha=>by
   have:=fM.cons (x:=⟨12,[],if a.2=true then 1 else 0,1⟩) rfl (fM.tree (a.1.tree (ha a.1 (by simp))))
   simpa[deepest,dH]using this) o (fun e he=>h e (by
    rw[kU]at he;exact List.mem_append.2 (.inr he)))
  rw[kU]at h3
  have h4:fM (limN l) 0:=by
   cases l with
   |none=>exact fM.nil
   |some n=>exact fM.plain _ rfl
  have:=((h1.append h2).append h3).append h4;rw[<-fJ,<-fJ,Nat.max_zero]at this;exact this
theorem ui(sz:Nat):All (zU sz) fun e=>e.ok 2000:=fun ts e q h=>(h.2 _ _ rfl).1
theorem qi(sz:Nat):All (eY sz) fun w=>∀e∈w.toList,e.ok 2000:=by
 intro ts w q h;unfold eY at h
 split at h
 · exact(ui sz).seq (fun e he=>All.ret (P:=fun w=>∀x∈Option.toList w,E.ok 2000 x) (by simpa using he)) _ _ _ h
 cases h;simp
theorem JU(sz:Nat):All (cZ sz) fun s:St=>∀e∈s.exprs,E.ok 2000 e:=by
 intro ts s q h;unfold cZ at h
 split at h
 · refine All.seq (All.any _) (fun _ _=>All.seq (All.any _) fun t _=>All.seq (All.any _) fun _ _=>All.seq (All.any _) fun l _=>All.seq (All.any _) fun _ _=>All.ret (P:=fun s:St=>∀e∈s.exprs,E.ok 2000 e) ?_) _ _ _ h;simp[St.exprs]
 split at h
 · refine All.seq (All.any _) (fun _ _=>All.seq (All.any _) fun t _=>All.ret (P:=fun s:St=>∀e∈s.exprs,E.ok 2000 e) ?_) _ _ _ h;simp[St.exprs]
 split at h
 · have hrow:All (yL sz) fun l=>∀e∈l,e.ok 2000:=All.seq (All.any _) fun _ _=>All.seq (All.sep fun _=>ui sz) fun l hl=>All.seq (All.any _) fun _ _=>All.ret hl
   refine All.seq (All.any _) (fun _ _=>All.seq (All.any _) fun t _=>All.seq (All.any _) fun _ _=>All.seq (All.sep fun _=>hrow) fun l hl=>All.ret (P:=fun s:St=>∀e∈s.exprs,E.ok 2000 e) ?_) _ _ _ h;simp only[St.exprs,List.mem_flatten];rintro e ⟨r,h1,h2⟩;exact hl r h1 e h2
 split at h
 · refine All.seq (All.any _) (fun _ _=>All.seq (All.any _) fun t _=>All.seq (qi sz) fun w hw=>All.ret (P:=fun s:St=>∀e∈s.exprs,E.ok 2000 e) ?_) _ _ _ h;exact hw
 split at h
 · have hset:All (zg sz) fun x=>x.2.ok 2000:=All.seq (All.any _) fun n _=>All.seq (All.any _) fun _ _=>All.seq (ui sz) fun e he=>All.ret (P:=fun x:Bs×E=>x.2.ok 2000) he
   refine All.seq (All.any _) (fun t _=>All.seq (All.any _) fun _ _=>All.seq (All.sep fun _=>hset) fun l hl=>All.seq (qi sz) fun w hw=>All.ret (P:=fun s:St=>∀e∈s.exprs,E.ok 2000 e) ?_) _ _ _ h;simp only[St.exprs,List.mem_append,List.mem_map];rintro e (⟨x,h1,rfl⟩|h1)
   · exact hl x h1
   exact hw e h1
 have Hz:All (fO sz) fun x=>∀e∈x.toList,e.ok 2000:=by
  intro ts w q h;unfold fO at h
  split at h
  · cases h;simp
  exact(ui sz).seq (fun e he=>All.ret (P:=fun w=>∀x∈Option.toList w,E.ok 2000 x) (by simpa using he)) _ _ _ h
 have ND:All (jf sz) fun x=>x.1.ok 2000:=(ui sz).seq fun e he=>by
  intro ts x q h;unfold iF at h
  split at h
  · cases h;exact he
  split at h
  · cases h;exact he
  cases h;exact he
 have J5:All (bX sz) fun l=>∀x∈l,x.1.ok 2000:=by
  intro ts l q h;unfold bX at h
  split at h
  · exact All.seq (All.any _) (fun _ _=>All.sep fun _=>ND) _ _ _ h
  cases h;simp
 refine All.seq (All.any _) (fun _ _=>All.seq (All.sep fun _=>Hz) fun i hi=>All.seq (All.any _) fun _ _=>All.seq (All.any _) fun t _=>All.seq (qi sz) fun w hw=>All.seq J5 fun o ho=>All.seq (All.any _) fun l _=>All.ret (P:=fun s:St=>∀e∈s.exprs,E.ok 2000 e) ?_) _ _ _ h;simp only[St.exprs,List.mem_append,List.mem_map,BZ,List.mem_flatMap];rintro e ((⟨x,h1,h2⟩|h1)|⟨x,h1,rfl⟩)
 · exact hi x h1 e h2
 · exact hw e h1
 exact ho x h1
def Pe{α β:Type}(f:α->β):Except (Nat×Nat) α->Except (Nat×Nat) β
 |.error e=> .error e
 |.ok a=> .ok (f a)
theorem IL{l:Bs}{t:Bs}(h:Lx.oneT l=.ok (k,t,n))(p:Nat):nZ ⟨k,t,p⟩:=by
 intro hk;simp only at hk;subst hk
 have two:∀x:Bs,Lx.hasB Lx.De x=true->Lx.hasB Lx.keys x=false:=by
  intro x hx;simp only[Lx.De,Lx.hasB,Bool.or_eq_true,beq_iff_eq,Bool.false_eq_true,or_false]at hx;rcases hx with rfl|rfl|rfl|rfl<;>decide
 have one:∀x:Bs,Lx.hasB Lx.ones x=true->Lx.hasB Lx.keys x=false:=by
  intro x hx;simp only[Lx.ones,Lx.hasB,Bool.or_eq_true,beq_iff_eq,Bool.false_eq_true,or_false]at hx;rcases hx with rfl|rfl|rfl|rfl|rfl|rfl|rfl|rfl|rfl|rfl|rfl|rfl<;>decide
 unfold Lx.oneT at h
 split at h
 · simp at h
 split at h
 · split at h<;>simp at h
 split at h
 · split at h
   · simp at h
   split at h<;>simp at h
 split at h
 · split at h
   · simp at h
   split at h
   · simp at h
   simp only[Except.ok.injEq,Prod.mk.injEq]at h;have:=h.1
   split at this<;>omega
 split at h
 · rename_i h3;simp only[Except.ok.injEq,Prod.mk.injEq]at h;obtain⟨_,rfl,_⟩:=h;exact two _ h3.2
 split at h
 · rename_i h3;simp only[Except.ok.injEq,Prod.mk.injEq]at h;obtain⟨_,rfl,_⟩:=h;exact one _ h3
 simp at h
theorem Ju:∀(m:Nat) (l:Bs) (pos:Nat) (ts:List Tok),l.length<=m->Lx.lexM 0 pos l=.ok ts->∀t∈ts,nZ t:=by
 intro m
 induction m with
 |zero=>
  intro l pos ts hl h;obtain rfl:=List.length_eq_zero_iff.1 (Nat.le_zero.1 hl);simp only[Lx.lexM,Except.ok.injEq]at h;subst h;simp
 |succ m ih=>
  intro l pos ts hl h
  cases l with
  |nil=>
   simp only[Lx.lexM,Except.ok.injEq]at h;subst h;simp
  |cons b r=>
   rw[Lx.jo]at h
   split at h
   · simp at h
   rename_i k t n h1;have hn:=Lx.iB h1;simp only[List.length_cons]at hn hl
   split at h
   · rename_i us h2;simp only[Except.ok.injEq]at h;subst h;intro x hx;rcases List.mem_cons.1 hx with rfl|hx
     · exact IL h1 pos
     exact ih _ _ _ (by simp;omega) h2 x hx
   simp at h
theorem Eb{l:Bs}{ts:List Tok}(h:Lx.lex l=.ok ts):∀t∈ts,nZ t:=by
 unfold Lx.lex at h
 split at h
 · simp at h
 exact Ju _ _ _ _ (nlr _) h
theorem Bn{s:Bs}{r:Except (Nat×Nat) St}(h:ParseR s r):Parse s (Pe St.nodes r):=by
 unfold ParseR at h;unfold Parse
 cases hl:Lx.lex s with
 |error e=>rw[hl]at h;simp only at h⊢;rw[h];rfl
 |ok ts=>
  rw[hl]at h;simp only at h⊢;obtain⟨q,h1,h2⟩:=h;obtain⟨n,hn⟩:=Cn (Eb hl) h1;refine⟨n,?_⟩;unfold whole;rw[hn]
  match q,h1,h2 with
  |.error e,h1,h2=>
   simp only at h2;rw[h2];exact⟨_,rfl,rfl⟩
  |.ok (a,u),h1,h2=>
   simp only at h2;simp only[mapR,obind];by_cases hu:u=[]
   · rw[if_pos hu]at h2;rw[if_pos hu];refine⟨_,rfl,deepest a.exprs,?_,?_⟩
     · exact(a.Q5 (JU _ _ _ _ h1)).deep
     rw[h2];split<;>rfl
   rw[if_neg hu]at h2;rw[if_neg hu,h2];exact⟨_,rfl,rfl⟩
end Px
end
section
namespace Px
open Lx (Bs Tok)
structure PT where
 out:Bs
 kind:Nat
 val:Bs
 pre:Bool
def nJ(s:Bs):PT:=⟨s,50,s,false⟩
def JY(s:Bs):PT:=⟨s,51,s,false⟩
def QV:PT:=⟨[45],51,[45],true⟩
def Lh(s:Bs):PT:=⟨mF s,18,s,false⟩
def Rh(s:Bs):PT:=⟨Qy 39 s,17,s,false⟩
def Qh(n:Nat):PT:=⟨decF 20 n,16,decF 20 n,false⟩
def apart(a b:PT):Bool:=if a.out=[40]\/b.out=[41]\/b.out=[44]then false else if a.pre=true then decide (b.out.head? =some 45)else true
def Ends:Bs->Prop
 |[]=>True
 |c::_=>c=32\/c=41\/c=44
structure PT.Ok(t:PT):Prop where
 ne:∃c r,t.out=c::r/\Lx.isSp c=false/\(c.toNat=45->t.out=[45])
 reads:∀rest,(Ends rest\/t.out=[40]\/t.pre=true)->Lx.oneT (t.out++rest)=.ok (t.kind,t.val,t.out.length)
 pre:t.pre=true->t.out=[45]
 small:t.out.length<=100000
end Px
end
section
namespace Px
open Lx (Bs Tok)
def Same(ts:List Tok)(l:List PT):Prop:=ts.map (fun t=>(t.kind,t.text))=l.map fun t=>(t.kind,t.val)
def E.lvl:E->Nat
 |.num z=>if z<0 then 8 else 9
 |.un k _=>if k=20 then 3 else if k=19 then 8 else 4
 |.bin k _ _=>(ru k).2
 |_=>9
def FW(lvl least:Nat)(l:List PT):List PT:=if lvl<least then JY [40]::(l++[JY [41]])else l
def Q4(k:Nat):PT:=if k<25 then nJ (ru k).1 else JY (ru k).1
def leftOf(k:Nat):Nat:=if(ru k).2=4 then 5 else(ru k).2
def E.pt:E->List PT
 |.null=>[nJ aX]
 |.bool b=>[nJ (if b=true then fB else dE)]
 |.num z=>if z<0 then[QV,Qh z.natAbs]else[Qh z.natAbs]
 |.str s=>[Rh s]
 |.nm s=>[Lh s]
 |.un k e=>if k=20 then nJ jq::FW e.lvl 3 e.pt else if k=19 then QV::FW e.lvl 8 e.pt
   else if k=21 then FW e.lvl 5 e.pt++[nJ Gs,nJ aX]else FW e.lvl 5 e.pt++[nJ Gs,nJ jq,nJ aX]
 |.bin k a b=>FW a.lvl (leftOf k) a.pt++Q4 k::FW b.lvl ((ru k).2+1) b.pt
def E.good:E->Prop
 |.str s=>Lx.bH s=true
 |.nm s=>isName s=true
 |.un _ e=>e.good
 |.bin _ a b=>a.good/\b.good
 |_=>True
def Stops(m:Nat)(rest:List Tok):Prop:=(∀l,m<=l->oper l rest=0)/\(m<=4->sees Gs rest=false)
def O6(L:Nat):Prop:=L=1\/L=2\/L=5\/L=6\/L=7
def Loop(sz:Nat)(e:E):Prop:=O6 e.lvl->∀ts rest r,Same ts e.pt->Stops (e.lvl+1) rest->Ex sz (e.lvl+10) e.nodes rest r->Ex sz e.lvl [] (ts++rest) r
end Px
end
section
namespace Px
open Lx (Bs Tok)
def sepT:List (List PT)->List PT
 |[]=>[]
 |[a]=>a
 |a::b::r=>a++JY [44]::sepT (b::r)
def O3(n:Nat):Bs:=if n%4=1 then kG else if n%4=2 then mI else iD
def QA(c:Bs×Nat):List PT:=Lh c.1::nJ (O3 c.2)::(if 4<c.2 then[nJ jq,nJ aX]else[])
def Pg(r:List E):List PT:=JY [40]::(sepT (r.map E.pt)++[JY [41]])
def Pz(s:Bs×E):List PT:=Lh s.1::JY [61]::s.2.pt
def itemT:Option E->List PT
 |none=>[JY [42]]
 |some e=>e.pt
def NL(o:E×Bool):List PT:=o.1.pt++(if o.2=true then[nJ Ab]else[])
def Db:Option E->List PT
 |none=>[]
 |some e=>nJ uy::e.pt
def Qg:Option Nat->List PT
 |none=>[]
 |some n=>[nJ jc,Qh n]
def Le:List (E×Bool)->List PT
 |[]=>[]
 |o::r=>nJ qf::nJ NQ::sepT ((o::r).map NL)
def St.pt:St->List PT
 |.create t c=>nJ eP::nJ kZ::Lh t::JY [40]::(sepT (c.map QA)++[JY [41]])
 |.drop t=>[nJ kz,nJ kZ,Lh t]
 |.insert t r=>nJ gz::nJ DZ::Lh t::nJ rG::sepT (r.map Pg)
 |.delete t w=>nJ gP::nJ qC::Lh t::Db w
 |.update t s w=>nJ iP::Lh t::nJ KH::(sepT (s.map Pz)++Db w)
 |.select i t w o l=>nJ jK::(sepT (i.map itemT)++nJ qC::Lh t::(Db w++(Le o++Qg l)))
structure St.Fit(s:St):Prop where
 exprs:∀e∈s.exprs,e.ok 2000
 parts:match s with
  |.create t c=>isName t=true/\1<=c.length/\c.length<=6/\∀x∈c,isName x.1=true/\1<=x.2/\x.2<=7/\x.2≠4
  |.drop t=>isName t=true
  |.insert t r=>isName t=true/\r≠[]/\∀x∈r,x≠[]
  |.delete t w=>isName t=true
  |.update t s w=>isName t=true/\s≠[]/\∀x∈s,isName x.1=true
  |.select i t w o l=>isName t=true/\i≠[]/\∀n,l=some n->n<=1000000000
section
variable {α:Type}{x:Nat->Rg α}{pt:α->List PT}{P:List Tok->Prop}{N:Nat}
end
theorem DN(sz:Nat)(ts:List Tok):cO fun n=>stmt sz n ts:=by
 cases ts with
 |nil=>exact ag _
 |cons t r=>
  unfold stmt;refine aR (ag _) (aR ?_ (aR (ag _) (aR ?_ (aR ?_ (aR ?_ (aR ?_ (ag _)))))))
  all_goals
   first|unfold create|unfold insert|unfold delete|unfold update|unfold choose
   repeat' (first|exact ag _|exact fe _ _|exact oz _ _ _|exact az (wB sz) _ _|exact az (gV _) _ _|exact az (dS _) _ _|exact az (eX _) _ _|refine aI ?_ (fun _ _=> ?_))
theorem qH(sz:Nat)(ts:List Tok):cO fun n=>whole sz n ts:=aI (DN sz ts) fun _ _=>ag _
theorem Parse.one{s:Bs}{r r':Except (Nat×Nat) (List Nd)}(h:Parse s r)(h':Parse s r'):r=r':=by
 unfold Parse at h h'
 cases hl:Lx.lex s with
 |error e=>rw[hl]at h h';simp only at h h';rw[h,h']
 |ok ts=>
  rw[hl]at h h';simp only at h h';obtain⟨n,q,h1,h2⟩:=h;obtain⟨n',q',h1',h2'⟩:=h';have e1:=qH s.length ts n (max n n') _ (Nat.le_max_left _ _) h1;have e2:=qH s.length ts n' (max n n') _ (Nat.le_max_right _ _) h1';simp only at e1 e2;rw[e1]at e2
  cases e2
  match q,h2,h2' with
  |.error e,h2,h2'=>simp only at h2 h2';rw[h2,h2']
  |.ok (a,_),h2,h2'=>
   obtain⟨d,d1,d2⟩:=h2;obtain⟨d',d1',d2'⟩:=h2';rw[d1]at d1'
   cases d1'
   rw[d2,d2']
end Px
end
def opsRow:List (Nat×Lx.Bs×Nat)->List Value
 |[]=>[]
 |(l,s,k)::r=>[.int .i64 (k:Int),.string ⟨s.toArray⟩,.int .i64 (l:Int)]++opsRow r
structure iZ(w:World):Prop where
 env:Env w
 ops:∃t fr,w.heap[7]? =some (.cells (opsRow Px.bP).toArray t fr)
 rng:∃te pe,w.cell? ⟨9,0,none⟩=some (.iface te pe)
theorem iZ.grown(h:iZ w)(hg:w.grownBy w' (some B))(hB:12<=B):iZ w':=by
 have hr:=h.env.room
 have hb:∀k,k<12->w'.heap[k]? =w.heap[k]?:=fun k hk=>hg.block k (by omega) (by simp;omega)
 refine⟨h.env.grown hg hB,?_,?_⟩
 · rw[hb _ (by simp)];exact h.ops
 rw[World.cell?_of_block (w:=w) (hb _ (by simp))];exact h.rng
theorem iZ.below(h:iZ w)(hb:Below w.heap.size w w'):iZ w':=h.grown (B:=w.heap.size) (Below.grownBy hb) h.env.room
structure Rf(w:World):Prop where
 env:Nf w
 ops:∃t fr,w.heap[7]? =some (.cells (opsRow Px.bP).toArray t fr)
structure Cs(w:World)(B:Nat)(lv:Value)(ts:List Lx.Tok)(sz k:Nat)(dp:Bool):Prop where
 blk:af w B #[lv,.int .i64 (k:Int),.int .i64 (sz:Int),.bool dp] 79
 own:∃b,w.ownsRow b 146 3 lv ts.length (toksV ts)
 ne:lv.ownBlock≠some B
 toks:∀t∈ts,Lx.Bb t/\Px.nZ t/\t.pos<=2000/\t.text.length<=2000
 len:ts.length<=2000
 size:sz<=2000
 le:k<=ts.length
 env:iZ w
 low:12<=B
theorem Cs.kept{ts:List Lx.Tok}{k':Nat}{dp':Bool}(h:Cs w B lv ts sz k dp)(hg:w.grownBy w' (some B))(hb:af w' B #[lv,.int .i64 (k':Int),.int .i64 (sz:Int),.bool dp'] 79)(hk:k'<=ts.length):Cs w' B lv ts sz k' dp':=by
 obtain⟨b,ho⟩:=h.own;refine⟨hb,⟨b,ho.kept hg ?_⟩,h.ne,h.toks,h.len,h.size,hk,h.env.grown hg h.low,h.low⟩
 cases hv:lv.ownBlock with
 |none=>simp
 |some g=>right;intro e;exact h.ne (by rw[hv,e])
theorem Cs.below{ts:List Lx.Tok}(h:Cs w B lv ts sz k dp)(hb:Below w.heap.size w w'):Cs w' B lv ts sz k dp:=by
 obtain⟨b,ho⟩:=h.own;exact⟨h.blk.below hb h.blk.lt,⟨b,dA ho hb⟩,h.ne,h.toks,h.len,h.size,h.le,h.env.below hb,h.low⟩
theorem Cs.setAt{ts:List Lx.Tok}(h:Cs w B lv ts sz k dp)(j:Nat)(hj:j<=ts.length):Cs (w.setCell ⟨B,1,none⟩ (.int .i64 (j:Int))) B lv ts sz j dp:=
 h.kept (mY w B 1 _) (h.blk.set 1 _) hj
theorem Cs.KS{ts:List Lx.Tok}(h:Cs w B lv ts sz k dp):Cs (w.setCell ⟨B,3,none⟩ (.bool true)) B lv ts sz k true:=
 h.kept (mY w B 3 _) (h.blk.set 3 _) h.le
theorem Cs.cells{ts:List Lx.Tok}(h:Cs w B lv ts sz k dp):
   w.cell? ⟨B,0,none⟩=some lv/\w.cell? ⟨B,1,none⟩=some (.int .i64 (k:Int))/\w.cell? ⟨B,2,none⟩=some (.int .i64 (sz:Int))/\w.cell? ⟨B,3,none⟩=some (.bool dp):=
 ⟨h.blk.cell 0,h.blk.cell 1,h.blk.cell 2,h.blk.cell 3⟩
def Cx(w:World)(B:Nat)(lv:Value)(ts:List Lx.Tok)(sz:Nat)(q:List Lx.Tok)(dp:Bool):Prop:=∃k,q=ts.drop k/\Cs w B lv ts sz k dp
theorem Cx.below{ts:List Lx.Tok}{q:List Lx.Tok}(h:Cx w B lv ts sz q dp)(hb:Below w.heap.size w w'):Cx w' B lv ts sz q dp:=by
 obtain⟨k,h1,h2⟩:=h;exact⟨k,h1,h2.below hb⟩
def pk(sz:Nat):List Lx.Tok->Lx.Tok
 |[]=>⟨0,[],sz⟩
 |t::_=>t
theorem K6(ts:List Lx.Tok)(sz k:Nat):pk sz (ts.drop k)=vH ts sz k:=by
 unfold vH;by_cases hk:k<ts.length
 · rw[List.drop_eq_getElem_cons hk];simp[pk,hk]
 rw[List.drop_eq_nil_of_le (by omega)];simp[pk,hk]
theorem GL(sz:Nat)(q:List Lx.Tok):Px.plc sz q=(pk sz q).pos:=by cases q<;>rfl
theorem KO(s:Lx.Bs)(sz:Nat)(q:List Lx.Tok):Px.sees s q=((decide ((pk sz q).kind=50)||decide ((pk sz q).kind=51))&&(pk sz q).text==s):=by cases q<;>rfl
def ku(p c:Nat):Ending:=.panicked [{v:=.iface 74 (.agg #[.int .i64 (p:Int),.int .i64 (c:Int)]),recovered:=false}]
theorem Cs.tok{ts:List Lx.Tok}(h:Cs w B lv ts sz k dp):∃ao cap,lv=.slice ao ts.length cap/\
   ∀k,(hk:k<ts.length)->∃g,ao=some ⟨g,0,none⟩/\g<w.heap.size/\w.cell? ⟨g,k*3,none⟩=some (.int .i64 (ts[k].kind:Int))/\w.cell? ⟨g,k*3+1,none⟩=some (.string ⟨ts[k].text.toArray⟩)/\w.cell? ⟨g,k*3+2,none⟩=some (.int .i64 (ts[k].pos:Int)):=by
 obtain⟨b,ho⟩:=h.own;have ho2:=ho.2;rcases ho2 with⟨rfl,hn⟩|⟨g,cap,cur,rfl,hb,hg,h1,h2,h3,h4⟩
 · exact⟨none,0,by rw[hn],fun k hk=>by omega⟩
 refine⟨some ⟨g,0,none⟩,cap,rfl,fun k hk=>⟨g,rfl,?_⟩⟩;have hc:=ho.cells (g:=g) rfl;obtain⟨q0,q1,q2⟩:=xN ts k hk;have a0:=hc _ _ q0;have a1:=hc _ _ q1;have a2:=hc _ _ q2;simp only[Addr.add_lit,Nat.zero_add]at a0 a1 a2;exact⟨(geA.1 hg).1,a0,a1,a2⟩
theorem Gm(w:World)(B:Nat)(lv:Value)(ts:List Lx.Tok)(sz k:Nat)(dp:Bool)(h:Cs w B lv ts sz k dp):
   Calls Tryz.prog 63 #[.pointer (some ⟨B,0,none⟩)] w fun x w'=>x=.returned (gN (vH ts sz k))/\Below w.heap.size w w':=by
 obtain⟨c0,c1,c2,c3⟩:=h.cells;obtain⟨ao,cap,rfl,hk⟩:=h.tok;have hle:=h.le;have hlen:=h.len;have hB:=h.blk.lt;by_cases hlt:k<ts.length
 · obtain⟨g,rfl,hg,k0,k1,k2⟩:=hk k hlt
   have e1:vH ts sz k=ts[k]:=by simp[vH,hlt]
   rw[e1];generalize ts[k]=t at*;clear hk e1 h;go_enter Tryz.func63,Tryz.ntmps63;go_wp2
   go_region
   all_goals go_wp2
   all_goals go_region
   all_goals go_wp2
   refine bodyPost_ret (v:=gN t) (by simp[results,Tryz.results63,go_sem,gN]) rfl ⟨rfl,by go_grown⟩
 have e1:vH ts sz k=⟨0,[],sz⟩:=by simp[vH,hlt]
 rw[e1];clear hk e1 h;go_enter Tryz.func63,Tryz.ntmps63;go_wp2
 go_region
 all_goals go_wp2
 refine bodyPost_ret (v:=gN ⟨0,[],sz⟩) (by simp[results,Tryz.results63,go_sem,gN]) rfl ⟨rfl,by go_grown⟩
theorem bF(w:World)(B:Nat)(lv:Value)(ts:List Lx.Tok)(sz:Nat)(q:List Lx.Tok)(dp:Bool)(h:Cx w B lv ts sz q dp):
   Calls Tryz.prog 63 #[.pointer (some ⟨B,0,none⟩)] w fun x w'=>x=.returned (gN (pk sz q))/\Below w.heap.size w w':=by
 obtain⟨k,rfl,h⟩:=h;rw[K6];exact Gm w B lv ts sz k dp h
theorem Oe(a b c:Value)(w:World):(Instr.field 146 (.agg #[a,b,c]) 0).run Tryz.prog w=.ok a w:=by kernel_rfl
theorem PR(a b c:Value)(w:World):(Instr.field 146 (.agg #[a,b,c]) 1).run Tryz.prog w=.ok b w:=by kernel_rfl
theorem MH(a b c:Value)(w:World):(Instr.field 146 (.agg #[a,b,c]) 2).run Tryz.prog w=.ok c w:=by kernel_rfl
theorem fT(w:World)(v:Value)(p c:Nat):
   Calls Tryz.prog 62 #[v,.int .i64 (p:Int),.int .i64 (c:Int)] w fun e w'=>e=ku p c/\w'=w:=by
 go_enter Tryz.func62,Tryz.ntmps62;go_wp2;exact⟨rfl,rfl,rfl⟩
theorem mQ(w:World)(v:Value):Calls Tryz.prog 29 #[v,.bool true] w fun e w'=>e=.returned (.tuple #[])/\w'=w:=by
 go_enter Tryz.func29,Tryz.ntmps29;go_wp2_with fail
 go_end0
 exact⟨rfl,rfl⟩
theorem ET(w:World)(B:Nat)(lv:Value)(ts:List Lx.Tok)(sz:Nat)(q:List Lx.Tok)(dp:Bool)(h:Cx w B lv ts sz q dp)(tk:Nat)(tt:Lx.Bs)(tp:Nat)(ht:pk sz q=⟨tk,tt,tp⟩):
   Calls Tryz.prog 29 #[.pointer (some ⟨B,0,none⟩),.bool false] w fun e w'=>e=ku tp 4/\Below w.heap.size w w':=by
 have HT:=hd ht;clear ht;have hf2:=MH;go_enter Tryz.func29,Tryz.ntmps29;go_wp2_with fail;refine(bF w B lv ts sz q dp h).mono ?_;rintro x w1 ⟨rfl,hb⟩;rw[HT.out];unfold gN;simp only;go_wp2_with fail;refine(fT w1 _ tp 4).mono ?_;rintro x w2 ⟨rfl,rfl⟩;exact⟨rfl,rfl,hb⟩
theorem pQ(w:World)(B:Nat)(lv:Value)(ts:List Lx.Tok)(sz:Nat)(q:List Lx.Tok)(dp:Bool)(h:Cx w B lv ts sz q dp):
   Calls Tryz.prog 29 #[.pointer (some ⟨B,0,none⟩),.bool false] w fun e w'=>e=ku (Px.plc sz q) 4/\Below w.heap.size w w':=by
 rw[GL];rcases ht:pk sz q with⟨tk,tt,tp⟩;exact ET w B lv ts sz q dp h tk tt tp ht
def pG(t:Lx.Tok):Lx.Bs:=if t.kind=50\/t.kind=51 then t.text else[]
theorem Dx(w:World)(B:Nat)(lv:Value)(ts:List Lx.Tok)(sz:Nat)(q:List Lx.Tok)(dp:Bool)(h:Cx w B lv ts sz q dp)(tk:Nat)(tt:Lx.Bs)(tp:Nat)(ht:pk sz q=⟨tk,tt,tp⟩):
   Calls Tryz.prog 116 #[.pointer (some ⟨B,0,none⟩)] w fun x w'=>x=.returned (.string ⟨(pG ⟨tk,tt,tp⟩).toArray⟩)/\Below w.heap.size w w':=by
 have HT:=hd ht;clear ht;unfold pG;go_enter Tryz.func116,Tryz.ntmps116;go_wp2_with fail;refine(bF w B lv ts sz q dp h).mono ?_;rintro x w1 ⟨rfl,hb⟩;rw[HT.out];unfold gN;simp only;have hs:=hb.size;by_cases h50:tk=50
 · subst h50;go_wp2;go_ret;exact⟨rfl,by go_grown⟩
 have h1:((tk:Int)==50)=false:=by rw[beq_eq_false_iff_ne];omega
 by_cases h51:tk=51
 · subst h51;go_wp2;go_ret;exact⟨rfl,by go_grown⟩
 have h2:((tk:Int)==51)=false:=by rw[beq_eq_false_iff_ne];omega
 go_wp2;go_ret;exact⟨by simp[h50,h51],by go_grown⟩
theorem iU(w:World)(B:Nat)(lv:Value)(ts:List Lx.Tok)(sz:Nat)(q:List Lx.Tok)(dp:Bool)(h:Cx w B lv ts sz q dp):
   Calls Tryz.prog 116 #[.pointer (some ⟨B,0,none⟩)] w fun x w'=>x=.returned (.string ⟨(pG (pk sz q)).toArray⟩)/\Below w.heap.size w w':=by
 rcases ht:pk sz q with⟨tk,tt,tp⟩;exact Dx w B lv ts sz q dp h tk tt tp ht
theorem BG{s:Lx.Bs}(hs:s≠[])(sz:Nat)(q:List Lx.Tok):(pG (pk sz q)=s)↔Px.sees s q=true:=by
 rw[KO s sz q];rcases pk sz q with⟨tk,tt,tp⟩;unfold pG;simp only[Bool.and_eq_true,Bool.or_eq_true,decide_eq_true_eq,beq_iff_eq];by_cases h:tk=50\/tk=51
 · rw[if_pos h];exact⟨fun e=>⟨h,e⟩,fun e=>e.2⟩
 rw[if_neg h];exact⟨fun e=>absurd e.symm hs,fun e=>absurd e.1 h⟩
theorem Cx.next{ts:List Lx.Tok}{q:List Lx.Tok}(h:Cx w B lv ts sz q dp)(hq:q≠[]):∃k:Nat,k<=2000/\w.cell? ⟨B,1,none⟩=some (.int .i64 (k:Int))/\w.frozen? ⟨B,1,none⟩=false/\
   Cx (w.setCell ⟨B,1,none⟩ (.int .i64 ((k:Int)+1))) B lv ts sz q.tail dp:=by
 obtain⟨k,rfl,h⟩:=h
 have hk:k<ts.length:=by
  apply Decidable.byContradiction;intro hn;exact hq (List.drop_eq_nil_of_le (by omega))
 have:=h.len;refine⟨k,by omega,h.cells.2.1,h.blk.free 1,k+1,by rw[List.tail_drop],?_⟩;have:=h.setAt (k+1) (by omega)
 rwa [show(((k+1:Nat):Nat):Int)=(k:Int)+1 by omega]at this
theorem Cx.lt{ts:List Lx.Tok}{q:List Lx.Tok}(h:Cx w B lv ts sz q dp):B<w.heap.size:=by
 obtain⟨k,_,h⟩:=h;exact h.blk.lt
theorem mg(s:ByteArray)(w:World)(B:Nat)(lv:Value)(ts:List Lx.Tok)(sz:Nat)(q:List Lx.Tok)(dp:Bool)(h:Cx w B lv ts sz q dp)(hs:Px.sees s.data.toList q=true)(hne:s.data.toList≠[]):
   Calls Tryz.prog 54 #[.pointer (some ⟨B,0,none⟩),.string s] w fun x w'=>x=.returned (.bool true)/\Cx w' B lv ts sz q.tail dp/\w.grownBy w' (some B):=by
 have hq:q≠[]:=by rintro rfl;cases hs
 have hf:(⟨(pG (pk sz q)).toArray⟩:ByteArray)=s:=by
  rw[(BG hne sz q).2 hs]
 go_enter Tryz.func54,Tryz.ntmps54;go_wp2_with fail;refine(iU w B lv ts sz q dp h).mono ?_;rintro x w1 ⟨rfl,hb⟩;rw[hf];clear hf hs hne;obtain⟨k,hk,c1,f1,hn⟩:=(h.below hb).next hq;have HN:=hd hn;have HB:=hd hb;clear hb hn h;go_wp2;go_ret;exact⟨rfl,HN.out,av (Below.grownBy HB.out) (mY w1 B 1 _)⟩
theorem cB(s:ByteArray)(w:World)(B:Nat)(lv:Value)(ts:List Lx.Tok)(sz:Nat)(q:List Lx.Tok)(dp:Bool)(h:Cx w B lv ts sz q dp)(hs:Px.sees s.data.toList q=false)(hne:s.data.toList≠[]):
   Calls Tryz.prog 54 #[.pointer (some ⟨B,0,none⟩),.string s] w fun x w'=>x=.returned (.bool false)/\Below w.heap.size w w':=by
 have hf:((⟨(pG (pk sz q)).toArray⟩:ByteArray).toList==s.toList)=false:=by
  rw[beq_eq_false_iff_ne,Lib.toList_data,Lib.toList_data];intro e;rw[(BG hne sz q).1 e]at hs
  cases hs
 go_enter Tryz.func54,Tryz.ntmps54;go_wp2_with fail;refine(iU w B lv ts sz q dp h).mono ?_;rintro x w1 ⟨rfl,hb⟩;generalize (⟨(pG (pk sz q)).toArray⟩:ByteArray)=f at*;clear hs hne h;go_wp2;go_ret;exact⟨rfl,hb⟩
theorem zI(s:ByteArray)(w:World)(B g:Nat)(lv:Value)(ts:List Lx.Tok)(sz:Nat)(q:List Lx.Tok)(dp:Bool)(h:Cx w B lv ts sz q dp)(hs:Px.sees s.data.toList q=true)(hne:s.data.toList≠[])(hv:w.cell? ⟨g,0,none⟩=some (.string s)):
   Calls Tryz.prog 56 #[.pointer (some ⟨B,0,none⟩),.slice (some ⟨g,0,none⟩) 1 1] w fun x w'=>x=.returned (.tuple #[])/\Cx w' B lv ts sz q.tail dp/\w.grownBy w' (some B):=by
 have HS:=hd hs;have HN:=hd hne;clear hs hne;go_enter Tryz.func56,Tryz.ntmps56;go_wp2_with fail;refine wp_loop_rounds 2 ?_;rw[rounds_succ];go_wp2_with fail;refine(mg s w B lv ts sz q dp h HS.out HN.out).mono ?_;rintro x w1 ⟨rfl,hx,hg⟩;go_wp2_with fail;refine(mQ w1 _).mono ?_;rintro x w2 ⟨rfl,rfl⟩;go_wp2_with fail;rw[rounds_succ];go_wp2_with fail
 go_end0
 exact⟨rfl,hx,hg⟩
theorem Bf(s:ByteArray)(w:World)(B g:Nat)(lv:Value)(ts:List Lx.Tok)(sz:Nat)(q:List Lx.Tok)(dp:Bool)(h:Cx w B lv ts sz q dp)(hs:Px.sees s.data.toList q=false)(hne:s.data.toList≠[])(hv:w.cell? ⟨g,0,none⟩=some (.string s)):
   Calls Tryz.prog 56 #[.pointer (some ⟨B,0,none⟩),.slice (some ⟨g,0,none⟩) 1 1] w fun x w'=>x=ku (Px.plc sz q) 4/\Below w.heap.size w w':=by
 have HS:=hd hs;have HN:=hd hne;clear hs hne;go_enter Tryz.func56,Tryz.ntmps56;go_wp2_with fail;refine wp_loop_rounds 1 ?_;rw[rounds_succ];go_wp2_with fail;refine(cB s w B lv ts sz q dp h HS.out HN.out).mono ?_;rintro x w1 ⟨rfl,hb⟩;go_wp2_with fail;refine(pQ w1 B lv ts sz q dp (h.below hb)).mono ?_;rintro x w2 ⟨rfl,hb2⟩;exact⟨rfl,rfl,hb.trans (hb2.mono hb.size)⟩
theorem bC{row:Option Nat}(h:w.grownBy w1 row){M:Nat}(hM:w.heap.size<=M)(i:Nat)(v:Value):w.grownBy (w1.setCell ⟨M,i,none⟩ v) row:=
 ⟨h.os,h.tape,h.output,by simpa[World.setCell]using h.size,fun k hk hne=>by rw[Below.heap_setCell _ _ _ _ (by show k≠M;omega)];exact h.block k hk hne⟩
theorem Cx.step{ts:List Lx.Tok}{q:List Lx.Tok}{dp':Bool}(h:Cx w B lv ts sz q dp)(hg:w.grownBy w' (some B))(hq:q≠[])(k:Nat)(hc:w.cell? ⟨B,1,none⟩=some (.int .i64 (k:Int)))(hb:af w' B #[lv,.int .i64 ((k:Int)+1),.int .i64 (sz:Int),.bool dp'] 79):Cx w' B lv ts sz q.tail dp':=by
 obtain⟨j,rfl,h⟩:=h
 have e:(j:Int)=k:=by
  have:=h.cells.2.1;rw[this]at hc;simpa using hc
 have hk:j<ts.length:=by
  apply Decidable.byContradiction;intro hn;exact hq (List.drop_eq_nil_of_le (by omega))
 refine⟨j+1,by rw[List.tail_drop],h.kept (k':=j+1) hg ?_ (by omega)⟩;rw[show((j+1:Nat):Int)=(k:Int)+1 by omega];exact hb
theorem Cx.blk{ts:List Lx.Tok}{q:List Lx.Tok}(h:Cx w B lv ts sz q dp):∃k:Nat,k<=2000/\af w B #[lv,.int .i64 (k:Int),.int .i64 (sz:Int),.bool dp] 79:=by
 obtain⟨k,_,h⟩:=h;exact⟨k,Nat.le_trans h.le h.len,h.blk⟩
theorem nI(w:World)(B:Nat)(lv:Value)(ts:List Lx.Tok)(sz:Nat)(tk:Nat)(tt:Lx.Bs)(tp:Nat)(q:List Lx.Tok)(dp:Bool)(h:Cx w B lv ts sz (⟨tk,tt,tp⟩::q) dp)(kd:Nat)(hk:tk=kd):
   Calls Tryz.prog 120 #[.pointer (some ⟨B,0,none⟩),.int .i64 (kd:Int)] w fun x w'=>x=.returned (gN ⟨tk,tt,tp⟩)/\Cx w' B lv ts sz q dp/\w.grownBy w' (some B):=by
 subst hk;obtain⟨k,hk2,hblk⟩:=h.blk;have HX:=hd h;have hlt:=h.lt;clear h;go_enter Tryz.func120,Tryz.ntmps120;go_wp2_with fail;refine(bF _ B lv ts sz _ dp (HX.out.below ((Below.refl _ _).alloc (nlr _) _))).mono ?_;rintro x w1 ⟨rfl,hb⟩;have hs:=hb.size;have hb0:Below w.heap.size w w1:=((Below.refl _ _).alloc (nlr _) _).trans (hb.mono (by simp));have K4:=(af.new w #[.int .i64 0,.string ⟨#[]⟩,.int .i64 0] 146).below hb (by simp);simp only[World.size_alloc]at hs;unfold gN pk;simp only;go_wp2_with fail;refine(mQ _ _).mono ?_;rintro x w2 ⟨rfl,hw⟩
 have hb2:Below w.heap.size w w2:=by subst hw;exact hb0.alloc (by omega) _
 have KB:=hblk.below hb2 hlt
 have KN:af w2 w1.heap.size #[.int .i64 (tk:Int),.string ⟨tt.toArray⟩,.int .i64 (tp:Int)] 146:=by subst hw;exact af.new _ _ _
 have K4':af w2 w.heap.size #[.int .i64 0,.string ⟨#[]⟩,.int .i64 0] 146:=by subst hw;exact K4.alloc _
 clear hw K4 hb hb0;have c1:w2.cell? ⟨B,1,none⟩=some (.int .i64 (k:Int)):=KB.cell 1;have f1:=KB.free 1;have n0:w2.cell? ⟨w1.heap.size,0,none⟩=some (.int .i64 (tk:Int)):=KN.cell 0;have n1:w2.cell? ⟨w1.heap.size,1,none⟩=some (.string ⟨tt.toArray⟩):=KN.cell 1;have n2:w2.cell? ⟨w1.heap.size,2,none⟩=some (.int .i64 (tp:Int)):=KN.cell 2;have m0:w2.cell? ⟨w.heap.size,0,none⟩=some (.int .i64 0):=K4'.cell 0;have m1:w2.cell? ⟨w.heap.size,1,none⟩=some (.string ⟨#[]⟩):=K4'.cell 1;have m2:w2.cell? ⟨w.heap.size,2,none⟩=some (.int .i64 0):=K4'.cell 2;have g0:=K4'.free 0;have g1:=K4'.free 1;have g2:=K4'.free 2
 have d1:¬B=w1.heap.size:=by omega
 have d2:¬w1.heap.size=B:=by omega
 have d3:¬B=w.heap.size:=by omega
 have d4:¬w.heap.size=B:=by omega
 have d5:¬w1.heap.size=w.heap.size:=by omega
 have d6:¬w.heap.size=w1.heap.size:=by omega
 have HB2:=hd hb2;have HKB:=hd KB;have HK4:=hd K4';clear KN K4' hb2 KB;go_wp2;have KF:=(((HK4.out.far ⟨B,1,none⟩ (.int .i64 ((k:Int)+1)) d3).set 0 (.int .i64 (tk:Int))).set 1 (.string ⟨tt.toArray⟩)).set 2 (.int .i64 (tp:Int));have e0:=KF.cell 0;have e1:=KF.cell 1;have e2:=KF.cell 2;simp at e0 e1 e2;refine bodyPost_ret (v:=gN ⟨tk,tt,tp⟩) (by simp[results,Tryz.results120,go_sem,gN,e0,e1,e2]) rfl ⟨rfl,?_,?_⟩
 · refine Cx.step (q:=⟨tk,tt,tp⟩::q) HX.out (bC (bC (bC (av (Below.grownBy HB2.out) (mY w2 B 1 _)) (nlr _) 0 _) (nlr _) 1 _) (nlr _) 2 _) (by simp) k (hblk.cell 1) ?_;exact(((HKB.out.set 1 (.int .i64 ((k:Int)+1))).far ⟨w.heap.size,0,none⟩ _ d4).far ⟨w.heap.size,1,none⟩ _ d4).far ⟨w.heap.size,2,none⟩ _ d4
 exact bC (bC (bC (av (Below.grownBy HB2.out) (mY w2 B 1 _)) (nlr _) 0 _) (nlr _) 1 _) (nlr _) 2 _
theorem wD(w:World)(B:Nat)(lv:Value)(ts:List Lx.Tok)(sz:Nat)(q:List Lx.Tok)(dp:Bool)(h:Cx w B lv ts sz q dp)(tk:Nat)(tt:Lx.Bs)(tp:Nat)(ht:pk sz q=⟨tk,tt,tp⟩)(kd:Nat)(hk:tk≠kd):
   Calls Tryz.prog 120 #[.pointer (some ⟨B,0,none⟩),.int .i64 (kd:Int)] w fun x w'=>x=ku (Px.plc sz q) 4/\Below w.heap.size w w':=by
 have HX:=hd h;have HT:=hd ht
 have h0:((tk:Int)==(kd:Int))=false:=by rw[beq_eq_false_iff_ne];omega
 clear h ht;go_enter Tryz.func120,Tryz.ntmps120;go_wp2_with fail;refine(bF _ B lv ts sz _ dp (HX.out.below ((Below.refl _ _).alloc (nlr _) _))).mono ?_;rintro x w1 ⟨rfl,hb⟩;have hs:=hb.size;have hb0:Below w.heap.size w w1:=((Below.refl _ _).alloc (nlr _) _).trans (hb.mono (by simp));have HB0:=hd hb0;clear hb hb0;simp only[World.size_alloc]at hs;rw[HT.out];unfold gN;simp only;go_wp2_with fail;refine(pQ _ B lv ts sz q dp (HX.out.below (HB0.out.alloc (by omega) _))).mono ?_;rintro x w2 ⟨rfl,hb2⟩;exact⟨rfl,rfl,(HB0.out.alloc (by omega) _).trans (hb2.mono (by simp;omega))⟩
section
open Go.RowKit Go.Shelf Go.Lib
theorem A7{x:List UInt8}(h:s.data.toList=x):s=⟨x.toArray⟩:=by
 cases s with
 |mk d=>cases d with
  |mk l=>simp at h;subst h;rfl
theorem mG{P:Program}{nm:String}{m:Nat}{e:TypeId}(ss:List (List UInt8))(hg:P.globalNamed nm=some g)(hty:(P.globals[g]?).map (·.type)=some t)
   (ht:P.underlying t=some (.array m e)) (he:P.underlying e=some .string) (hce:P.cellsOf e=1) (hct:P.cellsOf t=m)
   (h:VarReads P w nm (.agg (ss.map fun x=> .lit (.string x)))):∃t' fr,w.heap[g]? =some (.cells (dY ss) t' fr):=by
 obtain⟨g',t',cs,fuel,p,hg',hty',hvar,hd⟩:=h;obtain rfl:=Option.some.inj (hg.symm.trans hg');obtain rfl:=Option.some.inj (hty.symm.trans hty')
 have hcs:cs=dY ss:=by
  cases fuel with
  |zero=>simp[DataW.trod]at hd
  |succ fuel=>
   simp only[DataW.trod,ht,hce,hct,Nat.mul_one]at hd
   split at hd
   · rename_i hl;obtain⟨xs,hm,hx⟩:=Option.map_eq_some_iff.1 hd
     have hxs:xs.map (·.1)=ss.map fun x=>(DataW.lit (.string x):DataW Unit):=by
      have:=congrArg Prod.fst hx;simpa using this
     have hxl:xs.length=m:=by simpa using mapM_length hm
     have hzl:ss.length=m:=by
      have:=congrArg List.length hxs;simp at this;omega
     apply Array.ext';apply List.ext_getElem?;intro i;by_cases hi:i<m
     · obtain⟨b,hb,hf⟩:=mapM_at hm i i (by simp[hi]);obtain⟨s,hc,rfl,_⟩:=DataW.trod_string he hf
       have h1:cs.toList[i]? =some (.string s):=by
        have:=congrArg (·[0]?) hc;simpa[List.getElem?_take,List.getElem?_drop]using this
       have h2:(xs.map (·.1))[i]? =some (DataW.lit (.string s.data.toList):DataW Unit):=by simp[hb]
       rw[hxs]at h2;simp only[List.getElem?_map,Option.map_eq_some_iff,DataW.lit.injEq,Lit.string.injEq]at h2;obtain⟨x,hx',hxx⟩:=h2;rw[h1,A7 hxx.symm];simp[dY,hx']
     rw[List.getElem?_eq_none (by omega),List.getElem?_eq_none (by simp[dY];omega)]
   cases hd
 subst hcs;simp only[World.var?,hg,Option.bind_some]at hvar
 split at hvar
 · rename_i c t2 fr hh
   cases hvar
   exact⟨t2,fr,hh⟩
 cases hvar
def Dr(x:Nat×Lx.Bs×Nat):DataW Unit:=.agg [.lit (.int .i64 (x.2.2:Int)),.lit (.string x.2.1),.lit (.int .i64 (x.1:Int))]
theorem mh:∀l:List (Nat×Lx.Bs×Nat),(opsRow l).length=l.length*3
 |[]=>rfl
 |(a,s,k)::r=>by simp[opsRow,mh r];omega
theorem xD:∀(l:List (Nat×Lx.Bs×Nat)) (i:Nat) (h:i<l.length),(opsRow l)[i*3]? =some (.int .i64 (l[i].2.2:Int))/\(opsRow l)[i*3+1]? =some (.string ⟨l[i].2.1.toArray⟩)/\(opsRow l)[i*3+2]? =some (.int .i64 (l[i].1:Int))
 |(a,s,k)::r,0,_=>⟨rfl,rfl,rfl⟩
 |(a,s,k)::r,i+1,h=>by
  have ih:=xD r i (by simpa using h)
  have e:∀j,(opsRow ((a,s,k)::r))[j+3]? =(opsRow r)[j]?:=by
   intro j;show([Value.int .i64 (k:Int),.string ⟨s.toArray⟩,.int .i64 (a:Int)]++opsRow r)[j+3]? =_;rw[List.getElem?_append_right (by simp)];simp
  rw[show(i+1)*3=i*3+3 from by omega,show i*3+3+1=(i*3+1)+3 from by omega,show i*3+3+2=(i*3+2)+3 from by omega,e,e,e];simpa using ih
theorem yK{P:Program}{nm:String}{m:Nat}{e:TypeId}{f0 f1 f2:Field}(ss:List (Nat×Lx.Bs×Nat))(hg:P.globalNamed nm=some g)(hty:(P.globals[g]?).map (·.type)=some t)
   (ht:P.underlying t=some (.array m e)) (he:P.underlying e=some (.struct #[f0,f1,f2])) (hce:P.cellsOf e=3) (hct:P.cellsOf t=m*3) (hm:ss.length=m)
   (u0:P.underlying f0.type=some (.int .i64)) (u1:P.underlying f1.type=some .string) (u2:P.underlying f2.type=some (.int .i64)) (c0:P.cellsOf f0.type=1) (c1:P.cellsOf f1.type=1) (c2:P.cellsOf f2.type=1)
   (o0:f0.offset=0) (o1:f1.offset=1) (o2:f2.offset=2)
   (h:VarReads P w nm (.agg (ss.map Dr))):∃t' fr,w.heap[g]? =some (.cells (opsRow ss).toArray t' fr):=by
 obtain⟨g',t',cs,fuel,p,hg',hty',hvar,hd⟩:=h;obtain rfl:=Option.some.inj (hg.symm.trans hg');obtain rfl:=Option.some.inj (hty.symm.trans hty')
 have hlen:cs.toList.length=m*3:=by
  cases fuel with
  |zero=>simp[DataW.trod]at hd
  |succ fuel=>
   simp only[DataW.trod,ht]at hd
   split at hd
   · rename_i hl;rw[hl,hct]
   cases hd
 have key:∀i,(hi:i<m)->cs.toList[i*3]? =some (.int .i64 ((ss[i]'(by omega)).2.2:Int))/\cs.toList[i*3+1]? =some (.string ⟨(ss[i]'(by omega)).2.1.toArray⟩)/\cs.toList[i*3+2]? =some (.int .i64 ((ss[i]'(by omega)).1:Int)):=by
  intro i hi;obtain⟨fuel',d,q,hdi,hel⟩:=array_elem ht hd i hi
  have hi':i<ss.length:=by omega
  simp only[List.getElem?_map,List.getElem?_eq_getElem hi',Option.map_some,Option.some.injEq]at hdi;subst hdi;rw[hce]at hel;obtain⟨y0,y1,y2,n,hx,hl,h0,h1,h2⟩:=Go.Deep.trod_struct3 he hel;rw[o0,c0]at h0;rw[o1,c1]at h1;rw[o2,c2]at h2;obtain⟨z0,a0,b0,_⟩:=DataW.trod_int u0 h0;obtain⟨z1,a1,b1,_⟩:=DataW.trod_string u1 h1;obtain⟨z2,a2,b2,_⟩:=DataW.trod_int u2 h2;subst b0;subst b1;subst b2;simp only[Dr,Prod.mk.injEq,DataW.agg.injEq,List.cons.injEq,DataW.lit.injEq,Lit.int.injEq,Lit.string.injEq,true_and,and_true]at hx;obtain⟨⟨e0,e1,e2⟩,_⟩:=hx;have g0:=congrArg (·[0]?) a0;have g1:=congrArg (·[0]?) a1;have g2:=congrArg (·[0]?) a2;simp only[List.getElem?_take,List.getElem?_drop]at g0 g1 g2;simp at g0 g1 g2;refine⟨?_,?_,?_⟩
  · rw[e0];simpa using g0
  · rw[A7 (s:=z1) e1.symm]at g1;simpa using g1
  rw[e2];simpa using g2
 have hcs:cs=(opsRow ss).toArray:=by
  apply Array.ext';apply List.ext_getElem?;intro j;by_cases hj:j<m*3
  · have hi:j/3<m:=by omega
    obtain⟨k0,k1,k2⟩:=key (j/3) hi;obtain⟨r0,r1,r2⟩:=xD ss (j/3) (by omega)
    have h3:j=j/3*3\/j=j/3*3+1\/j=j/3*3+2:=by omega
    rcases h3 with e|e|e
    · rw[e,k0];exact r0.symm
    · rw[e,k1];exact r1.symm
    rw[e,k2];exact r2.symm
  rw[List.getElem?_eq_none (by omega),List.getElem?_eq_none (by simp[mh];omega)]
 subst hcs;simp only[World.var?,hg,Option.bind_some]at hvar
 split at hvar
 · rename_i c t2 fr hh
   cases hvar
   exact⟨t2,fr,hh⟩
 cases hvar
theorem yt{P:Program}{nm name:String}{is:Array (String×TypeId)}{d:DataW Unit}(hg:P.globalNamed nm=some g)(hty:(P.globals[g]?).map (·.type)=some t)
   (ht:P.underlying t=some (.interface is)) (h:VarReads P w nm (.iface name d)):∃te pe,w.cell? ⟨g,0,none⟩=some (.iface te pe):=by
 obtain⟨g',t',cs,fuel,p,hg',hty',hvar,hd⟩:=h;obtain rfl:=Option.some.inj (hg.symm.trans hg');obtain rfl:=Option.some.inj (hty.symm.trans hty');rw[World.var?_cell hg hvar 0,<-Array.getElem?_toList];generalize cs.toList=l at hd⊢
 cases fuel with
 |zero=>simp[DataW.trod]at hd
 |succ fuel=>
  match l,hd with
  |[],hd=>simp[DataW.trod,ht]at hd
  |[v],hd=>
   cases v with
   |iface u x=>exact⟨u,x,rfl⟩
   |_=>simp[DataW.trod,ht]at hd
  |a::b::r,hd=>simp[DataW.trod,ht]at hd
end
theorem Ip(s:ByteArray)(k:Nat)(h:k<=s.size):k+(bf s k).2<=s.size:=by
 unfold bf
 split
 · rename_i hk
   split
   · simp;omega
   have hle:=Lx.gF (s.data.toList.drop k);rw[List.length_drop,show s.data.toList.length=s.size from by simp]at hle;simp;omega
 simp;omega
theorem sN(w:World)(B:Nat)(s:ByteArray)(k st:Nat)(h:Rd w B s k st):
   Calls Tryz.prog 234 #[.pointer (some ⟨B,0,none⟩)] w fun e w'=>e=.returned (.int .i32 (bf s k).1)/\Rd w' B s (k+(bf s k).2) st/\w.grownBy w' (some B):=by
 have hpl:=Ip s k h.le;have hsm:=h.small;obtain⟨c,n,hpk⟩:∃c n,bf s k=(c,n):=⟨_,_,rfl⟩;rw[hpk]at hpl⊢;have HPK:Hid _:=hpk;clear hpk;simp only at hpl⊢;go_enter Tryz.func234,Tryz.ntmps234;go_wp2_with fail;refine(nU w B s k st h).mono ?_;rintro e w1 ⟨rfl,hb1⟩;rw[HPK.out];have h1:=h.below hb1;obtain⟨⟨b0,b1,b2⟩,b3,b4,b5⟩:=h1.blk.three;go_wp2;go_ret;refine⟨rfl,?_,?_⟩
 · exact h1.set1 (k+n) hpl
 exact av (Below.grownBy hb1) (mY w1 B 1 _)
theorem xA(s:ByteArray)(i:Nat)(h:i<s.size)(hb:128<=s[i].toNat):i+(Utf8.decode s i).2<=s.size/\1<=(Utf8.decode s i).2/\∀j,j<(Utf8.decode s i).2->128<=(s.get! (i+j)).toNat:=by
 by_cases hc:Lx.aD (s.data.toList.drop i)=0
 · rw[(oN s i h hc).1];refine⟨by simp;omega,by simp,?_⟩;intro j hj
   have:j=0:=by simp at hj;exact hj
   subst this;rw[Nat.add_zero,bV s i h];exact hb
 have hle:=Lx.gF (s.data.toList.drop i);rw[List.length_drop,show s.data.toList.length=s.size from by simp]at hle;have hg:=jk s i h hc;have hcls:=p9 s i h;rw[bV s i h]at hcls;rw[hg.1];refine⟨by omega,by omega,?_⟩;intro j hj;rcases hg.2.2 with⟨q,_,q2⟩|⟨q,_⟩
 · omega
 have hn:Lx.aD (s.data.toList.drop i)=2\/Lx.aD (s.data.toList.drop i)=3\/Lx.aD (s.data.toList.drop i)=4:=by
  have:∀n b0 b1 b2 b3,jy n b0 b1 b2 b3<=4:=by
   intro n b0 b1 b2 b3;unfold jy
   repeat' split
   all_goals omega
  have:=this (s.size-i) s[i].toNat (s.get! (i+1)).toNat (s.get! (i+2)).toNat (s.get! (i+3)).toNat;rw[<-hcls]at this;omega
 have lo:∀b,128<=Lx.jC b:=by
  intro b;unfold Lx.jC
  repeat' split
  all_goals omega
 have hj0:j=0->128<=(s.get! (i+j)).toNat:=by rintro rfl;rw[Nat.add_zero,bV s i h];exact hb
 rcases hn with e|e|e
 · rw[e]at hcls hj;obtain⟨_,q1,_⟩:=D6 _ _ _ _ _ hcls.symm
   have:j=0\/j=1:=by omega
   rcases this with rfl|rfl
   · exact hj0 rfl
   exact q1.2.1
 · rw[e]at hcls hj;obtain⟨_,q1,q2,_⟩:=wM _ _ _ _ _ hcls.symm;have:=lo s[i].toNat
   have:j=0\/j=1\/j=2:=by omega
   rcases this with rfl|rfl|rfl
   · exact hj0 rfl
   · omega
   exact q2.2.1
 rw[e]at hcls hj;obtain⟨_,q1,q2,q3,_⟩:=zY _ _ _ _ _ hcls.symm;have:=lo s[i].toNat
 have:j=0\/j=1\/j=2\/j=3:=by omega
 rcases this with rfl|rfl|rfl|rfl
 · exact hj0 rfl
 · omega
 · exact q2.2.1
 exact q3.2.1
structure Fits(p:Int->Bool)(q:UInt8->Bool):Prop where
 low:∀b:UInt8,b.toNat<128->p (b.toNat:Int)=q b
 high:(∀r:Int,128<=r->p r=false)/\(∀b:UInt8,128<=b.toNat->q b=false)\/(∀r:Int,128<=r->p r=true)/\(∀b:UInt8,128<=b.toNat->q b=true)
theorem Ee(q:UInt8->Bool)(s:ByteArray):∀(n i:Nat),i+n<=s.size->(∀j,j<n->q (s.get! (i+j))=true)->Lx.cnt q (s.data.toList.drop i)=n+Lx.cnt q (s.data.toList.drop (i+n))
 |0,i,_,_=>by simp
 |n+1,i,h,hq=>by
  rw[zm q s i (by omega),if_pos (by have:=hq 0 (by omega);rwa [Nat.add_zero,bV s i (by omega)]at this)];rw[Ee q s n (i+1) (by omega) (fun j hj=>by have:=hq (j+1) (by omega);rwa [show i+(j+1)=i+1+j from by omega]at this)];rw[show i+1+n=i+(n+1)from by omega];omega
theorem Fits.yes{p:Int->Bool}{q:UInt8->Bool}(hf:Fits p q)(s:ByteArray)(i:Nat)(h:i<s.size)(hp:p ((Utf8.decode s i).1:Int)=true):
   Lx.cnt q (s.data.toList.drop i)=(Utf8.decode s i).2+Lx.cnt q (s.data.toList.drop (i+(Utf8.decode s i).2))/\i+(Utf8.decode s i).2<=s.size/\1<=(Utf8.decode s i).2:=by
 by_cases hb:s[i].toNat<128
 · rw[decode_ascii s i h hb]at hp⊢;simp only at hp⊢;rw[hf.low _ hb]at hp;refine⟨?_,by omega,by omega⟩;rw[zm q s i h,if_pos hp];omega
 have hh:=xA s i h (by omega);have hr:=(decode_high s i h (by omega)).1;refine⟨?_,hh.1,hh.2.1⟩;rcases hf.high with⟨h1,_⟩|⟨_,h2⟩
 · rw[h1 _ (by omega)]at hp;cases hp
 exact Ee q s _ i hh.1 (fun j hj=>h2 _ (hh.2.2 j hj))
theorem Fits.no{p:Int->Bool}{q:UInt8->Bool}(hf:Fits p q)(s:ByteArray)(i:Nat)(h:i<s.size)(hp:p ((Utf8.decode s i).1:Int)=false):Lx.cnt q (s.data.toList.drop i)=0:=by
 rw[zm q s i h,if_neg];intro hq;by_cases hb:s[i].toNat<128
 · rw[decode_ascii s i h hb]at hp;rw[hf.low _ hb,hq]at hp
   cases hp
 have hr:=(decode_high s i h (by omega)).1;rcases hf.high with⟨_,h2⟩|⟨h1,_⟩
 · rw[h2 _ (by omega)]at hq;cases hq
 rw[h1 _ (by omega)]at hp;cases hp
theorem EB:Fits NS Lx.isSp:=by
 refine⟨fun b hb=> ?_,.inl ⟨fun r hr=> ?_,fun b hb=> ?_⟩⟩
 · unfold NS Lx.isSp;rw[Bool.eq_iff_iff];simp;omega
 · unfold NS;simp;omega
 unfold Lx.isSp;simp;omega
theorem wH:Fits wY Lx.fo:=by
 refine⟨fun b hb=> ?_,.inr ⟨fun r hr=> ?_,fun b hb=> ?_⟩⟩
 · unfold wY Lx.fo;rw[Bool.eq_iff_iff];simp;omega
 · unfold wY;simp;omega
 unfold Lx.fo;simp;omega
theorem Ac:Fits tT Lx.aH:=by
 refine⟨fun b hb=> ?_,.inl ⟨fun r hr=> ?_,fun b hb=> ?_⟩⟩
 · unfold tT Lx.aH;rw[Bool.eq_iff_iff];simp;omega
 · unfold tT;simp;omega
 unfold Lx.aH;simp;omega
theorem yg:Fits JZ Lx.dn:=by
 refine⟨fun b hb=> ?_,.inl ⟨fun r hr=> ?_,fun b hb=> ?_⟩⟩
 · unfold JZ Lx.dn Lx.aH Lx.isLet;rw[Bool.eq_iff_iff];simp;omega
 · unfold JZ;simp;omega
 unfold Lx.dn Lx.aH Lx.isLet;simp;omega
theorem Rd.iter(h:Rd w B s k st)(t:ByteArray)(p:Nat):Rd (w.drew.iter t p) B s k st:=
 h.drew.below ((Below.refl _ _).alloc (nlr _) _)
theorem bU(w:World)(t:ByteArray)(p B:Nat):w.grownBy (w.drew.iter t p) (some B):=
 av (grownBy_drew (grownBy_refl w _)) (Below.grownBy ((Below.refl _ _).alloc (nlr _) _))
theorem rq(w:World)(B:Nat)(s:ByteArray)(k st:Nat)(h:Rd w B s k st):
   Calls Tryz.prog 110 #[.pointer (some ⟨B,0,none⟩),.func (.func 173) #[] #[]] w fun e w'=>∃u:ByteArray,e=.returned (.string u)/\u.data.toList=(s.data.toList.drop k).take (Lx.cnt Lx.aH (s.data.toList.drop k))/\Rd w' B s (k+Lx.cnt Lx.aH (s.data.toList.drop k)) st/\w.grownBy w' (some B):=by
 obtain⟨⟨b0,b1,b2⟩,b3,b4,b5⟩:=h.blk.three;have hle:=h.le;have hsm:=h.small;obtain⟨t,ht⟩:∃t,t=s.extract k s.size:=⟨_,rfl⟩
 have hT:t.data.toList=s.data.toList.drop k:=by rw[ht];exact Lib.extract_to_end s k
 have hts:t.size+k=s.size:=by rw[ht];simp;omega
 rw[<-hT];have HT:=hd hT;have HTT:=hd ht;clear ht hT
 have hI1:∀p,(w.drew.iter t p).cell? ⟨B,1,none⟩=some (.int .i64 (k:Int)):=fun p=>(h.iter t p).blk.cell 1
 have hI2:∀p,(w.drew.iter t p).frozen? ⟨B,1,none⟩=false:=fun p=>(h.iter t p).blk.free 1
 go_enter Tryz.func110,Tryz.ntmps110;go_wp2
 go_region
 all_goals go_wp2
 rw[<-HTT.out];go_loopw [6] (fun v wr=>∃pos:Nat,v=.int .i64 (t.size:Int)/\wr=w.drew.iter t pos/\pos<=t.size/\Hid (Lx.cnt Lx.aH t.data.toList=pos+Lx.cnt Lx.aH (t.data.toList.drop pos))) (fun _ wr=>t.size-wr.iterPos w.heap.size)
 case atStart=>exact⟨0,by rw[show s.size-k=t.size from by omega],rfl,by omega,by show _=_;simp⟩
 case round=>
  obtain⟨pos,rfl,rfl,hpos,HK⟩:=hrel;by_cases hlt:pos<t.size
  · have hnx:∀ty,(Instr.next (.pointer (some ⟨w.heap.size,0,none⟩)) true ty).run Tryz.prog (w.drew.iter t pos)=.ok (.tuple #[.bool true,.int .i64 pos,.int .i32 (Utf8.decode t pos).1]) (w.drew.iter t (pos+(Utf8.decode t pos).2)):=fun ty=>run_next_any (P:=Tryz.prog) w.drew t pos ty hlt
    cases hp:tT ((Utf8.decode t pos).1:Int)
    · have HN:=hd (Ac.no t pos hlt hp);generalize (Utf8.decode t pos)=d at*;obtain⟨c,n⟩:=d;go_wp2_with(go_at_call 173;refine(iQ _ _).mono ?_;rintro e w' ⟨rfl,rfl⟩);go_ret
      have hc:Lx.cnt Lx.aH t.data.toList=pos:=by rw[HK.out,HN.out];rfl
      rw[hc];refine⟨_,rfl,?_,(h.iter t (pos+n)).set1 (k+pos) (by omega),av (bU w t (pos+n) B) (mY _ B 1 _)⟩;rw[Lib.extract_data];simp
    have HY:=hd (Ac.yes t pos hlt hp);generalize (Utf8.decode t pos)=d at*;obtain⟨c,n⟩:=d;go_wp2_with(go_at_call 173;refine(iQ _ _).mono ?_;rintro e w' ⟨rfl,rfl⟩);go_roundw
    case rel=>
     obtain⟨y1,y2,y3⟩:=HY.out
     try simp only at y1 y2 y3
     exact⟨pos+n,rfl,rfl,y2,by have h1:=HK.out;show _=_;omega⟩
    case measure=>
     obtain⟨y1,y2,y3⟩:=HY.out
     try simp only at y1 y2 y3
     show t.size-(w.drew.iter t (pos+n)).iterPos w.drew.heap.size<t.size-(w.drew.iter t pos).iterPos w.drew.heap.size;rw[World.iterPos_iter,World.iterPos_iter];omega
  have hnx:∀ty,(Instr.next (.pointer (some ⟨w.heap.size,0,none⟩)) true ty).run Tryz.prog (w.drew.iter t pos)=.ok (.tuple #[.bool false]) (w.drew.iter t pos):=fun ty=>run_next_end (P:=Tryz.prog) w.drew t pos ty hlt
  go_wp2;go_ret
  have hc:Lx.cnt Lx.aH t.data.toList=t.size:=by rw[HK.out,oo Lx.aH t pos (by omega)];omega
  rw[hc];refine⟨_,rfl,?_,(h.iter t pos).set1 (k+t.size) (by omega),av (bU w t pos B) (mY _ B 1 _)⟩;rw[List.take_of_length_le (by simp)]
theorem ry(w:World)(B:Nat)(s:ByteArray)(k st:Nat)(h:Rd w B s k st):
   Calls Tryz.prog 110 #[.pointer (some ⟨B,0,none⟩),.func (.func 111) #[] #[]] w fun e w'=>∃u:ByteArray,e=.returned (.string u)/\u.data.toList=(s.data.toList.drop k).take (Lx.cnt Lx.isSp (s.data.toList.drop k))/\Rd w' B s (k+Lx.cnt Lx.isSp (s.data.toList.drop k)) st/\w.grownBy w' (some B):=by
 obtain⟨⟨b0,b1,b2⟩,b3,b4,b5⟩:=h.blk.three;have hle:=h.le;have hsm:=h.small;obtain⟨t,ht⟩:∃t,t=s.extract k s.size:=⟨_,rfl⟩
 have hT:t.data.toList=s.data.toList.drop k:=by rw[ht];exact Lib.extract_to_end s k
 have hts:t.size+k=s.size:=by rw[ht];simp;omega
 rw[<-hT];have HT:=hd hT;have HTT:=hd ht;clear ht hT
 have hI1:∀p,(w.drew.iter t p).cell? ⟨B,1,none⟩=some (.int .i64 (k:Int)):=fun p=>(h.iter t p).blk.cell 1
 have hI2:∀p,(w.drew.iter t p).frozen? ⟨B,1,none⟩=false:=fun p=>(h.iter t p).blk.free 1
 go_enter Tryz.func110,Tryz.ntmps110;go_wp2
 go_region
 all_goals go_wp2
 rw[<-HTT.out];go_loopw [6] (fun v wr=>∃pos:Nat,v=.int .i64 (t.size:Int)/\wr=w.drew.iter t pos/\pos<=t.size/\Hid (Lx.cnt Lx.isSp t.data.toList=pos+Lx.cnt Lx.isSp (t.data.toList.drop pos))) (fun _ wr=>t.size-wr.iterPos w.heap.size)
 case atStart=>exact⟨0,by rw[show s.size-k=t.size from by omega],rfl,by omega,by show _=_;simp⟩
 case round=>
  obtain⟨pos,rfl,rfl,hpos,HK⟩:=hrel;by_cases hlt:pos<t.size
  · have hnx:∀ty,(Instr.next (.pointer (some ⟨w.heap.size,0,none⟩)) true ty).run Tryz.prog (w.drew.iter t pos)=.ok (.tuple #[.bool true,.int .i64 pos,.int .i32 (Utf8.decode t pos).1]) (w.drew.iter t (pos+(Utf8.decode t pos).2)):=fun ty=>run_next_any (P:=Tryz.prog) w.drew t pos ty hlt
    cases hp:NS ((Utf8.decode t pos).1:Int)
    · have HN:=hd (EB.no t pos hlt hp);generalize (Utf8.decode t pos)=d at*;obtain⟨c,n⟩:=d;go_wp2_with(go_at_call 111;refine(qw _ _).mono ?_;rintro e w' ⟨rfl,rfl⟩);go_ret
      have hc:Lx.cnt Lx.isSp t.data.toList=pos:=by rw[HK.out,HN.out];rfl
      rw[hc];refine⟨_,rfl,?_,(h.iter t (pos+n)).set1 (k+pos) (by omega),av (bU w t (pos+n) B) (mY _ B 1 _)⟩;rw[Lib.extract_data];simp
    have HY:=hd (EB.yes t pos hlt hp);generalize (Utf8.decode t pos)=d at*;obtain⟨c,n⟩:=d;go_wp2_with(go_at_call 111;refine(qw _ _).mono ?_;rintro e w' ⟨rfl,rfl⟩);go_roundw
    case rel=>
     obtain⟨y1,y2,y3⟩:=HY.out
     try simp only at y1 y2 y3
     exact⟨pos+n,rfl,rfl,y2,by have h1:=HK.out;show _=_;omega⟩
    case measure=>
     obtain⟨y1,y2,y3⟩:=HY.out
     try simp only at y1 y2 y3
     show t.size-(w.drew.iter t (pos+n)).iterPos w.drew.heap.size<t.size-(w.drew.iter t pos).iterPos w.drew.heap.size;rw[World.iterPos_iter,World.iterPos_iter];omega
  have hnx:∀ty,(Instr.next (.pointer (some ⟨w.heap.size,0,none⟩)) true ty).run Tryz.prog (w.drew.iter t pos)=.ok (.tuple #[.bool false]) (w.drew.iter t pos):=fun ty=>run_next_end (P:=Tryz.prog) w.drew t pos ty hlt
  go_wp2;go_ret
  have hc:Lx.cnt Lx.isSp t.data.toList=t.size:=by rw[HK.out,oo Lx.isSp t pos (by omega)];omega
  rw[hc];refine⟨_,rfl,?_,(h.iter t pos).set1 (k+t.size) (by omega),av (bU w t pos B) (mY _ B 1 _)⟩;rw[List.take_of_length_le (by simp)]
theorem uX(w:World)(B:Nat)(s:ByteArray)(k st:Nat)(h:Rd w B s k st):
   Calls Tryz.prog 110 #[.pointer (some ⟨B,0,none⟩),.func (.func 113) #[] #[]] w fun e w'=>∃u:ByteArray,e=.returned (.string u)/\u.data.toList=(s.data.toList.drop k).take (Lx.cnt Lx.fo (s.data.toList.drop k))/\Rd w' B s (k+Lx.cnt Lx.fo (s.data.toList.drop k)) st/\w.grownBy w' (some B):=by
 obtain⟨⟨b0,b1,b2⟩,b3,b4,b5⟩:=h.blk.three;have hle:=h.le;have hsm:=h.small;obtain⟨t,ht⟩:∃t,t=s.extract k s.size:=⟨_,rfl⟩
 have hT:t.data.toList=s.data.toList.drop k:=by rw[ht];exact Lib.extract_to_end s k
 have hts:t.size+k=s.size:=by rw[ht];simp;omega
 rw[<-hT];have HT:=hd hT;have HTT:=hd ht;clear ht hT
 have hI1:∀p,(w.drew.iter t p).cell? ⟨B,1,none⟩=some (.int .i64 (k:Int)):=fun p=>(h.iter t p).blk.cell 1
 have hI2:∀p,(w.drew.iter t p).frozen? ⟨B,1,none⟩=false:=fun p=>(h.iter t p).blk.free 1
 go_enter Tryz.func110,Tryz.ntmps110;go_wp2
 go_region
 all_goals go_wp2
 rw[<-HTT.out];go_loopw [6] (fun v wr=>∃pos:Nat,v=.int .i64 (t.size:Int)/\wr=w.drew.iter t pos/\pos<=t.size/\Hid (Lx.cnt Lx.fo t.data.toList=pos+Lx.cnt Lx.fo (t.data.toList.drop pos))) (fun _ wr=>t.size-wr.iterPos w.heap.size)
 case atStart=>exact⟨0,by rw[show s.size-k=t.size from by omega],rfl,by omega,by show _=_;simp⟩
 case round=>
  obtain⟨pos,rfl,rfl,hpos,HK⟩:=hrel;by_cases hlt:pos<t.size
  · have hnx:∀ty,(Instr.next (.pointer (some ⟨w.heap.size,0,none⟩)) true ty).run Tryz.prog (w.drew.iter t pos)=.ok (.tuple #[.bool true,.int .i64 pos,.int .i32 (Utf8.decode t pos).1]) (w.drew.iter t (pos+(Utf8.decode t pos).2)):=fun ty=>run_next_any (P:=Tryz.prog) w.drew t pos ty hlt
    cases hp:wY ((Utf8.decode t pos).1:Int)
    · have HN:=hd (wH.no t pos hlt hp);generalize (Utf8.decode t pos)=d at*;obtain⟨c,n⟩:=d;go_wp2_with(go_at_call 113;refine(si _ _).mono ?_;rintro e w' ⟨rfl,rfl⟩);go_ret
      have hc:Lx.cnt Lx.fo t.data.toList=pos:=by rw[HK.out,HN.out];rfl
      rw[hc];refine⟨_,rfl,?_,(h.iter t (pos+n)).set1 (k+pos) (by omega),av (bU w t (pos+n) B) (mY _ B 1 _)⟩;rw[Lib.extract_data];simp
    have HY:=hd (wH.yes t pos hlt hp);generalize (Utf8.decode t pos)=d at*;obtain⟨c,n⟩:=d;go_wp2_with(go_at_call 113;refine(si _ _).mono ?_;rintro e w' ⟨rfl,rfl⟩);go_roundw
    case rel=>
     obtain⟨y1,y2,y3⟩:=HY.out
     try simp only at y1 y2 y3
     exact⟨pos+n,rfl,rfl,y2,by have h1:=HK.out;show _=_;omega⟩
    case measure=>
     obtain⟨y1,y2,y3⟩:=HY.out
     try simp only at y1 y2 y3
     show t.size-(w.drew.iter t (pos+n)).iterPos w.drew.heap.size<t.size-(w.drew.iter t pos).iterPos w.drew.heap.size;rw[World.iterPos_iter,World.iterPos_iter];omega
  have hnx:∀ty,(Instr.next (.pointer (some ⟨w.heap.size,0,none⟩)) true ty).run Tryz.prog (w.drew.iter t pos)=.ok (.tuple #[.bool false]) (w.drew.iter t pos):=fun ty=>run_next_end (P:=Tryz.prog) w.drew t pos ty hlt
  go_wp2;go_ret
  have hc:Lx.cnt Lx.fo t.data.toList=t.size:=by rw[HK.out,oo Lx.fo t pos (by omega)];omega
  rw[hc];refine⟨_,rfl,?_,(h.iter t pos).set1 (k+t.size) (by omega),av (bU w t pos B) (mY _ B 1 _)⟩;rw[List.take_of_length_le (by simp)]
theorem uC(w:World)(B:Nat)(s:ByteArray)(k st:Nat)(h:Rd w B s k st):
   Calls Tryz.prog 110 #[.pointer (some ⟨B,0,none⟩),.func (.func 175) #[] #[]] w fun e w'=>∃u:ByteArray,e=.returned (.string u)/\u.data.toList=(s.data.toList.drop k).take (Lx.cnt Lx.dn (s.data.toList.drop k))/\Rd w' B s (k+Lx.cnt Lx.dn (s.data.toList.drop k)) st/\w.grownBy w' (some B):=by
 obtain⟨⟨b0,b1,b2⟩,b3,b4,b5⟩:=h.blk.three;have hle:=h.le;have hsm:=h.small;obtain⟨t,ht⟩:∃t,t=s.extract k s.size:=⟨_,rfl⟩
 have hT:t.data.toList=s.data.toList.drop k:=by rw[ht];exact Lib.extract_to_end s k
 have hts:t.size+k=s.size:=by rw[ht];simp;omega
 rw[<-hT];have HT:=hd hT;have HTT:=hd ht;clear ht hT
 have hI1:∀p,(w.drew.iter t p).cell? ⟨B,1,none⟩=some (.int .i64 (k:Int)):=fun p=>(h.iter t p).blk.cell 1
 have hI2:∀p,(w.drew.iter t p).frozen? ⟨B,1,none⟩=false:=fun p=>(h.iter t p).blk.free 1
 go_enter Tryz.func110,Tryz.ntmps110;go_wp2
 go_region
 all_goals go_wp2
 rw[<-HTT.out];go_loopw [6] (fun v wr=>∃pos:Nat,v=.int .i64 (t.size:Int)/\wr=w.drew.iter t pos/\pos<=t.size/\Hid (Lx.cnt Lx.dn t.data.toList=pos+Lx.cnt Lx.dn (t.data.toList.drop pos))) (fun _ wr=>t.size-wr.iterPos w.heap.size)
 case atStart=>exact⟨0,by rw[show s.size-k=t.size from by omega],rfl,by omega,by show _=_;simp⟩
 case round=>
  obtain⟨pos,rfl,rfl,hpos,HK⟩:=hrel;by_cases hlt:pos<t.size
  · have hnx:∀ty,(Instr.next (.pointer (some ⟨w.heap.size,0,none⟩)) true ty).run Tryz.prog (w.drew.iter t pos)=.ok (.tuple #[.bool true,.int .i64 pos,.int .i32 (Utf8.decode t pos).1]) (w.drew.iter t (pos+(Utf8.decode t pos).2)):=fun ty=>run_next_any (P:=Tryz.prog) w.drew t pos ty hlt
    cases hp:JZ ((Utf8.decode t pos).1:Int)
    · have HN:=hd (yg.no t pos hlt hp);generalize (Utf8.decode t pos)=d at*;obtain⟨c,n⟩:=d;go_wp2_with(go_at_call 175;refine(ib _ _).mono ?_;rintro e w' ⟨rfl,rfl⟩);go_ret
      have hc:Lx.cnt Lx.dn t.data.toList=pos:=by rw[HK.out,HN.out];rfl
      rw[hc];refine⟨_,rfl,?_,(h.iter t (pos+n)).set1 (k+pos) (by omega),av (bU w t (pos+n) B) (mY _ B 1 _)⟩;rw[Lib.extract_data];simp
    have HY:=hd (yg.yes t pos hlt hp);generalize (Utf8.decode t pos)=d at*;obtain⟨c,n⟩:=d;go_wp2_with(go_at_call 175;refine(ib _ _).mono ?_;rintro e w' ⟨rfl,rfl⟩);go_roundw
    case rel=>
     obtain⟨y1,y2,y3⟩:=HY.out
     try simp only at y1 y2 y3
     exact⟨pos+n,rfl,rfl,y2,by have h1:=HK.out;show _=_;omega⟩
    case measure=>
     obtain⟨y1,y2,y3⟩:=HY.out
     try simp only at y1 y2 y3
     show t.size-(w.drew.iter t (pos+n)).iterPos w.drew.heap.size<t.size-(w.drew.iter t pos).iterPos w.drew.heap.size;rw[World.iterPos_iter,World.iterPos_iter];omega
  have hnx:∀ty,(Instr.next (.pointer (some ⟨w.heap.size,0,none⟩)) true ty).run Tryz.prog (w.drew.iter t pos)=.ok (.tuple #[.bool false]) (w.drew.iter t pos):=fun ty=>run_next_end (P:=Tryz.prog) w.drew t pos ty hlt
  go_wp2;go_ret
  have hc:Lx.cnt Lx.dn t.data.toList=t.size:=by rw[HK.out,oo Lx.dn t pos (by omega)];omega
  rw[hc];refine⟨_,rfl,?_,(h.iter t pos).set1 (k+t.size) (by omega),av (bU w t pos B) (mY _ B 1 _)⟩;rw[List.take_of_length_le (by simp)]
section
open Go.RowKit Go.Shelf Go.Lib
theorem Ld:U8Types Tryz.prog Tryz.lays197_ren:=⟨by kernel_rfl,by kernel_rfl,by kernel_rfl,by kernel_rfl⟩
theorem Kl:U8Extra Tryz.prog Tryz.lays197_ren:=⟨by kernel_rfl,by kernel_rfl,by kernel_rfl,by kernel_rfl,by kernel_rfl,by kernel_rfl,by kernel_rfl⟩
theorem FH:(Rows.laid_unicode_utf8_acceptRanges:DataW Unit)=acceptData:=by kernel_rfl
theorem JN:Rows.laid_unicode_utf8_first=firstData:=Pinned.utf8First_eq
theorem keys_eq:(Rows.laid_clause_reader_keywords:DataW Unit)=.agg (Lx.keys.map fun x=> .lit (.string x)):=by kernel_rfl
theorem Jv:(Rows.laid_clause_reader_signs:DataW Unit)=.agg (jH.map fun x=> .lit (.string x)):=by kernel_rfl
theorem NJ:(Rows.laid_clause_syntax_operators:DataW Unit)=.agg (Px.bP.map Dr):=by kernel_rfl
theorem vW{W:World}(h:W.ShapedOpen Tryz.prog):12<=W.heap.size:=by
 have hz:(((begin Tryz.prog (fun _ _=>0) default).world.heap[12-1]?).bind Obj.row?).isSome=true:=by kernel_rfl
 obtain⟨⟨zero,t⟩,he⟩:=Option.isSome_iff_exists.1 hz;obtain⟨cs,hc,_⟩:=h.1 (12-1) zero t (of_decide_eq_true (by kernel_rfl)) he;obtain⟨hlt,_⟩:=geA.1 hc;exact hlt
theorem vT{W:World}(ha:VarReads Tryz.prog W "unicode/utf8.acceptRanges" Rows.laid_unicode_utf8_acceptRanges)(hk:VarReads Tryz.prog W "clause/reader.keywords" Rows.laid_clause_reader_keywords)
   (hs:VarReads Tryz.prog W "clause/reader.signs" Rows.laid_clause_reader_signs) (hf:VarReads Tryz.prog W "unicode/utf8.first" Rows.laid_unicode_utf8_first)
   (ho:VarReads Tryz.prog W "clause/syntax.operators" Rows.laid_clause_syntax_operators) (hr:VarReads Tryz.prog W "strconv.ErrRange" Rows.laid_strconv_ErrRange) (hsh:W.ShapedOpen Tryz.prog):iZ W where
 env:={
   tabs:=utf8Tabs_of_readsT Ld Kl (JN▸hf) (FH▸ha)
   kws:=mG (t:=383) (e:=9) (m:=27) Lx.keys (by kernel_rfl) (by kernel_rfl) (by kernel_rfl) (by kernel_rfl) (by kernel_rfl) (by kernel_rfl) (keys_eq▸hk)
   sgs:=mG (t:=338) (e:=9) (m:=16) jH (by kernel_rfl) (by kernel_rfl) (by kernel_rfl) (by kernel_rfl) (by kernel_rfl) (by kernel_rfl) (Jv▸hs)
   room:=vW hsh}
 ops:=yK (t:=409) (e:=408) (m:=14) Px.bP (by kernel_rfl) (by kernel_rfl) (by kernel_rfl) Tryz.underlying408 (by kernel_rfl) (by kernel_rfl) rfl (by kernel_rfl) (by kernel_rfl) (by kernel_rfl) (by kernel_rfl) (by kernel_rfl) (by kernel_rfl) rfl rfl rfl (NJ▸ho)
 rng:=yt (t:=209) (by kernel_rfl) (by kernel_rfl) Tryz.underlying209 hr
end
section
namespace Px
open Lx (Bs Tok)
def pkN:List Nd->Int
 |[]=>0
 |x::_=>x.kind
def rA(x:Nd):Option E:=
 if x.kind=14 then if iJ x 0=true then some .null else none
 else if x.kind=15 then if x.text=[]/\x.kids=0/\(x.num=0\/x.num=1)then some (.bool (decide (x.num=1)))else none
 else if x.kind=16 then if x.text=[]/\x.kids=0 then some (.num x.num)else none
 else if x.kind=17 then if Lx.bH x.text=true/\x.num=0/\x.kids=0 then some (.str x.text)else none
 else if x.kind=18 then if isName x.text=true/\x.num=0/\x.kids=0 then some (.nm x.text)else none
 else none
def rE:Nat->List Nd->Option (E×List Nd)
 |0,_=>none
 |_+1,[]=>none
 |f+1,x::r=>
  if x.kind=19\/x.kind=20\/x.kind=21\/x.kind=22 then
    if iJ x 1=true/\¬(x.kind=19/\pkN r=16)then(rE f r).map fun y=>(.un x.kind.toNat y.1,y.2)else none
  else if 23<=x.kind/\x.kind<=36 then
    if iJ x 2=true then(rE f r).bind fun y=>(rE f y.2).map fun z=>(.bin x.kind.toNat y.1 z.1,z.2)else none
  else(rA x).map fun e=>(e,r)
def rN{α:Type}(x:List Nd->Option (α×List Nd)):Nat->List Nd->Option (List α×List Nd)
 |0,l=>some ([],l)
 |k+1,l=>(x l).bind fun y=>(rN x k y.2).map fun z=>(y.1::z.1,z.2)
def rW{α:Type}(is:Int->Bool)(x:List Nd->Option (α×List Nd)):Nat->List Nd->Option (List α×Nat×List Nd)
 |0,l=>some ([],0,l)
 |k+1,l=>if is (pkN l)=true then(x l).bind fun y=>(rW is x k y.2).map fun z=>(y.1::z.1,z.2)else some ([],k+1,l)
def NH:List Nd->Option ((Bs×Nat)×List Nd)
 |[]=>none
 |x::r=>if x.kind=2/\isName x.text=true/\x.kids=0/\1<=(if 4<x.num then x.num-4 else x.num)/\(if 4<x.num then x.num-4 else x.num)<=3 then some ((x.text,x.num.toNat),r)else none
def Ki:List Nd->Option (List E×List Nd)
 |[]=>none
 |x::r=>if x.kind=5/\x.text=[]/\x.num=0/\1<=x.kids then rN (rE 40) x.kids.toNat r else none
def Kn:List Nd->Option ((Bs×E)×List Nd)
 |[]=>none
 |x::r=>if x.kind=8/\isName x.text=true/\x.num=0/\x.kids=1 then(rE 40 r).map fun y=>((x.text,y.1),y.2)else none
def Bg:List Nd->Option (Option E×List Nd)
 |[]=>none
 |x::r=>if x.kind=10 then if iJ x 0=true then some (none,r)else none else(rE 40 (x::r)).map fun y=>(some y.1,y.2)
def xX:List Nd->Option ((E×Bool)×List Nd)
 |[]=>none
 |x::r=>if x.text=[]/\x.kids=1/\(x.num=0\/x.num=1)then(rE 40 r).map fun y=>((y.1,decide (x.num=1)),y.2)else none
def o9(left:Nat)(l:List Nd):Option (Option E×Nat×List Nd):=
 if left≠0/\pkN l=11 then
   match l with
   |[]=>none
   |x::r=>if iJ x 1=true then(rE 40 r).map fun y=>(some y.1,left-1,y.2)else none
 else some (none,left,l)
def KP(left:Nat)(l:List Nd):Option (Option Nat×Nat×List Nd):=
 if left≠0/\pkN l=13 then
   match l with
   |[]=>none
   |x::r=>if x.text=[]/\x.kids=0/\0<=x.num/\x.num<=1000000000 then some (some x.num.toNat,left-1,r)else none
 else some (none,left,l)
def kL(k:Int):Bool:=decide (k=11\/k=12\/k=13)
def Nk:List Nd->Option (St×List Nd)
 |[]=>none
 |x::r=>
  if x.num=0/\isName x.text=true then
    if x.kind=1 then if 1<=x.kids/\x.kids<=6 then(rN NH x.kids.toNat r).map fun y=>(.create x.text y.1,y.2)else none
    else if x.kind=3 then if x.kids=0 then some (.drop x.text,r)else none
    else if x.kind=4 then if 1<=x.kids then(rN Ki x.kids.toNat r).map fun y=>(.insert x.text y.1,y.2)else none
    else if x.kind=6 then if x.kids<0 then none else(o9 x.kids.toNat r).bind fun y=>if y.2.1=0 then some (.delete x.text y.1,y.2.2)else none
    else if x.kind=7 then if x.kids<0 then none else(rW (fun k=>decide (k=8)) Kn x.kids.toNat r).bind fun y=>(o9 y.2.1 y.2.2).bind fun z=>if z.2.1=0/\y.1≠[]then some (.update x.text y.1 z.1,z.2.2)else none
    else if x.kind=9 then if x.kids<0 then none else(rW (fun k=> !kL k) Bg x.kids.toNat r).bind fun y=>(o9 y.2.1 y.2.2).bind fun z=>(rW (fun k=>decide (k=12)) xX z.2.1 z.2.2).bind fun o=>
     (KP o.2.1 o.2.2).bind fun u=>if u.2.1=0/\y.1≠[]then some (.select y.1 x.text z.1 o.1 u.1,u.2.2)else none
    else none
  else none
def rS(l:List Nd):Option St:=(Nk l).bind fun y=>if y.2=[]then some y.1 else none
theorem dh(k:Int)(n:Int):iJ ⟨k,[],0,n⟩ n=true:=by simp[iJ]
theorem kP(e:E):∀(f:Nat) (r:List Nd),e.ok 2000->e.good->e.depth<=f->rE f (e.nodes++r)=some (e,r):=by
 induction e with
 |null=>
  intro f r _ _ hd
  match f,hd with
  |f+1,_=>simp[E.nodes,leaf,rE,rA,iJ]
 |bool b=>
  intro f r _ _ hd
  match f,hd with
  |f+1,_=>cases b<;>simp[E.nodes,leaf,rE,rA]
 |num z=>
  intro f r _ _ hd
  match f,hd with
  |f+1,_=>simp[E.nodes,leaf,rE,rA]
 |str s=>
  intro f r _ hg hd
  match f,hd with
  |f+1,_=>
   have:Lx.bH s=true:=hg;simp[E.nodes,leaf,rE,rA,this]
 |nm s=>
  intro f r _ hg hd
  match f,hd with
  |f+1,_=>
   have:isName s=true:=hg;simp[E.nodes,leaf,rE,rA,this]
 |un k e ih=>
  intro f r ho hg hd
  match f,hd with
  |f+1,hd=>
   obtain⟨h1,h2,h3,h4⟩:=ho;have hi:=ih f r h4 hg (by simp only[E.depth]at hd;omega);simp only[E.nodes,aO,List.cons_append];unfold rE
   have hk:(k:Int)=19\/(k:Int)=20\/(k:Int)=21\/(k:Int)=22:=by omega
   have hp:¬((k:Int)=19/\pkN (e.nodes++r)=16):=by
    rintro⟨e1,e2⟩;have hn:=h3 (by omega)
    cases e with
    |num z=>simp[E.isNum]at hn
    |un k' e'=>simp only[E.nodes,aO,List.cons_append,pkN]at e2;have:=h4.1;have:=h4.2.1;omega
    |bin k' a b=>simp only[E.nodes,bI,List.cons_append,pkN]at e2;have:=h4.1;have:=h4.2.1;omega
    |_=>simp[E.nodes,leaf,pkN]at e2
   simp only[if_pos hk];rw[if_pos (by(repeat' apply And.intro)<;>first|trivial|rfl|assumption|exact dh _ _|omega|(split<;>omega)|(split<;>simp)),hi];simp
 |bin k a b iha ihb=>
  intro f r ho hg hd
  match f,hd with
  |f+1,hd=>
   obtain⟨h1,h2,h3,h4⟩:=ho;simp only[E.depth]at hd;have hi:=iha f (b.nodes++r) h3 hg.1 (by omega);have hj:=ihb f r h4 hg.2 (by omega);simp only[E.nodes,bI,List.cons_append,laa];unfold rE
   have hk:¬((k:Int)=19\/(k:Int)=20\/(k:Int)=21\/(k:Int)=22):=by omega
   simp only[if_neg hk];rw[if_pos (by omega),if_pos (dh _ _),hi];simp only[Option.bind_some];rw[hj];simp
theorem oI{α:Type}{x:List Nd->Option (α×List Nd)}{nd:α->List Nd}:∀(l:List α) (r:List Nd),(∀a∈l,∀r,x (nd a++r)=some (a,r))->rN x l.length (l.flatMap nd++r)=some (l,r)
 |[],r,_=>rfl
 |a::l,r,h=>by
  simp only[List.length_cons,List.flatMap_cons,laa,rN];rw[h a (by simp)];simp only[Option.bind_some];rw[oI l r (fun b hb=>h b (by simp[hb]))]
  rfl
theorem oK{α:Type}{is:Int->Bool}{x:List Nd->Option (α×List Nd)}{nd:α->List Nd}:∀(l:List α) (k:Nat) (r:List Nd),(∀a∈l,∀r,is (pkN (nd a++r))=true/\x (nd a++r)=some (a,r))->(k≠0->is (pkN r)=false)->rW is x (l.length+k) (l.flatMap nd++r)=some (l,k,r)
 |[],k,r,_,hr=>by
  match k,hr with
  |0,_=>rfl
  |k+1,hr=>
   rw[show([]:List α).length+(k+1)=k+1 from by simp];simp only[List.flatMap_nil,List.nil_append,rW];rw[if_neg (by rw[hr (by omega)];decide)]
 |a::l,k,r,h,hr=>by
  obtain⟨h1,h2⟩:=h a (by simp) (l.flatMap nd++r);rw[show(a::l).length+k=(l.length+k)+1 from by simp;omega];simp only[List.flatMap_cons,laa,rW];rw[if_pos h1,h2];simp only[Option.bind_some];rw[oK l k r (fun b hb=>h b (by simp[hb])) hr]
  rfl
theorem xM:∀l:List (Bs×Nat),l.flatMap (fun x=>[mJ x])=l.map mJ
 |[]=>rfl
 |a::l=>by simp only[List.flatMap_cons,List.map_cons,List.singleton_append];rw[xM l]
theorem BC{l:List E}{e:E}(h:e∈l):e.depth<=deepest l:=by
 induction l with
 |nil=>cases h
 |cons a l ih=>
  simp only[deepest];rcases List.mem_cons.1 h with rfl|h
  · omega
  have:=ih h;omega
theorem E.head(e:E)(n:Nat)(ho:e.ok n)(r:List Nd):14<=pkN (e.nodes++r)/\pkN (e.nodes++r)<=36:=by
 cases e with
 |un k e=>simp only[E.nodes,aO,List.cons_append,pkN];have:=ho.1;have:=ho.2.1;omega
 |bin k a b=>simp only[E.nodes,bI,List.cons_append,pkN];have:=ho.1;have:=ho.2.1;omega
 |_=>simp[E.nodes,leaf,pkN]
theorem jJ(w:Option E)(k:Nat)(r:List Nd)(h:∀e∈w.toList,e.ok 2000/\e.good/\e.depth<=40)(hr:k≠0->pkN r≠11):o9 (one? w+k) (dO w++r)=some (w,k,r):=by
 cases w with
 |none=>
  simp only[one?,dO,Nat.zero_add,List.nil_append,o9];rw[if_neg (by rintro⟨h1,h2⟩;exact hr h1 h2)]
 |some e=>
  obtain⟨h1,h2,h3⟩:=h e (by simp);simp only[one?,dO,aO,List.cons_append,o9,pkN];rw[if_pos (by(repeat' apply And.intro)<;>first|trivial|rfl|assumption|exact dh _ _|omega|(split<;>omega)|(split<;>simp)),if_pos (dh _ _),kP e 40 r h1 h2 h3];simp
theorem DI(l:Option Nat)(h:∀n,l=some n->n<=1000000000):KP (one? l) (limN l)=some (l,0,[]):=by
 cases l with
 |none=>simp[one?,limN,KP]
 |some n=>
  have:=h n rfl;simp only[one?,limN,KP,pkN];rw[if_pos (by(repeat' apply And.intro)<;>first|trivial|rfl|assumption|exact dh _ _|omega|(split<;>omega)|(split<;>simp)),if_pos (by(repeat' apply And.intro)<;>first|trivial|rfl|assumption|exact dh _ _|omega|(split<;>omega)|(split<;>simp))];simp
theorem JF(s:St)(hf:s.Fit)(hg:∀e∈s.exprs,e.good)(hd:deepest s.exprs<=40):rS s.nodes=some s:=by
 have hall:∀e∈s.exprs,e.ok 2000/\e.good/\e.depth<=40:=fun e he=>⟨hf.exprs e he,hg e he,by have:=BC he;omega⟩
 have hp:=hf.parts;unfold rS
 cases s with
 |create t c=>
  obtain⟨h1,h2,h3,h4⟩:=hp
  have hn:rN NH c.length (c.flatMap (fun x=>[mJ x])++[])=some (c,[]):=oI c [] (fun a ha r=>by
   obtain⟨q1,q2,q3,q4⟩:=h4 a ha;simp only[mJ,List.cons_append,List.nil_append,NH];rw[if_pos (by(repeat' apply And.intro)<;>first|trivial|rfl|assumption|exact dh _ _|omega|(split<;>omega)|(split<;>simp))]
   simp)
  have hm:c.flatMap (fun x=>[mJ x])++[]=c.map mJ:=by rw[List.append_nil];exact xM c
  rw[hm]at hn;simp only[St.nodes,Nk];rw[if_pos (by(repeat' apply And.intro)<;>first|trivial|rfl|assumption|exact dh _ _|omega|(split<;>omega)|(split<;>simp))];simp only[if_true];rw[if_pos (by(repeat' apply And.intro)<;>first|trivial|rfl|assumption|exact dh _ _|omega|(split<;>omega)|(split<;>simp))];simp[hn]
 |drop t=>
  have h1:isName t=true:=hp;simp[St.nodes,Nk,h1]
 |insert t rs=>
  obtain⟨h1,h2,h3⟩:=hp
  have hrow:∀a∈rs,∀r,Ki (Gp a++r)=some (a,r):=by
   intro a ha r;have hne:=h3 a ha;have hl:1<=a.length:=List.length_pos_iff.2 hne;simp only[Gp,List.cons_append,Ki];rw[if_pos (by(repeat' apply And.intro)<;>first|trivial|rfl|assumption|exact dh _ _|omega|(split<;>omega)|(split<;>simp))];simp only[Int.toNat_natCast];refine oI a r (fun e he r=> ?_);obtain⟨q1,q2,q3⟩:=hall e (by simp only[St.exprs,List.mem_flatten];exact⟨a,ha,he⟩);exact kP e 40 r q1 q2 q3
  have hl:1<=rs.length:=List.length_pos_iff.2 h2;have hn:=oI (x:=Ki) (nd:=Gp) rs [] hrow;rw[List.append_nil]at hn;simp only[St.nodes,Nk];rw[if_pos (by(repeat' apply And.intro)<;>first|trivial|rfl|assumption|exact dh _ _|omega|(split<;>omega)|(split<;>simp))];simp only[show¬((4:Int)=1) by decide,show¬((4:Int)=3) by decide,if_false,if_true];rw[if_pos (by omega)];simp[hn]
 |delete t w=>
  have h1:isName t=true:=hp;have hw:=jJ w 0 [] (fun e he=>hall e (by simpa[St.exprs]using he)) (by simp);rw[Nat.add_zero,List.append_nil]at hw;simp only[St.nodes,Nk];rw[if_pos (by(repeat' apply And.intro)<;>first|trivial|rfl|assumption|exact dh _ _|omega|(split<;>omega)|(split<;>simp))];simp only[show¬((6:Int)=1) by decide,show¬((6:Int)=3) by decide,show¬((6:Int)=4) by decide,if_false,if_true];rw[if_neg (by omega)];simp[hw]
 |update t ss w=>
  obtain⟨h1,h2,h3⟩:=hp
  have hs:∀a∈ss,∀r,decide (pkN (Bw a++r)=8)=true/\Kn (Bw a++r)=some (a,r):=by
   intro a ha r;obtain⟨q1,q2,q3⟩:=hall a.2 (by simp only[St.exprs,List.mem_append,List.mem_map];exact .inl ⟨a,ha,rfl⟩);have h3':=h3 a ha;simp only[Bw,List.cons_append,pkN,Kn];rw[if_pos (by(repeat' apply And.intro)<;>first|trivial|rfl|assumption|exact dh _ _|omega|(split<;>omega)|(split<;>simp)),kP a.2 40 r q1 q2 q3];simp
  have hw:=jJ w 0 [] (fun e he=>hall e (by simp only[St.exprs,List.mem_append];exact .inr he)) (by simp);rw[Nat.add_zero,List.append_nil]at hw
  have hr:=oK (is:=fun k=>decide (k=8)) (x:=Kn) (nd:=Bw) ss (one? w) (dO w) hs (fun _=>by
   cases w with
   |none=>simp[dO,pkN]
   |some e=>simp[dO,aO,pkN])
  simp only[St.nodes,Nk];rw[if_pos (by(repeat' apply And.intro)<;>first|trivial|rfl|assumption|exact dh _ _|omega|(split<;>omega)|(split<;>simp))];simp only[show¬((7:Int)=1) by decide,show¬((7:Int)=3) by decide,show¬((7:Int)=4) by decide,show¬((7:Int)=6) by decide,if_false,if_true];rw[if_neg (by omega)];rw[show((ss.length:Int)+(one? w:Int)).toNat=ss.length+one? w from by omega,hr];simp[hw,h2]
 |select is t w os lim=>
  obtain⟨h1,h2,h3⟩:=hp
  have hi:∀a∈is,∀r,(!kL (pkN (itemN a++r)))=true/\Bg (itemN a++r)=some (a,r):=by
   intro a ha r
   cases a with
   |none=>simp[itemN,pkN,kL,Bg,iJ]
   |some e=>
    obtain⟨q1,q2,q3⟩:=hall e (by simp only[St.exprs,List.mem_append,List.mem_filterMap,id];exact .inl (.inl ⟨some e,ha,rfl⟩));have hh:=e.head 2000 q1 r;have hx:=kP e 40 r q1 q2 q3;simp only[itemN];refine⟨by simp[kL];omega,?_⟩
    match hn:e.nodes++r,hh,hx with
    |[],hh,hx=>simp[pkN]at hh
    |x::r',hh,hx=>
     simp only[pkN]at hh;simp only[Bg];rw[if_neg (by omega),hx]
     rfl
  have ho:∀a∈os,∀r,decide (pkN (dH a++r)=12)=true/\xX (dH a++r)=some (a,r):=by
   intro a ha r;obtain⟨q1,q2,q3⟩:=hall a.1 (by simp only[St.exprs,List.mem_append,List.mem_map];exact .inr ⟨a,ha,rfl⟩);simp only[dH,List.cons_append,pkN,xX];refine⟨by simp,?_⟩;rw[if_pos (by(repeat' apply And.intro)<;>first|trivial|rfl|assumption|exact dh _ _|omega|(split<;>omega)|(split<;>simp)),kP a.1 40 r q1 q2 q3];obtain⟨e,b⟩:=a
   cases b<;>simp
  have hl:=DI lim h3
  have hlim:pkN (limN lim)=0\/pkN (limN lim)=13:=by cases lim<;>simp[limN,pkN]
  have hor:=oK (is:=fun k=>decide (k=12)) (x:=xX) (nd:=dH) os (one? lim) (limN lim) ho (fun _=>by rcases hlim with h|h<;>rw[h]<;>decide)
  have hpo:∀l,pkN (os.flatMap dH++limN lim)=l->l=0\/l=12\/l=13:=by
   intro l e
   cases os with
   |nil=>simp only[List.flatMap_nil,List.nil_append]at e;rw[<-e];rcases hlim with h|h<;>omega
   |cons a r=>simp only[List.flatMap_cons,dH,List.cons_append,pkN]at e;omega
  have hw:=jJ w (os.length+one? lim) (os.flatMap dH++limN lim) (fun e he=>hall e (by simp only[St.exprs,List.mem_append];exact .inl (.inr he))) (fun _ e=>by rcases hpo _ e with h|h|h<;>omega)
  have hit:=oK (is:=fun k=> !kL k) (x:=Bg) (nd:=itemN) is (one? w+(os.length+one? lim)) (dO w++(os.flatMap dH++limN lim)) hi (fun hne=>by
   cases w with
   |some e=>simp[dO,aO,pkN,kL]
   |none=>
    simp only[dO,List.nil_append]
    cases os with
    |cons a r=>simp[dH,pkN,kL]
    |nil=>
     cases lim with
     |some n=>simp[limN,pkN,kL]
     |none=>simp[one?]at hne)
  simp only[St.nodes,Nk];rw[if_pos (by(repeat' apply And.intro)<;>first|trivial|rfl|assumption|exact dh _ _|omega|(split<;>omega)|(split<;>simp))];simp only[show¬((9:Int)=1) by decide,show¬((9:Int)=3) by decide,show¬((9:Int)=4) by decide,show¬((9:Int)=6) by decide,show¬((9:Int)=7) by decide,if_false,if_true];rw[if_neg (by omega)];rw[show((is.length:Int)+(one? w:Int)+(os.length:Int)+(one? lim:Int)).toNat=is.length+(one? w+(os.length+one? lim))from by omega];rw[show is.flatMap itemN++dO w++os.flatMap dH++limN lim=is.flatMap itemN++(dO w++(os.flatMap dH++limN lim))from by simp[laa],hit];simp only[Option.bind_some];rw[hw];simp only[Option.bind_some];rw[hor];simp only[Option.bind_some];rw[hl];simp[h2]
end Px
end
section
open Lx (Bs)
theorem tJ:∀(f n:Nat),n<10^(f+1)->Px.decF (f+1) n=Lib.decDigits n
 |0,n,h=>by
  have h1:n<10:=by simpa using h
  rw[Px.decF,Lib.decDigits,if_pos h1,dif_pos h1]
 |f+1,n,h=>by
  rw[Px.decF,Lib.decDigits];by_cases h1:n<10
  · rw[if_pos h1,dif_pos h1]
  rw[if_neg h1,dif_neg h1,tJ f (n/10) (by rw[Nat.pow_succ]at h;omega)]
theorem Jo(n:Nat)(h:n<=9223372036854775808):Lib.itoa (n:Int)=Px.decF 20 n:=by
 rw[Lib.itoa_nonneg,tJ 19 n (by omega)]
theorem Jq(n:Nat)(h0:1<=n)(h:n<=9223372036854775808):Lib.itoa (-(n:Int))=45::Px.decF 20 n:=by
 rw[Lib.itoa_neg n h0,tJ 19 n (by omega)]
end
namespace Lx
theorem qA:∀l:Bs,(∀b∈l,0<b.toNat/\b.toNat<128)->bH l=true
 |[],_=>rfl
 |b::r,h=>by
  have hb:=h b (by simp)
  have hc:aD (b::r)=1:=by unfold aD;simp only;rw[if_pos hb.2]
  rw[kI,hc,if_neg (by omega)];exact qA r (fun x hx=>h x (by simp[hx]))
structure pU(t:Tok):Prop where
 str:t.kind=17->bH t.text=true
 name:t.kind=18->bH t.text=true/\t.text≠[]
theorem Ms(b:UInt8)(h:dn b=true):0<(yQ b).toNat/\(yQ b).toNat<128:=by
 simp only[dn,aH,isLet,Bool.or_eq_true,decide_eq_true_eq]at h;unfold yQ
 split
 · rename_i h1
   have:(b+32).toNat=b.toNat+32:=by
    rw[UInt8.toNat_add];show(b.toNat+32)%256=_;omega
   omega
 omega
theorem JW{l:Bs}{t:Bs}(h:oneT l=.ok (k,t,n))(p:Nat):pU ⟨k,t,p⟩:=by
 unfold oneT at h
 split at h
 · simp at h
 rename_i b r
 split at h
 · rename_i hlet
   split at h
   · simp only[Except.ok.injEq,Prod.mk.injEq]at h;obtain⟨rfl,rfl,rfl⟩:=h;exact⟨fun e=>by simp at e,fun e=>by simp at e⟩
   simp only[Except.ok.injEq,Prod.mk.injEq]at h;obtain⟨rfl,rfl,rfl⟩:=h;refine⟨fun e=>by simp at e,fun _=>⟨?_,?_⟩⟩
   · apply qA;intro x hx;obtain⟨y,hy,rfl⟩:=List.mem_map.1 hx;exact Ms y (xV dn (b::r) y hy)
   have hw:dn b=true:=by unfold dn;rw[hlet];simp
   have:=nT (r:=r) hw;intro e;have e2:=congrArg List.length e;simp only[List.length_map,List.length_take,List.length_nil,List.length_cons]at e2;omega
 split at h
 · split at h
   · simp at h
   split at h
   · simp at h
   simp only[Except.ok.injEq,Prod.mk.injEq]at h;obtain⟨rfl,rfl,rfl⟩:=h;exact⟨fun e=>by simp at e,fun e=>by simp at e⟩
 split at h
 · split at h
   · simp at h
   split at h
   · simp at h
   rename_i hv;simp only[Except.ok.injEq,Prod.mk.injEq]at h;obtain⟨rfl,rfl,rfl⟩:=h;rename_i t' n' _
   have hv1:bH t'=true:=by
    cases hh:bH t' with
    |true=>rfl
    |false=>exact absurd (.inl hh) hv
   refine⟨fun _=>hv1,fun e=>⟨hv1,fun e2=> ?_⟩⟩;by_cases h34:b.toNat=34
   · exact hv (.inr ⟨h34,e2⟩)
   simp only at e;rw[if_neg h34]at e;simp at e
 split at h
 · simp only[Except.ok.injEq,Prod.mk.injEq]at h;obtain⟨rfl,rfl,rfl⟩:=h;exact⟨fun e=>by simp at e,fun e=>by simp at e⟩
 split at h
 · simp only[Except.ok.injEq,Prod.mk.injEq]at h;obtain⟨rfl,rfl,rfl⟩:=h;exact⟨fun e=>by simp at e,fun e=>by simp at e⟩
 simp at h
theorem Hg:∀(m:Nat) (l:Bs) (pos:Nat) (ts:List Tok),l.length<=m->lexM 0 pos l=.ok ts->∀t∈ts,pU t:=by
 intro m
 induction m with
 |zero=>
  intro l pos ts hl h;obtain rfl:=List.length_eq_zero_iff.1 (Nat.le_zero.1 hl);simp only[lexM,Except.ok.injEq]at h;subst h
  exact fun t ht=>by cases ht
 |succ m ih=>
  intro l pos ts hl h
  cases l with
  |nil=>
   simp only[lexM,Except.ok.injEq]at h;subst h
   exact fun t ht=>by cases ht
  |cons b r=>
   rw[jo]at h
   split at h
   · simp at h
   rename_i k t n h1;have hn:=iB h1
   split at h
   · rename_i us h2;simp only[Except.ok.injEq]at h;subst h;intro x hx;rcases List.mem_cons.1 hx with rfl|hx
     · exact JW h1 pos
     refine ih _ _ _ ?_ h2 x hx;simp only[List.length_drop,List.length_cons]at hl hn⊢;omega
   simp at h
theorem J9{l:Bs}{ts:List Tok}(h:lex l=.ok ts):∀t∈ts,pU t:=by
 unfold lex at h
 split at h
 · simp at h
 exact Hg _ _ _ _ (nlr _) h
end Lx
section
namespace Px
open Lx (Bs Tok pU)
def MP(x:Nd):Prop:=(x.kind=17->Lx.bH x.text=true)/\(x.kind=18->isName x.text=true)
def lY(ts:List Tok):Prop:=∀t∈ts,pU t
def lX(l:List Nd):Prop:=∀x∈l,MP x
theorem lY.tail{ts:List Tok}(h:lY ts):lY ts.tail:=fun t ht=>h t (List.mem_of_mem_tail ht)
theorem lX.aO{k:Int}{l:List Nd}(h:lX l)(hk:k≠18):lX (aO k l):=by
 intro x hx;rcases List.mem_cons.1 hx with rfl|hx
 · exact⟨fun _=>rfl,fun e=>absurd e hk⟩
 exact h x hx
theorem lX.bI{k:Int}{a b:List Nd}(ha:lX a)(hb:lX b)(hk:k≠18):lX (bI k a b):=by
 intro x hx;rcases List.mem_cons.1 hx with rfl|hx
 · exact⟨fun _=>rfl,fun e=>absurd e hk⟩
 rcases List.mem_append.1 hx with hx|hx
 · exact ha x hx
 exact hb x hx
theorem lX.num(z:Int):lX (leaf 16 [] z):=by
 intro x hx;simp[leaf]at hx;subst hx;exact⟨fun e=>by simp at e,fun e=>by simp at e⟩
theorem Eg(lv:Nat)(s:Bs):∀l:List (Nat×Bs×Nat),(∀o∈l,o.2.2≠18)->opIn l lv s≠18
 |[],_=>by simp[opIn]
 |o::r,h=>by
  unfold opIn
  split
  · exact h o (by simp)
  exact Eg lv s r (fun x hx=>h x (by simp[hx]))
theorem DY(l:Nat)(ts:List Tok):((oper l ts:Nat):Int)≠18:=by
 have:oper l ts≠18:=by
  unfold oper
  split
  · simp
  split
  · exact Eg l _ bP (by decide)
  simp
 omega
theorem FY{ts q:List Tok}{b:List Nd}(h:atom sz ts=some (.ok (b,q)))(hv:lY ts):lX b/\lY q:=by
 match ts,h,hv with
 |[],h,_=>simp[atom]at h
 |t::r,h,hv=>
  have ht:=hv t (by simp)
  have hr:lY r:=fun x hx=>hv x (by simp[hx])
  unfold atom at h;simp only at h
  repeat' split at h
  all_goals first
   |(cases h;done)
   |(cases h
     refine⟨?_,hr⟩;intro x hx;simp[leaf]at hx;subst hx;refine⟨fun e=> ?_,fun e=> ?_⟩
     all_goals first
      |(simp at e;done)
      |exact ht.str (by assumption)
      |skip
     all_goals
      have h18:=ht.name (by assumption);unfold isName;rw[h18.1]
      have h30:t.text.length<=30:=by omega
      cases hh:t.text with
      |nil=>exact absurd hh h18.2
      |cons c r'=>rw[hh]at h30;simp at h30⊢;exact h30)
theorem J2:∀n m a ts b q,ex sz n m a ts=some (.ok (b,q))->lY ts->lX a->lX b/\lY q:=by
 intro n
 induction n with
 |zero=>intro m a ts b q h;cases h
 |succ n ih=>
  intro m a ts b q h hv ha
  have nil:lX []:=fun x hx=>by cases hx
  unfold ex at h
  split at h
  · split at h
    · cases h;exact⟨ha,hv⟩
    rcases tF h with⟨e,_,h2⟩|⟨b1,q1,h1,h2⟩
    · cases h2
    have i1:=ih _ _ _ _ _ h1 hv.tail nil;exact ih _ _ _ _ _ h2 i1.2 (ha.bI i1.1 (DY _ _))
  split at h
  · split at h
    · rcases tF h with⟨e,_,h2⟩|⟨b1,q1,h1,h2⟩
      · cases h2
      cases h2
      have i1:=ih _ _ _ _ _ h1 hv.tail nil;exact⟨i1.1.aO (by decide),i1.2⟩
    exact ih _ _ _ _ _ h hv nil
  split at h
  · rcases tF h with⟨e,_,h2⟩|⟨b1,q1,h1,h2⟩
    · cases h2
    have i1:=ih _ _ _ _ _ h1 hv nil;unfold gD at h2
    split at h2
    · split at h2
      · rcases tF h2 with⟨e,_,h3⟩|⟨b2,q2,h3,h4⟩
        · cases h3
        cases h4
        rcases aK h3 with⟨c6,h6⟩|⟨_,h6⟩
        · cases h6
          exact⟨i1.1.aO (by decide),i1.2.tail.tail.tail⟩
        cases h6
      rcases tF h2 with⟨e,_,h3⟩|⟨b2,q2,h3,h4⟩
      · cases h3
      cases h4
      rcases aK h3 with⟨c6,h6⟩|⟨_,h6⟩
      · cases h6
        exact⟨i1.1.aO (by decide),i1.2.tail.tail⟩
      cases h6
    split at h2
    · cases h2;exact i1
    rcases tF h2 with⟨e,_,h3⟩|⟨b2,q2,h3,h4⟩
    · cases h3
    cases h4
    have i2:=ih _ _ _ _ _ h3 i1.2.tail nil;exact⟨i1.1.bI i2.1 (DY _ _),i2.2⟩
  split at h
  · split at h
    · split at h
      · cases h
        exact⟨lX.num _,hv.tail.tail⟩
      rcases tF h with⟨e,_,h2⟩|⟨b1,q1,h1,h2⟩
      · cases h2
      have i1:=ih _ _ _ _ _ h1 hv.tail nil;unfold negate at h2
      split at h2
      · cases h2
        exact⟨i1.1.aO (by decide),i1.2⟩
      split at h2
      · cases h2
        exact⟨i1.1.aO (by decide),i1.2⟩
      split at h2
      · cases h2
      cases h2
      exact⟨lX.num _,i1.2⟩
    exact ih _ _ _ _ _ h hv nil
  split at h
  · split at h
    · rcases tF h with⟨e,_,h2⟩|⟨b1,q1,h1,h2⟩
      · cases h2
      have i1:=ih _ _ _ _ _ h1 hv.tail nil;rcases tF h2 with⟨e,_,h3⟩|⟨b2,q2,h3,h4⟩
      · cases h3
      cases h4
      rcases aK h3 with⟨c7,h7⟩|⟨_,h7⟩
      · cases h7
        exact⟨i1.1,i1.2.tail⟩
      cases h7
    exact FY h hv
  rcases tF h with⟨e,_,h2⟩|⟨b1,q1,h1,h2⟩
  · cases h2
  have i1:=ih _ _ _ _ _ h1 hv nil;exact ih _ _ _ _ _ h2 i1.2 i1.1
theorem E.rD:∀e:E,lX e.nodes->e.good
 |.null,_=>trivial
 |.bool _,_=>trivial
 |.num _,_=>trivial
 |.str s,h=>(h ⟨17,s,0,0⟩ (by simp[E.nodes,leaf])).1 rfl
 |.nm s,h=>(h ⟨18,s,0,0⟩ (by simp[E.nodes,leaf])).2 rfl
 |.un k e,h=>E.rD e (fun x hx=>h x (by simp[E.nodes,aO,hx]))
 |.bin k a b,h=>⟨E.rD a (fun x hx=>h x (by simp[E.nodes,bI,hx])),E.rD b (fun x hx=>h x (by simp[E.nodes,bI,hx]))⟩
theorem Jg{ts q:List Tok}{e:E}(h:zU sz ts (.ok (e,q)))(hv:lY ts):e.good/\lY q/\e.ok 2000:=by
 obtain⟨⟨n,hn⟩,h2⟩:=h;have:=J2 n 1 [] ts e.nodes q hn hv (fun x hx=>by cases hx);exact⟨E.rD e this.1,this.2,(h2 e q rfl).1⟩
theorem Dw{ts q:List Tok}{s:Bs}(h:nameR sz ts (.ok (s,q)))(hv:lY ts):isName s=true/\lY q:=by
 unfold nameR name at h
 split at h
 · cases h
 rename_i t r
 split at h
 · cases h
 rename_i hk
 split at h
 · cases h
 rename_i hl
 cases h
 have h18:=(hv t (by simp)).name (by simpa using hk);refine⟨?_,fun x hx=>hv x (by simp[hx])⟩;unfold isName;rw[h18.1]
 cases hh:t.text with
 |nil=>exact absurd hh h18.2
 |cons c r'=>rw[hh]at hl;simp at hl⊢;omega
end Px
end
section
namespace Px
open Lx (Bs Tok pU)
variable {α β:Type}
def aQ(x:Rg α)(P:α->Prop):Prop:=∀ts a q,x ts (.ok (a,q))->lY ts->P a/\lY q
theorem aQ.seq{x:Rg α}{f:α->Rg β}{P:α->Prop}{Q:β->Prop}(hx:aQ x P)(hf:∀a,P a->aQ (f a) Q):aQ (Rg.seq x f) Q:=by
 rintro ts b q ⟨r1,h1,h2⟩ hv
 match r1,h1,h2 with
 |.error e,h1,h2=>cases h2
 |.ok (a,q1),h1,h2=>
  obtain⟨p1,p2⟩:=hx ts a q1 h1 hv;exact hf a p1 q1 b q h2 p2
theorem aQ.ret{a:α}{P:α->Prop}(h:P a):aQ (Rg.ret a) P:=by
 intro ts b q h1 hv
 cases h1
 exact⟨h,hv⟩
theorem aQ.must(sz:Nat)(s:Bs):aQ (bG sz s) fun _=>True:=by
 intro ts a q h hv;rcases aK h with⟨_,h2⟩|⟨_,h2⟩
 · cases h2;exact⟨trivial,hv.tail⟩
 cases h2
theorem aQ.name(sz:Nat):aQ (nameR sz) fun s=>isName s=true:=fun ts a q h hv=>Dw h hv
theorem aQ.ex(sz:Nat):aQ (zU sz) fun e=>e.good/\e.ok 2000:=fun ts a q h hv=>by
 have:=Jg h hv;exact⟨⟨this.1,this.2.2⟩,this.2.1⟩
theorem nH{x:Nat->Rg α}{P:α->Prop}(hx:∀i,aQ (x i) P){ts:List Tok}{l:List α}{q:List Tok}(h:Reach x ts l q)(hv:lY ts):(l≠[]/\∀a∈l,P a)/\lY q:=by
 induction h with
 |first h1=>
  have:=hx 0 _ _ _ h1 hv;exact⟨⟨by simp,fun a ha=>by simp at ha;subst ha;exact this.1⟩,this.2⟩
 |step h1 h2 h3 ih=>
  have:=hx _ _ _ _ h3 ih.2.tail;refine⟨⟨by simp,fun a ha=> ?_⟩,this.2⟩;rcases List.mem_append.1 ha with ha|ha
  · exact ih.1.2 a ha
  simp at ha;subst ha;exact this.1
theorem aQ.sep{x:Nat->Rg α}{P:α->Prop}(hx:∀i,aQ (x i) P):aQ (Sep x) fun l=>l≠[]/\∀a∈l,P a:=by
 intro ts l q h hv
 cases h with
 |stop h1 h2=>exact nH hx h1 hv
def Km(o:Option E):Prop:=∀e∈o.toList,e.good/\e.ok 2000
theorem aQ.where(sz:Nat):aQ (eY sz) Km:=by
 intro ts a q h hv;unfold eY at h
 split at h
 · exact(aQ.seq (aQ.ex sz) (fun e he=>aQ.ret (P:=Km) (by intro e' h';simp at h';subst h';exact he))) _ _ _ h hv.tail
 cases h
 exact⟨fun e he=>(by simp at he),hv⟩
theorem aQ.mono{x:Rg α}{P Q:α->Prop}(hx:aQ x P)(h:∀a,P a->Q a):aQ x Q:=fun ts a q h1 hv=>⟨h a (hx ts a q h1 hv).1,(hx ts a q h1 hv).2⟩
theorem aQ.kind(sz:Nat):aQ (fu sz) fun k=>1<=k/\k<=3:=by
 intro ts a q h hv;unfold fu at h
 split at h
 · cases h;exact⟨by omega,hv.tail⟩
 split at h
 · cases h;exact⟨by omega,hv.tail⟩
 exact(aQ.seq (aQ.must sz _) (fun _ _=>aQ.ret (P:=fun k=>1<=k/\k<=3) (by omega))) _ _ _ h hv
def dJ(x:Bs×Nat):Prop:=isName x.1=true/\1<=x.2/\x.2<=7/\x.2≠4
theorem aQ.null(sz:Nat)(n:Bs)(k:Nat)(hn:isName n=true)(hk:1<=k/\k<=3):aQ (iX sz n k) dJ:=by
 intro ts a q h hv;unfold iX at h
 split at h
 · exact(aQ.seq (aQ.must sz _) (fun _ _=>aQ.ret (P:=dJ) ⟨hn,by simp only;omega,by simp only;omega,by simp only;omega⟩)) _ _ _ h hv.tail
 cases h
 exact⟨⟨hn,by simp only;omega,by simp only;omega,by simp only;omega⟩,hv⟩
theorem aQ.Aq(sz i:Nat):aQ (jh sz i) fun x=>dJ x/\i<6:=by
 intro ts a q h hv;unfold jh at h;refine(aQ.seq (Q:=fun x=>dJ x/\i<6) (f:=fun n q r=>if 6<=i then r=.error (plc sz ts,4)else Rg.seq (fu sz) (iX sz n) q r) (aQ.name sz) (fun n hn=> ?_)) _ _ _ h hv;intro ts2 b q2 h2 hv2
 split at h2
 · cases h2
 rename_i hi;have:=(aQ.seq (aQ.kind sz) (fun k hk=>aQ.null sz n k hn hk)) _ _ _ h2 hv2;exact⟨⟨this.1,by omega⟩,this.2⟩
def Cy(s:St):Prop:=s.Fit/\∀e∈s.exprs,e.good
theorem aQ.Nu(sz:Nat):aQ (Sep (jh sz)) fun l=>(l≠[]/\∀a∈l,dJ a)/\l.length<=6:=by
 intro ts l q h hv
 cases h with
 |stop h1 h2=>
  have:=nH (P:=dJ) (fun i=>(aQ.Aq sz i).mono fun a ha=>ha.1) h1 hv;refine⟨⟨this.1,?_⟩,this.2⟩
  have key:∀{l:List (Bs×Nat)} {q:List Tok},Reach (jh sz) ts l q->l.length<=6:=by
   intro l q h
   induction h with
   |first _=>simp
   |step h1 h2 h3 ih=>
    rename_i l' q' a' q'';have hv':=(nH (P:=dJ) (fun i=>(aQ.Aq sz i).mono fun a ha=>ha.1) h1 hv).2;have:=(aQ.Aq sz _ _ _ _ h3 hv'.tail).1.2;simp only[List.length_append,List.length_singleton];omega
  exact key h1
theorem Je(sz:Nat):aQ (cZ sz) Cy:=by
 intro ts s q h hv;unfold cZ at h
 split at h
 · exact(aQ.seq (aQ.must sz _) fun _ _=>aQ.seq (aQ.name sz) fun t ht=>aQ.seq (aQ.must sz _) fun _ _=>aQ.seq (aQ.Nu sz) fun l hl=>aQ.seq (aQ.must sz _) fun _ _=>aQ.ret (a:=St.create t l) (P:=Cy)
     ⟨⟨fun e he=>(by simp[St.exprs]at he),ht,List.length_pos_iff.2 hl.1.1,hl.2,hl.1.2⟩,fun e he=>(by simp[St.exprs]at he)⟩) _ _ _ h hv.tail
 split at h
 · exact(aQ.seq (aQ.must sz _) fun _ _=>aQ.seq (aQ.name sz) fun t ht=>aQ.ret (a:=St.drop t) (P:=Cy) ⟨⟨fun e he=>(by simp[St.exprs]at he),ht⟩,fun e he=>(by simp[St.exprs]at he)⟩) _ _ _ h hv.tail
 split at h
 · have hrow:aQ (yL sz) fun l=>l≠[]/\∀e∈l,e.good/\e.ok 2000:=aQ.seq (aQ.must sz _) fun _ _=>aQ.seq (aQ.sep fun _=>aQ.ex sz) fun l hl=>aQ.seq (aQ.must sz _) fun _ _=>aQ.ret hl
   refine(aQ.seq (aQ.must sz _) fun _ _=>aQ.seq (aQ.name sz) fun t ht=>aQ.seq (aQ.must sz _) fun _ _=>aQ.seq (aQ.sep fun _=>hrow) fun l hl=>aQ.ret (a:=St.insert t l) (P:=Cy) ⟨⟨?_,ht,hl.1,fun x hx=>(hl.2 x hx).1⟩,?_⟩) _ _ _ h hv.tail
   · intro e he;obtain⟨r,hr,her⟩:=List.mem_flatten.1 he;exact((hl.2 r hr).2 e her).2
   intro e he;obtain⟨r,hr,her⟩:=List.mem_flatten.1 he;exact((hl.2 r hr).2 e her).1
 split at h
 · exact(aQ.seq (aQ.must sz _) fun _ _=>aQ.seq (aQ.name sz) fun t ht=>aQ.seq (aQ.where sz) fun w hw=>aQ.ret (a:=St.delete t w) (P:=Cy) ⟨⟨fun e he=>(hw e he).2,ht⟩,fun e he=>(hw e he).1⟩) _ _ _ h hv.tail
 split at h
 · have hset:aQ (zg sz) fun x=>isName x.1=true/\x.2.good/\x.2.ok 2000:=aQ.seq (aQ.name sz) fun n hn=>aQ.seq (aQ.must sz _) fun _ _=>aQ.seq (aQ.ex sz) fun e he=>aQ.ret ⟨hn,he⟩
   refine(aQ.seq (aQ.name sz) fun t ht=>aQ.seq (aQ.must sz _) fun _ _=>aQ.seq (aQ.sep fun _=>hset) fun l hl=>aQ.seq (aQ.where sz) fun w hw=>aQ.ret (a:=St.update t l w) (P:=Cy) ⟨⟨?_,ht,hl.1,fun x hx=>(hl.2 x hx).1⟩,?_⟩) _ _ _ h hv.tail
   · intro e he;rcases List.mem_append.1 he with he|he
     · obtain⟨x,hx,rfl⟩:=List.mem_map.1 he;exact(hl.2 x hx).2.2
     exact(hw e he).2
   intro e he;rcases List.mem_append.1 he with he|he
   · obtain⟨x,hx,rfl⟩:=List.mem_map.1 he;exact(hl.2 x hx).2.1
   exact(hw e he).1
 have Hz:aQ (fO sz) Km:=by
  intro ts a q h hv;unfold fO at h
  split at h
  · cases h
    exact⟨fun e he=>(by simp at he),hv.tail⟩
  exact(aQ.seq (aQ.ex sz) (fun e he=>aQ.ret (P:=Km) (by intro e' h';simp at h';subst h';exact he))) _ _ _ h hv
 have hdesc:∀e:E,(e.good/\e.ok 2000)->aQ (iF e) fun x=>x.1.good/\x.1.ok 2000:=by
  intro e he ts a q h hv;unfold iF at h
  split at h
  · cases h;exact⟨he,hv.tail⟩
  split at h
  · cases h;exact⟨he,hv.tail⟩
  cases h;exact⟨he,hv⟩
 have OA:aQ (bX sz) fun l=>∀x∈l,x.1.good/\x.1.ok 2000:=by
  intro ts a q h hv;unfold bX at h
  split at h
  · exact((aQ.seq (aQ.must sz _) fun _ _=>(aQ.sep fun _=>aQ.seq (aQ.ex sz) hdesc).mono fun l hl=>hl.2)) _ _ _ h hv.tail
  cases h
  exact⟨fun x hx=>(by cases hx),hv⟩
 have hlim:aQ (zy sz) fun l=>∀n,l=some n->n<=1000000000:=by
  intro ts a q h hv;unfold zy at h
  split at h
  · refine(aQ.seq (P:=fun n=>n<=1000000000) (Q:=fun l=>∀n,l=some n->n<=1000000000) (x:=fun ts r=>limit sz ts=some r) ?_ fun n hn=>aQ.ret (by intro m hm;cases hm;exact hn)) _ _ _ h hv.tail;intro ts2 n q2 h2 hv2;unfold limit at h2
    split at h2
    · cases h2
    split at h2
    · cases h2
    split at h2
    · cases h2
    rename_i hx
    cases h2
    exact⟨by omega,fun x hx=>hv2 x (by simp[hx])⟩
  cases h
  exact⟨fun n hn=>(by cases hn),hv⟩
 refine(aQ.seq (aQ.must sz _) fun _ _=>aQ.seq (aQ.sep fun _=>Hz) fun i hi=>aQ.seq (aQ.must sz _) fun _ _=>aQ.seq (aQ.name sz) fun t ht=>aQ.seq (aQ.where sz) fun w hw=>aQ.seq OA fun o ho=>aQ.seq hlim fun l hl=>aQ.ret (a:=St.select i t w o l) (P:=Cy) ⟨⟨?_,ht,hi.1,hl⟩,?_⟩) _ _ _ h hv
 · intro e he;simp only[St.exprs,List.mem_append,List.mem_filterMap,id,List.mem_map]at he;rcases he with(⟨x,hx,rfl⟩|he)|⟨x,hx,rfl⟩
   · exact(hi.2 (some e) hx e (by simp)).2
   · exact(hw e he).2
   exact(ho x hx).2
 intro e he;simp only[St.exprs,List.mem_append,List.mem_filterMap,id,List.mem_map]at he;rcases he with(⟨x,hx,rfl⟩|he)|⟨x,hx,rfl⟩
 · exact(hi.2 (some e) hx e (by simp)).1
 · exact(hw e he).1
 exact(ho x hx).1
theorem Fq{s:Bs}{st:St}(h:ParseR s (.ok st)):st.Fit/\(∀e∈st.exprs,e.good)/\deepest st.exprs<=40:=by
 unfold ParseR at h
 cases hl:Lx.lex s with
 |error e=>rw[hl]at h;cases h
 |ok ts=>
  rw[hl]at h;obtain⟨q,h1,h2⟩:=h
  match q,h1,h2 with
  |.error e,h1,h2=>cases h2
  |.ok (a,u),h1,h2=>
   have hs:=(Je s.length ts a u h1 (Lx.J9 hl)).1;simp only at h2
   split at h2
   · split at h2
     · cases h2
     rename_i hd
     cases h2
     exact⟨hs.1,hs.2,by omega⟩
   cases h2
end Px
end
section
namespace Px
open Lx (Bs Tok)
def e2(k:Nat)(a b:Int):E:=.bin 33 (.bin k (.num a) (.num b)) (.num b)
def e3(a b:Int):E:=.bin 32 (.bin 34 (.bin 35 (.num a) (.num b)) (.num b)) (.bin 36 (.num a) (.num b))
end Px
end
section
namespace Px
open Lx (Bs Tok)
def pM(z:Int):Bs:=if z<0 then 45::decF 20 z.natAbs else decF 20 z.natAbs
def t1(k:Nat)(a b:Int):Bs:=pM a++(32::((ru k).1++(32::pM b)))
def t2(a b:Int):Bs:=40::(pM a++([32,43,32]++(pM b++([41,32,45,32]++pM b))))
def t3(a b:Int):Bs:=40::(pM a++([32,47,32]++(pM b++([41,32,42,32]++(pM b++([32,43,32]++(pM a++([32,37,32]++pM b))))))))
end Px
end
end Go.Proofs.YthhhfcdakfbpkaaGreatDoor
