/- Parts of the proof -/
import Derived.Deep.CutRange
import Derived.Deep.RegionHeld3
import Derived.Stop.RegionWithIn
import Derived.Sort.CutIn
import Derived.Test.YthhhfcdakfbpkaaGreatDoorP14
import Derived.Test.YthhhfcdakfbpkaaGreatDoorP11
import Derived.Lib.AppendZeros
import Derived.Lib.SliceRun
import Derived.Laws.AppendOwnNone
import Derived.RangeFuncRecord
import Derived.Test.YthhhfcdakfbpkaaGreatDoorP13
import Derived.Test.YthhhfcdakfbpkaaGreatDoorP16
namespace Go.Proofs.YthhhfcdakfbpkaaGreatDoor
set_option linter.unusedSimpArgs false
set_option linter.unusedVariables false
set_option maxRecDepth 100000
set_option maxHeartbeats 16000000
open Go.RowKit
variable {w:World}{B b:Nat}{u v:Value}
section
open Go.RowKit Go.Shelf
attribute [local go_sem] Oper.semAt_some
namespace Tw
theorem jr{P:Program}{f:FuncId}{x y:Code}{Q:Exit->Act->World->Prop}{a:Act}(h:∀K:Act->World->Prop,(∀a w,qa f P y Q a w->K a w)->x.wp P (Exit.then K Q) a w):qa f P (.seq x y) Q a w:=
 uO (n:=0) (wpIn_wide.2 (h _ fun _ _ h=>h))
theorem af.set1{t:TypeId}(h:af w b #[u] t):af (w.setCell ⟨b,0,none⟩ v) b #[v] t:=by simpa using h.set 0 v
theorem af.Qm{cs:Array Value}{t:TypeId}(h:w.heap.size=b):af (w.alloc (.cells cs t)) b cs t:=h▸af.new w cs t
theorem cell_far{p a:Addr}(h:p.block≠a.block)(hc:w.cell? a=some u):(w.setCell p v).cell? a=some u:=(World.cell?_setCell_far w p a v h).trans hc
theorem ed{a:Addr}{o:Obj}(hc:w.cell? a=some u):(w.alloc o).cell? a=some u:=by simp[*,World.cell?_alloc_some]
theorem Apart.below{a:Nat}{W W':World}(h:Apart a b W W')(h1:B<=a)(h2:B<=W.heap.size):Below B W W':=
 ⟨h.os,h.tape,h.output,h.size,fun k hk=>h.block k (.inl (by omega)) (by omega)⟩
theorem aA{T:TypeId}{s:Nat}{n:Nat}{xs:List Value}(h:w.ownsRow B T s v n xs){p:Addr}(x:Value)(hp:p.block<B):(w.setCell p x).ownsRow B T s v n xs:=by
 refine⟨h.1,?_⟩;rcases h.2 with h2|⟨g,cap,cur,h0,h1,h2,h3⟩
 · exact .inl h2
 exact .inr ⟨g,cap,cur,h0,h1,(Below.heap_setCell _ _ _ _ (by omega)).trans h2,h3⟩
theorem Ls{T:TypeId}{s:Nat}{n:Nat}{xs:List Value}(h:w.ownsRow B T s v n xs){l:Nat}(o:Obj)(hp:l<B):(w.putObj l o).ownsRow B T s v n xs:=by
 refine⟨h.1,?_⟩;rcases h.2 with h2|⟨g,cap,cur,h0,h1,h2,h3⟩
 · exact .inl h2
 exact .inr ⟨g,cap,cur,h0,h1,(World.putObj_heap_other (by omega)).trans h2,h3⟩
structure Sl(w W:World)(p gi ci:Nat)(tn:ByteArray)(ao:Option Addr)(co:Nat)(et:TypeId)(ex:Value)(b5 b6 gx cx:Nat):Prop where
 low:Below w.heap.size w W
 k0:af W w.heap.size #[.pointer (some ⟨p,0,none⟩)] 94
 k1:af W (w.heap.size+1) #[.slice (some ⟨gi,0,none⟩) 1 ci,.string tn,.nilIface,.slice ao 0 co,.bool false,.int .i64 0] 109
 k2:af W (w.heap.size+1+1) #[.int .i64 0,.slice none 0 0,.int .i64 0] 29
 k5:af W b5 #[.slice (some ⟨gx,0,none⟩) 1 cx] 132
 k6:af W b6 #[.slice none 0 0] 132
 hx:gx<W.heap.size
 cx:W.cell? ⟨gx,0,none⟩=some (.iface et ex)
theorem Tryz.info195:(Tryz.prog.info? 195).map (fun i=>(i.zero,i.size,i.bytes))=some (some (.agg #[.slice none 0 0,.slice none 0 0]),2,48):=by kernel_rfl
end Tw
end
end Go.Proofs.YthhhfcdakfbpkaaGreatDoor
