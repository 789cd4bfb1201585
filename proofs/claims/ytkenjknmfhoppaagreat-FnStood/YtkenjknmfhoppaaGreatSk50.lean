import Derived.Test.YtkenjknmfhoppaaGreatSk45
namespace Go.Proofs.YtkenjknmfhoppaaGreat
open Go.RowKit
set_option linter.unusedVariables false
set_option maxHeartbeats 6400000
set_option maxRecDepth 20000
section
attribute [local go_sem ↓] Go.wp_at_zero Go.wp_at_succ
def evC (e:EvM):List Value:=[VU e.pc,VI e.mode,VI e.cause,VU e.tval]
def vV:List EvM->List Value
 | []=>[]
 | e::r=>evC e++vV r
theorem yd:∀a b:List EvM,vV (a++b)=vV a++vV b
 | [],b=>rfl
 | e::r,b=>by simp [vV,yd r b]
abbrev Fv:Array Value:=#[SN,SN,SN,VU 0,VI 0,.bool false,.bool false,VU 0,VU 0,VI 0,VI 0,VU 0]
structure RunS (w wr:World) (b5 b6 b7:Nat) (S:Array Value) (pa:Option Addr) (pc:Nat) (ps:List Int) (i:Nat) (q:PtrM) (h:HartM) (ev:Value) (evs:List EvM):Prop where
 n:Bw w wr
 h4:wr.heap[w.heap.size]?=some (.cells Fv 31 (0,0))
 h5:wr.heap[b5]?=some (.cells S 46 (0,0))
 pk:wr.ownsRow w.heap.size 2 1 (.slice pa ps.length pc) ps.length (dE ps)
 h6:wr.heap[b6]?=some (.cells (ak q h) 43 (0,0))
 h7:wr.heap[b7]?=some (.cells #[ev,SN,SN,VU 0,VI 0,.bool false,.bool false,VU 0,VU 0,VI 0,VI 0,VU 0] 31 (0,0))
 ev:wr.ownsRow w.heap.size 102 4 ev i (vV evs)
 hi:HartIn wr q h
 ok:HOk h
 ne:∀x,some x∈aV q->x.block≠w.heap.size∧x.block≠b6∧x.block≠b7
theorem RunS.keep {w wr v:World} {b5 b6 b7:Nat} {S:Array Value} {pa:Option Addr} {pc:Nat} {ps:List Int} {i:Nat} {q:PtrM} {h:HartM} {ev:Value} {evs:List EvM} (k:RunS w wr b5 b6 b7 S pa pc ps i q h ev evs) (hb:Bw wr v):RunS w v b5 b6 b7 S pa pc ps i q h ev evs:=
 ⟨bst k.n hb,ag k.h4 hb (hpl k.h4),ag k.h5 hb (hpl k.h5),aj k.pk hb,ag k.h6 hb (hpl k.h6),ag k.h7 hb (hpl k.h7),aj k.ev hb,k.hi.keep hb,k.ok,k.ne⟩
theorem HartIn.own {w w':World} {q:PtrM} {h:HartM} {v:Value} (k:HartIn w q h) (hg:w.grownBy w' v.ownBlock) (hne:∀g,v.ownBlock=some g->∀x,some x∈aV q->x.block≠g):HartIn w' q h:=by
 cases hv:v.ownBlock with
 | none=>
  rw [hv] at hg;exact k.keep ⟨hg.os,hg.tape,hg.output,hg.size,fun i hi=>hg.block i hi (by simp)⟩
 | some g=>
  rw [hv] at hg;exact k.gb hg (hne g hv)
theorem RunS.next {w wr v3:World} {b5 b6 b7:Nat} {S:Array Value} {pa:Option Addr} {pc:Nat} {ps:List Int} {i g' c':Nat} {q q':PtrM} {h h':HartM} {ev:Value} {evs:List EvM} {e:EvM} (k:RunS w wr b5 b6 b7 S pa pc ps i q h ev evs) (hi:HartIn wr q' h') (ok:HOk h') (hne:∀x,some x∈aV q'->x.block≠w.heap.size∧x.block≠b6∧x.block≠b7∧∀g,ev.ownBlock=some g->x.block≠g)
 (hg:wr.grownBy v3 ev.ownBlock) (ho:v3.ownsRow w.heap.size 102 4 (SL g' (i+1) c') (i+1) (vV evs++evC e)) (n67:b6≠b7) (n47:w.heap.size≠b7) (n46:w.heap.size≠b6) (l7:w.heap.size<=b7) (l6:w.heap.size<=b6):
 RunS w ((v3.setCell (AD b7 0) (SL g' (i+1) c')).setCells b6 0 (ak q' h').toList) b5 b6 b7 S pa pc ps (i+1) q' h' (SL g' (i+1) c') (evs++[e]):=by
 have j4:=mU k.h4 hg (eg k.ev k.h4 (by decide));have j5:=mU k.h5 hg (eg k.ev k.h5 (by decide));have j6:=mU k.h6 hg (eg k.ev k.h6 (by decide));have j7:=mU k.h7 hg (eg k.ev k.h7 (by decide));have jp:=Be k.pk hg (zq k.pk k.ev (by decide));have jh:=hi.own hg (fun g hgg x hx=>(hne x hx).2.2.2 g hgg);have jn:=k.n.grown hg k.n.size (fun g hgg=>(k.ev.lt g hgg).1);have g7:=aq (aw v3 (some b7)) 0 (SL g' (i+1) c');have i4:=aB j4 g7 n47;have i5:b5≠b7:=fun hh=>by subst hh;rw [j5] at j7;cases j7
 have i6:=aB j6 g7 n67;have i7:=co j7 0 (SL g' (i+1) c');have g6:=aH b6 (ak q' h').toList 0 (v3.setCell (AD b7 0) (SL g' (i+1) c')) _ (aw _ _);have i56:b5≠b6:=fun hh=>by subst hh;rw [j5] at j6;cases j6
 refine ⟨?_,aB i4 g6 n46,aB (aB j5 g7 i5) g6 i56,dV (dV jp j7 (by decide) g7) i6 (by decide) g6,aT i6 rfl,aB i7 g6 (Ne.symm n67),?_,(jh.gb g7 (fun x hx=>(hne x hx).2.2.1)).gb g6 (fun x hx=>(hne x hx).2.1),ok,fun x hx=>⟨(hne x hx).1,(hne x hx).2.1,(hne x hx).2.2.1⟩⟩
 ·exact aS l6 _ _ _ (cU jn l7 _ _)
 ·rw [yd,show vV [e]=evC e from by simp [vV]];exact dV (dV ho j7 (by decide) g7) i6 (by decide) g6
theorem ye (p:PtrM) (pa:Option Addr) (pc:Nat) (h:HartM) (ps:List Int):((cS p pa pc h ps).toList.drop 0).take 21=(ak p h).toList:=rfl
theorem yf (p:PtrM) (pa:Option Addr) (pc:Nat) (h:HartM) (ps:List Int):(cS p pa pc h ps)[21]?=some (.slice pa ps.length pc):=rfl
theorem Di {zs:List Int} (hz:∀i:Nat,0<=zs[i]?.getD 0∧zs[i]?.getD 0<=255):∀y∈gZ zs,0<=y∧y<=255:=by
 intro y hy;simp only [gZ,List.mem_map] at hy;obtain ⟨k,_,rfl⟩:=hy;exact hz _
end
end Go.Proofs.YtkenjknmfhoppaaGreat
