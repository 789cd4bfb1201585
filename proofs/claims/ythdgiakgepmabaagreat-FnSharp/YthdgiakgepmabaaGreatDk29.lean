import Derived.Test.YthdgiakgepmabaaGreatDk28
namespace Go.Proofs.YthdgiakgepmabaaGreat
open Go.RowKit
set_option linter.unusedVariables false
set_option maxHeartbeats 6400000
set_option maxRecDepth 20000
section
attribute [local go_sem ↓] Go.wp_at_zero Go.wp_at_succ
def evC (e:EvM):List Value:=[VU e.pc,VI e.mode,VI e.cause,VU e.tval]
def jd:List EvM->List Value
 | []=>[]
 | e::r=>evC e++jd r
theorem sQ:∀a b:List EvM,jd (a++b)=jd a++jd b
 | [],b=>rfl
 | e::r,b=>by simp [jd,sQ r b]
theorem Fw (e:EvM):∀u∈evC e,u.oneCell'=true:=by
 intro u hu;simp [evC] at hu;rcases hu with rfl | rfl | rfl | rfl <;> rfl
def dw (ea:Option Addr) (n ec:Nat) (q:PtrM) (h:HartM):Array Value:=#[.slice ea n ec,.slice q.am h.mem.length q.cm,.slice q.ar h.regs.length q.cr,VU h.pc,VI h.mode,.bool h.sum,.bool h.mxr,VU h.satp,VU h.epc,VI h.emode,VI h.cause,VU h.tval]
abbrev kQ:Array Value:=#[SN,SN,SN,VU 0,VI 0,.bool false,.bool false,VU 0,VU 0,VI 0,VI 0,VU 0]
theorem DK (ea:Option Addr) (n ec:Nat) (q:PtrM) (h:HartM):(dw ea n ec q h).all (·.oneCell')=true:=by simp [dw,Value.oneCell']
theorem DL (plain:Bool) (ps:List Int) (i:Nat) (hi:i<ps.length) (h:HartM) (evs:List EvM):
 (evs++(eI plain (ps.drop i) h).1,(eI plain (ps.drop i) h).2)=((evs++[⟨h.pc,h.mode,(bT plain (ps[i]) h).cause,(bT plain (ps[i]) h).tval⟩])++(eI plain (ps.drop (i+1)) (bT plain (ps[i]) h).h).1,(eI plain (ps.drop (i+1)) (bT plain (ps[i]) h).h).2):=by
 rw [List.drop_eq_getElem_cons hi,eI];simp
structure RunS (w wr:World) (b5 b6 b7:Nat) (S:Array Value) (pa:Option Addr) (pc:Nat) (ps:List Int) (i:Nat) (q:PtrM) (h:HartM) (ev:Value) (evs:List EvM):Prop where
 n:Bw w wr
 h4:wr.heap[w.heap.size]?=some (.cells kQ 35 (0,0))
 h5:wr.heap[b5]?=some (.cells S 47 (0,0))
 pk:wr.ownsRow w.heap.size 2 1 (.slice pa ps.length pc) ps.length (cL ps)
 h6:wr.heap[b6]?=some (.cells (ak q h) 44 (0,0))
 h7:wr.heap[b7]?=some (.cells #[ev,SN,SN,VU 0,VI 0,.bool false,.bool false,VU 0,VU 0,VI 0,VI 0,VU 0] 35 (0,0))
 ev:wr.ownsRow w.heap.size 97 4 ev i (jd evs)
 hi:HartIn wr q h
 ok:HOk h
 ne:∀x,some x∈be q->x.block≠w.heap.size∧x.block≠b6∧x.block≠b7
theorem RunS.keep {w wr v:World} {b5 b6 b7:Nat} {S:Array Value} {pa:Option Addr} {pc:Nat} {ps:List Int} {i:Nat} {q:PtrM} {h:HartM} {ev:Value} {evs:List EvM} (k:RunS w wr b5 b6 b7 S pa pc ps i q h ev evs) (hb:Bw wr v):RunS w v b5 b6 b7 S pa pc ps i q h ev evs:=
 ⟨bst k.n hb,ae k.h4 hb (hpl k.h4),ae k.h5 hb (hpl k.h5),aq k.pk hb,ae k.h6 hb (hpl k.h6),ae k.h7 hb (hpl k.h7),aq k.ev hb,k.hi.keep hb,k.ok,k.ne⟩
theorem HartIn.own {w w':World} {q:PtrM} {h:HartM} {v:Value} (k:HartIn w q h) (hg:w.grownBy w' v.ownBlock) (hne:∀g,v.ownBlock=some g->∀x,some x∈be q->x.block≠g):HartIn w' q h:=by
 cases hv:v.ownBlock with
 | none=>
  rw [hv] at hg;exact k.keep ⟨hg.os,hg.tape,hg.output,hg.size,fun i hi=>hg.block i hi (by simp)⟩
 | some g=>
  rw [hv] at hg;exact k.gb hg (hne g hv)
theorem RunS.next {w wr v3:World} {b5 b6 b7:Nat} {S:Array Value} {pa:Option Addr} {pc:Nat} {ps:List Int} {i g' c':Nat} {q q':PtrM} {h h':HartM} {ev:Value} {evs:List EvM} {e:EvM} (k:RunS w wr b5 b6 b7 S pa pc ps i q h ev evs) (hi:HartIn wr q' h') (ok:HOk h') (hne:∀x,some x∈be q'->x.block≠w.heap.size∧x.block≠b6∧x.block≠b7∧∀g,ev.ownBlock=some g->x.block≠g)
 (hg:wr.grownBy v3 ev.ownBlock) (ho:v3.ownsRow w.heap.size 97 4 (SL g' (i+1) c') (i+1) (jd evs++evC e)) (n67:b6≠b7) (n47:w.heap.size≠b7) (n46:w.heap.size≠b6) (l7:w.heap.size<=b7) (l6:w.heap.size<=b6):
 RunS w ((v3.setCell (AD b7 0) (SL g' (i+1) c')).setCells b6 0 (ak q' h').toList) b5 b6 b7 S pa pc ps (i+1) q' h' (SL g' (i+1) c') (evs++[e]):=by
 have j4:=mE k.h4 hg (bY k.ev k.h4 (by decide));have j5:=mE k.h5 hg (bY k.ev k.h5 (by decide));have j6:=mE k.h6 hg (bY k.ev k.h6 (by decide));have j7:=mE k.h7 hg (bY k.ev k.h7 (by decide));have jp:=By k.pk hg (sk k.pk k.ev (by decide));have jh:=hi.own hg (fun g hgg x hx=>(hne x hx).2.2.2 g hgg);have jn:=k.n.grown hg k.n.size (fun g hgg=>(k.ev.lt g hgg).1);have g7:=au (ao v3 (some b7)) 0 (SL g' (i+1) c');have i4:=aA j4 g7 n47;have i5:b5≠b7:=fun hh=>by subst hh;rw [j5] at j7;cases j7
 have i6:=aA j6 g7 n67;have i7:=cf j7 0 (SL g' (i+1) c');have g6:=aH b6 (ak q' h').toList 0 (v3.setCell (AD b7 0) (SL g' (i+1) c')) _ (ao _ _);have i56:b5≠b6:=fun hh=>by subst hh;rw [j5] at j6;cases j6
 refine ⟨?_,aA i4 g6 n46,aA (aA j5 g7 i5) g6 i56,cP (cP jp j7 (by decide) g7) i6 (by decide) g6,aI i6 rfl,aA i7 g6 (Ne.symm n67),?_,(jh.gb g7 (fun x hx=>(hne x hx).2.2.1)).gb g6 (fun x hx=>(hne x hx).2.1),ok,fun x hx=>⟨(hne x hx).1,(hne x hx).2.1,(hne x hx).2.2.1⟩⟩
 ·exact aK l6 _ _ _ (cH jn l7 _ _)
 ·rw [sQ,show jd [e]=evC e from by simp [jd]];exact cP (cP ho j7 (by decide) g7) i6 (by decide) g6
theorem Az:(Tryz.prog.info? 35).map (·.size)=some 12:=by kernel_rfl
theorem Tryz.infoEv:(Tryz.prog.info? 97).map (fun i=>(i.zero,i.size,i.bytes))=some (some (.agg #[VU 0,VI 0,VI 0,VU 0]),4,32):=by kernel_rfl
theorem sR (p:PtrM) (pa:Option Addr) (pc:Nat) (h:HartM) (ps:List Int):((cy p pa pc h ps).toList.drop 0).take 21=(ak p h).toList:=rfl
theorem sS (p:PtrM) (pa:Option Addr) (pc:Nat) (h:HartM) (ps:List Int):(cy p pa pc h ps)[21]?=some (.slice pa ps.length pc):=rfl
theorem oX {zs:List Int} (hz:∀i:Nat,0<=zs[i]?.getD 0∧zs[i]?.getD 0<=255):∀y∈bE zs,0<=y∧y<=255:=by
 intro y hy;simp only [bE,List.mem_map] at hy;obtain ⟨k,_,rfl⟩:=hy;exact hz _
end
end Go.Proofs.YthdgiakgepmabaaGreat
