import Derived.Deep.DeepCutAuto
import Derived.Test.YtaoaifmkhbgaiaaGreatPk41
import Derived.Laws.CopyRow
import Derived.Laws.CopyOwn
import Derived.Test.YtaoaifmkhbgaiaaGreatPk10
import Derived.Test.YtaoaifmkhbgaiaaGreatPk40
import Derived.Test.YtaoaifmkhbgaiaaGreatPk06
import Derived.BigRegion
import Derived.Test.YtaoaifmkhbgaiaaGreatPk12
namespace Go.Proofs.YtaoaifmkhbgaiaaGreat
open Go.RowKit
set_option linter.unusedVariables false
attribute [local go_sem ↓] Go.wp_at_zero Go.wp_at_succ
def sf (z0:Nat) (z1:Bool):Prop:=∀(b o g n:Nat) (t:TlbM) (va asid:Int) (w:World) (hn:t.es.length=n) (hn1:n≤1048576) (hv:aG t z1=true) (hbl:b<w.heap.size)
 (c0:w.cell? ⟨b,o,none⟩=some (.int .i64 t.sets)) (c1:w.cell? ⟨b,o+1,none⟩=some (.int .i64 t.ways)) (c2:w.cell? ⟨b,o+2,none⟩=some (.slice (some ⟨g,0,none⟩) n n)) (hr:RowC w (some ⟨g,0,none⟩) n 6 (aH t.es)) (hv0:0≤va) (hv1:va≤18446744073709551615),Calls Tryz.prog z0 #[.pointer (some ⟨b,o,none⟩),.int .u64 va,.int .u64 asid] w fun e w'=>e=.returned (.tuple #[.int .i64 (aO t va asid).2.1,.bool (aO t va asid).1])∧Below w.heap.size w w'
set_option maxRecDepth 20000 in
set_option maxHeartbeats 3200000 in
theorem jY:sf 103 false∧sf 111 true:=by
 refine ⟨?_,?_⟩;have mL:Hid True:=trivial
 rotate_left
 have mP:Hid True:=trivial
 rotate_left
 all_goals
  intro b o g n t va asid w hn hn1 hv hbl c0 c1 c2 hr hv0 hv1;obtain ⟨hs4,hw1,hw4,hnw⟩:=vx hv;first
   | (replace mL:=mL;have HV:Hid (aG t false=true):=hv)
   | (replace mP:=mP;have HV:Hid (aG t true=true):=hv)
  have HEi:Hid (cY t=true):=dO hv;have HR:Hid (RowC w (some ⟨g,0,none⟩) n 6 (aH t.es)):=hr;have HN:Hid (t.es.length=n):=hn;have HNw:Hid ((n:Int)=t.sets*t.ways):=by show _=_;rw [←hn];exact hnw
  obtain ⟨X,hX⟩:∃X,aO t va asid=X:=⟨_,rfl⟩;have HX:Hid (aO t va asid=X):=hX;rw [hX];clear hX hv hr hnw hn;obtain ⟨sets,ways,es⟩:=t;simp only at *;first
   | (replace mL:=mL;go_enter Tryz.func103,Tryz.ntmps103)
   | (replace mP:=mP;go_enter Tryz.func111,Tryz.ntmps111)
  go_wp2_with fail;go_loopw [12] (fun i wr=>∃l:Nat,l≤3∧i=.int .i64 l∧Hid (∀l':Nat,l'<l→dk va asid l' 0 es=none)∧Below w.heap.size w wr) (fun i _=>3-(intOf i).toNat)
  case atStart=>exact ⟨0,by omega,rfl,fun l' h=>absurd h (by omega),Below.refl _ _⟩
  case round=>
   obtain ⟨l,hl,rfl,HF,hb⟩:=hrel;by_cases hlt:l<3
   ·have hl3:(l:Int)=0∨(l:Int)=1∨(l:Int)=2:=by omega
    obtain ⟨tm,htm⟩:∃tm,dt va l=tm:=⟨_,rfl⟩;have htb:=rV va l hl3;rw [htm] at htb;obtain ⟨sx,hsx⟩:∃sx,tm%sets=sx:=⟨_,rfl⟩;have hsb:0≤sx∧sx<sets:=by rw [←hsx];exact ⟨Int.emod_nonneg _ (by omega),Int.emod_lt_of_pos _ (by omega)⟩
    obtain ⟨f,hf⟩:∃f:Nat,(f:Int)=sx*ways:=⟨(sx*ways).toNat,Int.toNat_of_nonneg (Int.mul_nonneg hsb.1 (by omega))⟩;have hfn:(f:Int)+ways≤n:=by
     rw [HNw.out,hf];have:(sx+1)*ways≤sets*ways:=Int.mul_le_mul_of_nonneg_right (by omega) (by omega);rw [Int.add_mul,Int.one_mul] at this;exact this
    have HFi:Hid ((f:Int)=dt va l%sets*ways):=by show _=_;rw [htm,hsx];exact hf
    have HWm:Hid (sx*ways=(f:Int)):=hf.symm;have r0:wr.cell? ⟨b,o,none⟩=some (.int .i64 sets):=Below.cell2 hb c0 hbl;have r1:wr.cell? ⟨b,o+1,none⟩=some (.int .i64 ways):=Below.cell2 hb c1 hbl;have HTg:Hid (∀u,Calls Tryz.prog 128 #[.int .u64 va,.int .i64 l] u fun e w'=>e=.returned (.int .u64 tm)∧∃q,w'=u.drewN q):=fun u=>by
     have:=wT va l u hv0 hv1 hl3;rw [htm] at this;exact this
    first
     | (replace mL:=mL;have HSt:Hid (∀q,Calls Tryz.prog 130 #[.pointer (some ⟨b,o,none⟩),.int .u64 tm] (wr.drewN q) fun e w'=>e=.returned (.int .i64 sx)∧w'=wr.drewN q):=fun q=>by
          have:=pP b o sets tm (wr.drewN q) hs4 r0 htb.1 (by omega)
          rw [hsx] at this
          exact this)
     | (replace mP:=mP;have HSt:Hid (∀q,Calls Tryz.prog 132 #[.pointer (some ⟨b,o,none⟩),.int .u64 tm] (wr.drewN q) fun e w'=>e=.returned (.int .i64 sx)∧w'=wr.drewN q):=fun q=>by
          have:=pQ b o sets tm (wr.drewN q) hs4 r0 htb.1 (by omega)
          rw [hsx] at this
          exact this)
    clear htm hsx;go_wp2_with fail;go_cut [9] (fun s9 wx=>s9=.int .i64 f∧∃q,wx=wr.drewN q)
    case first=>
     first
      | (replace mL:=mL;go_quiet (first
           | (go_at_call 128;exact Calls.quiet_of (HTg.out _))
           | (go_at_call 130;exact Calls.quiet_of_same (HSt.out _))))
      | (replace mP:=mP;go_quiet (first
           | (go_at_call 128;exact Calls.quiet_of (HTg.out _))
           | (go_at_call 132;exact Calls.quiet_of_same (HSt.out _))))
     go_wp2_with fail;go_meet;exact ⟨by rw [HWm.out],nq,rfl⟩
    case rest=>
     obtain ⟨rfl,q,rfl⟩:=hcut;have hb2:Below w.heap.size w (wr.drewN q):=below_drewN hb q;generalize wr.drewN q=v2 at hb2 ⊢;clear r0 r1 hb HTg HSt HWm hsb hf;go_wp2_with fail;rename_i wr0;go_loopw [10] (fun i wr=>∃q:Nat,f≤q∧(q:Int)≤f+ways∧i=.int .i64 q∧Hid (∀(q':Nat) x,f≤q'→q'<q→es[q']?=some x→fC va asid l x=false)∧Below w.heap.size w wr) (fun i _=>f+4-(intOf i).toNat)
     case atStart=>exact ⟨f,Nat.le_refl _,by omega,rfl,fun q' x h h'=>absurd h' (by omega),hb2⟩
     case round=>
      obtain ⟨q,hq1,hq2,rfl,HQ,hb3⟩:=hrel;have r1:wr.cell? ⟨b,o+1,none⟩=some (.int .i64 ways):=Below.cell2 hb3 c1 hbl;have r2:wr.cell? ⟨b,o+2,none⟩=some (.slice (some ⟨g,0,none⟩) n n):=Below.cell2 hb3 c2 hbl;by_cases hqt:(q:Int)<f+ways
      ·have hqn:q<n:=by omega
       obtain ⟨⟨vv,lv,tg,asd,gl,pt⟩,hx⟩:∃x,es[q]?=some x:=⟨_,List.getElem?_eq_getElem (by rw [HN.out];exact hqn)⟩;have HXq:Hid (es[q]?=some ⟨vv,lv,tg,asd,gl,pt⟩):=hx;have CE:∀j u,j<6→(fj ⟨vv,lv,tg,asd,gl,pt⟩)[j]?=some u→wr.cell? ⟨g,q*6+j,none⟩=some u:=fun j u hj hu=>fR (HR.out.keep hb3) HN.out q _ hx j u hj hu;have g0:wr.cell? ⟨g,q*6,none⟩=some (.int .i64 lv):=CE 0 _ (by omega) rfl;have g1:wr.cell? ⟨g,q*6+1,none⟩=some (.int .u64 tg):=CE 1 _ (by omega) rfl;have g2:wr.cell? ⟨g,q*6+2,none⟩=some (.int .u64 asd):=CE 2 _ (by omega) rfl;have g3:wr.cell? ⟨g,q*6+3,none⟩=some (.bool gl):=CE 3 _ (by omega) rfl;have g4:wr.cell? ⟨g,q*6+4,none⟩=some (.bool vv):=CE 4 _ (by omega) rfl;have HNx:Hid (fC va asid l ⟨vv,lv,tg,asd,gl,pt⟩=false→∀(q':Nat) x,f≤q'→q'<q+1→es[q']?=some x→fC va asid l x=false):=fun h q' x h1 h2 h3=>by
        by_cases e:q'=q
        ·subst e;rw [HXq.out] at h3;cases h3;exact h
        ·exact HQ.out q' x h1 (by omega) h3
       clear CE hx;cases vv
       ·go_wp2_with fail;go_roundw
        case rel=>exact ⟨q+1,by omega,by omega,by go_num,HNx.out (by simp [fC,fz]),hb3⟩
        case measure=>simp [intOf];omega
       ·by_cases hlv:lv=l
        ·subst hlv;obtain ⟨fb,hfb⟩:∃fb,((tg == dt va l) && (gl || asd == asid))=fb:=⟨_,rfl⟩;have HFt:Hid (∀u,Calls Tryz.prog 134 #[.agg #[.int .i64 l,.int .u64 tg,.int .u64 asd,.bool gl],.int .u64 va,.int .u64 asid] u fun e w'=>e=.returned (.bool fb)∧Below u.heap.size u w'):=fun u=>by
          have:=zS l tg asd va asid gl u hl3 hv0 hv1;rw [hfb] at this;exact this
         have HHb:Hid (fC va asid l ⟨true,l,tg,asd,gl,pt⟩=fb):=by
          show _=_;rw [←hfb];simp [fC,fz]
         clear hfb;go_wp2_with fail;refine (HFt.out wr).mono ?_;rintro e v5 ⟨rfl,n5⟩;have A5:=Below.step hb3 n5 (Nat.le_refl _);cases fb
         ·go_wp2_with fail;go_roundw
          case rel=>exact ⟨q+1,by omega,by omega,by go_num,HNx.out HHb.out,A5⟩
          case measure=>simp [intOf];omega
         ·have hx:X=(true,(q:Int),(l:Int),pt):=by
           rw [←HX.out];have hfi:=yJ (t:=⟨sets,ways,es⟩) (k:=q-f) HV.out HFi.out (by simp only;rw [show f+(q-f)=q by omega];exact HXq.out) HHb.out (fun j y hj hy=>HQ.out (f+j) y (by omega) (by omega) hy);rw [show f+(q-f)=q by omega] at hfi;exact t6 ⟨sets,ways,es⟩ va asid l q _ HEi.out (by omega) HF.out hfi
          subst hx;go_wp2_with fail;first
           | (replace mL:=mL;exact bodyPost_ret (v:=.tuple #[.int .i64 q,.bool true]) (by simp [results,Tryz.results103,go_sem]) rfl ⟨rfl,A5⟩)
           | (replace mP:=mP;exact bodyPost_ret (v:=.tuple #[.int .i64 q,.bool true]) (by simp [results,Tryz.results111,go_sem]) rfl ⟨rfl,A5⟩)
        ·have hlv':(lv == (l:Int))=false:=by simpa using hlv
         go_wp2_with fail;go_roundw
         case rel=>exact ⟨q+1,by omega,by omega,by go_num,HNx.out (by simp [fC,hlv]),hb3⟩
         case measure=>simp [intOf];omega
      ·have hqe:(q:Int)=f+ways:=by omega
       have hnn:dk va asid l 0 es=none:=yI (t:=⟨sets,ways,es⟩) HV.out HFi.out (fun j x hj hx=>HQ.out (f+j) x (by omega) (by simp only at hj;omega) hx);have HNn:Hid (dk va asid l 0 es=none):=hnn;clear hnn;go_wp2_with fail;go_roundw
       case rel=>exact ⟨l+1,by omega,by go_num,fun l' hl'=>by
        by_cases e:l'=l
        ·subst e;exact HNn.out
        ·exact HF.out l' (by omega),hb3⟩
       case measure=>simp [intOf];omega
   ·have hl3:l=3:=by omega
    subst hl3;have hx:X=(false,0,0,0):=by
     rw [←HX.out];exact pH _ va asid HEi.out HF.out
    subst hx;go_wp2_with fail;first
     | (replace mL:=mL;exact bodyPost_ret (v:=.tuple #[.int .i64 0,.bool false]) (by simp [results,Tryz.results103,go_sem]) rfl ⟨rfl,hb⟩)
     | (replace mP:=mP;exact bodyPost_ret (v:=.tuple #[.int .i64 0,.bool false]) (by simp [results,Tryz.results111,go_sem]) rfl ⟨rfl,hb⟩)
end Go.Proofs.YtaoaifmkhbgaiaaGreat

namespace Go.Proofs.YtaoaifmkhbgaiaaGreat
open Go.RowKit
set_option linter.unusedVariables false
theorem yB (z:EntM) (n:Nat):(madeCells (jn z).toArray (n*6)).toList=aL (List.replicate n z):=by
 apply List.ext_getElem?;intro j;by_cases hj:j<n*6
 ·have hq:j/6<(List.replicate n z).length:=by simp;omega
  have:=oO (List.replicate n z) (j/6) (j%6) hq (by omega);rw [show j/6*6+j%6=j by omega] at this;rw [this];have h6:j%6<(jn z).length:=by simp [jn];omega
  simp only [madeCells,List.getElem_replicate];rw [List.getElem?_eq_getElem h6];simp [hj,jn];rw [List.getElem?_eq_getElem (by simpa [jn] using h6)];rfl
 ·rw [List.getElem?_eq_none (by simp [madeCells];omega),List.getElem?_eq_none (by rw [eB];simp;omega)]
theorem AD (n:Nat) (hn:n≤1048576):∃cs:Array Value,cs.toList=aL (List.replicate n cL)∧∀u:World,(Instr.makeSlice 26 (.int .i64 (n:Int)) (.int .i64 (n:Int))).run Tryz.prog u=.ok (.slice (some ⟨u.heap.size,0,none⟩) n n) (u.alloc (.cells cs 62)):=by
 obtain ⟨i0,hi,hz0,hz1,hz2⟩:=info_parts Tryz.infoEnt;refine ⟨madeCells (Value.agg #[.bool false,.int .i64 0,.int .u64 0,.int .u64 0,.bool false,.int .u64 0]).cells (n*6),?_,fun u=>?_⟩
 ·exact yB cL n
 ·have:=run_make (P:=Tryz.prog) u 26 62 i0 _ Tryz.underlying26 hi hz0 .i64 .i64 n n (by omega) (Int.le_refl _) (by rw [hz2];omega) (by omega);rw [hz1] at this;simpa using this
theorem um {P:Program} (w:World) (dT sT ty elem:TypeId) (g n dCap:Nat) (a:Addr) (sCap:Nat) (cur:Array Value) (t:TypeId) (cs:List Value)
 (hu:P.underlying dT=some (.slice elem)) (hs:(P.info? elem).map (·.size)=some 6) (hg:w.heap[g]?=some (.cells cur t (0,0))) (hn:cs.length=n*6)
 (hsrc:∀j v,cs[j]?=some v→w.cell? (a.add j)=some v) (hfit:cs.length=cur.size) (h1:∀v∈cs,v.oneCell'=true):
 (Builtin.copy_ #[dT,sT] ty #[.slice (some ⟨g,0,none⟩) n dCap,.slice (some a) n sCap]).run P w=.ok (goInt n) (w.setRow g cs.toArray):=by
 have hl:=run_loadCells_list (P:=P) w a cs hsrc;have hst:=run_storeCells_at P g 0 t cs 0 cur w hg (by simp;omega) h1;cases hq:P.info? elem with
 | none=>simp [hq] at hs
 | some i=>
  have hi:i.size=6:=by simpa [hq] using hs
  simp [Builtin.copy_,run_underlying hu,Builtin.lenOf,Builtin.firstCells,sizeOf,typeInfo,hq,hi,←hn,hl,hst];rw [List.drop_of_length_le (by simp;omega),List.append_nil]
theorem qG {P:Program} {w:World} {ops:Array Oper} {rest:List Oper} {o:Oper} {a:Act} {Q:Exit→Act→World→Prop} (hgd:o.guard=none) (d s:Operand) (dT sT:TypeId)
 (ho:o.op=.call { callee:=.builtin .copy,args:=#[d,s],argTypes:=#[dT,sT] }) (elem:TypeId) (hu:P.underlying dT=some (.slice elem)) (hsz:(P.info? elem).map (·.size)=some 6)
 (g n dCap:Nat) (sp:Option Addr) (sCap:Nat) (hd:a.eval d=.slice (some ⟨g,0,none⟩) n dCap) (hs:a.eval s=.slice sp n sCap) (hnil:sp=none→n=0∧sCap=0) (hspot:∀q,sp=some q→q.spot=none)
 (cur:Array Value) (t:TypeId) (hg:w.heap[g]?=some (.cells cur t (0,0))) (cs:List Value) (hr:RowC w sp n 6 cs) (hfit:cur.size=n*6) (h1:∀v∈cs,v.oneCell'=true)
 (h:∀w',w'.heap[g]?=some (.cells cs.toArray t (0,0))→Below g w w'→wpList P ops Q rest (a.put o.dst (goInt n)) w'):wpList P ops Q (o::rest) a w:=by
 refine wpList_plain hgd fun K hK=>?_;cases sp with
 | none=>
  obtain ⟨rfl,rfl⟩:=hnil rfl;have hcs:cs=[]:=by have:=hr.1;simpa using this
  subst hcs;have hcur:cur=#[]:=by simpa using hfit
  subst hcur;have hrun:=run_copy_nil (P:=P) w dT sT o.type elem ⟨g,0,none⟩ 0 dCap hu (by
   cases hq:P.info? elem with
   | none=>simp [hq] at hsz
   | some i=>rfl)
  unfold Oper.wp;simp [execOp,ho,resolve,invoke,builtin,hd,hs,hrun,Result.andThen];exact hK _ _ (h w hg (Below.refl _ _))
 | some q=>
  obtain ⟨b,off,spot⟩:=q;have:=hspot _ rfl;simp only at this;subst this;have hrun:=um (P:=P) w dT sT o.type elem g n dCap ⟨b,off,none⟩ sCap cur t cs hu hsz hg hr.1 (qM hr) (by rw [hr.1,hfit]) h1;unfold Oper.wp;simp [execOp,ho,resolve,invoke,builtin,hd,hs,hrun,Result.andThen];exact hK _ _ (h _ (setRow_heap w g _ _ t _ hg) (below_setRow (Below.refl _ _) (Nat.le_refl _) _))
theorem Tryz.sizeEnt:(Tryz.prog.info? 62).map (·.size)=some 6:=by kernel_rfl
set_option maxHeartbeats 1600000 in
theorem mU (v:Value) (t:TlbM) (w:World) (h:TlbAt w v t):
 Calls Tryz.prog 55 #[v] w fun e w'=>(∃x,e=.returned x∧TlbOwn w.heap.size w' x t)∧Below w.heap.size w w':=by
 obtain ⟨a,cap,rfl,hr,_,_,_,hl,hlc,hcm,hnil,hsp⟩:=h;obtain ⟨sets,ways,es⟩:=t;obtain ⟨n,hn⟩:∃n,es.length=n:=⟨_,rfl⟩;simp only at hr hl hlc hnil ⊢;rw [hn] at hr hl hlc hnil ⊢;have n1:=((Below.refl w.heap.size w).alloc (Nat.le_refl _) (Obj.cells #[.int .i64 sets,.int .i64 ways,.slice a n cap] 28)).alloc (by simp) (Obj.cells #[.int .i64 0,.int .i64 0,.slice none 0 0] 28);have HR1:Hid (RowC ((w.alloc (Obj.cells #[.int .i64 sets,.int .i64 ways,.slice a n cap] 28)).alloc (Obj.cells #[.int .i64 0,.int .i64 0,.slice none 0 0] 28)) a n 6 (aL es)):=hr.keep n1;have H1:Hid (((w.alloc (Obj.cells #[.int .i64 sets,.int .i64 ways,.slice a n cap] 28)).alloc (Obj.cells #[.int .i64 0,.int .i64 0,.slice none 0 0] 28)).heap[w.heap.size]?=some (.cells #[.int .i64 sets,.int .i64 ways,.slice a n cap] 28 (0,0))):=by
  show _=_;rw [heap_alloc_old _ _ (by simp)];exact heap_alloc_new w _
 have H2:Hid (((w.alloc (Obj.cells #[.int .i64 sets,.int .i64 ways,.slice a n cap] 28)).alloc (Obj.cells #[.int .i64 0,.int .i64 0,.slice none 0 0] 28)).heap[w.heap.size+1]?=some (.cells #[.int .i64 0,.int .i64 0,.slice none 0 0] 28 (0,0))):=by
  have:=heap_alloc_new (w.alloc (Obj.cells #[.int .i64 sets,.int .i64 ways,.slice a n cap] 28)) (Obj.cells #[.int .i64 0,.int .i64 0,.slice none 0 0] 28);simp only [World.size_alloc] at this;exact this
 have l1:w.heap.size+1<((w.alloc (Obj.cells #[.int .i64 sets,.int .i64 ways,.slice a n cap] 28)).alloc (Obj.cells #[.int .i64 0,.int .i64 0,.slice none 0 0] 28)).heap.size:=by simp
 have HNi:Hid (a=none→n=0∧cap=0):=hnil;have HSp:Hid (∀q,a=some q→q.spot=none):=hsp;obtain ⟨cs,hcs,hmk⟩:=AD n hl;have hcsz:cs.size=n*6:=by
  have:cs.toList.length=n*6:=by rw [hcs,eB];simp
  simpa using this
 have nV:Below ((w.alloc (Obj.cells #[.int .i64 sets,.int .i64 ways,.slice a n cap] 28)).alloc (Obj.cells #[.int .i64 0,.int .i64 0,.slice none 0 0] 28)).heap.size ((w.alloc (Obj.cells #[.int .i64 sets,.int .i64 ways,.slice a n cap] 28)).alloc (Obj.cells #[.int .i64 0,.int .i64 0,.slice none 0 0] 28)) (((w.alloc (Obj.cells #[.int .i64 sets,.int .i64 ways,.slice a n cap] 28)).alloc (Obj.cells #[.int .i64 0,.int .i64 0,.slice none 0 0] 28)).alloc (.cells cs 62)):=(Below.refl _ _).alloc (Nat.le_refl _) _;have HG:Hid ((((w.alloc (Obj.cells #[.int .i64 sets,.int .i64 ways,.slice a n cap] 28)).alloc (Obj.cells #[.int .i64 0,.int .i64 0,.slice none 0 0] 28)).alloc (.cells cs 62)).heap[w.heap.size+1+1]?=some (.cells cs 62 (0,0))):=by
  have:=heap_alloc_new ((w.alloc (Obj.cells #[.int .i64 sets,.int .i64 ways,.slice a n cap] 28)).alloc (Obj.cells #[.int .i64 0,.int .i64 0,.slice none 0 0] 28)) (.cells cs 62);simp only [World.size_alloc] at this;exact this
 have HRv:Hid (RowC (((w.alloc (Obj.cells #[.int .i64 sets,.int .i64 ways,.slice a n cap] 28)).alloc (Obj.cells #[.int .i64 0,.int .i64 0,.slice none 0 0] 28)).alloc (.cells cs 62)) a n 6 (aL es)):=HR1.out.keep nV;have K1:=ae H1 nV;have K2:=ae H2 nV;have A1:=Below.step n1 nV (Nat.le_refl _);clear hr hnil hsp hcs;go_enter Tryz.func55,Tryz.ntmps55;go_wp2_with (refine qG rfl (.tmp 8) (.tmp 10) 26 26 rfl 62 Tryz.underlying26 Tryz.sizeEnt (w.heap.size+1+1) n _ a _ rfl rfl HNi.out HSp.out cs 62 HG.out (aL es) HRv.out hcsz (mw es) ?_;intro v3 h3 n3;have k1:=ao ((n3.block w.heap.size (by omega)).trans K1.out);have k2:=ao ((n3.block (w.heap.size+1) (by omega)).trans K2.out);obtain ⟨⟨q0,q1,q2⟩,_,_,_⟩:=k1;obtain ⟨⟨j0,j1,j2⟩,i0,i1,i2⟩:=k2;have HG3:Hid _:=h3;clear h3);have A3:Below w.heap.size w v3:=A1.trans (n3.mono (by omega));have hsz3:w.heap.size+1+1<v3.heap.size:=(Array.getElem?_eq_some_iff.1 HG3.out).1;have O3:v3.ownsRow (w.heap.size+1+1) 62 6 (.slice (some ⟨w.heap.size+1+1,0,none⟩) n n) n (aL es):=
  ⟨by rw [eB,hn],.inr ⟨_,n,(aL es).toArray,rfl,Nat.le_refl _,HG3.out,Nat.le_refl _,by unfold maxLen;omega,by simp [eB,hn],by rw [List.take_of_length_le (by simp [eB,hn])]⟩⟩
 refine bodyPost_ret (v:=.agg #[.int .i64 sets,.int .i64 ways,.slice (some ⟨w.heap.size+1+1,0,none⟩) n n]) (by simp [results,Tryz.results55,go_sem,j0,j1,j2]) rfl ⟨⟨_,rfl,_,n,by rw [hn],?_⟩,eg A3 (by omega) _ _ _⟩;rw [hn];exact aT (bZ O3 (gb3 v3 (w.heap.size+1) _ _ _) (by omega)) (by omega)
end Go.Proofs.YtaoaifmkhbgaiaaGreat

namespace Go.Proofs.YtaoaifmkhbgaiaaGreat
open Go.RowKit
set_option linter.unusedVariables false
attribute [local go_sem ↓] Go.wp_at_zero Go.wp_at_succ
def qB (z0:Nat):Prop:=∀(lv tg asd pt:Int) (gl vv:Bool) (w:World),Calls Tryz.prog z0 #[.agg #[.int .i64 lv,.int .u64 tg,.int .u64 asd,.bool gl,.bool vv,.int .u64 pt]] w fun e w'=>e=.returned (.agg #[.bool vv,.int .i64 lv,.int .u64 tg,.int .u64 asd,.bool gl,.int .u64 pt])∧Below w.heap.size w w'
set_option maxHeartbeats 1600000 in
theorem so:qB 131∧qB 133:=by
 refine ⟨?_,?_⟩;have mL:Hid True:=trivial
 rotate_left
 have mP:Hid True:=trivial
 rotate_left
 all_goals
  intro lv tg asd pt gl vv w;first
   | (replace mL:=mL;have n1:=((Below.refl w.heap.size w).alloc (Nat.le_refl _) (Obj.cells #[.int .i64 lv,.int .u64 tg,.int .u64 asd,.bool gl,.bool vv,.int .u64 pt] 173)).alloc (by simp) (Obj.cells #[.bool vv,.int .i64 lv,.int .u64 tg,.int .u64 asd,.bool gl,.int .u64 pt] 62))
   | (replace mP:=mP;have n1:=((Below.refl w.heap.size w).alloc (Nat.le_refl _) (Obj.cells #[.int .i64 lv,.int .u64 tg,.int .u64 asd,.bool gl,.bool vv,.int .u64 pt] 183)).alloc (by simp) (Obj.cells #[.bool vv,.int .i64 lv,.int .u64 tg,.int .u64 asd,.bool gl,.int .u64 pt] 62))
  first
   | (replace mL:=mL;go_enter Tryz.func131,Tryz.ntmps131)
   | (replace mP:=mP;go_enter Tryz.func133,Tryz.ntmps133)
  go_wp2_with fail;first
   | (replace mL:=mL;exact bodyPost_ret (v:=.agg #[.bool vv,.int .i64 lv,.int .u64 tg,.int .u64 asd,.bool gl,.int .u64 pt]) (by simp [results,Tryz.results131,go_sem]) rfl ⟨rfl,n1⟩)
   | (replace mP:=mP;exact bodyPost_ret (v:=.agg #[.bool vv,.int .i64 lv,.int .u64 tg,.int .u64 asd,.bool gl,.int .u64 pt]) (by simp [results,Tryz.results133,go_sem]) rfl ⟨rfl,n1⟩)
def tL (z0:Nat):Prop:=∀(b o g n:Nat) (t:TlbM) (w:World) (hn:t.es.length=n) (hn1:n≤1048576) (hbl:b<w.heap.size) (hgl:g<w.heap.size)
 (c0:w.cell? ⟨b,o,none⟩=some (.int .i64 t.sets)) (c1:w.cell? ⟨b,o+1,none⟩=some (.int .i64 t.ways)) (c2:w.cell? ⟨b,o+2,none⟩=some (.slice (some ⟨g,0,none⟩) n n)) (hr:RowC w (some ⟨g,0,none⟩) n 6 (aH t.es)),Calls Tryz.prog z0 #[.pointer (some ⟨b,o,none⟩)] w fun e w'=>(∃x,e=.returned x∧TlbOwn w.heap.size w' x t)∧Below w.heap.size w w'
set_option maxRecDepth 20000 in
set_option maxHeartbeats 3200000 in
theorem jl:tL 97∧tL 100:=by
 refine ⟨?_,?_⟩;have mL:Hid True:=trivial
 rotate_left
 have mP:Hid True:=trivial
 rotate_left
 all_goals
  intro b o g n t w hn hn1 hbl hgl c0 c1 c2 hr;have HR:Hid (RowC w (some ⟨g,0,none⟩) n 6 (aH t.es)):=hr;have HN:Hid (t.es.length=n):=hn;obtain ⟨sets,ways,es⟩:=t;simp only at c0 c1 c2 HR HN;clear hr hn;obtain ⟨cs,hcs,hmk⟩:=AD n hn1;have n1:=(Below.refl w.heap.size w).alloc (Nat.le_refl _) (Obj.cells #[.int .i64 0,.int .i64 0,.slice none 0 0] 28);have H1:Hid ((w.alloc (Obj.cells #[.int .i64 0,.int .i64 0,.slice none 0 0] 28)).heap[w.heap.size]?=some (.cells #[.int .i64 0,.int .i64 0,.slice none 0 0] 28 (0,0))):=heap_alloc_new w _;have l1:(w.alloc (Obj.cells #[.int .i64 0,.int .i64 0,.slice none 0 0] 28)).heap.size=w.heap.size+1:=by simp
  have nV:Below (w.alloc (Obj.cells #[.int .i64 0,.int .i64 0,.slice none 0 0] 28)).heap.size (w.alloc (Obj.cells #[.int .i64 0,.int .i64 0,.slice none 0 0] 28)) ((w.alloc (Obj.cells #[.int .i64 0,.int .i64 0,.slice none 0 0] 28)).alloc (.cells cs 62)):=(Below.refl _ _).alloc (Nat.le_refl _) _;have hG:((w.alloc (Obj.cells #[.int .i64 0,.int .i64 0,.slice none 0 0] 28)).alloc (.cells cs 62)).heap[w.heap.size+1]?=some (.cells cs 62 (0,0)):=by
   have:=heap_alloc_new (w.alloc (Obj.cells #[.int .i64 0,.int .i64 0,.slice none 0 0] 28)) (.cells cs 62);simp only [World.size_alloc] at this;exact this
  have hcl:cs.toList.length=n*6:=by rw [hcs,eB];simp
  have O2:Hid (((w.alloc (Obj.cells #[.int .i64 0,.int .i64 0,.slice none 0 0] 28)).alloc (.cells cs 62)).ownsRow (w.heap.size+1) 62 6 (.slice (some ⟨w.heap.size+1,0,none⟩) n n) n (aL (cS 0 n es))):=by
   rw [oJ,←hcs];exact ⟨hcl,.inr ⟨_,n,cs,rfl,Nat.le_refl _,hG,Nat.le_refl _,by unfold maxLen;omega,by rw [←hcl];simp,List.take_of_length_le (by omega)⟩⟩
  have A2:=Below.step n1 nV (Nat.le_refl _);have K2:=ae H1 nV;have B2:Below (w.heap.size+1) ((w.alloc (Obj.cells #[.int .i64 0,.int .i64 0,.slice none 0 0] 28)).alloc (.cells cs 62)) ((w.alloc (Obj.cells #[.int .i64 0,.int .i64 0,.slice none 0 0] 28)).alloc (.cells cs 62)):=Below.refl _ _;have l2:((w.alloc (Obj.cells #[.int .i64 0,.int .i64 0,.slice none 0 0] 28)).alloc (.cells cs 62)).heap.size=w.heap.size+2:=by simp
  clear hG hcl hcs H1 n1 nV;have e0:w.heap.size≠b:=by omega
  have e1:w.heap.size+1≠b:=by omega
  first
   | (replace mL:=mL;go_enter Tryz.func97,Tryz.ntmps97)
   | (replace mP:=mP;go_enter Tryz.func100,Tryz.ntmps100)
  go_wp2_with fail;generalize ((w.alloc (Obj.cells #[.int .i64 0,.int .i64 0,.slice none 0 0] 28)).alloc (.cells cs 62))=v2 at O2 A2 K2 l2 B2 ⊢;go_loopw [17] (fun i wr=>∃k:Nat,k≤n∧i=.int .i64 k∧wr.ownsRow (w.heap.size+1) 62 6 (.slice (some ⟨w.heap.size+1,0,none⟩) n n) n (aL (cS k n es))∧Below (w.heap.size+1) v2 wr) (fun i _=>n-(intOf i).toNat)
  case atStart=>exact ⟨0,Nat.zero_le _,rfl,O2.out,B2⟩
  case round=>
   obtain ⟨k,hk,rfl,hO,hb⟩:=hrel;have PO:Hid (wr.ownsRow (w.heap.size+1) 62 6 (.slice (some ⟨w.heap.size+1,0,none⟩) n n) n (aL (cS k n es))):=hO;have lg:w.heap.size+1<wr.heap.size:=(bI hO).2.2;have A3:Below w.heap.size w wr:=A2.trans (hb.mono (by omega));have P1:Hid (wr.heap[w.heap.size]?=some (.cells #[.int .i64 0,.int .i64 0,.slice none 0 0] 28 (0,0))):=(hb.block w.heap.size (by omega)).trans K2.out;clear hO;have r0:wr.cell? ⟨b,o,none⟩=some (.int .i64 sets):=Below.cell2 A3 c0 hbl;have r1:wr.cell? ⟨b,o+1,none⟩=some (.int .i64 ways):=Below.cell2 A3 c1 hbl;have r2:wr.cell? ⟨b,o+2,none⟩=some (.slice (some ⟨g,0,none⟩) n n):=Below.cell2 A3 c2 hbl;by_cases hlt:k<n
   ·obtain ⟨⟨vv,lv,tg,asd,gl,pt⟩,hx⟩:∃x,es[k]?=some x:=⟨_,List.getElem?_eq_getElem (by rw [HN.out];exact hlt)⟩;have HXk:Hid (es[k]?=some ⟨vv,lv,tg,asd,gl,pt⟩):=hx;have CE:∀j u,j<6→(fj ⟨vv,lv,tg,asd,gl,pt⟩)[j]?=some u→wr.cell? ⟨g,k*6+j,none⟩=some u:=fun j u hj hu=>fR (HR.out.keep A3) HN.out k _ hx j u hj hu;have g0:wr.cell? ⟨g,k*6,none⟩=some (.int .i64 lv):=CE 0 _ (by omega) rfl;have g1:wr.cell? ⟨g,k*6+1,none⟩=some (.int .u64 tg):=CE 1 _ (by omega) rfl;have g2:wr.cell? ⟨g,k*6+2,none⟩=some (.int .u64 asd):=CE 2 _ (by omega) rfl;have g3:wr.cell? ⟨g,k*6+3,none⟩=some (.bool gl):=CE 3 _ (by omega) rfl;have g4:wr.cell? ⟨g,k*6+4,none⟩=some (.bool vv):=CE 4 _ (by omega) rfl;have g5:wr.cell? ⟨g,k*6+5,none⟩=some (.int .u64 pt):=CE 5 _ (by omega) rfl;clear CE hx;first
     | (replace mL:=mL;have n5:=(Below.refl wr.heap.size wr).alloc (Nat.le_refl _) (Obj.cells #[.int .i64 lv,.int .u64 tg,.int .u64 asd,.bool gl,.bool vv,.int .u64 pt] 173))
     | (replace mP:=mP;have n5:=(Below.refl wr.heap.size wr).alloc (Nat.le_refl _) (Obj.cells #[.int .i64 lv,.int .u64 tg,.int .u64 asd,.bool gl,.bool vv,.int .u64 pt] 183))
    go_wp2_with fail;first
     | (replace mL:=mL;generalize wr.alloc (Obj.cells #[.int .i64 lv,.int .u64 tg,.int .u64 asd,.bool gl,.bool vv,.int .u64 pt] 173)=v5 at n5 ⊢)
     | (replace mP:=mP;generalize wr.alloc (Obj.cells #[.int .i64 lv,.int .u64 tg,.int .u64 asd,.bool gl,.bool vv,.int .u64 pt] 183)=v5 at n5 ⊢)
    first
     | (replace mL:=mL;refine (so.1 lv tg asd pt gl vv v5).mono ?_)
     | (replace mP:=mP;refine (so.2 lv tg asd pt gl vv v5).mono ?_)
    rintro e v6 ⟨rfl,n6⟩;have n56:=Below.step n5 n6 (Nat.le_refl _);have SO:Hid (v6.ownsRow (w.heap.size+1) 62 6 (.slice (some ⟨w.heap.size+1,0,none⟩) n n) n (aL (cS k n es))):=aj PO.out n56;have B6:Below (w.heap.size+1) v2 v6:=hb.trans (n56.mono (by omega));have hfl:(aL (cS k n es)).length=n*6:=by
     have:=HN.out;subst this;rw [eB,i8 _ _ (by omega)]
    clear g0 g1 g2 g3 g4 g5 r0 r1 r2 n5 n6 n56 hb A3;have q0:=aI SO.out (k*6) _ (List.getElem?_eq_getElem (by omega));have q1:=aI SO.out (k*6+1) _ (List.getElem?_eq_getElem (by omega));have q2:=aI SO.out (k*6+2) _ (List.getElem?_eq_getElem (by omega));have q3:=aI SO.out (k*6+3) _ (List.getElem?_eq_getElem (by omega));have q4:=aI SO.out (k*6+4) _ (List.getElem?_eq_getElem (by omega));have q5:=aI SO.out (k*6+5) _ (List.getElem?_eq_getElem (by omega));generalize (aL (cS k n es))[k*6]'_=y0 at q0;generalize (aL (cS k n es))[k*6+1]'_=y1 at q1;generalize (aL (cS k n es))[k*6+2]'_=y2 at q2;generalize (aL (cS k n es))[k*6+3]'_=y3 at q3;generalize (aL (cS k n es))[k*6+4]'_=y4 at q4;generalize (aL (cS k n es))[k*6+5]'_=y5 at q5;have s0:=aP SO.out (k*6);have s1:=aP SO.out (k*6+1);have s2:=aP SO.out (k*6+2);have s3:=aP SO.out (k*6+3);have s4:=aP SO.out (k*6+4);have s5:=aP SO.out (k*6+5);go_wp2_with fail;go_roundw
    case rel=>
     refine ⟨k+1,by omega,by go_num,?_,?_⟩
     ·have:=HN.out;subst this;rw [lQ k es _ HXk.out,io _ _ _ (by rw [i8 _ _ (by omega)];exact hlt)];exact aJ (aJ (aJ (aJ (aJ (aJ SO.out _ _) _ _) _ _) _ _) _ _) _ _
     ·have hg1:w.heap.size+1≤w.heap.size+1:=Nat.le_refl _;exact (((((B6.setCell (p:=⟨w.heap.size+1,_,none⟩) hg1 _).setCell (p:=⟨w.heap.size+1,_,none⟩) hg1 _).setCell (p:=⟨w.heap.size+1,_,none⟩) hg1 _).setCell (p:=⟨w.heap.size+1,_,none⟩) hg1 _).setCell (p:=⟨w.heap.size+1,_,none⟩) hg1 _).setCell (p:=⟨w.heap.size+1,_,none⟩) hg1 _
    case measure=>simp [intOf];omega
   ·have hkn:k=n:=by omega
    subst hkn;obtain ⟨⟨d0,d1,d2⟩,f0,f1,f2⟩:=ao P1.out;go_wp2_with fail;go_region;first
     | (replace mL:=mL;all_goals
          go_wp2_with fail
          refine bodyPost_ret (v:=.agg #[.int .i64 sets,.int .i64 ways,.slice (some ⟨w.heap.size+1,0,none⟩) k k]) (by simp [results,Tryz.results97,go_sem,d0,d1,d2]) rfl ⟨⟨_,rfl,w.heap.size+1,k,by simp only;rw [HN.out],?_⟩,(eg A3 (Nat.le_refl _) _ _ _).drew⟩
          simp only
          rw [HN.out]
          have hO:=PO.out
          have hq:=HN.out
          subst hq
          rw [nl] at hO
          exact aT (jR (bZ hO (gb3 wr w.heap.size _ _ _) (by omega))) (by omega))
     | (replace mP:=mP;all_goals
          go_wp2_with fail
          refine bodyPost_ret (v:=.agg #[.int .i64 sets,.int .i64 ways,.slice (some ⟨w.heap.size+1,0,none⟩) k k]) (by simp [results,Tryz.results100,go_sem,d0,d1,d2]) rfl ⟨⟨_,rfl,w.heap.size+1,k,by simp only;rw [HN.out],?_⟩,(eg A3 (Nat.le_refl _) _ _ _).drew⟩
          simp only
          rw [HN.out]
          have hO:=PO.out
          have hq:=HN.out
          subst hq
          rw [nl] at hO
          exact aT (jR (bZ hO (gb3 wr w.heap.size _ _ _) (by omega))) (by omega))
end Go.Proofs.YtaoaifmkhbgaiaaGreat

namespace Go.Proofs.YtaoaifmkhbgaiaaGreat
open Go.RowKit
set_option linter.unusedVariables false
set_option maxHeartbeats 1600000 in
theorem sj (sets ways:Int) (a:Option Addr) (n cap:Nat) (w:World) (hn:n≤1048576) (hs: -9223372036854775808≤sets∧sets≤9223372036854775807) (hw: -9223372036854775808≤ways∧ways≤9223372036854775807):
 Calls Tryz.prog 129 #[.agg #[.int .i64 sets,.int .i64 ways,.slice a n cap]] w fun e w'=>e=.returned (.bool (decide ((sets=1∨sets=2∨sets=4∨sets=8)∧1≤ways∧ways≤4∧(n:Int)=sets*ways)))∧Below w.heap.size w w':=by
 have n1:=(Below.refl w.heap.size w).alloc (Nat.le_refl _) (Obj.cells #[.int .i64 sets,.int .i64 ways,.slice a n cap] 28);by_cases h1:sets=1∨sets=2∨sets=4∨sets=8
 ·by_cases h2:¬(1≤ways)
  ·rcases h1 with rfl | rfl | rfl | rfl;all_goals
    go_enter Tryz.func129,Tryz.ntmps129;go_wp2_with fail;go_ret;exact ⟨aF (by simp;omega),n1⟩
  ·have h2':=Decidable.not_not.1 h2;clear h2;by_cases h3:¬(ways≤4)
   ·rcases h1 with rfl | rfl | rfl | rfl;all_goals
     go_enter Tryz.func129,Tryz.ntmps129;go_wp2_with fail;go_ret;exact ⟨aF (by simp;omega),n1⟩
   ·have h3':=Decidable.not_not.1 h3;clear h3;rcases h1 with rfl | rfl | rfl | rfl;all_goals
     go_enter Tryz.func129,Tryz.ntmps129;go_wp2_with fail;go_ret;exact ⟨aF (by simp [h2',h3'];rfl),n1⟩
 ·have h1':=h1;simp only [not_or] at h1';obtain ⟨s1,s2,s4,s8⟩:=h1';go_enter Tryz.func129,Tryz.ntmps129;go_wp2_with fail;go_ret;exact ⟨aF (by simp [h1]),n1⟩
end Go.Proofs.YtaoaifmkhbgaiaaGreat

namespace Go.Proofs.YtaoaifmkhbgaiaaGreat
open Go.RowKit
set_option linter.unusedVariables false
def rU (e:EntM):Bool:=e.valid == false && e.level == 0 && e.tag == 0 && e.asid == 0 && e.glob == false && e.pte == 0
theorem AT (v:Bool) (lv tg asd:Int) (gl:Bool) (pt:Int) (w:World):
 (binOp .eql 62 (.agg #[.bool v,.int .i64 lv,.int .u64 tg,.int .u64 asd,.bool gl,.int .u64 pt]) (.agg #[.bool false,.int .i64 0,.int .u64 0,.int .u64 0,.bool false,.int .u64 0])).run Tryz.prog w=.ok (.bool (rU ⟨v,lv,tg,asd,gl,pt⟩)) w:=by
 unfold rU;cases v
 case true=>(go_simp;try simp)
 by_cases h1:lv=0
 case neg=>(have q1:(lv == 0)=false:=by simpa using h1);(go_simp;try simp [q1])
 subst h1;by_cases h2:tg=0
 case neg=>(have q1:(tg == 0)=false:=by simpa using h2);(go_simp;try simp [q1])
 subst h2;by_cases h3:asd=0
 case neg=>(have q1:(asd == 0)=false:=by simpa using h3);(go_simp;try simp [q1])
 subst h3;cases gl
 case true=>(go_simp;try simp)
 by_cases h4:pt=0
 case neg=>(have q1:(pt == 0)=false:=by simpa using h4);(go_simp;try simp [q1])
 subst h4;go_simp;try simp
end Go.Proofs.YtaoaifmkhbgaiaaGreat
