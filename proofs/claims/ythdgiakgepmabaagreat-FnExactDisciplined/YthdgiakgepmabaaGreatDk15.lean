import Derived.Test.YthdgiakgepmabaaGreatDk14
import Derived.Laws.CopyRow
namespace Go.Proofs.YthdgiakgepmabaaGreat
open Go.RowKit
set_option linter.unusedVariables false
set_option maxHeartbeats 6400000
set_option maxRecDepth 20000
section
attribute [local go_sem ↓] Go.wp_at_zero Go.wp_at_succ
def tk (z0:Nat) (z1:Bool):Prop:=∀(b o g n:Nat) (t:TlbM) (va asid:Int) (w:World) (hn:t.es.length=n) (hn1:n<=1048576) (hv:aY t z1=true) (hbl:b<w.heap.size)
 (c0:w.cell? (AD b o)=some (VI t.sets)) (c1:w.cell? ⟨b,o+1,none⟩=some (VI t.ways)) (c2:w.cell? ⟨b,o+2,none⟩=some (SL g n n)) (hr:RowC w (some (AD g 0)) n 6 (aC t.es)) (hv0:0<=va) (hv1:va<=18446744073709551615),Calls Tryz.prog z0 #[PT b o,VU va,VU asid] w fun e w'=>e=.returned (.tuple #[VI (bX t va asid).2.1,.bool (bX t va asid).1])∧Bw w w'
theorem qg:tk 196 false∧tk 202 true:=by
 refine ⟨?_,?_⟩;have mL:=trivial
 rotate_left
 have mP:=trivial
 rotate_left
 all_goals
  intro b o g n t va asid w hn hn1 hv hbl c0 c1 c2 hr hv0 hv1;obtain ⟨hs4,hw1,hw4,hnw⟩:=yk hv;first
   | (replace mL:=mL;have HV:Hid (aY t false=true):=hv)
   | (replace mP:=mP;have HV:Hid (aY t true=true):=hv)
  have HEi:=hid (dS hv);have HR:=hid hr;have HN:=hid hn;have HNw:Hid ((n:Int)=t.sets*t.ways):=by show _=_;rw [<-hn];exact hnw
  obtain ⟨X,hX⟩:∃X,bX t va asid=X:=⟨_,rfl⟩;have HX:=hid hX;rw [hX];clear hX hv hr hnw hn;obtain ⟨sets,ways,es⟩:=t;simp only at *;first
   | (replace mL:=mL;go_enter Tryz.func196,Tryz.ntmps196)
   | (replace mP:=mP;go_enter Tryz.func202,Tryz.ntmps202)
  go_wp2;go_loopw [12] (fun i wr=>∃l:Nat,l<=3∧i=VI l∧Hid (∀l':Nat,l'<l->dU va asid l' 0 es=none)∧Bw w wr) (fun i _=>3-(intOf i).toNat)
  case atStart=>exact ⟨0,by omega,rfl,fun l' h=>absurd h (by omega),brf⟩
  case round=>
   obtain ⟨l,hl,rfl,HF,hb⟩:=hrel;by_cases hlt:l<3
   ·have hl3:(l:Int)=0∨(l:Int)=1∨(l:Int)=2:=by omega
    obtain ⟨tm,htm⟩:∃tm,dP va l=tm:=⟨_,rfl⟩;have htb:=pe va l hl3;rw [htm] at htb;obtain ⟨sx,hsx⟩:∃sx,tm%sets=sx:=⟨_,rfl⟩;have hsb:0<=sx∧sx<sets:=by rw [<-hsx];exact ⟨Int.emod_nonneg _ (by omega),Int.emod_lt_of_pos _ (by omega)⟩
    obtain ⟨f,hf⟩:∃f:Nat,(f:Int)=sx*ways:=⟨(sx*ways).toNat,Int.toNat_of_nonneg (Int.mul_nonneg hsb.1 (by omega))⟩;have hfn:(f:Int)+ways<=n:=by
     rw [HNw.out,hf];have:(sx+1)*ways<=sets*ways:=Int.mul_le_mul_of_nonneg_right (by omega) (by omega);rw [Int.add_mul,Int.one_mul] at this;exact this
    have HFi:Hid ((f:Int)=dP va l%sets*ways):=by show _=_;rw [htm,hsx];exact hf
    have HWm:=hid hf.symm;have r0:=Below.cell2 hb c0 hbl;have r1:=Below.cell2 hb c1 hbl;have HTg:Hid (∀u,Calls Tryz.prog 133 #[VU va,VI l] u fun e w'=>e=.returned (VU tm)∧∃q,w'=u.drewN q):=fun u=>by
     have:=ve va l u hv0 hv1 hl3;rw [htm] at this;exact this
    first
     | (replace mL:=mL;have HSt:Hid (∀q,Calls Tryz.prog 103 #[PT b o,VU tm] (wr.drewN q) fun e w'=>e=.returned (VI sx)∧w'=wr.drewN q):=fun q=>by
          have:=pT b o sets tm (wr.drewN q) hs4 r0 htb.1 (by omega)
          rw [hsx] at this
          exact this)
     | (replace mP:=mP;have HSt:Hid (∀q,Calls Tryz.prog 105 #[PT b o,VU tm] (wr.drewN q) fun e w'=>e=.returned (VI sx)∧w'=wr.drewN q):=fun q=>by
          have:=pU b o sets tm (wr.drewN q) hs4 r0 htb.1 (by omega)
          rw [hsx] at this
          exact this)
    clear htm hsx;go_wp2;go_cut [9] (fun s9 wx=>s9=VI f∧∃q,wx=wr.drewN q)
    case first=>
     first
      | (replace mL:=mL;go_quiet (first
           | (go_at_call 133;exact Calls.quiet_of (HTg.out _))
           | (go_at_call 103;exact Calls.quiet_of_same (HSt.out _))))
      | (replace mP:=mP;go_quiet (first
           | (go_at_call 133;exact Calls.quiet_of (HTg.out _))
           | (go_at_call 105;exact Calls.quiet_of_same (HSt.out _))))
     go_wp2;go_meet;exact ⟨by rw [HWm.out],nq,rfl⟩
    case rest=>
     obtain ⟨rfl,q,rfl⟩:=hcut;have hb2:Bw w (wr.drewN q):=below_drewN hb q;generalize wr.drewN q=v2 at hb2 |-;clear r0 r1 hb HTg HSt HWm hsb hf;go_wp2_with fail;rename_i wr0;go_loopw [10] (fun i wr=>∃q:Nat,f<=q∧(q:Int)<=f+ways∧i=VI q∧Hid (∀(q':Nat) x,f<=q'->q'<q->es[q']?=some x->jJ va asid l x=false)∧Bw w wr) (fun i _=>f+4-(intOf i).toNat)
     case atStart=>exact ⟨f,nle,by omega,rfl,fun q' x h h'=>absurd h' (by omega),hb2⟩
     case round=>
      obtain ⟨q,hq1,hq2,rfl,HQ,hb3⟩:=hrel;have r1:wr.cell? ⟨b,o+1,none⟩=some (VI ways):=Below.cell2 hb3 c1 hbl;have r2:wr.cell? ⟨b,o+2,none⟩=some (SL g n n):=Below.cell2 hb3 c2 hbl;by_cases hqt:(q:Int)<f+ways
      ·have hqn:q<n:=by omega
       obtain ⟨⟨vv,lv,tg,asd,gl,pt⟩,hx⟩:∃x,es[q]?=some x:=⟨_,geg (by rw [HN.out];exact hqn)⟩;have HXq:Hid (es[q]?=some ⟨vv,lv,tg,asd,gl,pt⟩):=hx;have CE:∀j u,j<6->(fB ⟨vv,lv,tg,asd,gl,pt⟩)[j]?=some u->wr.cell? ⟨g,q*6+j,none⟩=some u:=fun j u hj hu=>jb (HR.out.keep hb3) HN.out q _ hx j u hj hu;have g0:wr.cell? ⟨g,q*6,none⟩=some (VI lv):=CE 0 _ (by omega) rfl;have g1:wr.cell? ⟨g,q*6+1,none⟩=some (VU tg):=CE 1 _ (by omega) rfl;have g2:wr.cell? ⟨g,q*6+2,none⟩=some (VU asd):=CE 2 _ (by omega) rfl;have g3:wr.cell? ⟨g,q*6+3,none⟩=some (.bool gl):=CE 3 _ (by omega) rfl;have g4:wr.cell? ⟨g,q*6+4,none⟩=some (.bool vv):=CE 4 _ (by omega) rfl;have HNx:Hid (jJ va asid l ⟨vv,lv,tg,asd,gl,pt⟩=false->∀(q':Nat) x,f<=q'->q'<q+1->es[q']?=some x->jJ va asid l x=false):=fun h q' x h1 h2 h3=>by
        by_cases e:q'=q
        ·subst e;rw [HXq.out] at h3;cases h3;exact h
        ·exact HQ.out q' x h1 (by omega) h3
       clear CE hx;cases vv
       ·go_wp2;go_roundw
        case rel=>exact ⟨q+1,by omega,by omega,by go_num,HNx.out (by simp [jJ,ko]),hb3⟩
        case measure=>simp [intOf];omega
       ·by_cases hlv:lv=l
        ·subst hlv;obtain ⟨fb,hfb⟩:∃fb,((tg == dP va l) && (gl || asd == asid))=fb:=⟨_,rfl⟩;have HFt:Hid (∀u,Calls Tryz.prog 198 #[.agg #[VI l,VU tg,VU asd,.bool gl],VU va,VU asid] u fun e w'=>e=.returned (.bool fb)∧Bw u w'):=fun u=>by
          have:=En l tg asd va asid gl u hl3 hv0 hv1;rw [hfb] at this;exact this
         have HHb:Hid (jJ va asid l ⟨true,l,tg,asd,gl,pt⟩=fb):=by
          show _=_;rw [<-hfb];simp [jJ,ko]
         clear hfb;go_wp2_with fail;refine (HFt.out wr).mono ?_;rintro e v5 ⟨rfl,n5⟩;have A5:=bst hb3 n5;cases fb
         ·go_wp2;go_roundw
          case rel=>exact ⟨q+1,by omega,by omega,by go_num,HNx.out HHb.out,A5⟩
          case measure=>simp [intOf];omega
         ·have hx:X=(true,(q:Int),(l:Int),pt):=by
           rw [<-HX.out];have hfi:=BZ (t:=⟨sets,ways,es⟩) (k:=q-f) HV.out HFi.out (by simp only;rw [show f+(q-f)=q by omega];exact HXq.out) HHb.out (fun j y hj hy=>HQ.out (f+j) y (by omega) (by omega) hy);rw [show f+(q-f)=q by omega] at hfi;exact ED ⟨sets,ways,es⟩ va asid l q _ HEi.out (by omega) HF.out hfi
          subst hx;go_wp2_with fail;first
           | (replace mL:=mL;exact bodyPost_ret (v:=.tuple #[VI q,.bool true]) (by simp [results,Tryz.results196,go_sem]) rfl ⟨rfl,A5⟩)
           | (replace mP:=mP;exact bodyPost_ret (v:=.tuple #[VI q,.bool true]) (by simp [results,Tryz.results202,go_sem]) rfl ⟨rfl,A5⟩)
        ·have hlv':(lv == (l:Int))=false:=by simpa using hlv
         go_wp2;go_roundw
         case rel=>exact ⟨q+1,by omega,by omega,by go_num,HNx.out (by simp [jJ,hlv]),hb3⟩
         case measure=>simp [intOf];omega
      ·have hqe:(q:Int)=f+ways:=by omega
       have hnn:=BY (t:=⟨sets,ways,es⟩) HV.out HFi.out (fun j x hj hx=>HQ.out (f+j) x (by omega) (by simp only at hj;omega) hx);have HNn:=hid hnn;clear hnn;go_wp2;go_roundw
       case rel=>exact ⟨l+1,by omega,by go_num,fun l' hl'=>by
        by_cases e:l'=l
        ·subst e;exact HNn.out
        ·exact HF.out l' (by omega),hb3⟩
       case measure=>simp [intOf];omega
   ·have hl3:l=3:=by omega
    subst hl3;have hx:X=(false,0,0,0):=by
     rw [<-HX.out];exact AY _ va asid HEi.out HF.out
    subst hx;go_wp2_with fail;first
     | (replace mL:=mL;exact bodyPost_ret (v:=.tuple #[VI 0,.bool false]) (by simp [results,Tryz.results196,go_sem]) rfl ⟨rfl,hb⟩)
     | (replace mP:=mP;exact bodyPost_ret (v:=.tuple #[VI 0,.bool false]) (by simp [results,Tryz.results202,go_sem]) rfl ⟨rfl,hb⟩)
end
theorem mZ (lv:Int) (ra:Option Addr) (n rc:Nat) (w:World):
 Calls Tryz.prog 166 #[.agg #[VI lv,VU 0,.slice ra n rc]] w fun e w'=>e=.returned (.slice ra n rc)∧Bw w w':=by
 have n1:=(Below.refl w.heap.size w).alloc nle (Obj.cells #[VI lv,VU 0,.slice ra n rc] 284);go_enter Tryz.func166,Tryz.ntmps166;go_wp2;go_ret;exact ⟨rfl,n1⟩
theorem nh (lv lf:Int) (g n rc:Nat) (w:World) (h:lf≠0) (hn:n<=3) (hn1:n+1<=rc) (hrc:rc<=9223372036854775807):
 Calls Tryz.prog 166 #[.agg #[VI lv,VU lf,SL g (n+1) rc]] w fun e w'=>e=.returned (SL g n rc)∧Bw w w':=by
 have n1:=(Below.refl w.heap.size w).alloc nle (Obj.cells #[VI lv,VU lf,SL g (n+1) rc] 284);have h':(lf == 0)=false:=by simpa using h
 go_enter Tryz.func166,Tryz.ntmps166;go_wp2;go_ret;exact ⟨by simp,n1⟩
section
open Go.RowKit Go.Maps
abbrev wtA (mb:Nat) (c:Bool):Array Value:=#[.map (some mb),.bool c]
theorem ldm {v:World} {b i:Nat} {mb:Nat} (h:v.cell? (AD b i)=some (.map (some mb))):(Instr.loadAt 63 (PT b i)).run Tryz.prog v=.ok (.map (some mb)) v:=by go_simp
theorem ldr {v:World} {b i n m:Nat} {a:Option Addr} (h:v.cell? (AD b i)=some (.slice a n m)):(Instr.loadAt 112 (PT b i)).run Tryz.prog v=.ok (.slice a n m) v:=by go_simp
theorem rC {h:HartM} {kind:Int}:∀{ps:List aP},(∀p∈ps,aU p.2.2 p.1=1)->fA h kind ps=ps:=fun hp=>List.filter_eq_self.2 fun p hm=>by simp [hp p hm]
theorem wq {h:HartM} {kind:Int} {ps:List aP} (hp:∀p∈ps,aU p.2.2 p.1=1) {r:aP} (hr:aU r.2.2 r.1=2):fA h kind (ps++[r])=if cG r.2.2 kind h.mode h.sum h.mxr=true then ps++[r] else ps:=by
 have e:=rC (h:=h) (kind:=kind) hp;unfold fA at e |-;rw [List.filter_append,e];cases hg:cG r.2.2 kind h.mode h.sum h.mxr <;> simp [hr,hg]
theorem yU (kind mode:Int) (sum mxr:Bool):cG 0 kind mode sum mxr=false:=by
 rw [qQ];simp [kZ,bJ]
theorem tU {e:TypeId} {size base n c:Nat} {w:World} {a:Option Addr} {cs:List Value} (h:w.ownsRow base e size (.slice a n c) n cs) (hn:0<n):∃g,a=some (AD g 0):=by
 rcases h.2 with ⟨_,h2⟩ | ⟨g,cap,cur,h1,_⟩
 ·omega
 ·simp only [Value.slice.injEq] at h1;exact ⟨g,h1.1⟩
theorem Cz {w:World} {base:Nat} {ra:Option Addr} {rc n:Nat} {ps:List aP} {r:aP} (h:w.ownsRow base 118 3 (.slice ra (n+1) rc) (n+1) (cj (ps++[r]))) (hn:ps.length=n):∃g,ra=some (AD g 0)∧n+1<=rc∧rc<=9223372036854775807∧base<=g∧RowC w (some (AD g 0)) (n+1) 3 (cj (ps++[r]))∧RowC w (some (AD g 0)) n 3 (cj ps):=by
 obtain ⟨g,hg⟩:=tU h (by omega);subst hg;have ha:=cQ h;have hr:RowC w (some (AD g 0)) (n+1) 3 (cj (ps++[r])):=OwnC.row h;have hcap:n+1<=rc∧rc<=maxLen:=by
  rcases h.2 with ⟨h2,_⟩ | ⟨g',cap',cur,h2,_,_,hn',hm',_⟩
  ·simp at h2
  ·simp at h2;obtain ⟨rfl,rfl⟩:=h2;exact ⟨hn',hm'⟩
 refine ⟨g,rfl,hcap.1,by have:=hcap.2;unfold maxLen at this;omega,ha.2.1,hr,?_⟩;have hl:∀l:List aP,(cj l).length=l.length*3:=by
  intro l
  induction l with
  | nil=>rfl
  | cons x xs ih=>simp [cj,xy,ih];omega
 refine ⟨by rw [hl,hn],?_⟩;by_cases h0:n=0
 ·exact .inl h0
 ·rcases hr.2 with h' | ⟨b,off,e,lt,hc⟩
  ·omega
  ·refine .inr ⟨b,off,e,lt,fun i v hv=>hc i v ?_⟩;rw [jc];exact (List.getElem?_append_left (List.getElem?_eq_some_iff.1 hv).1).trans hv
theorem wu {w:World} {e:TypeId} {size base n c:Nat} {a:Option Addr} {cs:List Value} (h:w.ownsRow base e size (.slice a n c) n cs):RowC w a n size cs:=by
 by_cases hn:n=0
 ·exact ⟨h.1,.inl hn⟩
 ·obtain ⟨g,rfl⟩:=tU h (by omega);exact OwnC.row h
theorem FW (v:World) (x y z:Value) (h:(#[x,y,z]:Array Value).all (·.oneCell')=true):∃v',(Instr.storeAt 284 (PT v.heap.size 0) (.agg #[x,y,z])).run Tryz.prog (v.alloc (Obj.cells #[VI 0,VU 0,SN] 284))=.ok () v'∧Hid (v'.heap[v.heap.size]?=some (.cells #[x,y,z] 284 (0,0)))∧v.heap.size<v'.heap.size∧Bw v v':=by
 have a:=bF v #[VI 0,VU 0,SN] 284;refine ⟨_,aR (P:=Tryz.prog) (T:=284) a.1 (by kernel_rfl) rfl h,aI a.1 rfl,?_,aK nle _ _ _ a.2.2⟩;rw [cF,a.2.1];exact Nat.lt_succ_self _
def oG (wb mb n:Nat) (c:Bool) (gm:List (cU × aP)) (h:HartM) (kind va:Int) (w:World) (e:Ending) (w':World):Prop:=
 e=.returned (.tuple #[])∧w'.heap[wb]?=some (.cells (wtA mb (c || !fW gm (bD h.mem h.satp va).2.2.2 va (aN h.satp))) 67 (0,0))∧
 GMap w' mb (n+3) (jw va (aN h.satp) (fA h kind (bD h.mem h.satp va).2.2.2) gm)∧Kp (fun i=>i=wb∨i=mb) w w'
theorem AV (wb mb n:Nat) (c:Bool) (gm:List (cU × aP)) (h:HartM) (sv:Value) (kind va:Int) (w:World) (hW:w.heap[wb]?=some (.cells (wtA mb c) 67 (0,0))) (hG:GMap w mb n gm) (hn:n+3<1048576) (hs:SrcAt w sv h.mem) (hsp:inU h.satp) (hv:inU va):
 Calls Tryz.prog 159 #[PT wb 0,sv,jR h,VI kind,VU va] w fun e w'=>oG wb mb n c gm h kind va w e w':=by
 have hne:wb≠mb:=by
  obtain ⟨es,cl,h1⟩:=hG.blk;rintro rfl;rw [hW] at h1;cases h1
 have lW:=hpl hW;have lM:=hG.lt;obtain ⟨hv0,hv1⟩:=hv;obtain ⟨hs0,hs1⟩:=hsp;obtain ⟨ps,hsplit,hpl3⟩:=qC h.mem h.satp va hs.bd;have ha:0<=aN h.satp∧aN h.satp<=65535:=by unfold aN;omega
 obtain ⟨v1,Ev1,n1,H1,l1⟩:=al1 w #[VI h.mode,.bool h.sum,.bool h.mxr,VU h.satp] 110;have CW:=hid (gL sv h.mem va h.satp v1 (hs.keep n1) hv0 hv1 hs0 hs1);have CA:=hid (kj h.satp v1 hs0 hs1);unfold oG;obtain ⟨asd,hasd⟩:∃asd,aN h.satp=asd:=⟨_,rfl⟩;rw [hasd] at ha CA |-;obtain ⟨⟨cd,lv,lf,rs⟩,hX⟩:∃X,bD h.mem h.satp va=X:=⟨_,rfl⟩;rw [hX] at hsplit CW |-;obtain ⟨N,hN⟩:∃N,rs.length=N:=⟨_,rfl⟩;have HN:=hid hN;have hrn:N<=3:=by
  rw [<-hN];rcases hsplit.2 with ⟨_,⟨ad,e⟩,_⟩ | ⟨_,e,_⟩
  ·simp only at e;rw [e];simp;omega
  ·simp only at e;rw [e];omega
 obtain ⟨wi,hwi⟩:∃wi,fW gm rs va asd=wi:=⟨_,rfl⟩;have HWI:=hid hwi;simp only [hwi];have HSp:=hid hsplit;have HG1:=hid (hG.keep n1);have HW1:=hid (ae hW n1 lW);clear hX hasd hN hwi hs hG hW hsplit;unfold jR;go_enter Tryz.func159,Tryz.ntmps159;go_upto_region 1 with fail;rw [Ev1.out];clear Ev1;obtain ⟨⟨c0,c1,c2,c3⟩,_⟩:=aO H1.out;go_wp2_with fail;refine Calls.mono CA.out ?_;rintro e v ⟨rfl,hvv⟩;rw [hvv];clear hvv;go_wp2_with fail;refine Calls.mono CW.out ?_;rintro e v2 ⟨hw,n2⟩;obtain ⟨ra,rc,rfl,o2⟩:=hw;simp only [HN.out] at o2 |-;obtain ⟨fv,hfv⟩:∃fv,cu cd=fv:=⟨_,rfl⟩;rw [hfv];obtain ⟨v3,hs3,P3,l3,n3⟩:=FW v2 (VI lv) (VU lf) (.slice ra N rc) (by simp [Value.oneCell']);have HS3:=hid hs3;have n13:=bst n2 n3;have O3:=hid (aq o2 n3);have H3:=ah H1 n13;have W3:=ah HW1 n13;have G3:=hid (HG1.out.keep n13);have N3:=hid (bst n1 n13);have s3:=(bst n1 n13).size;have s2:=n2.size;clear hs3 hfv o2 n2 n3 H1 HW1 HG1 c0 c1 c2 c3 CA CW n13;go_upto_region 3 with (first | ((with_reducible refine az ?_ ?_ HS3.out ?_);(exact rfl);(exact rfl)));clear HS3;have R3:Hid (RowC v3 ra N 3 (cj rs)):=wu O3.out;have CI:Hid (∀u,Bw v3 u->Calls Tryz.prog 165 #[.map (some mb),.slice ra N rc,VU va,VU asd] u fun e w'=>e=.returned (.bool wi)∧Bw u w'):=fun u hu=>by
  have:=zD mb n gm ra rc rs va asd u (G3.out.keep hu) (by rw [HN.out];exact R3.out.keep hu) (by rw [HN.out];exact hrn) hv0 hv1 ha.1 ha.2;rw [HWI.out,HN.out] at this;exact this
 have HLm:=hid fun u (hu:Bw v3 u)=>ldm (ab (ah W3 hu).out 0 (v:=.map (some mb)) rfl);have HLr:=hid fun u (hu:Bw v3 u)=>ldr (ab (ah P3 hu).out 2 (v:=.slice ra N rc) rfl);have hF:=bdr v3;refine ax (Bw v3) 9 ?_;refine aj 0 25 (PT wb 0) rfl hF ?_
 go_frame
 refine aj 1 26 (PT wb 0) rfl hF ?_
 go_frame
 refine aj 2 27 (PT wb 0) rfl hF ?_
 go_frame
 refine aj 3 28 _ rfl hF ?_ (hy:=fun u hu=>aD rfl (HLm.out u hu));refine aj 4 29 (PT v2.heap.size 2) rfl hF ?_
 go_frame
 refine aj 5 30 _ rfl hF ?_ (hy:=fun u hu=>aD rfl (HLr.out u hu));refine aj 6 31 (VU va) rfl hF ?_;refine aj 7 32 (VU asd) rfl hF ?_
 go_frame
 refine du 8 33 rfl ((CI.out _ hF).mono ?_);rintro e v4 ⟨rfl,n4'⟩;have n4:=bst hF n4';refine ⟨_,rfl,fun _=>n4,?_⟩
 go_frame
 refine kB 9 rfl ?_;have H4:=ah H3 n4;have W4:=ah W3 n4;have P4:=ah P3 n4;have G4:=hid (G3.out.keep n4);have O4:=hid (aq O3.out n4);have N4:=hid (bst N3.out n4);have s4:v2.heap.size<v4.heap.size:=hpl P4.out;have hL2:w.heap.size<v2.heap.size:=by omega
 clear HLm HLr CI hF n4' n4 H3 W3 P3 G3 O3 R3 N3;have FIN:∀v5,(v4=v5∧wi=true)∨(v4.setCell (AD wb 1) (.bool true)=v5∧wi=false)->
  Hid (v5.heap[wb]?=some (.cells (wtA mb (c || !wi)) 67 (0,0)))∧Hid (GMap v5 mb n gm)∧Hid (v5.heap[v2.heap.size]?=some (.cells #[VI lv,VU lf,.slice ra N rc] 284 (0,0)))∧
  Hid (v5.heap[w.heap.size]?=some (.cells #[VI h.mode,.bool h.sum,.bool h.mxr,VU h.satp] 110 (0,0)))∧Hid (v5.ownsRow v1.heap.size 118 3 (.slice ra N rc) N (cj rs))∧Hid (Kp (fun i=>i=wb∨i=mb) w v5)∧v4.heap.size<=v5.heap.size:=by
  rintro v5 (⟨rfl,rfl⟩ | ⟨rfl,rfl⟩)
  ·exact ⟨by rw [Bool.not_true,Bool.or_false];exact W4,G4,P4,H4,O4,Kp.of_below _ N4.out,nle⟩
  ·have g5:=au (ao v4 (some wb)) 1 (.bool true);refine ⟨?_,G4.out.same (g5.block mb (by have:=N4.out.size;omega) (by simpa using Ne.symm hne)),aA P4.out g5 (by omega),aA H4.out g5 (by omega),aE O4.out g5 (by omega),(Kp.of_below _ N4.out).trans (Kp.of_gb g5 (.inl rfl)),g5.size⟩;rw [Bool.not_false,Bool.or_true];exact bq W4.out
 have f1:=ap W4.out 1;have w1:=ab W4.out 1 (v:=.bool c) rfl;have HC5:Hid _:=FIN;clear FIN H4 P4 G4 O4 N4;have CG:=hid fun u (h0:0<=lf) (h1:lf<=18446744073709551615)=>jF lf kind h.mode h.sum h.mxr u h0 h1;have CADD:Hid (∀(u:World) (ks:List aP) (a:Option Addr) (m:Nat),ks.length=m->m<=3->GMap u mb n gm->RowC u a m 3 (cj ks)->(∀r∈ks,(r.1=0∨r.1=1∨r.1=2)∧0<=r.2.2∧r.2.2<=18446744073709551615)->
  Calls Tryz.prog 168 #[.map (some mb),.slice a m rc,VU va,VU asd] u fun e w'=>e=.returned (.tuple #[])∧GMap w' mb (n+3) (jw va asd ks gm)∧u.grownBy w' (some mb)):=fun u ks a m hm h3 hg hr hl=>by
  subst hm;exact (Fp mb n gm a rc ks va asd u hg hn hr h3 hl hv0 hv1 ha.1 ha.2).mono fun e w' ⟨h1,h2,h4⟩=>⟨h1,h2.mono (by omega),h4⟩
 have FIN2:Hid (∀v5 v6 v8:World,∀ks:List aP,Hid (v5.heap[wb]?=some (.cells (wtA mb (c || !wi)) 67 (0,0)))->Hid (Kp (fun i=>i=wb∨i=mb) w v5)->Bw v5 v6->fA h kind rs=ks->GMap v8 mb (n+3) (jw va asd ks gm)->v6.grownBy v8 (some mb)->
  v8.heap[wb]?=some (.cells (wtA mb (c || !wi)) 67 (0,0))∧GMap v8 mb (n+3) (jw va asd (fA h kind rs) gm)∧Kp (fun i=>i=wb∨i=mb) w v8):=fun v5 v6 v8 ks W5 K5 n6 e g8 b8=>by
  rw [e];exact ⟨aA (ah W5 n6).out b8 hne,g8,(K5.out.trans (Kp.of_below _ n6)).trans (Kp.of_gb b8 (.inr rfl))⟩
 cases wi
 focus
  go_upto_region 5 with fail;obtain ⟨W5,G5,P5,H5,O5,K5,s5⟩:=HC5.out (v4.setCell (AD wb 1) (.bool true)) (.inr ⟨rfl,rfl⟩);clear W4 f1 w1 HC5;generalize v4.setCell (AD wb 1) (.bool true)=v5 at *
 rotate_left
 focus
  go_upto_region 5 with fail;obtain ⟨v5,hv5⟩:∃v5,v4=v5:=⟨_,rfl⟩;obtain ⟨W5,G5,P5,H5,O5,K5,s5⟩:=HC5.out v5 (.inl ⟨hv5,rfl⟩);clear W4 f1 w1 HC5;rw [hv5];clear hv5
 all_goals
  have hwl:wb<v5.heap.size:=hpl W5.out;obtain ⟨⟨p0,p1,p2⟩,_⟩:=aF P5.out;rcases HSp.out with ⟨hps,⟨e1,⟨ad,e2⟩,e3,e4,e5,e6,e7⟩ | ⟨e1,e2,e3⟩⟩
  ·simp only at e1 e2 e3 e4 e5 e6 e7;have hlf:lf≠0:=fun e0=>by rw [e0] at e3;exact sa lv e3
   have GH:=hid (wq (h:=h) (kind:=kind) (fun p hp=>(hps p hp).1) (r:=(lv,ad,lf)) e3);have LV:Hid (∀r∈ps++[(lv,ad,lf)],(r.1=0∨r.1=1∨r.1=2)∧0<=r.2.2∧r.2.2<=18446744073709551615):=fun r hr=>by
    rcases List.mem_append.1 hr with hr | hr
    ·have:=hps r hr;exact ⟨by omega,this.2.2.2⟩
    ·cases List.mem_singleton.1 hr;exact ⟨by simp only;omega,e6,e7⟩
   obtain ⟨n',hn'⟩:∃n',ps.length=n':=⟨_,rfl⟩;obtain rfl:N=n'+1:=by rw [<-HN.out,e2];simp [hn']
   have ER:=hid e2;have HN':=hid hn';rw [e2] at O5;obtain ⟨g,rfl,hr1,hr2,hbg,rA,rB⟩:=Cz O5.out hn';have CP:=hid (nh lv lf g n' rc v5 hlf (by omega) hr1 hr2);have RA:=hid rA;have RB:=hid rB;clear hn' e1 e2 e3 e4 e5 rA rB hps;go_wp2_with fail;refine Calls.mono CP.out ?_;rintro e v6 ⟨rfl,n6⟩;obtain ⟨⟨c0,c1,c2,c3⟩,_⟩:=aO (ah H5 n6).out;obtain ⟨⟨q0,q1,q2⟩,_⟩:=aF (ah P5 n6).out;have m0:=ab (ah W5 n6).out 0 (v:=.map (some mb)) rfl;clear p0 p1 p2;go_wp2_with fail;refine (CG.out v6 e6 e7).mono ?_;rintro e v7 ⟨rfl,rfl⟩;cases hgr:cG lf kind h.mode h.sum h.mxr
   ·simp only [hgr,Bool.false_eq_true,if_false] at GH;have CB:=hid (CADD.out v7 ps (some (AD g 0)) n' HN'.out (by omega) (G5.out.keep n6) (RB.out.keep n6) (fun r hr=>LV.out r (List.mem_append_left _ hr)));clear hgr;go_wp2_with fail;refine Calls.mono CB.out ?_;rintro e v8 ⟨rfl,g8,b8⟩;have FF:=hid (FIN2.out v5 v7 v8 ps W5 K5 n6 (by rw [ER.out];exact GH.out) g8 b8);clear g8 b8;go_wp2_with fail;exact ⟨rfl,.tuple #[],by kernel_rfl,rfl,FF.out⟩
   ·simp only [hgr,if_true] at GH;have CB:=hid (CADD.out v7 (ps++[(lv,ad,lf)]) (some (AD g 0)) (n'+1) (by simp [HN'.out]) (by omega) (G5.out.keep n6) (RA.out.keep n6) LV.out);clear hgr;go_wp2_with fail;refine Calls.mono CB.out ?_;rintro e v8 ⟨rfl,g8,b8⟩;have FF:=hid (FIN2.out v5 v7 v8 _ W5 K5 n6 (by rw [ER.out];exact GH.out) g8 b8);clear g8 b8;go_wp2_with fail;exact ⟨rfl,.tuple #[],by kernel_rfl,rfl,FF.out⟩
  ·simp only at e2 e3;subst e3;subst e2;have GH:=hid (rC (h:=h) (kind:=kind) (fun p hp=>(hps p hp).1));have LV:Hid (∀r∈rs,(r.1=0∨r.1=1∨r.1=2)∧0<=r.2.2∧r.2.2<=18446744073709551615):=fun r hr=>by
    have:=hps r hr;exact ⟨by omega,this.2.2.2⟩
   have CP:=hid (mZ lv ra N rc v5);clear e1 hps;go_wp2_with fail;refine Calls.mono CP.out ?_;rintro e v6 ⟨rfl,n6⟩;obtain ⟨⟨c0,c1,c2,c3⟩,_⟩:=aO (ah H5 n6).out;obtain ⟨⟨q0,q1,q2⟩,_⟩:=aF (ah P5 n6).out;have m0:=ab (ah W5 n6).out 0 (v:=.map (some mb)) rfl;clear p0 p1 p2;go_wp2_with fail;refine (CG.out v6 (by omega) (by omega)).mono ?_;rw [yU];rintro e v7 ⟨rfl,rfl⟩;have CB:=hid (CADD.out v7 rs ra N HN.out hrn (G5.out.keep n6) ((wu O5.out).keep n6) LV.out);go_wp2_with fail;refine Calls.mono CB.out ?_;rintro e v8 ⟨rfl,g8,b8⟩;have FF:=hid (FIN2.out v5 v7 v8 rs W5 K5 n6 GH.out g8 b8);clear g8 b8;go_wp2_with fail;exact ⟨rfl,.tuple #[],by kernel_rfl,rfl,FF.out⟩
end
theorem xh (b:Nat) (kind:Int) (w:World):
 Calls Tryz.prog 195 #[PT b 20,VI kind] w fun e w'=>e=.returned (.pointer (some ⟨b,if kind=0 then 20 else 23,none⟩))∧w'=w:=by
 by_cases h:kind=0
 ·subst h;go_enter Tryz.func195,Tryz.ntmps195;go_wp2;go_ret;exact ⟨rfl,rfl⟩
 ·rw [if_neg h];go_enter Tryz.func195,Tryz.ntmps195;go_wp2;go_ret;exact ⟨rfl,rfl⟩
theorem Dg (b base gi gd gp:Nat) (k:KM) (sv:Value) (zs:List Int) (satp va:Int) (w:World) (hS:SetM w b base gi gd gp k) (hk:aY k.p true=true) (hko:∀e∈k.p.es,iH e) (hkl:k.p.es.length<=1048576)
 (hB:SrcAt w sv zs) (hv0:0<=va) (hv1:va<=18446744073709551615) (hr0:0<=satp) (hr1:satp<=18446744073709551615):
 Calls Tryz.prog 199 #[PT b 20,sv,VU satp,VU va] w fun e w'=>zE w.heap.size w' e (aX zs satp va (bX k.p va (aN satp)))∧Bw w w':=by
 have HS:=hid hS;have HB:=hid hB;have hb:=hS.lt;obtain ⟨⟨f,i,l,pt⟩,hX⟩:∃X,bX k.p va (aN satp)=X:=⟨_,rfl⟩;have HX:=hid hX;have HGet:Hid (f=true->∃(q:Nat) (x:EntM),k.p.es[q]?=some x∧i=(q:Int)∧l=x.level∧pt=x.pte∧(x.level=1∨x.level=2)):=fun hf=>by
  obtain ⟨q,x,h1,h2,h3,h4,_,h6⟩:=mK k.p va (aN satp) (by rw [hX];exact hf);rw [hX] at h2 h3 h4;refine ⟨q,x,h1,h2,h3,h4,?_⟩;have hp:=iM hk q x h1;simp only [dh,Bool.or_eq_true,Bool.and_eq_true,beq_iff_eq] at hp;rcases hp with hp | hp
  ·rw [h6] at hp;simp at hp
  ·have hg:=hp.1;simp only [bB,Bool.and_eq_true,decide_eq_true_eq,beq_iff_eq,qG,if_true] at hg;have hkd:=hg.2;have hlv:=hg.1.1.1.1.1.2;have hlv2:=hg.1.1.1.1.2;rcases (show x.level=0∨x.level=1∨x.level=2 by omega) with h0 | h0 | h0
   ·rw [h0] at hkd;exact absurd hkd (jq _)
   ·exact .inl h0
   ·exact .inr h0
 obtain ⟨R,hR⟩:∃R,aX zs satp va (f,i,l,pt)=R:=⟨_,rfl⟩;have HRs:=hid hR;rw [hX,hR];clear hX hS hB hR;obtain ⟨v1,Ev1,n1,H1,l1⟩:=al1 w #[VI 0,VU 0,SN] 284;go_enter Tryz.func199,Tryz.ntmps199;go_wp2_with fail;rw [Ev1.out];clear Ev1;have HF:Hid (∀u:Lies v1,Calls Tryz.prog 202 #[PT b 26,VU va,VU (aN satp)] u.w fun e w'=>e=.returned (.tuple #[VI i,.bool f])∧Below u.w.heap.size u.w w'):=fun u=>by
  have S:=HS.out.keep (bst n1 u.h);obtain ⟨c0,c1,c2⟩:=S.cellP;have:=qg.2 b 26 gp k.p.es.length k.p va (aN satp) u.w rfl hkl hk S.lt c0 c1 c2 (eC S.2.1.2.2.1) hv0 hv1;rw [HX.out] at this;exact this
 have HA:=hid fun (u:Lies v1)=>kj satp u.w hr0 hr1;generalize aN satp=asd at HF HA;have ne:=eF v1;refine cN (by kernel_rfl) (by kernel_rfl) ?_;repeat (go_big_quiet_step ((first
  | (go_at_call 163;exact jZ _ (HA.out _))
  | (go_at_call 202;exact fX _ (HF.out _)))))
 refine wpQuiet_nil ?_;rintro _ ⟨u,rfl⟩;have n2:=u.h;generalize u.w=v2 at n2 |-;have H2:=ah H1 n2;have A2:=bst n1 n2;have l2:=ltl l1 n2.size;clear n1 n2 H1 ne HF HA;obtain ⟨⟨d0,d1,d2⟩,e0,e1,e2⟩:=aF H2.out;cases f
 ·have hres:R=bD zs satp va:=by rw [<-HRs.out];simp [aX]
  go_wp2_with fail;refine (gL sv zs va satp v2 (HB.out.keep A2) hv0 hv1 hr0 hr1).mono ?_;rw [<-hres];rintro e v3 ⟨hw,n3⟩;have H3:=ah H2 n3;have A3:=bst A2 n3;obtain ⟨ra,rc,rfl,o3⟩:=hw;clear d0 d1 d2 e0 e1 e2 hres HRs;obtain ⟨⟨d0,d1,d2⟩,e0,e1,e2⟩:=aF H3.out;go_wp2_with fail;exact bodyPost_ret (v:=.tuple #[.agg #[VI R.2.1,VU R.2.2.1,.slice ra R.2.2.2.length rc],cu R.1]) (by simp [results,Tryz.results199,go_sem,d0,d1,d2]) rfl ⟨⟨ra,rc,rfl,bS (aE o3 (gb3 v3 w.heap.size _ _ _) l2) (by omega)⟩,kz A3 nle _ _ _⟩
 ·obtain ⟨q,x,hx,rfl,rfl,rfl,hlv⟩:=HGet.out (by trivial);have hok:=hko x (List.mem_of_getElem? hx);have hql:=(List.getElem?_eq_some_iff.1 hx).1;have S2:=HS.out.keep A2;obtain ⟨_,_,p2⟩:=S2.cellP;have p2':=p2;clear p2;have CE:=fun j u (hj:j<6) (hu:(fB x)[j]?=some u)=>jb (eC S2.2.1.2.2.1) rfl q _ hx j u hj hu;have g0:v2.cell? ⟨gp,q*6,none⟩=some (VI x.level):=CE 0 _ (by omega) rfl;have g1:v2.cell? ⟨gp,q*6+1,none⟩=some (VU x.tag):=CE 1 _ (by omega) rfl;have g2:v2.cell? ⟨gp,q*6+2,none⟩=some (VU x.asid):=CE 2 _ (by omega) rfl;have g3:v2.cell? ⟨gp,q*6+3,none⟩=some (.bool x.glob):=CE 3 _ (by omega) rfl;have g4:v2.cell? ⟨gp,q*6+4,none⟩=some (.bool x.valid):=CE 4 _ (by omega) rfl;have g5:v2.cell? ⟨gp,q*6+5,none⟩=some (VU x.pte):=CE 5 _ (by omega) rfl;obtain ⟨ll,hsub,hl1⟩:∃ll:Nat,x.level-1=(ll:Int)∧ll<=1:=by
   rcases hlv with h | h
   ·exact ⟨0,by rw [h];rfl,by omega⟩
   ·exact ⟨1,by rw [h];rfl,by omega⟩
  have hL1:1<=x.level:=by omega
  have hL2:x.level<=2:=by omega
  have hres:R=bu zs va ll (dA x.pte):=by
   rw [<-HRs.out];simp only [aX,if_true];rw [hsub];simp
  have HRes:Hid (R=bu zs va ll (dA x.pte)):=hres;have hpb:=hok.2.2.2;have htb:Hid (∀u:World,Calls Tryz.prog 203 #[VU x.pte] u fun e w'=>e=.returned (VU (dA x.pte))∧w'=u):=fun u=>Em x.pte u hpb.1 hpb.2;have hpp:=vd x.pte;clear CE hres HRs HX HGet hlv S2 hx;generalize dA x.pte=pp at *;generalize x.level=L0 at *;generalize x.tag=tg at *;generalize x.asid=ad at *;generalize x.glob=gl at *;generalize x.valid=vv at *;generalize x.pte=pt at *;obtain ⟨v3,Ev3,n3,S3,_⟩:=al1 v2 #[VI L0,VU tg,VU ad,.bool gl,.bool vv,VU pt] 221;go_wp2_with fail;rw [Ev3.out];clear Ev3;have H3:=ah H2 n3;have A3:=bst A2 n3;have l3:w.heap.size<v3.heap.size:=ltl l2 n3.size;clear g0 g1 g2 g3 g4 g5 p2' d0 d1 d2 e0 e1 e2 n3 H2 A2;obtain ⟨⟨g0,g1,g2,g3,g4,g5⟩,_⟩:=iQ S3.out;have D3:=bdr v3;have nev1:v2.heap.size≠w.heap.size:=by omega
  have nev2:w.heap.size≠v2.heap.size:=by omega
  have hwl:IntKind.i64.wrap (ll:Int)=(ll:Int):=(IntKind.wrap_i64 _).trans (by omega);clear g1 g2 g3 g4 hk hko hkl hb hok hql HS;clear l1 l2 hr0 hr1;go_region_held3 (fun w'=>w'.cell? (AD v2.heap.size 0)=some (VI L0)∧w'.cell? (AD v2.heap.size 5)=some (VU pt)) (go_keep)
   (first
   | (go_at_call 203;refine (htb.out _).mono ?_;rintro e w' ⟨rfl,rfl⟩)
   | (go_at_call 170;refine (oW sv zs va pp ll v3.drew (HB.out.keep (bst A3 D3)) (by omega) hv0 hv1 hpp.1 hpp.2).mono ?_;rw [<-HRes.out];rintro e v4 ⟨hw,n4⟩;obtain ⟨ra,rc,rfl,o4⟩:=hw;have N4:=bst D3 n4;have H4:=ah H3 N4;have S4:=ah S3 N4;have A4:=bst A3 N4;have O4:Hid _:=o4;have kk:=aF H4.out;obtain ⟨⟨j0,j1,j2⟩,i0,i1,i2⟩:=kk;have kk2:=iQ S4.out;obtain ⟨⟨t0,t1,t2,t3,t4,t5⟩,_⟩:=kk2;clear o4))
  all_goals
   go_wp2_with fail;exact bodyPost_ret (v:=.tuple #[.agg #[VI R.2.1,VU R.2.2.1,.slice ra R.2.2.2.length rc],cu R.1]) (by simp [results,Tryz.results199,go_sem,j0,j1,j2]) rfl ⟨⟨ra,rc,rfl,bS (aE O4.out (gb3 v4 w.heap.size _ _ _) l3) (Nat.le_of_lt l3)⟩,kz A4 nle _ _ _⟩
theorem BK (z:EntM) (n:Nat):(madeCells (nY z).toArray (n*6)).toList=co (List.replicate n z):=by
 apply List.ext_getElem?;intro j;by_cases hj:j<n*6
 ·have hq:j/6<(List.replicate n z).length:=by simp;omega
  have:=sC (List.replicate n z) (j/6) (j%6) hq (by omega);rw [show j/6*6+j%6=j by omega] at this;rw [this];have h6:j%6<(nY z).length:=by simp [nY];omega
  simp only [madeCells,List.getElem_replicate];rw [geg h6];simp [hj,nY];rw [geg (by simpa [nY] using h6)];rfl
 ·rw [List.getElem?_eq_none (by simp [madeCells];omega),List.getElem?_eq_none (by rw [jl];simp;omega)]
theorem Aw (n:Nat) (hn:n<=1048576):∃cs:Array Value,cs.toList=co (List.replicate n cM)∧∀u:World,(Instr.makeSlice 38 (VI (n:Int)) (VI (n:Int))).run Tryz.prog u=.ok (SL u.heap.size n n) (u.alloc (.cells cs 154)):=by
 obtain ⟨i0,hi,hz0,hz1,hz2⟩:=info_parts Tryz.infoEnt;refine ⟨madeCells (Value.agg #[.bool false,VI 0,VU 0,VU 0,.bool false,VU 0]).cells (n*6),?_,fun u=>?_⟩
 ·exact BK cM n
 ·have:=run_make (P:=Tryz.prog) u 38 154 i0 _ Tryz.underlying38 hi hz0 .i64 .i64 n n (by omega) (Int.le_refl _) (by rw [hz2];omega) (by omega);rw [hz1] at this;simpa using this
theorem tl (sets ways:Int) (a:Option Addr) (n cap:Nat) (w:World) (hn:n<=1048576) (hs: -9223372036854775808<=sets∧sets<=9223372036854775807) (hw: -9223372036854775808<=ways∧ways<=9223372036854775807):
 Calls Tryz.prog 101 #[.agg #[VI sets,VI ways,.slice a n cap]] w fun e w'=>e=.returned (.bool (decide ((sets=1∨sets=2∨sets=4∨sets=8)∧1<=ways∧ways<=4∧(n:Int)=sets*ways)))∧Bw w w':=by
 have n1:=(Below.refl w.heap.size w).alloc nle (Obj.cells #[VI sets,VI ways,.slice a n cap] 40);by_cases h1:sets=1∨sets=2∨sets=4∨sets=8
 ·by_cases h2:¬(1<=ways)
  ·rcases h1 with rfl | rfl | rfl | rfl;all_goals
    go_enter Tryz.func101,Tryz.ntmps101;go_wp2;go_ret;exact ⟨aL (by simp;omega),n1⟩
  ·have h2':=Decidable.not_not.1 h2;clear h2;by_cases h3:¬(ways<=4)
   ·rcases h1 with rfl | rfl | rfl | rfl;all_goals
     go_enter Tryz.func101,Tryz.ntmps101;go_wp2;go_ret;exact ⟨aL (by simp;omega),n1⟩
   ·have h3':=Decidable.not_not.1 h3;clear h3;rcases h1 with rfl | rfl | rfl | rfl;all_goals
     go_enter Tryz.func101,Tryz.ntmps101;go_wp2;go_ret;exact ⟨aL (by simp [h2',h3'];rfl),n1⟩
 ·have h1':=h1;simp only [not_or] at h1';obtain ⟨s1,s2,s4,s8⟩:=h1';go_enter Tryz.func101,Tryz.ntmps101;go_wp2;go_ret;exact ⟨aL (by simp [h1]),n1⟩
def td (e:EntM):Bool:=e.valid == false && e.level == 0 && e.tag == 0 && e.asid == 0 && e.glob == false && e.pte == 0
theorem Gl (v:Bool) (lv tg asd:Int) (gl:Bool) (pt:Int) (w:World):
 (binOp .eql 154 (.agg #[.bool v,VI lv,VU tg,VU asd,.bool gl,VU pt]) (.agg #[.bool false,VI 0,VU 0,VU 0,.bool false,VU 0])).run Tryz.prog w=.ok (.bool (td ⟨v,lv,tg,asd,gl,pt⟩)) w:=by
 unfold td;cases v
 case true=>(go_simp;try simp)
 by_cases h1:lv=0
 case neg=>(have q1:(lv == 0)=false:=by simpa using h1);(go_simp;try simp [q1])
 subst h1;by_cases h2:tg=0
 case neg=>(have q1:(tg == 0)=false:=by simpa using h2);(go_simp;try simp [q1])
 subst h2;by_cases h3:asd=0
 case neg=>(have q1:(asd == 0)=false:=by simpa using h3);(go_simp;try simp [q1])
 subst h3;cases gl
 case true=>(go_simp;try simp)
 by_cases h4:pt=0
 case neg=>(have q1:(pt == 0)=false:=by simpa using h4);(go_simp;try simp [q1])
 subst h4;go_simp;try simp
end Go.Proofs.YthdgiakgepmabaaGreat
