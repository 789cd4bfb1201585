import Derived.Test.YtjdmhibnhpdjaaaGreatPk23
namespace Go.Proofs.YtjdmhibnhpdjaaaGreat
open Go.RowKit
set_option linter.unusedVariables false
set_option maxHeartbeats 6400000
set_option maxRecDepth 20000
theorem py (mem:List Int):∀(ds:List au) (q:au),aG mem (ds++[q])=aG mem ds++(mem.drop q.2.2.toNat).take q.2.1.toNat
 | [],q=>by simp [aG]
 | d::ds,q=>by simp [aG,py mem ds q]
theorem vy:∀(ds:List au) (qs:List au),co (ds++qs)=co ds+co qs
 | [],qs=>by simp [co]
 | d::ds,qs=>by simp only [List.cons_append,co,vy ds qs];omega
theorem wM:∀(qs:List au),aP qs->0<=co qs
 | [],_=>Int.le_refl _
 | q::qs,h=>by
  have h1:=(h q (List.mem_cons_self ..)).2.1.1;have h2:=wM qs fun x hx=>h x (List.mem_cons_of_mem _ hx);simp only [co];omega
theorem vH (mb mo len mc g n c:Nat) (mem:List Int) (ps:List au) (w:World) (hm:Byt w (some (AD mb mo)) len mem) (hl:len<=1048576) (hc:len<=mc) (hmc:mc<=9223372036854775807)
 (hp:RowC w (some (AD g 0)) n 3 (jL ps)) (hn:ps.length=n) (hn2:n<=2) (hok:aP ps) (hin:∀p∈ps,eM len p.2.2 p.2.1=true) (hle:co ps<=8):
 Calls Tryz.prog 106 #[.slice (some (AD mb mo)) len mc,SL g n c] w fun e w'=>e=.returned (VU (fC mem ps))∧Bw w w':=by
 have HM:Hid _:=hm;have HP:Hid _:=hp;have HO:Hid _:=hok;have HI:Hid _:=hin;have HN:Hid _:=hn;have HLe:Hid _:=hle;have hml:=hm.1;clear hm hp hok hin hn hle;go_enter Tryz.func106,Tryz.ntmps106;go_wp2_with fail;have o1:Hid _:=OwnB.new 5 w [] 0 rfl (by decide);have n1:Bw w (w.alloc (Obj.cells #[] 5)):=(brf).alloc nle _;go_loopw [5,6] (fun bv iv wr=>∃(i bg bn bc:Nat) (done rest:List au),bv=SL bg bn bc∧iv=VI i∧done.length=i∧ps=done++rest∧OwnB 5 wr w.heap.size bg bn bc (aG mem done)∧Bw w wr) (fun _ iv _=>n-(intOf iv).toNat)
 case atStart=>exact ⟨0,_,_,_,[],ps,rfl,rfl,rfl,rfl,o1.out,n1⟩
 case round=>
  clear o1 n1;obtain ⟨i,bg,bn,bc,done,rest,rfl,rfl,hdi,hps,hO,hB⟩:=hrel;have HO':=hid hO;have HPs:Hid _:=hps;have hlen:=HN.out;rw [hps,List.length_append] at hlen;have hdn:aP done:=fun x hx=>HO.out x (by rw [hps];exact List.mem_append_left _ hx);have hrn:aP rest:=fun x hx=>HO.out x (by rw [hps];exact List.mem_append_right _ hx);have hle1:=HLe.out;rw [hps,vy] at hle1;have hpl:=bB mem done hdn;have hbn:=hO.facts.1;have hrl:=wM rest hrn;have hbn8:bn<=8:=by omega
  have hf1:bn<=bc:=by have:=hO.facts;omega
  have hf2:bc<=9223372036854775807:=by have:=hO.facts;simp only [maxLen] at this;omega
  cases rest with
  | nil=>
   have hin:i=n:=by simp at hlen;omega
   have HD:Hid (ps=done):=by rw [hps,List.append_nil];exact rfl
   have hby:=hid (hO.byt (ax (bM HM.out.2.1 done)));clear hps hO hlen hle1 hdn hrn hpl hrl;subst hin;go_wp2_with fail;refine (oD _ _ _ _ _ hby.out hbn8 hf1 hf2).mono ?_;rintro e w' ⟨rfl,nq,rfl⟩;go_wp2;go_ret;exact ⟨by rw [HD.out];rfl,below_drewN hB nq⟩
  | cons q rest=>
   have hqm:q∈ps:=by rw [hps];exact List.mem_append_right _ (List.mem_cons_self ..)
   have hqi:=HI.out q hqm;have hqo:=HO.out q hqm;obtain ⟨qv,qn,qp⟩:=q;obtain ⟨hq1,hq2,hq3⟩:=hqo;obtain ⟨m,rfl⟩:=Int.eq_ofNat_of_zero_le (show 0<=qn by simp only at hq2;omega);obtain ⟨k,rfl⟩:=Int.eq_ofNat_of_zero_le (show 0<=qp from hq3.1);simp only [eM,decide_eq_true_eq] at hqi;have hm1:1<=m:=by simp only at hq2;omega
   have hm8:m<=8:=by simp only at hq2;omega
   have hkm:k+m<=len:=by omega
   have hil:i<n:=by simp at hlen;omega
   have hpi:ps[i]?=some (qv,(m:Int),(k:Int)):=by rw [hps,<-hdi];simp
   obtain ⟨x1,x2,x3⟩:=mF ps i _ hpi;have x2':=HP.out.2;rcases x2' with x2' | ⟨b',off',hx,hlt,hcell⟩
   ·omega
   cases hx;have hgw:=ltl hlt hB.size;have y2:wr.cell? ⟨g,i*3+1,none⟩=some (VI m):=by have:=Below.cell2 hB (hcell _ _ x2) hlt;rwa [Nat.zero_add] at this
   have y3:wr.cell? ⟨g,i*3+2,none⟩=some (VU k):=by have:=Below.cell2 hB (hcell _ _ x3) hlt;rwa [Nat.zero_add] at this
   have xm:Hid (Byt wr (some ⟨mb,mo+k,none⟩) (k+m-k) ((mem.drop k).take m)):=by
    rw [Nat.add_sub_cancel_left];have h1:=(Byt.keep HM.out hB).drop k (len-k) (by omega) rfl (some ⟨mb,mo+k,none⟩) (fun _=>rfl);exact h1.take m (by omega)
   have hck:k<mc:=by omega
   have hcm:k+m<=mc:=by omega
   have hBn:bn+(k+m-k)<=2147483648:=by omega
   have HBn:Hid _:=hBn;clear hps hO hlen hle1 hdn hrn hpl hrl x1 x2 x3 hcell hqi hq1 hq2 hq3 hpi hqm hbn;go_wp2_with (at_builtin;refine kG _ rfl (.tmp 21) (.tmp 31) 22 rfl 5 Tryz.underlying22 Tryz.infoB w.heap.size _ _ _ _ rfl HO'.out mb (mo+k) (k+m-k) _ _ rfl xm.out HBn.out _ _ hB nle ?_;intro g2 cap2 v2 o2 n2);have o3:OwnB 5 v2 w.heap.size g2 (bn+m) cap2 (aG mem (done++[(qv,(m:Int),(k:Int))])):=by
    rw [py];have:=o2;rw [Nat.add_sub_cancel_left] at this;exact this
   refine ⟨⟨i+1,g2,bn+m,cap2,done++[(qv,(m:Int),(k:Int))],rest,rfl,rfl,by rw [List.length_append,hdi];rfl,by rw [HPs.out];simp,o3,n2⟩,?_⟩;simp only [intOf];omega
theorem vJ (mb mo len mc g n c wd:Nat) (x:Int) (mem:List Int) (ps:List au) (w:World) (hm:Byt w (some (AD mb mo)) len mem) (hmb:mb<w.heap.size) (hl:len<=1048576) (hc:len<=mc) (hmc:mc<=9223372036854775807)
 (hp:RowC w (some (AD g 0)) n 3 (jL ps)) (hn:ps.length=n) (hn2:n<=2) (hok:aP ps) (hin:∀p∈ps,eM len p.2.2 p.2.1=true) (hle:co ps=wd) (hw8:wd<=8) (hx:inU x):
 Calls Tryz.prog 107 #[.slice (some (AD mb mo)) len mc,SL g n c,VI wd,VU x] w fun e w'=>(∃b o cp,e=.returned (.slice (some (AD b o)) len cp)∧Byt w' (some (AD b o)) len (fD mem ps (jt x wd))∧(len<=cp∧cp<=9223372036854775807)∧b<w'.heap.size∧((b=mb∧o=mo)∨w.heap.size<=b))∧Bw w w':=by
 have HM:=hid hm;have HP:=hid hp;have HO:=hid hok;have HI:Hid _:=hin;have HN:Hid _:=hn;have HLe:Hid _:=hle;have HC:Hid (len<=mc∧mc<=9223372036854775807):=⟨hc,hmc⟩;clear hm hp hok hin hn hle hc hmc;go_enter Tryz.func107,Tryz.ntmps107;go_wp2_with fail;refine (dK wd x w hw8 hx.1 hx.2).mono ?_;rintro e v1 ⟨g1,c1,rfl,o1,n1⟩;have O1:=hid o1;clear o1;go_wp2;go_loopw [0,9,10] (fun mv bv iv wr=>∃(i mb' mo' mc' bg bo bl bc:Nat) (mi bi:List Int) (done rest:List au),mv=.slice (some (AD mb' mo')) len mc'∧bv=.slice (some (AD bg bo)) bl bc∧iv=VI i∧done.length=i∧ps=done++rest∧fD mem ps (jt x wd)=fD mi rest bi∧Byt wr (some (AD mb' mo')) len mi∧(len<=mc'∧mc'<=9223372036854775807)∧mb'<wr.heap.size∧((mb'=mb∧mo'=mo)∨w.heap.size<=mb')∧Byt wr (some (AD bg bo)) bl bi∧(bl<=bc∧bc<=9223372036854775807)∧co rest=bl∧Bw w wr) (fun _ _ iv _=>n-(intOf iv).toNat)
 case atStart=>
  have hf:=OwnB.facts O1.out;simp only [maxLen] at hf;exact ⟨0,mb,mo,mc,g1,0,wd,c1,mem,jt x wd,[],ps,rfl,rfl,rfl,rfl,rfl,rfl,Byt.keep HM.out n1,HC.out,ltl hmb n1.size,.inl ⟨rfl,rfl⟩,OwnB.byt O1.out (ax (mY wd x)),by omega,HLe.out,n1⟩
 case round=>
  clear O1 n1;obtain ⟨i,mb',mo',mc',bg,bo,bl,bc,mi,bi,done,rest,rfl,rfl,rfl,hdi,hps,hset,hmi,⟨hc1,hc2⟩,hmlt,hmlo,hbi,⟨hbc1,hbc2⟩,hlr,hB⟩:=hrel;have HPs:Hid (ps=done++rest):=hps;have HSet:=hid hset;have HMi:=hid hmi;have HBi:Hid (Byt wr (some (AD bg bo)) bl bi):=hbi;have hlen:=HN.out;rw [hps,List.length_append] at hlen;cases rest with
  | nil=>
   have hin:i=n:=by simp at hlen;omega
   clear hps hset hmi hbi hlen;subst hin;go_wp2;go_ret;exact ⟨⟨mb',mo',mc',rfl,by rw [HSet.out];exact HMi.out,⟨hc1,hc2⟩,hmlt,hmlo⟩,hB⟩
  | cons q rest=>
   have hqm:q∈ps:=by rw [hps];exact List.mem_append_right _ (List.mem_cons_self ..)
   have hqi:=HI.out q hqm;have hqo:=HO.out q hqm;have hrn:aP rest:=fun z hz=>HO.out z (by rw [hps];exact List.mem_append_right _ (List.mem_cons_of_mem _ hz));have hrl:=wM rest hrn;obtain ⟨qv,qn,qp⟩:=q;obtain ⟨hq1,hq2,hq3⟩:=hqo;obtain ⟨m,rfl⟩:=Int.eq_ofNat_of_zero_le (show 0<=qn by simp only at hq2;omega);obtain ⟨k,rfl⟩:=Int.eq_ofNat_of_zero_le (show 0<=qp from hq3.1);simp only [eM,decide_eq_true_eq] at hqi;simp only [co] at hlr;have hm1:1<=m:=by simp only at hq2;omega
   have hm8:m<=8:=by simp only at hq2;omega
   have hkm:k+m<=len:=by omega
   have hkw:(k:Int)<=1048576:=by omega
   have HWk:Hid (IntKind.i64.wrap (k:Int)=k):=by show _=_;unfold IntKind.wrap;simp [IntKind.bits,IntKind.signed];omega
   have hmb:m<=bl:=by omega
   have hil:i<n:=by simp at hlen;omega
   have hi0:i<=2:=by omega
   have hpi:ps[i]?=some (qv,(m:Int),(k:Int)):=by rw [hps,<-hdi];simp
   obtain ⟨x1,x2,x3⟩:=mF ps i _ hpi;have x2':=HP.out.2;rcases x2' with x2' | ⟨b',off',hxx,hlt,hcell⟩
   ·omega
   cases hxx;have hgw:g<wr.heap.size:=ltl hlt hB.size;have y2:wr.cell? ⟨g,i*3+1,none⟩=some (VI m):=by have:=Below.cell2 hB (hcell _ _ x2) hlt;rwa [Nat.zero_add] at this
   have y3:wr.cell? ⟨g,i*3+2,none⟩=some (VU k):=by have:=Below.cell2 hB (hcell _ _ x3) hlt;rwa [Nat.zero_add] at this
   have HLm:Hid (∀u:World,u.cell? ⟨g,i*3+1,none⟩=some (VI m)->(Instr.loadAt 2 (.pointer (some ⟨g,i*3+1,none⟩))).run Tryz.prog u=.ok (VI m) u):=fun u hu=>by go_simp
   have HLk:Hid (∀u:World,u.cell? ⟨g,i*3+2,none⟩=some (VU k)->(Instr.loadAt 27 (.pointer (some ⟨g,i*3+2,none⟩))).run Tryz.prog u=.ok (VU k) u):=fun u hu=>by go_simp
   have HLr:Hid ((m:Int)+co rest=bl):=hlr;have hbil:=hbi.1;clear hps hset hmi hbi hlen hrn x1 x2 x3 hcell hqi hq1 hq2 hq3 hpi hqm hlr;have hF:wr.drew.cell? ⟨g,i*3+1,none⟩=some (VI m)∧wr.drew.cell? ⟨g,i*3+2,none⟩=some (VU k):=⟨by simpa using y2,by simpa using y3⟩;go_upto_region 5 with fail;refine ip (fun u=>u.cell? ⟨g,i*3+1,none⟩=some (VI m)∧u.cell? ⟨g,i*3+2,none⟩=some (VU k)) 14 ?_;refine ic 0 20 (.slice (some (AD mb' mo')) len mc') rfl hF ?_;refine ic 1 21 (SL g n c) rfl hF ?_;refine ic 2 22 (VI i) rfl hF ?_
   go_frame
   refine ic 3 23 (.pointer (some ⟨g,i*3,none⟩)) rfl hF ?_ (hy:=fun u hu=>(by have h1:=hil;have h2:=hi0;go_simp));refine ic 4 24 (.pointer (some ⟨g,i*3+2,none⟩)) rfl hF ?_
   go_frame
   refine ic 5 25 (VU k) rfl hF ?_ (hy:=fun u hu=>iw rfl (HLk.out u hu.2))
   go_frame
   refine ic 6 26 (VI k) rfl hF ?_ (hy:=fun u hu=>(by have h1:=HWk.out;go_simp));refine ic 7 27 (.slice (some (AD bg bo)) bl bc) rfl hF ?_;refine ic 8 28 (SL g n c) rfl hF ?_;refine ic 9 29 (VI i) rfl hF ?_
   go_frame
   refine ic 10 30 (.pointer (some ⟨g,i*3,none⟩)) rfl hF ?_ (hy:=fun u hu=>(by have h1:=hil;have h2:=hi0;go_simp));refine ic 11 31 (.pointer (some ⟨g,i*3+1,none⟩)) rfl hF ?_
   go_frame
   refine ic 12 32 (VI m) rfl hF ?_ (hy:=fun u hu=>iw rfl (HLm.out u hu.1))
   go_frame
   refine ic 13 33 (.slice (some (AD bg bo)) m bc) rfl hF ?_ (hy:=fun u hu=>(by have h1:=hmb;have h2:=hbc1;have h3:=hbc2;go_simp;intro h;omega))
   go_frame
   refine jD 14 34 rfl (f:=140) (args:=#[.slice (some (AD mb' mo')) len mc',VI k,.slice (some (AD bg bo)) m bc]) ?_;have nD:=bdr wr;refine (BF mb' mo' len mc' k bg bo m bc mi (bi.take m) wr.drew (Byt.keep HMi.out nD) ((Byt.keep HBi.out nD).take m hmb) hl hkm hc1 hc2).mono ?_;rintro e v2 ⟨g2,c2,rfl,o2,n2'⟩;refine ⟨_,rfl,fun h=>absurd h (by decide),?_⟩
   go_frame
   refine kM 15 0 (SL g2 len c2) rfl (.inl (by kernel_rfl)) ?_;simp only [Act.put,List.setIfInBounds_toArray,List.set_cons_zero];refine dQ ?_;have n2:Bw wr v2:=bst nD n2';have nF:=bst hB n2;have z2:v2.cell? ⟨g,i*3+1,none⟩=some (VI m):=Below.cell2 n2 y2 hgw;have O2:Hid (OwnB 5 v2 wr.drew.heap.size g2 len c2 (mi.take k++bi.take m++mi.drop (k+m))):=o2;have hf2:=o2.facts;have hg2:wr.heap.size<=g2:=hf2.2.1;have hg3:g2<v2.heap.size:=hf2.2.2.1;have hc3:len<=c2:=hf2.2.2.2.1;have hc4:c2<=9223372036854775807:=by have:=hf2.2.2.2.2;simp only [maxLen] at this;omega
   have hwl:=hB.size;clear o2 n2' hF hf2;have HSt:Hid (fD mem ps (jt x wd)=fD (mi.take k++bi.take m++mi.drop (k+m)) rest (bi.drop m)):=by
    show _=_;rw [HSet.out,fD];simp only [Int.toNat_natCast];unfold put;rw [List.length_take,hbil,Nat.min_eq_left hmb]
   have hln:co rest=((bl-m:Nat):Int):=by have:=HLr.out;omega
   have HLn:Hid (co rest=((bl-m:Nat):Int)):=hln;have BM:Hid (Byt v2 (some (AD g2 0)) len (mi.take k++bi.take m++mi.drop (k+m))):=OwnB.byt O2.out (by
    have hz:∀z∈mi.take k++bi.take m++mi.drop (k+m),0<=z∧z<=255:=fun z hz=>by
     rcases List.mem_append.1 hz with hz | hz
     ·rcases List.mem_append.1 hz with hz | hz
      ·exact aK HMi.out.2.1 z (List.mem_of_mem_take hz)
      ·exact aK HBi.out.2.1 z (List.mem_of_mem_take hz)
     ·exact aK HMi.out.2.1 z (List.mem_of_mem_drop hz)
    exact ax hz)
   clear hln O2 hbil;by_cases hcc:bc=m
   ·subst hcc;have hble:bl=bc:=by omega
    have BB:Hid (Byt v2 (some (AD bg bo)) (bl-bc) (bi.drop bc)):=Byt.keep (HBi.out.drop bc (bl-bc) hmb rfl (some (AD bg bo)) (fun h=>by omega)) n2;go_wp2_with fail;refine ⟨⟨i+1,g2,0,c2,bg,bo,bl-bc,bc-bc,mi.take k++bi.take bc++mi.drop (k+bc),bi.drop bc,done++[(qv,((bc:Nat):Int),(k:Int))],rest,rfl,by rw [hble,Nat.sub_self],rfl,by rw [List.length_append,hdi];rfl,by rw [HPs.out];simp,HSt.out,BM.out,⟨hc3,hc4⟩,hg3,.inr (by omega),BB.out,by omega,HLn.out,nF⟩,?_⟩;simp only [intOf];omega
   ·have hmc:m<bc:=by omega
    clear hcc;have BB:Hid (Byt v2 (some ⟨bg,bo+m,none⟩) (bl-m) (bi.drop m)):=Byt.keep (HBi.out.drop m (bl-m) hmb rfl (some ⟨bg,bo+m,none⟩) (fun h=>rfl)) n2;go_wp2_with fail;refine ⟨⟨i+1,g2,0,c2,bg,bo+m,bl-m,bc-m,mi.take k++bi.take m++mi.drop (k+m),bi.drop m,done++[(qv,((m:Nat):Int),(k:Int))],rest,rfl,rfl,rfl,by rw [List.length_append,hdi];rfl,by rw [HPs.out];simp,HSt.out,BM.out,⟨hc3,hc4⟩,hg3,.inr (by omega),BB.out,by omega,HLn.out,nF⟩,?_⟩;simp only [intOf];omega
section
attribute [local go_sem ↓] Go.wp_at_zero Go.wp_at_succ
theorem pM (v:Value) (t:TlbM) (k:Int) (w:World) (h:TlbAt w v t) (hn0:0<t.es.length) (hk:0<=k∧k<=255):
 Calls Tryz.prog 43 #[v,VI k] w fun e w'=>(∃x,e=.returned x∧TlbOwn w.heap.size w' x (iF t k))∧Bw w w':=by
 have HT:Hid (TlbAt w v t):=h;obtain ⟨a,cap,rfl,hr,_,_,_,hl,hlc,hcm,hnil,hsp⟩:=h;obtain ⟨sets,ways,es⟩:=t;obtain ⟨n,hn⟩:∃n,es.length=n:=⟨_,rfl⟩;simp only at hr hl hlc hnil hn0 HT |-;have HN:Hid (es.length=n):=hn;rw [hn] at hr hl hlc hnil HT hn0 |-;obtain ⟨j,hjr,hj⟩:∃j:Nat,k.tmod (n:Int)=j∧j<n:=by
  refine ⟨(k%(n:Int)).toNat,?_,?_⟩
  ·rw [Int.tmod_eq_emod_of_nonneg hk.1];have:=Int.emod_nonneg k (show (n:Int)≠0 by omega);omega
  ·have:=Int.emod_nonneg k (show (n:Int)≠0 by omega);have:=Int.emod_lt_of_pos k (show 0<(n:Int) by omega);omega
 have HRm:Hid (k.tmod (n:Int)=j):=hjr;have HX:Hid (iF ⟨sets,ways,es⟩ k=⟨sets,ways,es.set j dZ⟩):=by
  show _=_;unfold iF;simp only;rw [hn,show (k%(n:Int)).toNat=j by rw [Int.tmod_eq_emod_of_nonneg hk.1] at hjr;omega]
 obtain ⟨X,hX⟩:∃X,iF ⟨sets,ways,es⟩ k=X:=⟨_,rfl⟩;rw [hX];rw [hX] at HX;have HN0:Hid (¬n=0):=by show ¬_;omega
 clear hX hr hnil hsp hn hjr;go_enter Tryz.func43,Tryz.ntmps43;go_wp2_with fail;obtain ⟨v1,Ev1,F⟩:=ax2 w #[VI sets,VI ways,.slice a n cap] #[VI 0,VI 0,SN] 33 33;rw [Ev1.out];clear Ev1;obtain ⟨h3,h6,l1,n1⟩:=F;have H6:Hid _:=h6;have b2:w.heap.size+1<v1.heap.size:=by omega
 clear h3 h6 l1;refine (mf _ ⟨sets,ways,es⟩ v1 (HT.out.keep n1)).mono ?_;rintro e v2 ⟨⟨x,rfl,g,cp,rfl,o2⟩,n2⟩;simp only at o2 |-;rw [HN.out] at o2 |-;obtain ⟨_,hg1,hg2⟩:=eh o2;simp only at hg1 hg2;have O2:Hid (v2.ownsRow v1.heap.size 153 6 (SL g n cp) n (ao es)):=o2;have K6:Hid _:=ae H6.out n2 b2;have l2:=n2.size;have n12:=bst n1 n2;clear o2 n2 H6 n1;go_upto_region 2 with fail;obtain ⟨v3,Ev3,F⟩:=ax1 v2 #[VI sets,VI ways,SL g n cp] 33;rw [Ev3.out];clear Ev3;obtain ⟨h5,l3,n3⟩:=F;have H5:Hid (v3.heap[v2.heap.size]?=some (.cells #[VI sets,VI ways,SL g n cp] 33 (0,0))):=h5;have O3:Hid (v3.ownsRow v1.heap.size 153 6 (SL g n cp) n (ao es)):=ab O2.out n3;have J6:Hid _:=ae K6.out n3 (by omega);have n13:=bst n12 n3;have b3:v2.heap.size<v3.heap.size:=by omega
 clear h5 l3 O2 K6 n12 n3;obtain ⟨⟨p0,p1,p2⟩,_,_,_⟩:=ij H5.out;have HLs:Hid (∀u:World,u.cell? (AD v2.heap.size 2)=some (SL g n cp)->(Instr.loadAt 31 (PT v2.heap.size 2)).run Tryz.prog u=.ok (SL g n cp) u):=fun u hu=>by go_simp
 have hF:v3.drew.cell? (AD v2.heap.size 2)=some (SL g n cp):=by simpa using p2
 clear p0 p1 p2;refine ip (fun u=>u.cell? (AD v2.heap.size 2)=some (SL g n cp)) 9 ?_;refine ic 0 8 (PT v2.heap.size 2) rfl hF ?_
 go_frame
 refine ic 1 9 (SL g n cp) rfl hF ?_ (hy:=fun u hu=>iw rfl (HLs.out u hu));refine ic 2 10 (VI k) rfl hF ?_;refine ic 3 11 (PT v2.heap.size 2) rfl hF ?_
 go_frame
 refine ic 4 12 (SL g n cp) rfl hF ?_ (hy:=fun u hu=>iw rfl (HLs.out u hu));refine ic 5 13 (VI n) rfl hF ?_
 go_frame
 refine ic 6 14 (VI j) rfl hF ?_ (hy:=fun u hu=>(by have h1:=HRm.out;have h2:=HN0.out;go_simp));refine ic 7 15 (.agg #[.bool false,VI 0,VU 0,VU 0,.bool false,VU 0]) rfl hF ?_
 go_frame
 refine ic 8 16 (.pointer (some ⟨g,j*6,none⟩)) rfl hF ?_ (hy:=fun u hu=>(by have h1:=hj;go_simp))
 go_frame
 have hcl:(ao es).length=n*6:=by rw [kz,HN.out]
 have O4:Hid (v3.drew.ownsRow v1.heap.size 153 6 (SL g n cp) n (ao es)):=ab O3.out ((brf).drew);have n13d:=n13.drew;have H5d:Hid (v3.drew.heap[v2.heap.size]?=some (.cells #[VI sets,VI ways,SL g n cp] 33 (0,0))):=H5.out;have J6d:Hid (v3.drew.heap[w.heap.size+1]?=some (.cells #[VI 0,VI 0,SN] 33 (0,0))):=J6.out;have hsd:v3.heap.size<=v3.drew.heap.size:=nle;clear hF HLs H5 J6 n13 O3;generalize v3.drew=vd at O4 n13d H5d J6d hsd |-;have q0:=il O4.out (j*6) _ (geg (by omega));have q1:=il O4.out (j*6+1) _ (geg (by omega));have q2:=il O4.out (j*6+2) _ (geg (by omega));have q3:=il O4.out (j*6+3) _ (geg (by omega));have q4:=il O4.out (j*6+4) _ (geg (by omega));have q5:=il O4.out (j*6+5) _ (geg (by omega));generalize (ao es)[j*6]'_=y0 at q0;generalize (ao es)[j*6+1]'_=y1 at q1;generalize (ao es)[j*6+2]'_=y2 at q2;generalize (ao es)[j*6+3]'_=y3 at q3;generalize (ao es)[j*6+4]'_=y4 at q4;generalize (ao es)[j*6+5]'_=y5 at q5;have r0:=iy O4.out (j*6);have r1:=iy O4.out (j*6+1);have r2:=iy O4.out (j*6+2);have r3:=iy O4.out (j*6+3);have r4:=iy O4.out (j*6+4);have r5:=iy O4.out (j*6+5);have HS:(Instr.storeAt 153 (.pointer (some ⟨g,j*6,none⟩)) (.agg #[.bool false,VI 0,VU 0,VU 0,.bool false,VU 0])).run Tryz.prog vd=.ok () ((((((vd.setCell ⟨g,j*6,none⟩ (.bool false)).setCell ⟨g,j*6+1,none⟩ (VI 0)).setCell ⟨g,j*6+2,none⟩ (VU 0)).setCell ⟨g,j*6+3,none⟩ (VU 0)).setCell ⟨g,j*6+4,none⟩ (.bool false)).setCell ⟨g,j*6+5,none⟩ (VU 0)):=by go_simp
 refine fe 9 16 15 rfl HS ?_;refine dQ ?_;clear q0 q1 q2 q3 q4 q5 r0 r1 r2 r3 r4 r5 HS;have gS:=hZ (hZ (hZ (hZ (hZ (hZ (aM vd (some g)) (j*6) (.bool false)) (j*6+1) (VI 0)) (j*6+2) (VU 0)) (j*6+3) (VU 0)) (j*6+4) (.bool false)) (j*6+5) (VU 0);have O5:Hid _:=eX (eX (eX (eX (eX (eX O4.out (j*6) (.bool false)) (j*6+1) (VI 0)) (j*6+2) (VU 0)) (j*6+3) (VU 0)) (j*6+4) (.bool false)) (j*6+5) (VU 0);have hes:=mG es j dZ (by rw [HN.out];exact hj);simp only [dZ] at hes;rw [<-hes] at O5;generalize (((((vd.setCell ⟨g,j*6,none⟩ (.bool false)).setCell ⟨g,j*6+1,none⟩ (VI 0)).setCell ⟨g,j*6+2,none⟩ (VU 0)).setCell ⟨g,j*6+3,none⟩ (VU 0)).setCell ⟨g,j*6+4,none⟩ (.bool false)).setCell ⟨g,j*6+5,none⟩ (VU 0)=v4 at gS O5 |-;have n14:Bw w v4:=Below.gb n13d gS (by have:=n13d.size;omega) (by omega);have P5:=aL H5d.out gS (by omega);have P6:=aL J6d.out gS (by omega);have l4:vd.heap.size<=v4.heap.size:=gS.size;clear gS n13d hes H5d J6d;obtain ⟨⟨p0,p1,p2⟩,_,_,_⟩:=ij P5;obtain ⟨⟨d0,d1,d2⟩,e0,e1,e2⟩:=ij P6;have c3:v2.heap.size<v4.heap.size:=by omega
 go_wp2_with fail;refine bodyPost_ret (v:=.agg #[VI sets,VI ways,SL g n cp]) (by simp [results,Tryz.results43,go_sem,d0,d1,d2]) rfl ⟨⟨_,rfl,?_⟩,lA n14 (by omega) _ _ _⟩;rw [HX.out];refine ⟨g,cp,by simp only [List.length_set];rw [HN.out],?_⟩;simp only [List.length_set];rw [HN.out];exact ir (aD O5.out (gb3 v4 (w.heap.size+1) _ _ _) (by omega)) (by omega)
end
section
attribute [local go_sem ↓] Go.wp_at_zero Go.wp_at_succ
def jy:Nat->Code->Code
 | 0,c=>c
 | n+1,.seq _ c=>jy n c
 | _+1,c=>c
def ka:Code->Code
 | .seq c _=>c
 | c=>c
def ky (f:Func):Code:=f.body.getD .skip
def ia (r:RunM):RunM:=aR r (cQ r.h ((r.h.pc+4)%18446744073709551616))
structure ExecIn (w v:World) (hb:Nat) (p:PtrM) (al:Option Addr) (cl:Nat) (plain:Bool) (pick:Int) (r:RunM):Prop where
 run:v.heap[w.heap.size]?=some (.cells (gU p al cl plain pick (ia r)) 58 (0,0))
 res:v.heap[w.heap.size+1]?=some (.cells gc 58 (0,0))
 hart:v.heap[hb]?=some (.cells (bJ p r.h) 37 (0,0))
 hb:w.heap.size+1<hb
 runIn:RunIn v p al cl (ia r)
 below:Bw w v
 ptrs:∀q,some q∈aH p->q.block<w.heap.size
 looks:∀q,al=some q->q.block<w.heap.size
def Co (op:Int) (w v:World) (hb a b c:Nat) (P q s word imm jump xa xb xc W pc:Int) (Q:Exit->Act->World->Prop):Prop:=
 ∀K:Act->World->Prop,(∀a w,(jy 15 (ky Tryz.f80)).wp Tryz.prog Q a w->K a w)->∀(C:Array Value) (u32 u33 u34 u35 u36 u37 u38 u39 u40 u41 u42 u43 u44 u45 u46 u47 u48 u49 u50 u51 u52 u53 u54 u55 u56 u57 u58 u59 u60 u61 u62 u63 u64 u65 u66 u67 u68 u69 u70 u71 u72 u73 u74 u75 u76 u77 u78 u79:Value),(ka (jy 14 (ky Tryz.f80))).wp Tryz.prog (Exit.then K Q) ⟨#[.agg C,VI op,VI P,VI q,VI s,VU word,PT w.heap.size 0,undef,undef,undef,undef,undef,PT (w.heap.size+1) 0,PT hb 0,VI (a:Nat),VI (b:Nat),VI (c:Nat),VU imm,VU jump,VU xa,VU xb,VU xc,VI W,VU pc,undef,undef,undef,undef,undef,undef,undef,undef,u32,u33,u34,u35,u36,u37,u38,u39,u40,u41,u42,u43,u44,u45,u46,u47,u48,u49,u50,u51,u52,u53,u54,u55,u56,u57,u58,u59,u60,u61,u62,u63,u64,u65,u66,u67,u68,u69,u70,u71,u72,u73,u74,u75,u76,u77,u78,u79,undef,undef,undef,undef,undef,undef,undef,undef,undef,undef,undef,undef,undef,undef,undef,undef,undef,undef,undef,undef,undef,undef,undef,undef,undef,undef,undef,undef,undef,undef,undef,undef,undef,undef,undef,undef,undef,undef,undef,undef,undef,undef,undef,undef,undef,undef,undef,undef,undef,undef,undef,undef,undef,undef,undef,undef,undef,undef,undef,undef,undef,undef,undef,undef,undef,undef,undef,undef,undef,undef,undef,undef,undef,undef,undef,undef,undef,undef,undef,undef,undef,undef,undef,undef,undef,undef,undef,undef,undef,undef,undef,undef,undef,undef,undef,undef,undef,undef,undef,undef,undef,undef,undef,undef,undef,undef,undef,undef,undef,undef,undef,undef,undef,undef,undef,undef,undef,undef,undef,undef,undef,undef,undef,undef,undef,undef,undef,undef,undef,undef,undef,undef,undef,undef,undef,undef,undef,undef,undef,undef,undef,undef,undef,undef,undef,undef,undef,undef,undef,undef,undef,undef,undef,undef,undef,undef,undef,undef,undef,undef,undef,undef,undef,undef,undef,undef,undef,undef,undef,undef,undef,undef,undef,undef,undef,undef,undef,undef,undef,undef,undef,undef,undef,undef,undef,undef,undef,undef,undef,undef,undef,undef,undef,undef,undef,undef,undef,undef,undef,undef,undef,undef,undef,undef,undef,undef,undef,undef,undef,undef,undef,undef,undef,undef,undef,undef,undef,undef,undef,undef,undef,undef,undef,undef,undef,undef,undef,undef,undef,undef,undef,undef,undef,undef,undef,undef,undef,undef,undef,undef,undef,undef,undef,undef,undef,undef,undef,undef],[]⟩ v
theorem wP (p:PtrM) (al:Option Addr) (cl:Nat) (plain:Bool) (pick:Int) (r:RunM) (op P q s word:Int) (w:World) (hr:RunIn w p al cl r) (hk:ROk r) (hreg:r.h.regs.length=8)
 (hop:0<=op∧op<=255) (hp:0<=P∧P<=255) (hq:0<=q∧q<=255) (hs:0<=s∧s<=255) (R:Ending->World->Prop)
 (H:∀(v:World) (hb a b c:Nat) (imm jump xa xb xc W pc:Int),ExecIn w v hb p al cl plain pick r->P%8=a∧a<8->P/8%8=b∧b<8->q%8=c∧c<8->imm=fW s%18446744073709551616->jump=4*fW s%18446744073709551616->xa=lK r.h a->xb=lK r.h b->xc=lK r.h c->W=mr ((c:Int)%4)->pc=r.h.pc->Co op w v hb a b c P q s word imm jump xa xb xc W pc (bodyPost Tryz.prog Tryz.f80 R)):
  Calls Tryz.prog 80 #[.agg (gU p al cl plain pick r),VI op,VI P,VI q,VI s,VU word] w R:=by
 have HH:Hid _:=H;clear H;have HX:Hid (∀(C:Array Value),gU p al cl plain pick r=C->gU p al cl plain pick (ia r)=C.setIfInBounds 2 (VU ((r.h.pc+4)%18446744073709551616))):=fun C h=>by rw [<-h];rfl
 have HI:=hid hr;have HOK:=hid hk;have hsz:=iK p al cl plain pick r;have HHt:Hid (((gU p al cl plain pick r).toList.drop 0).take 21=(bJ p r.h).toList):=rfl;have hhs:=kl p r.h;have gH1:(bJ p r.h)[1]?=some (.slice p.ar r.h.regs.length p.cr):=rfl;have gH2:(bJ p r.h)[2]?=some (VU r.h.pc):=rfl;have gC2:(gU p al cl plain pick r)[2]?=some (VU r.h.pc):=rfl;have HHo:=hid (kZ p r.h);have hpt:=hr.h.low;have hlo:=hr.low;generalize hC:gU p al cl plain pick r=C at hsz HHt gC2 |-;have HC:Hid _:=hC;generalize hD:bJ p r.h=D at HHt hhs gH1 gH2 HHo;have HD:Hid _:=hD;clear hr hk hC hD;go_enter Tryz.func80,Tryz.ntmps80;go_upto_region 1 with fail;obtain ⟨v1,Ev1,F⟩:=ax2 w C gc 58 58;rw [Ev1.out];clear Ev1;obtain ⟨h3,h6,l1,n1⟩:=F;have H3:Hid _:=h3;have H6:Hid _:=h6;have b1:w.heap.size<v1.heap.size:=by omega
 have b2:w.heap.size+1<v1.heap.size:=by omega
 clear h3 h6 l1;have HLh:Hid _:=jB (P:=Tryz.prog) (T:=37) H3.out Tryz.underlying37 rfl (o:=0) D.toList kq HHt.out (by rw [Array.length_toList,hhs]);simp only [Array.toArray_toList] at HLh;have a1:=iV v1 kV 37;have HSh:Hid _:=iC (P:=Tryz.prog) (T:=37) (V:=D) a1.1 (by rw [hhs];exact kq) (by rw [hhs,kC]) HHo.out;have K5:Hid _:=fG (V:=D) a1.1 (by rw [hhs,kC]);have n2:=bst n1 a1.2.2;have n3:=dU (show w.heap.size<=v1.heap.size by omega) D.toList 0 _ n2;have K3:Hid _:=me (ae H3.out a1.2.2 b1) 0 D.toList (show w.heap.size≠v1.heap.size by omega);have K6:Hid _:=me (ae H6.out a1.2.2 b2) 0 D.toList (show w.heap.size+1≠v1.heap.size by omega);have s2:v1.heap.size<((v1.alloc (Obj.cells kV 37)).setCells v1.heap.size 0 D.toList).heap.size:=by rw [jw];omega
 clear a1;go_upto_region 2 with (first
  | ((with_reducible refine iE ?_ HLh.out ?_);(exact rfl))
  | ((with_reducible refine it ?_ ?_ HSh.out ?_);(exact rfl);(exact rfl)))
 generalize (v1.alloc (Obj.cells kV 37)).setCells v1.heap.size 0 D.toList=v2 at K3 K5 K6 n3 s2 |-;clear HLh HSh n2 H3 H6 n1;obtain ⟨hp1,hp2⟩:=hp;obtain ⟨hq1,hq2⟩:=hq;obtain ⟨hs1,hs2⟩:=hs;obtain ⟨a,ha,ha8⟩:∃a:Nat,P%8=a∧a<8:=⟨(P%8).toNat,by omega,by omega⟩;obtain ⟨b,hb,hb8⟩:∃b:Nat,P/8%8=b∧b<8:=⟨(P/8%8).toNat,by omega,by omega⟩;obtain ⟨c,hc,hc8⟩:∃c:Nat,q%8=c∧c<8:=⟨(q%8).toNat,by omega,by omega⟩;obtain ⟨W,hW⟩:∃W,mr ((c:Int)%4)=W:=⟨_,rfl⟩;have HW:Hid (W=2^((c:Int)%4).toNat):=hW.symm;have hW1:1<=W∧W<=8:=by
  rw [<-hW];have hc4:(c:Int)%4=0∨(c:Int)%4=1∨(c:Int)%4=2∨(c:Int)%4=3:=by omega
  rcases hc4 with h | h | h | h <;> rw [h] <;> decide
 obtain ⟨hW1,hW8⟩:=hW1;have HWm:Hid (mr ((c:Int)%4)=W):=hW;clear hW;rcases HI.out.h.regs.2 with h0 | ⟨rb,ro,har,hrlt,hcell⟩
 ·omega
 rw [har,hreg] at gH1;have hrw:rb<v2.heap.size:=ltl hrlt n3.size;have HCl:Hid (∀n:Nat,n<8->v2.cell? ⟨rb,ro+n,none⟩=some (VU (lK r.h n))):=fun n hn=>Below.cell2 n3 (hcell n _ (tY r.h.regs n (by omega))) hrlt;have ca:=HCl.out a ha8;have cb:=HCl.out b hb8;have cc:=HCl.out c hc8;have k1:=gX K5.out 1 gH1;have k2:=gX K5.out 2 gH2;have k3:=gX K3.out 2 gC2;have k4:=ie K3.out 2;have hpc:=HOK.out.h.pc;have hcr:=HI.out.h.regc;rw [hreg] at hcr;have b3:w.heap.size<v2.heap.size:=by omega
 obtain ⟨xa,hxa⟩:∃xa,lK r.h a=xa:=⟨_,rfl⟩;obtain ⟨xb,hxb⟩:∃xb,lK r.h b=xb:=⟨_,rfl⟩;obtain ⟨xc,hxc⟩:∃xc,lK r.h c=xc:=⟨_,rfl⟩;obtain ⟨pc,hpc'⟩:∃pc,r.h.pc=pc:=⟨_,rfl⟩;rw [hxa] at ca;rw [hxb] at cb;rw [hxc] at cc;rw [hpc'] at k2 k3 hpc;have HXa:=hid hxa.symm;have HXb:=hid hxb.symm;have HXc:=hid hxc.symm;have HPc:=hid hpc'.symm;have HpA:Hid (P%8=a∧a<8):=⟨ha,ha8⟩;have HpB:Hid (P/8%8=b∧b<8):=⟨hb,hb8⟩;have HpC:Hid (q%8=c∧c<8):=⟨hc,hc8⟩;clear hxa hxb hxc hpc';have hpc1:=hpc.1;have hpc2:=hpc.2;clear hpc;have HE:Hid (ExecIn w (v2.setCell (AD w.heap.size 2) (VU (IntKind.u64.wrap (pc+4)))) v1.heap.size p al cl plain pick r):=by
  have hwr:IntKind.u64.wrap (pc+4)=(r.h.pc+4)%18446744073709551616:=by rw [HPc.out];rfl
  have nn:=eD n3 nle 2 (VU (IntKind.u64.wrap (pc+4)));refine ⟨?_,dz K6.out 2 _ (by omega),?_,by omega,?_,nn,hpt,hlo⟩
  ·rw [HX.out C HC.out,<-hwr];exact iI K3.out 2 _
  ·rw [HD.out];exact dz K5.out 2 _ (by omega)
  ·have k:=HI.out.keep nn;exact ⟨⟨k.h.mem,k.h.memc,k.h.regs,k.h.regc,k.h.rega,k.h.ks,k.h.low⟩,k.looks,k.lookc,k.looka,k.lookl,k.low⟩
 clear K3 K5 K6 gH1 gH2 gC2;have HX':=HX;clear HX hpt hlo n3;clear hcell;by_cases h128:128<=s
 ·go_upto_region 10 with fail;rw [ha,hb,hc];clear ha hb hc;go_upto_region 13 with fail;go_upto_region 14 with (go_at_call 65;refine (iD ((c:Int)%4) W _ (by omega) HW.out).mono ?_;rintro e w' ⟨rfl,rfl⟩);go_upto_region 16 with fail;refine HH.out _ v1.heap.size a b c _ _ xa xb xc W pc HE.out HpA.out HpB.out HpC.out ?_ ?_ HXa.out HXb.out HXc.out HWm.out.symm HPc.out _ (by assumption) C _ _ _ _ _ _ _ _ _ _ _ _ _ _ _ _ _ _ _ _ _ _ _ _ _ _ _ _ _ _ _ _ _ _ _ _ _ _ _ _ _ _ _ _ _ _ _ _
  ·unfold fW;rw [if_pos h128];rfl
  ·unfold fW;rw [if_pos h128];rfl
 ·go_upto_region 10 with fail;rw [ha,hb,hc];clear ha hb hc;go_upto_region 13 with fail;go_upto_region 14 with (go_at_call 65;refine (iD ((c:Int)%4) W _ (by omega) HW.out).mono ?_;rintro e w' ⟨rfl,rfl⟩);go_upto_region 16 with fail;refine HH.out _ v1.heap.size a b c _ _ xa xb xc W pc HE.out HpA.out HpB.out HpC.out ?_ ?_ HXa.out HXb.out HXc.out HWm.out.symm HPc.out _ (by assumption) C _ _ _ _ _ _ _ _ _ _ _ _ _ _ _ _ _ _ _ _ _ _ _ _ _ _ _ _ _ _ _ _ _ _ _ _ _ _ _ _ _ _ _ _ _ _ _ _
  ·unfold fW;rw [if_neg (by omega)];omega
  ·unfold fW;rw [if_neg (by omega)];omega
end
section
attribute [local go_sem ↓] Go.wp_at_zero Go.wp_at_succ
def kR (w:World) (p:PtrM) (al:Option Addr) (cl:Nat) (plain:Bool) (pick:Int) (X:RunM):Ending->World->Prop:=fun e w'=>(∃p' al' cl',e=.returned (.agg (gU p' al' cl' plain pick X))∧RunIn w' p' al' cl' X∧From w.heap.size p p'∧FromL w.heap.size al al')∧Bw w w'
theorem De {w v v2:World} {hb:Nat} {p p':PtrM} {al al':Option Addr} {cl cl':Nat} {plain:Bool} {pick:Int} {r X:RunM} (hE:ExecIn w v hb p al cl plain pick r) (hI:RunIn v2 p' al' cl' X) (hF:From v.heap.size p p') (hL:FromL v.heap.size al al') (hn:Bw v v2) (L:List Value):
 kR w p al cl plain pick X (.returned (.agg (gU p' al' cl' plain pick X))) (v2.setCells (w.heap.size+1) 0 L):=by
 have h1:=(hpl hE.res);have g:=iq (w.heap.size+1) L 0 v2 v2 (aM v2 _);have n:=bst hE.below hn;refine ⟨⟨p',al',cl',rfl,hI.gb g (fun q hq=>?_) (fun q hq=>?_),fun q hq=>?_,fun q hq=>?_⟩,dU (by omega) L 0 v2 n⟩
 ·rcases hF q hq with h | h
  ·have:=hE.ptrs q h;omega
  ·have h':v.heap.size<=q.block:=h;omega
 ·rcases hL q hq with h | h
  ·have:=hE.looks q h;omega
  ·have h':v.heap.size<=q.block:=h;omega
 ·rcases hF q hq with h | h
  ·exact .inl h
  ·exact .inr (Nat.le_trans (by omega) h)
 ·rcases hL q hq with h | h
  ·exact .inl h
  ·exact .inr (Nat.le_trans (by omega) h)
theorem ExecIn.keep {w v v2:World} {hb:Nat} {p:PtrM} {al:Option Addr} {cl:Nat} {plain:Bool} {pick:Int} {r:RunM} (hE:ExecIn w v hb p al cl plain pick r) (hn:Bw v v2):ExecIn w v2 hb p al cl plain pick r:=
 ⟨ae hE.run hn (hpl hE.run),ae hE.res hn (hpl hE.res),ae hE.hart hn (hpl hE.hart),hE.hb,hE.runIn.keep hn,bst hE.below hn,hE.ptrs,hE.looks⟩
theorem BD {w v v2:World} {hb:Nat} {p:PtrM} {al:Option Addr} {cl:Nat} {plain:Bool} {pick:Int} {r X:RunM} (hE:ExecIn w v hb p al cl plain pick r) (hI:RunIn v2 p al cl X) (hn:Bw w v2) (L:List Value):
 kR w p al cl plain pick X (.returned (.agg (gU p al cl plain pick X))) (v2.setCells (w.heap.size+1) 0 L):=by
 have g:=iq (w.heap.size+1) L 0 v2 v2 (aM v2 _);refine ⟨⟨p,al,cl,rfl,hI.gb g (fun q hq=>?_) (fun q hq=>?_),fun q hq=>.inl hq,fun q hq=>.inl hq⟩,dU (by omega) L 0 v2 hn⟩
 ·have:=hE.ptrs q hq;omega
 ·have:=hE.looks q hq;omega
theorem qu (x m:Int):IntKind.u64.wrap (x+m%18446744073709551616)=(x+m)%18446744073709551616:=by
 show (x+m%18446744073709551616)%18446744073709551616=_;omega
theorem uo (n:Nat) (al:Option Addr):FromL n al al:=fun q hq=>.inl hq
theorem BE (n:Nat) (p:PtrM):From n p p:=fun q hq=>.inl hq
structure EX where
 w:World
 v:World
 hb:Nat
 a:Nat
 b:Nat
 c:Nat
 p:PtrM
 al:Option Addr
 cl:Nat
 plain:Bool
 pick:Int
 r:RunM
 P:Int
 q:Int
 s:Int
 word:Int
 imm:Int
 jump:Int
 xa:Int
 xb:Int
 xc:Int
 W:Int
 pc:Int
structure ExecH (x:EX):Prop where
 E:ExecIn x.w x.v x.hb x.p x.al x.cl x.plain x.pick x.r
 ok:ROk x.r
 reg:x.r.h.regs.length=8
 pk:0<=x.pick∧x.pick<=255
 c0:x.r.cause=0
 ll:x.r.looks.length<=6
 s:0<=x.s∧x.s<=255
 wd:inU x.word
 pa:x.P%8=x.a∧x.a<8
 pb:x.P/8%8=x.b∧x.b<8
 pq:x.q%8=x.c∧x.c<8
 im:x.imm=fW x.s%18446744073709551616
 ju:x.jump=4*fW x.s%18446744073709551616
 xa:x.xa=lK x.r.h x.a
 xb:x.xb=lK x.r.h x.b
 xc:x.xc=lK x.r.h x.c
 W:x.W=mr ((x.c:Int)%4)
 pc:x.pc=x.r.h.pc
def uq (op:Int) (x:EX):Prop:=∀(Q:Exit->Act->World->Prop) (X:RunM),Hid (kS x.plain x.pick x.r op x.P x.q x.s x.word=X)->Hid (bodyPost Tryz.prog Tryz.f80 (kR x.w x.p x.al x.cl x.plain x.pick X)=Q)->Co op x.w x.v x.hb x.a x.b x.c x.P x.q x.s x.word x.imm x.jump x.xa x.xb x.xc x.W x.pc Q
theorem pR {w v v2:World} {hb:Nat} {p p':PtrM} {al al':Option Addr} {cl cl':Nat} {plain:Bool} {pick:Int} {r X Y:RunM} {Q:Exit->Act->World->Prop} (hE:ExecIn w v hb p al cl plain pick r) (hI:RunIn v2 p' al' cl' X) (hF:From v.heap.size p p') (hL:FromL v.heap.size al al') (hn:Bw v v2) (hQ:bodyPost Tryz.prog Tryz.f80 (kR w p al cl plain pick Y)=Q) (hY:Y=X):
 ∃u2,Hid ((Instr.storeAt 58 (PT (w.heap.size+1) 0) (.agg (gU p' al' cl' plain pick X))).run Tryz.prog v2=.ok () u2)∧Hid (∀a:Act,a.tmps[12]?=some (PT (w.heap.size+1) 0)->a.defers=[]->Q .ret a u2):=by
 have hs:=iK p' al' cl' plain pick X;have k6:=ae hE.res hn (hpl hE.res);have hv:=fG (V:=gU p' al' cl' plain pick X) k6 (by rw [hs,iz]);refine ⟨_,iC (P:=Tryz.prog) (T:=58) k6 (by rw [hs];exact jC) (by rw [hs,iz]) (jI _ _ _ _ _ _),fun a ha hd=>?_⟩;rw [<-hQ,hY];exact jE (b:=w.heap.size+1) Tryz.results80 ha (iH (P:=Tryz.prog) hv Tryz.underlying58 rfl (by rw [hs];exact jC)) hd (De hE hI hF hL hn _)
theorem xy {u:World} {b:Nat} {p:PtrM} {al:Option Addr} {cl:Nat} {plain:Bool} {pick:Int} {r:RunM} (h:u.heap[b]?=some (.cells (gU p al cl plain pick r) 58 (0,0))):Hid ((Instr.loadAt 58 (PT b 0)).run Tryz.prog u=.ok (.agg (gU p al cl plain pick r)) u):=
 iA (P:=Tryz.prog) (T:=58) h Tryz.underlying58 rfl (by rw [iK];exact jC)
structure FSq (w:World) (p:PtrM) (al:Option Addr) (cl:Nat) (r:RunM) (A:Array Value) (u:World):Prop where
 run:u.heap[w.heap.size]?=some (.cells A 58 (0,0))
 res:u.heap[w.heap.size+1]?=some (.cells gc 58 (0,0))
 rin:RunIn u p al cl (ia r)
 below:Bw w u
 ptrs:∀q,some q∈aH p->q.block<w.heap.size
 looks:∀q,al=some q->q.block<w.heap.size
theorem FSq.of {w v:World} {hb:Nat} {p:PtrM} {al:Option Addr} {cl:Nat} {plain:Bool} {pick:Int} {r:RunM} (h:ExecIn w v hb p al cl plain pick r):FSq w p al cl r (gU p al cl plain pick (ia r)) v:=⟨h.run,h.res,h.runIn,h.below,h.ptrs,h.looks⟩
theorem FSq.set {w u:World} {p:PtrM} {al:Option Addr} {cl:Nat} {r:RunM} {A:Array Value} (h:FSq w p al cl r A u) (k:Nat) (x:Value):FSq w p al cl r (A.setIfInBounds k x) (u.setCell (AD w.heap.size k) x):=
 ⟨iI h.run k x,dz h.res k x (by omega),h.rin.gb (hZ (aM u (some w.heap.size)) k x) (fun q hq=>by have:=h.ptrs q hq;omega) (fun q hq=>by have:=h.looks q hq;omega),eD h.below nle k x,h.ptrs,h.looks⟩
theorem FSq.step {w u u2:World} {p:PtrM} {al:Option Addr} {cl:Nat} {r:RunM} {A:Array Value} (h:FSq w p al cl r A u) (n:Bw u u2):FSq w p al cl r A u2:=
 ⟨ae h.run n (hpl h.run),ae h.res n (hpl h.res),h.rin.keep n,bst h.below n,h.ptrs,h.looks⟩
theorem yJ {u:World} {p:PtrM} {al:Option Addr} {cl:Nat} {r X:RunM} (k:RunIn u p al cl r) (hm:X.h.mem=r.h.mem) (hr:X.h.regs=r.h.regs) (hk:X.h.k=r.h.k) (hl:X.looks=r.looks):RunIn u p al cl X:=by
 obtain ⟨⟨k1,k2,k3,k4,k5,k6,k7⟩,k8,k9,k10,k11,k12⟩:=k;rw [<-hm] at k1 k2;rw [<-hr] at k3 k4 k5;rw [<-hk] at k6;rw [<-hl] at k8 k9 k10 k11;exact ⟨⟨k1,k2,k3,k4,k5,k6,k7⟩,k8,k9,k10,k11,k12⟩
theorem FSq.fin {w u:World} {p:PtrM} {al:Option Addr} {cl:Nat} {plain:Bool} {pick:Int} {r X:RunM} {A:Array Value} {Q:Exit->Act->World->Prop} (h:FSq w p al cl r A u) (hQ:bodyPost Tryz.prog Tryz.f80 (kR w p al cl plain pick X)=Q) (hA:A=gU p al cl plain pick X) (hm:X.h.mem=(ia r).h.mem) (hr:X.h.regs=(ia r).h.regs) (hk:X.h.k=(ia r).h.k) (hl:X.looks=(ia r).looks):
 ∃E u2,Hid ((Instr.loadAt 58 (PT w.heap.size 0)).run Tryz.prog u=.ok (.agg E) u)∧Hid ((Instr.storeAt 58 (PT (w.heap.size+1) 0) (.agg E)).run Tryz.prog u=.ok () u2)∧Hid (∀a:Act,a.tmps[12]?=some (PT (w.heap.size+1) 0)->a.defers=[]->Q .ret a u2):=by
 subst hA;have hs:=iK p al cl plain pick X;have hI:=yJ (X:=X) h.rin hm hr hk hl;have hv:=fG (V:=gU p al cl plain pick X) h.res (by rw [hs,iz]);refine ⟨_,_,xy h.run,iC (P:=Tryz.prog) (T:=58) h.res (by rw [hs];exact jC) (by rw [hs,iz]) (jI _ _ _ _ _ _),fun a ha hd=>?_⟩;rw [<-hQ];refine jE (b:=w.heap.size+1) Tryz.results80 ha (iH (P:=Tryz.prog) hv Tryz.underlying58 rfl (by rw [hs];exact jC)) hd ?_;have g:=iq (w.heap.size+1) (gU p al cl plain pick X).toList 0 u u (aM u _);refine ⟨⟨p,al,cl,rfl,hI.gb g (fun q hq=>?_) (fun q hq=>?_),fun q hq=>.inl hq,fun q hq=>.inl hq⟩,dU (by omega) _ 0 u h.below⟩
 ·have:=h.ptrs q hq;omega
 ·have:=h.looks q hq;omega
def AJ (p:PtrM) (al:Option Addr) (cl:Nat) (plain:Bool) (pick:Int) (X:RunM) (u:World) (e:Ending) (w':World):Prop:=∃p',e=.returned (.agg (gU p' al cl plain pick X))∧RunIn w' p' al cl X∧From u.heap.size p p'∧Bw u w'
theorem Df {p:PtrM} {al:Option Addr} {cl:Nat} {plain:Bool} {pick:Int} {r:RunM} {c t:Int} {u:World} (hu:RunIn u p al cl r):Calls Tryz.prog 77 #[.agg (gU p al cl plain pick r),VI c,VU t] u (AJ p al cl plain pick (bV r c t) u):=by
 refine (mV p al cl plain pick r c t u).mono ?_;rintro e w' ⟨rfl,n⟩;exact ⟨p,rfl,yJ (hu.keep n) rfl rfl rfl rfl,BE _ _,n⟩
theorem Ej {p:PtrM} {al:Option Addr} {cl:Nat} {plain:Bool} {pick:Int} {r:RunM} {a:Nat} {V:Int} {u:World} (hu:RunIn u p al cl r) (h8:r.h.regs.length=8) (ha:a<8):Calls Tryz.prog 104 #[.agg (gU p al cl plain pick r),VI (a:Nat),VU V] u (AJ p al cl plain pick (aU r a V) u):=by
 refine (mA p al cl plain pick r a V u hu (by omega) (by omega) (by omega)).mono ?_;rintro e w' ⟨⟨p',rfl,h1,h2⟩,n⟩;exact ⟨p',rfl,h1,h2,n⟩
theorem exq {R:Ending->World->Prop} {Q:Exit->Act->World->Prop} {f:Func} (h:bodyPost Tryz.prog f R=Q):Hid (∀x (a:Act) d z w,Q (.panic x) (a.put d z) w->Q (.panic x) a w):=by
 show ∀x (a:Act) d z w,Q (.panic x) (a.put d z) w->Q (.panic x) a w;rw [<-h];exact fun _ _ d _ _ h=>by cases d <;> exact h
end
section
attribute [local go_sem ↓] Go.wp_at_zero Go.wp_at_succ
theorem kN (x:EX) (H:ExecH x) (op:Int) (hc:op=1∨op=2∨op=3∨(op=9∨op=10∨op=11)∧x.r.h.mode=0∨(op=12∨op=13)∧x.r.h.mode≠2∨op=13∧x.r.h.mode=2∧2<x.c∨op=14∨op=0∨15<=op∧op<=255):uq op x:=by
 obtain ⟨w,v,hb,a,b,c,p,al,cl,plain,pick,r,P,q,s,word,imm,jump,xa,xb,xc,W,pc⟩:=x;obtain ⟨hE,hok,hreg,hpk,h0,hll,hs,hwd,hpa,hpb,hpc,him,hju,hxa,hxb,hxc,hW,hpcc⟩:=H;intro Q X HX HQ K hK C
 intros
 dsimp only at *;simp only [ka,jy,ky,Tryz.f80,Option.getD] at hK |-;have k3:=gX hE.hart 3 (show (bJ p r.h)[3]?=some (VI r.h.mode) from rfl);have hbv:=(hpl hE.hart);have HE:=hid hE;have hmo:=hok.h.v.mode;have HT:Hid (∀c t,X=bV (ia r) c t->∀u,RunIn u p al cl (ia r)->Calls Tryz.prog 77 #[.agg (gU p al cl plain pick (ia r)),VI c,VU t] u (AJ p al cl plain pick X u)):=fun c t h u hu=>by rw [h];exact Df hu
 have HS:Hid (∀V,X=aU (ia r) a V->∀u,RunIn u p al cl (ia r)->Calls Tryz.prog 104 #[.agg (gU p al cl plain pick (ia r)),VI (a:Nat),VU V] u (AJ p al cl plain pick X u)):=fun V h u hu=>by rw [h];exact Ej hu hreg hpa.2
 have HLd:=xy hE.run;replace HX:=HX.out;unfold kS doM at HX;rcases hc with rfl | rfl | rfl | ⟨rfl | rfl | rfl,hm⟩ | ⟨rfl | rfl,hm⟩ | ⟨rfl,hm,hc2⟩ | rfl | rfl | ⟨hb1,hb2⟩;have HC:Hid _:=HS.out imm (by rw [<-HX,if_neg (by simp [cS]),if_pos rfl,him,<-hpa.1];rfl)
 rotate_left
 have HC:Hid _:=HS.out (IntKind.u64.wrap (xb+xc)) (by rw [<-HX,if_neg (by simp [cS]),if_neg (by decide),if_pos rfl,hxb,hxc,<-hpb.1,<-hpc.1,<-hpa.1];rfl)
 rotate_left
 have HC:Hid _:=HS.out (IntKind.u64.wrap (xb+imm)) (by rw [<-HX,if_neg (by simp [cS]),if_neg (by decide),if_neg (by decide),if_pos rfl,hxb,him,<-hpb.1,qu,<-hpa.1];rfl)
 rotate_left
 iterate 3
  have HC:Hid _:=HT.out 2 word (by rw [<-HX,if_pos (by simp [cS,aR,cQ,hm])];rfl);rw [hm] at k3
  rotate_left
 iterate 2
  have HC:Hid _:=HT.out 2 word (by rw [<-HX,if_pos (by simp [cS,aR,cQ,hm])];rfl);generalize r.h.mode=mo at k3 hm
  rotate_left
 have HC:Hid _:=HT.out 2 word (by rw [<-HX,if_pos (by simp only [cS,aR,cQ,hm,hpc.1];simp;omega)];rfl);rw [hm] at k3
 rotate_left
 have HC:Hid _:=HT.out (8+r.h.mode) 0 (by rw [<-HX,if_neg (by simp [cS]),if_neg (by decide),if_neg (by decide),if_neg (by decide),if_neg (by decide),if_neg (by decide),if_neg (by decide),if_neg (by decide),if_neg (by decide),if_neg (by decide),if_neg (by decide),if_neg (by decide),if_neg (by decide),if_neg (by decide),if_pos rfl];rfl);obtain ⟨hm1,hm2⟩:=hmo
 rotate_left
 have HC:Hid _:=HT.out 2 word (by rw [<-HX,if_neg (by simp [cS]),if_neg (by decide),if_neg (by decide),if_neg (by decide),if_neg (by decide),if_neg (by decide),if_neg (by decide),if_neg (by decide),if_neg (by decide),if_neg (by decide),if_neg (by decide),if_neg (by decide),if_neg (by decide),if_neg (by decide),if_neg (by decide)];rfl)
 rotate_left
 have HC:Hid _:=HT.out 2 word (by rw [<-HX,if_neg (by simp only [cS];simp;omega),if_neg (by omega),if_neg (by omega),if_neg (by omega),if_neg (by omega),if_neg (by omega),if_neg (by omega),if_neg (by omega),if_neg (by omega),if_neg (by omega),if_neg (by omega),if_neg (by omega),if_neg (by omega),if_neg (by omega),if_neg (by omega)];rfl)
 rotate_left
 all_goals
  clear HT HS HX hE hok hpa hpb hpc him hju hxa hxb hxc hW hpcc h0 hll hs hwd hpk;generalize gU p al cl plain pick (ia r)=D at HC HLd
 focus go_upto_region 21 with fail
 rotate_left
 focus go_upto_region 23 with fail
 rotate_left
 focus go_upto_region 25 with fail
 rotate_left
 iterate 6
  focus go_upto_region 18 with fail
  rotate_left
 focus go_upto_region 72 with fail
 rotate_left
 focus go_upto_region 73 with fail
 rotate_left
 focus go_upto_region 73 with fail
 rotate_left
 all_goals
  as_aux_lemma=>
   go_wp2_with ((with_reducible refine iE ?_ HLd.out ?_);(exact rfl));refine (HC.out v HE.out.runIn).mono ?_;rintro e v2 ⟨p',rfl,hI2,hF2,n2⟩;obtain ⟨u2,HSr,HR⟩:=pR HE.out hI2 hF2 (uo _ _) n2 HQ.out rfl;generalize gU p' al cl plain pick X=E at HSr |-;go_wp2_with ((with_reducible refine it ?_ ?_ HSr.out ?_);(exact rfl);(exact rfl));exact HR.out _ rfl rfl
end
section
attribute [local go_sem ↓] Go.wp_at_zero Go.wp_at_succ
theorem sF (x:EX) (H:ExecH x) (op:Int) (hc:op=8∧x.xa=x.xb∨op=8∧x.xa≠x.xb∨op=12∧x.r.h.mode=2∨op=13∧x.r.h.mode=2∧¬2<x.c):uq op x:=by
 obtain ⟨w,v,hb,a,b,c,p,al,cl,plain,pick,r,P,q,s,word,imm,jump,xa,xb,xc,W,pc⟩:=x;obtain ⟨hE,hok,hreg,hpk,h0,hll,hs,hwd,hpa,hpb,hpc,him,hju,hxa,hxb,hxc,hW,hpcc⟩:=H;intro Q X HX HQ K hK C
 intros
 dsimp only at *;simp only [ka,jy,ky,Tryz.f80,Option.getD] at hK |-;have k3:=gX hE.hart 3 (show (bJ p r.h)[3]?=some (VI r.h.mode) from rfl);have hbv:=(hpl hE.hart);have HE:=hid hE;have hav:=(hpl hE.run);have k8:=gX HE.out.hart 8 (show (bJ p r.h)[8]?=some (VU r.h.epc) from rfl);have k9:=gX HE.out.hart 9 (show (bJ p r.h)[9]?=some (VI r.h.emode) from rfl);have hne:hb≠w.heap.size:=by have:=HE.out.hb;omega
 rcases hc with ⟨rfl,hm⟩ | ⟨rfl,hm⟩ | ⟨rfl,hm⟩ | ⟨rfl,hm,hc2⟩;have hX:X=ia r:=by
  rw [<-HX.out];unfold kS doM;rw [if_neg (by simp [cS])]
  iterate 7 rw [if_neg (by decide)]
  rw [if_pos rfl,if_pos (by rw [hpa.1,hpb.1];rw [hxa,hxb] at hm;exact hm)];rfl
 obtain ⟨v2,e2,HF⟩:∃v2,v=v2∧Hid (FSq w p al cl r _ v2):=⟨_,rfl,(FSq.of HE.out)⟩;have F2:=HF.out.fin HQ.out (by rw [hX] <;> rfl) (by rw [hX] <;> rfl) (by rw [hX] <;> rfl) (by rw [hX] <;> rfl) (by rw [hX] <;> rfl);clear hX
 rotate_left
 have hX:X=aR (ia r) (cQ (ia r).h (IntKind.u64.wrap (pc+jump))):=by
  rw [<-HX.out];unfold kS doM;rw [if_neg (by simp [cS])]
  iterate 7 rw [if_neg (by decide)]
  rw [if_pos rfl,if_neg (by rw [hpa.1,hpb.1];rw [hxa,hxb] at hm;exact hm),hju,qu,hpcc];rfl
 obtain ⟨v2,e2,HF⟩:∃v2,(v.setCell (AD w.heap.size 2) (VU (IntKind.u64.wrap (pc+jump))))=v2∧Hid (FSq w p al cl r _ v2):=⟨_,rfl,((FSq.of HE.out).set 2 (VU (IntKind.u64.wrap (pc+jump))))⟩;have F2:=HF.out.fin HQ.out (by rw [hX] <;> rfl) (by rw [hX] <;> rfl) (by rw [hX] <;> rfl) (by rw [hX] <;> rfl) (by rw [hX] <;> rfl);clear hX;have c2:=gX HE.out.run 2 (show (gU p al cl plain pick (ia r))[2]?=some _ from rfl);have f2:=ie HE.out.run 2
 rotate_left
 have hX:X=aR (ia r) ⟨r.h.mem,r.h.regs,IntKind.u64.wrap (r.h.epc+jump),r.h.emode,r.h.sum,r.h.mxr,r.h.satp,r.h.tvec,r.h.epc,r.h.emode,r.h.cause,r.h.tval,r.h.k⟩:=by
  rw [<-HX.out];unfold kS doM;rw [if_neg (by simp [cS,aR,cQ,hm])]
  iterate 11 rw [if_neg (by decide)]
  rw [if_pos rfl,hju,qu];rfl
 rw [hm] at k3;obtain ⟨v2,e2,HF⟩:∃v2,((v.setCell (AD w.heap.size 2) (VU (IntKind.u64.wrap (r.h.epc+jump)))).setCell (AD w.heap.size 3) (VI r.h.emode))=v2∧Hid (FSq w p al cl r _ v2):=⟨_,rfl,(((FSq.of HE.out).set 2 (VU (IntKind.u64.wrap (r.h.epc+jump)))).set 3 (VI r.h.emode))⟩;have F2:=HF.out.fin HQ.out (by rw [hX] <;> rfl) (by rw [hX] <;> rfl) (by rw [hX] <;> rfl) (by rw [hX] <;> rfl) (by rw [hX] <;> rfl);clear hX;have c2:=gX HE.out.run 2 (show (gU p al cl plain pick (ia r))[2]?=some _ from rfl);have f2:=ie HE.out.run 2;have c3:=gX HE.out.run 3 (show (gU p al cl plain pick (ia r))[3]?=some _ from rfl);have f3:=ie HE.out.run 3
 rotate_left
 have hX:X=aR (ia r) ⟨r.h.mem,r.h.regs,(ia r).h.pc,r.h.mode,r.h.sum,r.h.mxr,r.h.satp,r.h.tvec,xa,(c:Int),r.h.cause,r.h.tval,r.h.k⟩:=by
  rw [<-HX.out];unfold kS doM;rw [if_neg (by simp only [cS,aR,cQ,hm,hpc.1];simp;omega)]
  iterate 12 rw [if_neg (by decide)]
  rw [if_pos rfl,hpc.1,hpa.1,hxa];rfl
 rw [hm] at k3;obtain ⟨v2,e2,HF⟩:∃v2,((v.setCell (AD w.heap.size 8) (VU xa)).setCell (AD w.heap.size 9) (VI (c:Nat)))=v2∧Hid (FSq w p al cl r _ v2):=⟨_,rfl,(((FSq.of HE.out).set 8 (VU xa)).set 9 (VI (c:Nat)))⟩;have F2:=HF.out.fin HQ.out (by rw [hX] <;> rfl) (by rw [hX] <;> rfl) (by rw [hX] <;> rfl) (by rw [hX] <;> rfl) (by rw [hX] <;> rfl);clear hX;have c8:=gX HE.out.run 8 (show (gU p al cl plain pick (ia r))[8]?=some _ from rfl);have f8:=ie HE.out.run 8;have c9:=gX HE.out.run 9 (show (gU p al cl plain pick (ia r))[9]?=some _ from rfl);have f9:=ie HE.out.run 9
 rotate_left
 all_goals
  obtain ⟨E,u2,HLd,HSr,HR⟩:=F2;clear HF HX hE hok hpa hpb hpc him hju hxa hxb hxc hW hpcc h0 hll hs hwd hpk
 iterate 2
  focus go_upto_region 48 with fail
  rotate_left
 focus go_upto_region 66 with fail
 rotate_left
 focus go_upto_region 70 with fail
 rotate_left
 all_goals
  try rw [e2]
  go_wp2_with (first
   | ((with_reducible refine iE ?_ HLd.out ?_);(exact rfl))
   | ((with_reducible refine it ?_ ?_ HSr.out ?_);(exact rfl);(exact rfl)))
  exact HR.out _ rfl rfl
end
section
attribute [local go_sem ↓] Go.wp_at_zero Go.wp_at_succ
theorem BT (x:EX) (H:ExecH x) (hmo:x.r.h.mode≠0):uq 9 x:=by
 obtain ⟨w,v,hb,a,b,c,p,al,cl,plain,pick,r,P,q,s,word,imm,jump,xa,xb,xc,W,pc⟩:=x;obtain ⟨hE,hok,hreg,hpk,h0,hll,hs,hwd,hpa,hpb,hpc,him,hju,hxa,hxb,hxc,hW,hpcc⟩:=H;intro Q X HX HQ K hK C
 intros
 dsimp only at *;simp only [ka,jy,ky,Tryz.f80,Option.getD] at hK |-;have k3:=gX hE.hart 3 (show (bJ p r.h)[3]?=some (VI r.h.mode) from rfl);have hbv:=(hpl hE.hart);have HE:=hid hE;have HXu:inU xa:=by rw [hxa];exact hok.h.regs _
 have HX2:Hid (X=if dt xa=true then aR (ia r) ⟨r.h.mem,r.h.regs,(ia r).h.pc,r.h.mode,r.h.sum,r.h.mxr,xa,r.h.tvec,r.h.epc,r.h.emode,r.h.cause,r.h.tval,r.h.k⟩ else ia r):=by
  show _=_;rw [<-HX.out];unfold kS doM;rw [if_neg (by simp [cS,aR,cQ,hmo])]
  iterate 8 rw [if_neg (by decide)]
  rw [if_pos rfl,hpa.1,hxa];rfl
 generalize r.h.mode=mo at k3 hmo;clear HX hE hok hpa hpb hpc him hju hxa hxb hxc hW hpcc h0 hll hs hwd hpk;go_upto_region 50 with fail;go_wp2_with fail;refine (rS xa v HXu.1 HXu.2).mono ?_;rintro e v1 ⟨rfl,nS⟩;have HE2:=hid (HE.out.keep nS);clear k3 hbv nS HE;have hav:=(hpl HE2.out.run);have c6:=gX HE2.out.run 6 (show (gU p al cl plain pick (ia r))[6]?=some _ from rfl);have f6:=ie HE2.out.run 6;have hX:=HX2.out;clear HX2;cases hsc:dt xa;rw [hsc,if_neg (by decide)] at hX;obtain ⟨v2,e2,HF⟩:∃v2,v1=v2∧Hid (FSq w p al cl r _ v2):=⟨_,rfl,(FSq.of HE2.out)⟩
 rotate_left
 rw [hsc,if_pos rfl] at hX;obtain ⟨v2,e2,HF⟩:∃v2,v1.setCell (AD w.heap.size 6) (VU xa)=v2∧Hid (FSq w p al cl r _ v2):=⟨_,rfl,(FSq.of HE2.out).set 6 (VU xa)⟩
 rotate_left
 all_goals
  obtain ⟨E,u2,HLd,HSr,HR⟩:=HF.out.fin HQ.out (by rw [hX] <;> rfl) (by rw [hX] <;> rfl) (by rw [hX] <;> rfl) (by rw [hX] <;> rfl) (by rw [hX] <;> rfl);clear hX HF;go_upto_region 52 with fail;try rw [e2]
  go_wp2_with (first
   | ((with_reducible refine iE ?_ HLd.out ?_);(exact rfl))
   | ((with_reducible refine it ?_ ?_ HSr.out ?_);(exact rfl);(exact rfl)))
  exact HR.out _ rfl rfl
end
end Go.Proofs.YtjdmhibnhpdjaaaGreat
