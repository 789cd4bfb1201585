import Derived.Test.YtpdddbobhndbjaaGreatPk33
namespace Go.Proofs.YtpdddbobhndbjaaGreat
open Go.RowKit
set_option linter.unusedVariables false
set_option maxHeartbeats 6400000
set_option maxRecDepth 20000
theorem kF (mem:List Int):∀(ds:List bF) (q:bF),cz mem (ds++[q])=cz mem ds++(mem.drop q.2.2.toNat).take q.2.1.toNat
 | [],q=>by simp [cz]
 | d::ds,q=>by simp [cz,kF mem ds q]
theorem th:∀(ds:List bF) (qs:List bF),it (ds++qs)=it ds+it qs
 | [],qs=>by simp [it]
 | d::ds,qs=>by simp only [List.cons_append,it,th ds qs];omega
theorem ub:∀(qs:List bF),dS qs->0<=it qs
 | [],_=>Int.le_refl _
 | q::qs,h=>by
  have h1:=(h q (List.mem_cons_self ..)).2.1.1;have h2:=ub qs fun x hx=>h x (List.mem_cons_of_mem _ hx);simp only [it];omega
theorem ti (mb mo len mc g n c:Nat) (mem:List Int) (ps:List bF) (w:World) (hm:Byt w (some ⟨mb,mo,none⟩) len mem) (hl:len<=1048576) (hc:len<=mc) (hmc:mc<=9223372036854775807)
 (hp:RowC w (some ⟨g,0,none⟩) n 3 (dq ps)) (hn:ps.length=n) (hn2:n<=2) (hok:dS ps) (hin:∀p∈ps,fA len p.2.2 p.2.1=true) (hle:it ps<=8):
 Calls Tryz.prog 90 #[.slice (some ⟨mb,mo,none⟩) len mc,.slice (some ⟨g,0,none⟩) n c] w fun e w'=>e=.returned (.int .u64 (iD mem ps))∧Bw w w':=by
 have HM:Hid _:=hm;have HP:Hid _:=hp;have HO:Hid _:=hok;have HI:Hid _:=hin;have HN:Hid _:=hn;have HLe:Hid _:=hle;have hml:=hm.1;clear hm hp hok hin hn hle;go_enter Tryz.func90,Tryz.ntmps90;go_wp2_with fail;have o1:Hid _:=OwnB.new 5 w [] 0 rfl (by decide);have n1:Bw w (w.alloc (Obj.cells #[] 5)):=(Below.refl _ _).alloc nle _;go_loopw [5,6] (fun bv iv wr=>∃(i bg bn bc:Nat) (done rest:List bF),bv=.slice (some ⟨bg,0,none⟩) bn bc∧iv=.int .i64 i∧done.length=i∧ps=done++rest∧OwnB 5 wr w.heap.size bg bn bc (cz mem done)∧Bw w wr) (fun _ iv _=>n-(intOf iv).toNat)
 case atStart=>exact ⟨0,_,_,_,[],ps,rfl,rfl,rfl,rfl,o1.out,n1⟩
 case round=>
  clear o1 n1;obtain ⟨i,bg,bn,bc,done,rest,rfl,rfl,hdi,hps,hO,hB⟩:=hrel;have HO':=hid hO;have HPs:Hid _:=hps;have hlen:=HN.out;rw [hps,List.length_append] at hlen;have hdn:dS done:=fun x hx=>HO.out x (by rw [hps];exact List.mem_append_left _ hx);have hrn:dS rest:=fun x hx=>HO.out x (by rw [hps];exact List.mem_append_right _ hx);have hle1:=HLe.out;rw [hps,th] at hle1;have hpl:=jo mem done hdn;have hbn:=hO.facts.1;have hrl:=ub rest hrn;have hbn8:bn<=8:=by omega
  have hf1:bn<=bc:=by have:=hO.facts;omega
  have hf2:bc<=9223372036854775807:=by have:=hO.facts;simp only [maxLen] at this;omega
  cases rest with
  | nil=>
   have hin:i=n:=by simp at hlen;omega
   have HD:Hid (ps=done):=by rw [hps,List.append_nil];exact rfl
   have hby:=hid (hO.byt (fY (iH HM.out.2.1 done)));clear hps hO hlen hle1 hdn hrn hpl hrl;subst hin;go_wp2_with fail;refine (jV _ _ _ _ _ hby.out hbn8 hf1 hf2).mono ?_;rintro e w' ⟨rfl,nq,rfl⟩;go_wp2_with fail;go_ret;exact ⟨by rw [HD.out];rfl,below_drewN hB nq⟩
  | cons q rest=>
   have hqm:q∈ps:=by rw [hps];exact List.mem_append_right _ (List.mem_cons_self ..)
   have hqi:=HI.out q hqm;have hqo:=HO.out q hqm;obtain ⟨qv,qn,qp⟩:=q;obtain ⟨hq1,hq2,hq3⟩:=hqo;obtain ⟨m,rfl⟩:=Int.eq_ofNat_of_zero_le (show 0<=qn by simp only at hq2;omega);obtain ⟨k,rfl⟩:=Int.eq_ofNat_of_zero_le (show 0<=qp from hq3.1);simp only [fA,decide_eq_true_eq] at hqi;have hm1:1<=m:=by simp only at hq2;omega
   have hm8:m<=8:=by simp only at hq2;omega
   have hkm:k+m<=len:=by omega
   have hil:i<n:=by simp at hlen;omega
   have hpi:ps[i]?=some (qv,(m:Int),(k:Int)):=by rw [hps,<-hdi];simp
   obtain ⟨x1,x2,x3⟩:=iP ps i _ hpi;have x2':=HP.out.2;rcases x2' with x2' | ⟨b',off',hx,hlt,hcell⟩
   ·omega
   cases hx;have hgw:=Nat.lt_of_lt_of_le hlt hB.size;have y2:wr.cell? ⟨g,i*3+1,none⟩=some (.int .i64 m):=by have:=Below.cell2 hB (hcell _ _ x2) hlt;rwa [Nat.zero_add] at this
   have y3:wr.cell? ⟨g,i*3+2,none⟩=some (.int .u64 k):=by have:=Below.cell2 hB (hcell _ _ x3) hlt;rwa [Nat.zero_add] at this
   have xm:Hid (Byt wr (some ⟨mb,mo+k,none⟩) (k+m-k) ((mem.drop k).take m)):=by
    rw [Nat.add_sub_cancel_left];have h1:=(Byt.keep HM.out hB).drop k (len-k) (by omega) rfl (some ⟨mb,mo+k,none⟩) (fun _=>rfl);exact h1.take m (by omega)
   have hck:k<mc:=by omega
   have hcm:k+m<=mc:=by omega
   have hBn:bn+(k+m-k)<=2147483648:=by omega
   have HBn:Hid _:=hBn;clear hps hO hlen hle1 hdn hrn hpl hrl x1 x2 x3 hcell hqi hq1 hq2 hq3 hpi hqm hbn;go_wp2_with (at_builtin;refine gM _ rfl (.tmp 21) (.tmp 31) 22 rfl 5 Tryz.underlying22 Tryz.infoB w.heap.size _ _ _ _ rfl HO'.out mb (mo+k) (k+m-k) _ _ rfl xm.out HBn.out _ _ hB nle ?_;intro g2 cap2 v2 o2 n2);have o3:OwnB 5 v2 w.heap.size g2 (bn+m) cap2 (cz mem (done++[(qv,(m:Int),(k:Int))])):=by
    rw [kF];have:=o2;rw [Nat.add_sub_cancel_left] at this;exact this
   refine ⟨⟨i+1,g2,bn+m,cap2,done++[(qv,(m:Int),(k:Int))],rest,rfl,rfl,by rw [List.length_append,hdi];rfl,by rw [HPs.out];simp,o3,n2⟩,?_⟩;simp only [intOf];omega
theorem tj (mb mo len mc g n c wd:Nat) (x:Int) (mem:List Int) (ps:List bF) (w:World) (hm:Byt w (some ⟨mb,mo,none⟩) len mem) (hmb:mb<w.heap.size) (hl:len<=1048576) (hc:len<=mc) (hmc:mc<=9223372036854775807)
 (hp:RowC w (some ⟨g,0,none⟩) n 3 (dq ps)) (hn:ps.length=n) (hn2:n<=2) (hok:dS ps) (hin:∀p∈ps,fA len p.2.2 p.2.1=true) (hle:it ps=wd) (hw8:wd<=8) (hx:inU x):
 Calls Tryz.prog 91 #[.slice (some ⟨mb,mo,none⟩) len mc,.slice (some ⟨g,0,none⟩) n c,.int .i64 wd,.int .u64 x] w fun e w'=>(∃b o cp,e=.returned (.slice (some ⟨b,o,none⟩) len cp)∧Byt w' (some ⟨b,o,none⟩) len (iz mem ps (da x wd))∧(len<=cp∧cp<=9223372036854775807)∧b<w'.heap.size∧((b=mb∧o=mo)∨w.heap.size<=b))∧Bw w w':=by
 have HM:=hid hm;have HP:=hid hp;have HO:=hid hok;have HI:Hid _:=hin;have HN:Hid _:=hn;have HLe:Hid _:=hle;have HC:Hid (len<=mc∧mc<=9223372036854775807):=⟨hc,hmc⟩;clear hm hp hok hin hn hle hc hmc;go_enter Tryz.func91,Tryz.ntmps91;go_wp2_with fail;refine (vX wd x w hw8 hx.1 hx.2).mono ?_;rintro e v1 ⟨g1,c1,rfl,o1,n1⟩;have O1:=hid o1;clear o1;go_wp2_with fail;go_loopw [0,9,10] (fun mv bv iv wr=>∃(i mb' mo' mc' bg bo bl bc:Nat) (mi bi:List Int) (done rest:List bF),mv=.slice (some ⟨mb',mo',none⟩) len mc'∧bv=.slice (some ⟨bg,bo,none⟩) bl bc∧iv=.int .i64 i∧done.length=i∧ps=done++rest∧iz mem ps (da x wd)=iz mi rest bi∧Byt wr (some ⟨mb',mo',none⟩) len mi∧(len<=mc'∧mc'<=9223372036854775807)∧mb'<wr.heap.size∧((mb'=mb∧mo'=mo)∨w.heap.size<=mb')∧Byt wr (some ⟨bg,bo,none⟩) bl bi∧(bl<=bc∧bc<=9223372036854775807)∧it rest=bl∧Bw w wr) (fun _ _ iv _=>n-(intOf iv).toNat)
 case atStart=>
  have hf:=OwnB.facts O1.out;simp only [maxLen] at hf;exact ⟨0,mb,mo,mc,g1,0,wd,c1,mem,da x wd,[],ps,rfl,rfl,rfl,rfl,rfl,rfl,Byt.keep HM.out n1,HC.out,Nat.lt_of_lt_of_le hmb n1.size,.inl ⟨rfl,rfl⟩,OwnB.byt O1.out (fY (nm wd x)),by omega,HLe.out,n1⟩
 case round=>
  clear O1 n1;obtain ⟨i,mb',mo',mc',bg,bo,bl,bc,mi,bi,done,rest,rfl,rfl,rfl,hdi,hps,hset,hmi,⟨hc1,hc2⟩,hmlt,hmlo,hbi,⟨hbc1,hbc2⟩,hlr,hB⟩:=hrel;have HPs:Hid (ps=done++rest):=hps;have HSet:=hid hset;have HMi:=hid hmi;have HBi:Hid (Byt wr (some ⟨bg,bo,none⟩) bl bi):=hbi;have hlen:=HN.out;rw [hps,List.length_append] at hlen;cases rest with
  | nil=>
   have hin:i=n:=by simp at hlen;omega
   clear hps hset hmi hbi hlen;subst hin;go_wp2_with fail;go_ret;exact ⟨⟨mb',mo',mc',rfl,by rw [HSet.out];exact HMi.out,⟨hc1,hc2⟩,hmlt,hmlo⟩,hB⟩
  | cons q rest=>
   have hqm:q∈ps:=by rw [hps];exact List.mem_append_right _ (List.mem_cons_self ..)
   have hqi:=HI.out q hqm;have hqo:=HO.out q hqm;have hrn:dS rest:=fun z hz=>HO.out z (by rw [hps];exact List.mem_append_right _ (List.mem_cons_of_mem _ hz));have hrl:=ub rest hrn;obtain ⟨qv,qn,qp⟩:=q;obtain ⟨hq1,hq2,hq3⟩:=hqo;obtain ⟨m,rfl⟩:=Int.eq_ofNat_of_zero_le (show 0<=qn by simp only at hq2;omega);obtain ⟨k,rfl⟩:=Int.eq_ofNat_of_zero_le (show 0<=qp from hq3.1);simp only [fA,decide_eq_true_eq] at hqi;simp only [it] at hlr;have hm1:1<=m:=by simp only at hq2;omega
   have hm8:m<=8:=by simp only at hq2;omega
   have hkm:k+m<=len:=by omega
   have hkw:(k:Int)<=1048576:=by omega
   have HWk:Hid (IntKind.i64.wrap (k:Int)=k):=by show _=_;unfold IntKind.wrap;simp [IntKind.bits,IntKind.signed];omega
   have hmb:m<=bl:=by omega
   have hil:i<n:=by simp at hlen;omega
   have hi0:i<=2:=by omega
   have hpi:ps[i]?=some (qv,(m:Int),(k:Int)):=by rw [hps,<-hdi];simp
   obtain ⟨x1,x2,x3⟩:=iP ps i _ hpi;have x2':=HP.out.2;rcases x2' with x2' | ⟨b',off',hxx,hlt,hcell⟩
   ·omega
   cases hxx;have hgw:g<wr.heap.size:=Nat.lt_of_lt_of_le hlt hB.size;have y2:wr.cell? ⟨g,i*3+1,none⟩=some (.int .i64 m):=by have:=Below.cell2 hB (hcell _ _ x2) hlt;rwa [Nat.zero_add] at this
   have y3:wr.cell? ⟨g,i*3+2,none⟩=some (.int .u64 k):=by have:=Below.cell2 hB (hcell _ _ x3) hlt;rwa [Nat.zero_add] at this
   have HLm:Hid (∀u:World,u.cell? ⟨g,i*3+1,none⟩=some (.int .i64 m)->(Instr.loadAt 2 (.pointer (some ⟨g,i*3+1,none⟩))).run Tryz.prog u=.ok (.int .i64 m) u):=fun u hu=>by go_simp
   have HLk:Hid (∀u:World,u.cell? ⟨g,i*3+2,none⟩=some (.int .u64 k)->(Instr.loadAt 25 (.pointer (some ⟨g,i*3+2,none⟩))).run Tryz.prog u=.ok (.int .u64 k) u):=fun u hu=>by go_simp
   have HLr:Hid ((m:Int)+it rest=bl):=hlr;have hbil:=hbi.1;clear hps hset hmi hbi hlen hrn x1 x2 x3 hcell hqi hq1 hq2 hq3 hpi hqm hlr;have hF:wr.drew.cell? ⟨g,i*3+1,none⟩=some (.int .i64 m)∧wr.drew.cell? ⟨g,i*3+2,none⟩=some (.int .u64 k):=⟨by simpa using y2,by simpa using y3⟩;go_upto_region 5 with fail;refine aN (fun u=>u.cell? ⟨g,i*3+1,none⟩=some (.int .i64 m)∧u.cell? ⟨g,i*3+2,none⟩=some (.int .u64 k)) 14 (by kernel_rfl) ?_;refine lj 0 20 (.slice (some ⟨mb',mo',none⟩) len mc') rfl hF ?_;refine lj 1 21 (.slice (some ⟨g,0,none⟩) n c) rfl hF ?_;refine lj 2 22 (.int .i64 i) rfl hF ?_;simp only [aPt,sTa,sCs,sCz];refine lj 3 23 (.pointer (some ⟨g,i*3,none⟩)) rfl hF ?_ (hy:=fun u hu=>(by have h1:=hil;have h2:=hi0;go_simp));refine lj 4 24 (.pointer (some ⟨g,i*3+2,none⟩)) rfl hF ?_;simp only [aPt,sTa,sCs,sCz];refine lj 5 25 (.int .u64 k) rfl hF ?_ (hy:=fun u hu=>aX rfl (HLk.out u hu.2));simp only [aPt,sTa,sCs,sCz];refine lj 6 26 (.int .i64 k) rfl hF ?_ (hy:=fun u hu=>(by have h1:=HWk.out;go_simp));refine lj 7 27 (.slice (some ⟨bg,bo,none⟩) bl bc) rfl hF ?_;refine lj 8 28 (.slice (some ⟨g,0,none⟩) n c) rfl hF ?_;refine lj 9 29 (.int .i64 i) rfl hF ?_;simp only [aPt,sTa,sCs,sCz];refine lj 10 30 (.pointer (some ⟨g,i*3,none⟩)) rfl hF ?_ (hy:=fun u hu=>(by have h1:=hil;have h2:=hi0;go_simp));refine lj 11 31 (.pointer (some ⟨g,i*3+1,none⟩)) rfl hF ?_;simp only [aPt,sTa,sCs,sCz];refine lj 12 32 (.int .i64 m) rfl hF ?_ (hy:=fun u hu=>aX rfl (HLm.out u hu.1));simp only [aPt,sTa,sCs,sCz];refine lj 13 33 (.slice (some ⟨bg,bo,none⟩) m bc) rfl hF ?_ (hy:=fun u hu=>(by have h1:=hmb;have h2:=hbc1;have h3:=hbc2;go_simp;intro h;omega));simp only [aPt,sTa,sCs,sCz];refine uB 14 34 rfl (f:=125) (args:=#[.slice (some ⟨mb',mo',none⟩) len mc',.int .i64 k,.slice (some ⟨bg,bo,none⟩) m bc]) ?_;have nD:=bdr wr;refine (zC mb' mo' len mc' k bg bo m bc mi (bi.take m) wr.drew (Byt.keep HMi.out nD) ((Byt.keep HBi.out nD).take m hmb) hl hkm hc1 hc2).mono ?_;rintro e v2 ⟨g2,c2,rfl,o2,n2'⟩;refine ⟨_,rfl,fun h=>absurd h (by decide),?_⟩;simp only [aPt,sTa,sCs,sCz];refine DV 15 0 (.slice (some ⟨g2,0,none⟩) len c2) rfl (.inl (by kernel_rfl)) ?_;simp only [Act.put,List.setIfInBounds_toArray,List.set_cons_zero];refine bJ (by kernel_rfl) ?_ _;have n2:Bw wr v2:=bst nD n2';have nF:=bst hB n2;have z2:v2.cell? ⟨g,i*3+1,none⟩=some (.int .i64 m):=Below.cell2 n2 y2 hgw;have O2:Hid (OwnB 5 v2 wr.drew.heap.size g2 len c2 (mi.take k++bi.take m++mi.drop (k+m))):=o2;have hf2:=o2.facts;have hg2:wr.heap.size<=g2:=hf2.2.1;have hg3:g2<v2.heap.size:=hf2.2.2.1;have hc3:len<=c2:=hf2.2.2.2.1;have hc4:c2<=9223372036854775807:=by have:=hf2.2.2.2.2;simp only [maxLen] at this;omega
   have hwl:=hB.size;clear o2 n2' hF hf2;have HSt:Hid (iz mem ps (da x wd)=iz (mi.take k++bi.take m++mi.drop (k+m)) rest (bi.drop m)):=by
    show _=_;rw [HSet.out,iz];simp only [Int.toNat_natCast];unfold put;rw [List.length_take,hbil,Nat.min_eq_left hmb]
   have hln:it rest=((bl-m:Nat):Int):=by have:=HLr.out;omega
   have HLn:Hid (it rest=((bl-m:Nat):Int)):=hln;have BM:Hid (Byt v2 (some ⟨g2,0,none⟩) len (mi.take k++bi.take m++mi.drop (k+m))):=OwnB.byt O2.out (by
    have hz:∀z∈mi.take k++bi.take m++mi.drop (k+m),0<=z∧z<=255:=fun z hz=>by
     rcases List.mem_append.1 hz with hz | hz
     ·rcases List.mem_append.1 hz with hz | hz
      ·exact fZ HMi.out.2.1 z (List.mem_of_mem_take hz)
      ·exact fZ HBi.out.2.1 z (List.mem_of_mem_take hz)
     ·exact fZ HMi.out.2.1 z (List.mem_of_mem_drop hz)
    exact fY hz)
   clear hln O2 hbil;by_cases hcc:bc=m
   ·subst hcc;have hble:bl=bc:=by omega
    have BB:Hid (Byt v2 (some ⟨bg,bo,none⟩) (bl-bc) (bi.drop bc)):=Byt.keep (HBi.out.drop bc (bl-bc) hmb rfl (some ⟨bg,bo,none⟩) (fun h=>by omega)) n2;go_wp2_with fail;refine ⟨⟨i+1,g2,0,c2,bg,bo,bl-bc,bc-bc,mi.take k++bi.take bc++mi.drop (k+bc),bi.drop bc,done++[(qv,((bc:Nat):Int),(k:Int))],rest,rfl,by rw [hble,Nat.sub_self],rfl,by rw [List.length_append,hdi];rfl,by rw [HPs.out];simp,HSt.out,BM.out,⟨hc3,hc4⟩,hg3,.inr (by omega),BB.out,by omega,HLn.out,nF⟩,?_⟩;simp only [intOf];omega
   ·have hmc:m<bc:=by omega
    clear hcc;have BB:Hid (Byt v2 (some ⟨bg,bo+m,none⟩) (bl-m) (bi.drop m)):=Byt.keep (HBi.out.drop m (bl-m) hmb rfl (some ⟨bg,bo+m,none⟩) (fun h=>rfl)) n2;go_wp2_with fail;refine ⟨⟨i+1,g2,0,c2,bg,bo+m,bl-m,bc-m,mi.take k++bi.take m++mi.drop (k+m),bi.drop m,done++[(qv,((m:Nat):Int),(k:Int))],rest,rfl,rfl,rfl,by rw [List.length_append,hdi];rfl,by rw [HPs.out];simp,HSt.out,BM.out,⟨hc3,hc4⟩,hg3,.inr (by omega),BB.out,by omega,HLn.out,nF⟩,?_⟩;simp only [intOf];omega
section
attribute [local go_sem ↓] Go.wp_at_zero Go.wp_at_succ
theorem kS (v:Value) (t:TlbM) (k:Int) (w:World) (h:TlbAt w v t) (hn0:0<t.es.length) (hk:0<=k∧k<=255):
 Calls Tryz.prog 35 #[v,.int .i64 k] w fun e w'=>(∃x,e=.returned x∧TlbOwn w.heap.size w' x (bf t k))∧Bw w w':=by
 have HT:Hid (TlbAt w v t):=h;obtain ⟨a,cap,rfl,hr,_,_,_,hl,hlc,hcm,hnil,hsp⟩:=h;obtain ⟨sets,ways,es⟩:=t;obtain ⟨n,hn⟩:∃n,es.length=n:=⟨_,rfl⟩;simp only at hr hl hlc hnil hn0 HT |-;have HN:Hid (es.length=n):=hn;rw [hn] at hr hl hlc hnil HT hn0 |-;obtain ⟨j,hjr,hj⟩:∃j:Nat,k.tmod (n:Int)=j∧j<n:=by
  refine ⟨(k%(n:Int)).toNat,?_,?_⟩
  ·rw [Int.tmod_eq_emod_of_nonneg hk.1];have:=Int.emod_nonneg k (show (n:Int)≠0 by omega);omega
  ·have:=Int.emod_nonneg k (show (n:Int)≠0 by omega);have:=Int.emod_lt_of_pos k (show 0<(n:Int) by omega);omega
 have HRm:Hid (k.tmod (n:Int)=j):=hjr;have HX:Hid (bf ⟨sets,ways,es⟩ k=⟨sets,ways,es.set j cK⟩):=by
  show _=_;unfold bf;simp only;rw [hn,show (k%(n:Int)).toNat=j by rw [Int.tmod_eq_emod_of_nonneg hk.1] at hjr;omega]
 obtain ⟨X,hX⟩:∃X,bf ⟨sets,ways,es⟩ k=X:=⟨_,rfl⟩;rw [hX];rw [hX] at HX;have HN0:Hid (¬n=0):=by show ¬_;omega
 clear hX hr hnil hsp hn hjr;go_enter Tryz.func35,Tryz.ntmps35;go_wp2_with fail;obtain ⟨v1,Ev1,F⟩:=ax2 w #[.int .i64 sets,.int .i64 ways,.slice a n cap] #[.int .i64 0,.int .i64 0,.slice none 0 0] 37 37;rw [Ev1.out];clear Ev1;obtain ⟨h3,h6,l1,n1⟩:=F;have H6:Hid _:=h6;have b2:w.heap.size+1<v1.heap.size:=by omega
 clear h3 h6 l1;refine (hZ _ ⟨sets,ways,es⟩ v1 (HT.out.keep n1)).mono ?_;rintro e v2 ⟨⟨x,rfl,g,cp,rfl,o2⟩,n2⟩;simp only at o2 |-;rw [HN.out] at o2 |-;obtain ⟨_,hg1,hg2⟩:=bZ o2;simp only at hg1 hg2;have O2:Hid (v2.ownsRow v1.heap.size 121 6 (.slice (some ⟨g,0,none⟩) n cp) n (aR es)):=o2;have K6:Hid _:=ae H6.out n2 b2;have l2:=n2.size;have n12:=bst n1 n2;clear o2 n2 H6 n1;go_upto_region 2 with fail;obtain ⟨v3,Ev3,F⟩:=ax1 v2 #[.int .i64 sets,.int .i64 ways,.slice (some ⟨g,0,none⟩) n cp] 37;rw [Ev3.out];clear Ev3;obtain ⟨h5,l3,n3⟩:=F;have H5:Hid (v3.heap[v2.heap.size]?=some (.cells #[.int .i64 sets,.int .i64 ways,.slice (some ⟨g,0,none⟩) n cp] 37 (0,0))):=h5;have O3:Hid (v3.ownsRow v1.heap.size 121 6 (.slice (some ⟨g,0,none⟩) n cp) n (aR es)):=aj O2.out n3;have J6:Hid _:=ae K6.out n3 (by omega);have n13:=bst n12 n3;have b3:v2.heap.size<v3.heap.size:=by omega
 clear h5 l3 O2 K6 n12 n3;obtain ⟨⟨p0,p1,p2⟩,_,_,_⟩:=aA H5.out;have HLs:Hid (∀u:World,u.cell? ⟨v2.heap.size,2,none⟩=some (.slice (some ⟨g,0,none⟩) n cp)->(Instr.loadAt 35 (.pointer (some ⟨v2.heap.size,2,none⟩))).run Tryz.prog u=.ok (.slice (some ⟨g,0,none⟩) n cp) u):=fun u hu=>by go_simp
 have hF:v3.drew.cell? ⟨v2.heap.size,2,none⟩=some (.slice (some ⟨g,0,none⟩) n cp):=by simpa using p2
 clear p0 p1 p2;refine aN (fun u=>u.cell? ⟨v2.heap.size,2,none⟩=some (.slice (some ⟨g,0,none⟩) n cp)) 9 (by kernel_rfl) ?_;refine lj 0 8 (.pointer (some ⟨v2.heap.size,2,none⟩)) rfl hF ?_;simp only [aPt,sTa,sCs,sCz];refine lj 1 9 (.slice (some ⟨g,0,none⟩) n cp) rfl hF ?_ (hy:=fun u hu=>aX rfl (HLs.out u hu));refine lj 2 10 (.int .i64 k) rfl hF ?_;refine lj 3 11 (.pointer (some ⟨v2.heap.size,2,none⟩)) rfl hF ?_;simp only [aPt,sTa,sCs,sCz];refine lj 4 12 (.slice (some ⟨g,0,none⟩) n cp) rfl hF ?_ (hy:=fun u hu=>aX rfl (HLs.out u hu));refine lj 5 13 (.int .i64 n) rfl hF ?_;simp only [aPt,sTa,sCs,sCz];refine lj 6 14 (.int .i64 j) rfl hF ?_ (hy:=fun u hu=>(by have h1:=HRm.out;have h2:=HN0.out;go_simp));refine lj 7 15 (.agg #[.bool false,.int .i64 0,.int .u64 0,.int .u64 0,.bool false,.int .u64 0]) rfl hF ?_;simp only [aPt,sTa,sCs,sCz];refine lj 8 16 (.pointer (some ⟨g,j*6,none⟩)) rfl hF ?_ (hy:=fun u hu=>(by have h1:=hj;go_simp));simp only [aPt,sTa,sCs,sCz];have hcl:(aR es).length=n*6:=by rw [fo,HN.out]
 have O4:Hid (v3.drew.ownsRow v1.heap.size 121 6 (.slice (some ⟨g,0,none⟩) n cp) n (aR es)):=aj O3.out ((Below.refl _ _).drew);have n13d:=n13.drew;have H5d:Hid (v3.drew.heap[v2.heap.size]?=some (.cells #[.int .i64 sets,.int .i64 ways,.slice (some ⟨g,0,none⟩) n cp] 37 (0,0))):=H5.out;have J6d:Hid (v3.drew.heap[w.heap.size+1]?=some (.cells #[.int .i64 0,.int .i64 0,.slice none 0 0] 37 (0,0))):=J6.out;have hsd:v3.heap.size<=v3.drew.heap.size:=nle;clear hF HLs H5 J6 n13 O3;generalize v3.drew=vd at O4 n13d H5d J6d hsd |-;have q0:=aB O4.out (j*6) _ (List.getElem?_eq_getElem (by omega));have q1:=aB O4.out (j*6+1) _ (List.getElem?_eq_getElem (by omega));have q2:=aB O4.out (j*6+2) _ (List.getElem?_eq_getElem (by omega));have q3:=aB O4.out (j*6+3) _ (List.getElem?_eq_getElem (by omega));have q4:=aB O4.out (j*6+4) _ (List.getElem?_eq_getElem (by omega));have q5:=aB O4.out (j*6+5) _ (List.getElem?_eq_getElem (by omega));generalize (aR es)[j*6]'_=y0 at q0;generalize (aR es)[j*6+1]'_=y1 at q1;generalize (aR es)[j*6+2]'_=y2 at q2;generalize (aR es)[j*6+3]'_=y3 at q3;generalize (aR es)[j*6+4]'_=y4 at q4;generalize (aR es)[j*6+5]'_=y5 at q5;have r0:=aO O4.out (j*6);have r1:=aO O4.out (j*6+1);have r2:=aO O4.out (j*6+2);have r3:=aO O4.out (j*6+3);have r4:=aO O4.out (j*6+4);have r5:=aO O4.out (j*6+5);have HS:(Instr.storeAt 121 (.pointer (some ⟨g,j*6,none⟩)) (.agg #[.bool false,.int .i64 0,.int .u64 0,.int .u64 0,.bool false,.int .u64 0])).run Tryz.prog vd=.ok () ((((((vd.setCell ⟨g,j*6,none⟩ (.bool false)).setCell ⟨g,j*6+1,none⟩ (.int .i64 0)).setCell ⟨g,j*6+2,none⟩ (.int .u64 0)).setCell ⟨g,j*6+3,none⟩ (.int .u64 0)).setCell ⟨g,j*6+4,none⟩ (.bool false)).setCell ⟨g,j*6+5,none⟩ (.int .u64 0)):=by go_simp
 refine bI 9 rfl (T:=121) (x:=.tmp 16) (y:=.tmp 15) (by kernel_rfl) (by kernel_rfl) (by kernel_rfl) (by kernel_rfl) (b:=g) (off:=j*6) (by kernel_rfl) (by kernel_rfl) HS (.inl (by kernel_rfl)) ?_;refine bJ (by kernel_rfl) ?_ _;clear q0 q1 q2 q3 q4 q5 r0 r1 r2 r3 r4 r5 HS;have gS:=ak (ak (ak (ak (ak (ak (aq vd (some g)) (j*6) (.bool false)) (j*6+1) (.int .i64 0)) (j*6+2) (.int .u64 0)) (j*6+3) (.int .u64 0)) (j*6+4) (.bool false)) (j*6+5) (.int .u64 0);have O5:Hid _:=aF (aF (aF (aF (aF (aF O4.out (j*6) (.bool false)) (j*6+1) (.int .i64 0)) (j*6+2) (.int .u64 0)) (j*6+3) (.int .u64 0)) (j*6+4) (.bool false)) (j*6+5) (.int .u64 0);have hes:=jI es j cK (by rw [HN.out];exact hj);simp only [cK] at hes;rw [<-hes] at O5;generalize (((((vd.setCell ⟨g,j*6,none⟩ (.bool false)).setCell ⟨g,j*6+1,none⟩ (.int .i64 0)).setCell ⟨g,j*6+2,none⟩ (.int .u64 0)).setCell ⟨g,j*6+3,none⟩ (.int .u64 0)).setCell ⟨g,j*6+4,none⟩ (.bool false)).setCell ⟨g,j*6+5,none⟩ (.int .u64 0)=v4 at gS O5 |-;have n14:Bw w v4:=Below.gb n13d gS (by have:=n13d.size;omega) (by omega);have P5:=aC H5d.out gS (by omega);have P6:=aC J6d.out gS (by omega);have l4:vd.heap.size<=v4.heap.size:=gS.size;clear gS n13d hes H5d J6d;obtain ⟨⟨p0,p1,p2⟩,_,_,_⟩:=aA P5;obtain ⟨⟨d0,d1,d2⟩,e0,e1,e2⟩:=aA P6;have c3:v2.heap.size<v4.heap.size:=by omega
 go_wp2_with fail;refine bodyPost_ret (v:=.agg #[.int .i64 sets,.int .i64 ways,.slice (some ⟨g,0,none⟩) n cp]) (by simp [results,Tryz.results35,go_sem,d0,d1,d2]) rfl ⟨⟨_,rfl,?_⟩,fU n14 (by omega) _ _ _⟩;rw [HX.out];refine ⟨g,cp,by simp only [List.length_set];rw [HN.out],?_⟩;simp only [List.length_set];rw [HN.out];exact aP (aI O5.out (gb3 v4 (w.heap.size+1) _ _ _) (by omega)) (by omega)
end
section
attribute [local go_sem ↓] Go.wp_at_zero Go.wp_at_succ
def cW:Nat->Code->Code
 | 0,c=>c
 | n+1,.seq _ c=>cW n c
 | _+1,c=>c
def dO:Code->Code
 | .seq c _=>c
 | c=>c
def eB (f:Func):Code:=f.body.getD .skip
def au (r:RunM):RunM:=bE r (ex r.h ((r.h.pc+4)%18446744073709551616))
structure ExecIn (w v:World) (hb:Nat) (p:PtrM) (al:Option Addr) (cl:Nat) (plain:Bool) (pick:Int) (r:RunM):Prop where
 run:v.heap[w.heap.size]?=some (.cells (aK p al cl plain pick (au r)) 51 (0,0))
 res:v.heap[w.heap.size+1]?=some (.cells ey 51 (0,0))
 hart:v.heap[hb]?=some (.cells (ax p r.h) 41 (0,0))
 hb:w.heap.size+1<hb
 runIn:RunIn v p al cl (au r)
 below:Bw w v
 ptrs:∀q,some q∈aV p->q.block<w.heap.size
 looks:∀q,al=some q->q.block<w.heap.size
def Ag (op:Int) (w v:World) (hb a b c:Nat) (P q s word imm jump xa xb xc W pc:Int) (Q:Exit->Act->World->Prop):Prop:=
 ∀K:Act->World->Prop,(∀a w,(cW 15 (eB Tryz.f65)).wp Tryz.prog Q a w->K a w)->∀(C:Array Value) (u32 u33 u34 u35 u36 u37 u38 u39 u40 u41 u42 u43 u44 u45 u46 u47 u48 u49 u50 u51 u52 u53 u54 u55 u56 u57 u58 u59 u60 u61 u62 u63 u64 u65 u66 u67 u68 u69 u70 u71 u72 u73 u74 u75 u76 u77 u78 u79:Value),(dO (cW 14 (eB Tryz.f65))).wp Tryz.prog (Exit.then K Q) ⟨#[.agg C,.int .i64 op,.int .i64 P,.int .i64 q,.int .i64 s,.int .u64 word,.pointer (some ⟨w.heap.size,0,none⟩),undef,undef,undef,undef,undef,.pointer (some ⟨w.heap.size+1,0,none⟩),.pointer (some ⟨hb,0,none⟩),.int .i64 (a:Nat),.int .i64 (b:Nat),.int .i64 (c:Nat),.int .u64 imm,.int .u64 jump,.int .u64 xa,.int .u64 xb,.int .u64 xc,.int .i64 W,.int .u64 pc,undef,undef,undef,undef,undef,undef,undef,undef,u32,u33,u34,u35,u36,u37,u38,u39,u40,u41,u42,u43,u44,u45,u46,u47,u48,u49,u50,u51,u52,u53,u54,u55,u56,u57,u58,u59,u60,u61,u62,u63,u64,u65,u66,u67,u68,u69,u70,u71,u72,u73,u74,u75,u76,u77,u78,u79,undef,undef,undef,undef,undef,undef,undef,undef,undef,undef,undef,undef,undef,undef,undef,undef,undef,undef,undef,undef,undef,undef,undef,undef,undef,undef,undef,undef,undef,undef,undef,undef,undef,undef,undef,undef,undef,undef,undef,undef,undef,undef,undef,undef,undef,undef,undef,undef,undef,undef,undef,undef,undef,undef,undef,undef,undef,undef,undef,undef,undef,undef,undef,undef,undef,undef,undef,undef,undef,undef,undef,undef,undef,undef,undef,undef,undef,undef,undef,undef,undef,undef,undef,undef,undef,undef,undef,undef,undef,undef,undef,undef,undef,undef,undef,undef,undef,undef,undef,undef,undef,undef,undef,undef,undef,undef,undef,undef,undef,undef,undef,undef,undef,undef,undef,undef,undef,undef,undef,undef,undef,undef,undef,undef,undef,undef,undef,undef,undef,undef,undef,undef,undef,undef,undef,undef,undef,undef,undef,undef,undef,undef,undef,undef,undef,undef,undef,undef,undef,undef,undef,undef,undef,undef,undef,undef,undef,undef,undef,undef,undef,undef,undef,undef,undef,undef,undef,undef,undef,undef,undef,undef,undef,undef,undef,undef,undef,undef,undef,undef,undef,undef,undef,undef,undef,undef,undef,undef,undef,undef,undef,undef,undef,undef,undef,undef,undef,undef,undef,undef,undef,undef,undef,undef,undef,undef,undef,undef,undef,undef,undef,undef,undef,undef,undef,undef,undef,undef,undef,undef,undef,undef,undef,undef,undef,undef,undef,undef,undef,undef,undef,undef,undef,undef,undef,undef,undef,undef,undef,undef,undef,undef,undef,undef,undef,undef,undef,undef],[]⟩ v
theorem ud (p:PtrM) (al:Option Addr) (cl:Nat) (plain:Bool) (pick:Int) (r:RunM) (op P q s word:Int) (w:World) (hr:RunIn w p al cl r) (hk:ROk r) (hreg:r.h.regs.length=8)
 (hop:0<=op∧op<=255) (hp:0<=P∧P<=255) (hq:0<=q∧q<=255) (hs:0<=s∧s<=255) (R:Ending->World->Prop)
 (H:∀(v:World) (hb a b c:Nat) (imm jump xa xb xc W pc:Int),ExecIn w v hb p al cl plain pick r->P%8=a∧a<8->P/8%8=b∧b<8->q%8=c∧c<8->imm=gV s%18446744073709551616->jump=4*gV s%18446744073709551616->xa=fV r.h a->xb=fV r.h b->xc=fV r.h c->W=iA ((c:Int)%4)->pc=r.h.pc->Ag op w v hb a b c P q s word imm jump xa xb xc W pc (bodyPost Tryz.prog Tryz.f65 R)):
  Calls Tryz.prog 65 #[.agg (aK p al cl plain pick r),.int .i64 op,.int .i64 P,.int .i64 q,.int .i64 s,.int .u64 word] w R:=by
 have HH:Hid _:=H;clear H;have HX:Hid (∀(C:Array Value),aK p al cl plain pick r=C->aK p al cl plain pick (au r)=C.setIfInBounds 2 (.int .u64 ((r.h.pc+4)%18446744073709551616))):=fun C h=>by rw [<-h];rfl
 have HI:=hid hr;have HOK:=hid hk;have hsz:=bx p al cl plain pick r;have HHt:Hid (((aK p al cl plain pick r).toList.drop 0).take 21=(ax p r.h).toList):=rfl;have hhs:=eh p r.h;have gH1:(ax p r.h)[1]?=some (.slice p.ar r.h.regs.length p.cr):=rfl;have gH2:(ax p r.h)[2]?=some (.int .u64 r.h.pc):=rfl;have gC2:(aK p al cl plain pick r)[2]?=some (.int .u64 r.h.pc):=rfl;have HHo:=hid (gu p r.h);have hpt:=hr.h.low;have hlo:=hr.low;generalize hC:aK p al cl plain pick r=C at hsz HHt gC2 |-;have HC:Hid _:=hC;generalize hD:ax p r.h=D at HHt hhs gH1 gH2 HHo;have HD:Hid _:=hD;clear hr hk hC hD;go_enter Tryz.func65,Tryz.ntmps65;go_upto_region 1 with fail;obtain ⟨v1,Ev1,F⟩:=ax2 w C ey 51 51;rw [Ev1.out];clear Ev1;obtain ⟨h3,h6,l1,n1⟩:=F;have H3:Hid _:=h3;have H6:Hid _:=h6;have b1:w.heap.size<v1.heap.size:=by omega
 have b2:w.heap.size+1<v1.heap.size:=by omega
 clear h3 h6 l1;have HLh:Hid _:=dw (P:=Tryz.prog) (T:=41) H3.out Tryz.underlying41 rfl (o:=0) D.toList fx HHt.out (by rw [Array.length_toList,hhs]);simp only [Array.toArray_toList] at HLh;have a1:=bS v1 ft 41;have HSh:Hid _:=bh (P:=Tryz.prog) (T:=41) (V:=D) a1.1 (by rw [hhs];exact fx) (by rw [hhs,eF]) HHo.out;have K5:Hid _:=aT (V:=D) a1.1 (by rw [hhs,eF]);have n2:=bst n1 a1.2.2;have n3:=aS (show w.heap.size<=v1.heap.size by omega) D.toList 0 _ n2;have K3:Hid _:=gQ (ae H3.out a1.2.2 b1) 0 D.toList (show w.heap.size≠v1.heap.size by omega);have K6:Hid _:=gQ (ae H6.out a1.2.2 b2) 0 D.toList (show w.heap.size+1≠v1.heap.size by omega);have s2:v1.heap.size<((v1.alloc (Obj.cells ft 41)).setCells v1.heap.size 0 D.toList).heap.size:=by rw [cS];omega
 clear a1;go_upto_region 2 with (first
  | ((with_reducible refine aZ ?_ HLh.out ?_);(exact rfl))
  | ((with_reducible refine aG ?_ ?_ HSh.out ?_);(exact rfl);(exact rfl)))
 generalize (v1.alloc (Obj.cells ft 41)).setCells v1.heap.size 0 D.toList=v2 at K3 K5 K6 n3 s2 |-;clear HLh HSh n2 H3 H6 n1;obtain ⟨hp1,hp2⟩:=hp;obtain ⟨hq1,hq2⟩:=hq;obtain ⟨hs1,hs2⟩:=hs;obtain ⟨a,ha,ha8⟩:∃a:Nat,P%8=a∧a<8:=⟨(P%8).toNat,by omega,by omega⟩;obtain ⟨b,hb,hb8⟩:∃b:Nat,P/8%8=b∧b<8:=⟨(P/8%8).toNat,by omega,by omega⟩;obtain ⟨c,hc,hc8⟩:∃c:Nat,q%8=c∧c<8:=⟨(q%8).toNat,by omega,by omega⟩;obtain ⟨W,hW⟩:∃W,iA ((c:Int)%4)=W:=⟨_,rfl⟩;have HW:Hid (W=2^((c:Int)%4).toNat):=hW.symm;have hW1:1<=W∧W<=8:=by
  rw [<-hW];have hc4:(c:Int)%4=0∨(c:Int)%4=1∨(c:Int)%4=2∨(c:Int)%4=3:=by omega
  rcases hc4 with h | h | h | h <;> rw [h] <;> decide
 obtain ⟨hW1,hW8⟩:=hW1;have HWm:Hid (iA ((c:Int)%4)=W):=hW;clear hW;rcases HI.out.h.regs.2 with h0 | ⟨rb,ro,har,hrlt,hcell⟩
 ·omega
 rw [har,hreg] at gH1;have hrw:rb<v2.heap.size:=Nat.lt_of_lt_of_le hrlt n3.size;have HCl:Hid (∀n:Nat,n<8->v2.cell? ⟨rb,ro+n,none⟩=some (.int .u64 (fV r.h n))):=fun n hn=>Below.cell2 n3 (hcell n _ (rq r.h.regs n (by omega))) hrlt;have ca:=HCl.out a ha8;have cb:=HCl.out b hb8;have cc:=HCl.out c hc8;have k1:=ab K5.out 1 gH1;have k2:=ab K5.out 2 gH2;have k3:=ab K3.out 2 gC2;have k4:=ay K3.out 2;have hpc:=HOK.out.h.pc;have hcr:=HI.out.h.regc;rw [hreg] at hcr;have b3:w.heap.size<v2.heap.size:=by omega
 obtain ⟨xa,hxa⟩:∃xa,fV r.h a=xa:=⟨_,rfl⟩;obtain ⟨xb,hxb⟩:∃xb,fV r.h b=xb:=⟨_,rfl⟩;obtain ⟨xc,hxc⟩:∃xc,fV r.h c=xc:=⟨_,rfl⟩;obtain ⟨pc,hpc'⟩:∃pc,r.h.pc=pc:=⟨_,rfl⟩;rw [hxa] at ca;rw [hxb] at cb;rw [hxc] at cc;rw [hpc'] at k2 k3 hpc;have HXa:=hid hxa.symm;have HXb:=hid hxb.symm;have HXc:=hid hxc.symm;have HPc:=hid hpc'.symm;have HpA:Hid (P%8=a∧a<8):=⟨ha,ha8⟩;have HpB:Hid (P/8%8=b∧b<8):=⟨hb,hb8⟩;have HpC:Hid (q%8=c∧c<8):=⟨hc,hc8⟩;clear hxa hxb hxc hpc';have hpc1:=hpc.1;have hpc2:=hpc.2;clear hpc;have HE:Hid (ExecIn w (v2.setCell ⟨w.heap.size,2,none⟩ (.int .u64 (IntKind.u64.wrap (pc+4)))) v1.heap.size p al cl plain pick r):=by
  have hwr:IntKind.u64.wrap (pc+4)=(r.h.pc+4)%18446744073709551616:=by rw [HPc.out];rfl
  have nn:=bN n3 nle 2 (.int .u64 (IntKind.u64.wrap (pc+4)));refine ⟨?_,bM K6.out 2 _ (by omega),?_,by omega,?_,nn,hpt,hlo⟩
  ·rw [HX.out C HC.out,<-hwr];exact bt K3.out 2 _
  ·rw [HD.out];exact bM K5.out 2 _ (by omega)
  ·have k:=HI.out.keep nn;exact ⟨⟨k.h.mem,k.h.memc,k.h.regs,k.h.regc,k.h.rega,k.h.ks,k.h.low⟩,k.looks,k.lookc,k.looka,k.lookl,k.low⟩
 clear K3 K5 K6 gH1 gH2 gC2;have HX':=HX;clear HX hpt hlo n3;clear hcell;by_cases h128:128<=s
 ·go_upto_region 10 with fail;rw [ha,hb,hc];clear ha hb hc;go_upto_region 13 with fail;go_upto_region 14 with (go_at_call 57;refine (bV ((c:Int)%4) W _ (by omega) HW.out).mono ?_;rintro e w' ⟨rfl,rfl⟩);go_upto_region 16 with fail;refine HH.out _ v1.heap.size a b c _ _ xa xb xc W pc HE.out HpA.out HpB.out HpC.out ?_ ?_ HXa.out HXb.out HXc.out HWm.out.symm HPc.out _ (by assumption) C _ _ _ _ _ _ _ _ _ _ _ _ _ _ _ _ _ _ _ _ _ _ _ _ _ _ _ _ _ _ _ _ _ _ _ _ _ _ _ _ _ _ _ _ _ _ _ _
  ·unfold gV;rw [if_pos h128];rfl
  ·unfold gV;rw [if_pos h128];rfl
 ·go_upto_region 10 with fail;rw [ha,hb,hc];clear ha hb hc;go_upto_region 13 with fail;go_upto_region 14 with (go_at_call 57;refine (bV ((c:Int)%4) W _ (by omega) HW.out).mono ?_;rintro e w' ⟨rfl,rfl⟩);go_upto_region 16 with fail;refine HH.out _ v1.heap.size a b c _ _ xa xb xc W pc HE.out HpA.out HpB.out HpC.out ?_ ?_ HXa.out HXb.out HXc.out HWm.out.symm HPc.out _ (by assumption) C _ _ _ _ _ _ _ _ _ _ _ _ _ _ _ _ _ _ _ _ _ _ _ _ _ _ _ _ _ _ _ _ _ _ _ _ _ _ _ _ _ _ _ _ _ _ _ _
  ·unfold gV;rw [if_neg (by omega)];omega
  ·unfold gV;rw [if_neg (by omega)];omega
end
end Go.Proofs.YtpdddbobhndbjaaGreat
