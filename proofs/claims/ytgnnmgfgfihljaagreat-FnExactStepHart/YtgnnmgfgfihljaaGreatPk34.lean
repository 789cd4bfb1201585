import Derived.Test.YtgnnmgfgfihljaaGreatPk33
namespace Go.Proofs.YtgnnmgfgfihljaaGreat
open Go.RowKit
set_option linter.unusedVariables false
set_option maxHeartbeats 6400000
set_option maxRecDepth 20000
theorem jC (mem:List Int):∀(ds:List bI) (q:bI),bS mem (ds++[q])=bS mem ds++(mem.drop q.2.2.toNat).take q.2.1.toNat
 | [],q=>by simp [bS]
 | d::ds,q=>by simp [bS,jC mem ds q]
theorem rR:∀(ds:List bI) (qs:List bI),gy (ds++qs)=gy ds+gy qs
 | [],qs=>by simp [gy]
 | d::ds,qs=>by simp only [List.cons_append,gy,rR ds qs];omega
theorem sN:∀(qs:List bI),dD qs->0<=gy qs
 | [],_=>Int.le_refl _
 | q::qs,h=>by
  have h1:=(h q (List.mem_cons_self ..)).2.1.1;have h2:=sN qs fun x hx=>h x (List.mem_cons_of_mem _ hx);simp only [gy];omega
theorem rS (mb mo len mc g n c:Nat) (mem:List Int) (ps:List bI) (w:World) (hm:Byt w (some ⟨mb,mo,none⟩) len mem) (hl:len<=1048576) (hc:len<=mc) (hmc:mc<=9223372036854775807)
 (hp:RowC w (some ⟨g,0,none⟩) n 3 (cL ps)) (hn:ps.length=n) (hn2:n<=2) (hok:dD ps) (hin:∀p∈ps,fw len p.2.2 p.2.1=true) (hle:gy ps<=8):
 Calls Tryz.prog 122 #[.slice (some ⟨mb,mo,none⟩) len mc,.slice (some ⟨g,0,none⟩) n c] w fun e w'=>e=.returned (.int .u64 (gL mem ps))∧Below w.heap.size w w':=by
 have HM:Hid _:=hm;have HP:Hid _:=hp;have HO:Hid _:=hok;have HI:Hid _:=hin;have HN:Hid _:=hn;have HLe:Hid _:=hle;have hml:=hm.1;clear hm hp hok hin hn hle;go_enter Tryz.func122,Tryz.ntmps122;go_wp2_with fail;have o1:Hid _:=OwnB.new 5 w [] 0 rfl (by decide);have n1:Below w.heap.size w (w.alloc (Obj.cells #[] 5)):=(Below.refl _ _).alloc nle _;go_loopw [5,6] (fun bv iv wr=>∃(i bg bn bc:Nat) (done rest:List bI),bv=.slice (some ⟨bg,0,none⟩) bn bc∧iv=.int .i64 i∧done.length=i∧ps=done++rest∧OwnB 5 wr w.heap.size bg bn bc (bS mem done)∧Below w.heap.size w wr) (fun _ iv _=>n-(intOf iv).toNat)
 case atStart=>exact ⟨0,_,_,_,[],ps,rfl,rfl,rfl,rfl,o1.out,n1⟩
 case round=>
  clear o1 n1;obtain ⟨i,bg,bn,bc,done,rest,rfl,rfl,hdi,hps,hO,hB⟩:=hrel;have HO':Hid (OwnB 5 wr w.heap.size bg bn bc (bS mem done)):=hO;have HPs:Hid _:=hps;have hlen:=HN.out;rw [hps,List.length_append] at hlen;have hdn:dD done:=fun x hx=>HO.out x (by rw [hps];exact List.mem_append_left _ hx);have hrn:dD rest:=fun x hx=>HO.out x (by rw [hps];exact List.mem_append_right _ hx);have hle1:=HLe.out;rw [hps,rR] at hle1;have hpl:=iC mem done hdn;have hbn:(bS mem done).length=bn:=hO.facts.1;have hrl:=sN rest hrn;have hbn8:bn<=8:=by omega
  have hf1:bn<=bc:=by have:=hO.facts;omega
  have hf2:bc<=9223372036854775807:=by have:=hO.facts;simp only [maxLen] at this;omega
  cases rest with
  | nil=>
   have hin:i=n:=by simp at hlen;omega
   have HD:Hid (ps=done):=by rw [hps,List.append_nil];exact rfl
   have hby:Hid (Byt wr (some ⟨bg,0,none⟩) bn (bS mem done)):=hO.byt (ge (gP HM.out.2.1 done));clear hps hO hlen hle1 hdn hrn hpl hrl;subst hin;go_wp2_with fail;refine (mt _ _ _ _ _ hby.out hbn8 hf1 hf2).mono ?_;rintro e w' ⟨rfl,nq,rfl⟩;go_wp2_with fail;go_ret;exact ⟨by rw [HD.out];rfl,below_drewN hB nq⟩
  | cons q rest=>
   have hqm:q∈ps:=by rw [hps];exact List.mem_append_right _ (List.mem_cons_self ..)
   have hqi:=HI.out q hqm;have hqo:=HO.out q hqm;obtain ⟨qv,qn,qp⟩:=q;obtain ⟨hq1,hq2,hq3⟩:=hqo;obtain ⟨m,rfl⟩:=Int.eq_ofNat_of_zero_le (show 0<=qn by simp only at hq2;omega);obtain ⟨k,rfl⟩:=Int.eq_ofNat_of_zero_le (show 0<=qp from hq3.1);simp only [fw,decide_eq_true_eq] at hqi;have hm1:1<=m:=by simp only at hq2;omega
   have hm8:m<=8:=by simp only at hq2;omega
   have hkm:k+m<=len:=by omega
   have hil:i<n:=by simp at hlen;omega
   have hpi:ps[i]?=some (qv,(m:Int),(k:Int)):=by rw [hps,<-hdi];simp
   obtain ⟨x1,x2,x3⟩:=gX ps i _ hpi;have x2':=HP.out.2;rcases x2' with x2' | ⟨b',off',hx,hlt,hcell⟩
   ·omega
   cases hx;have hgw:g<wr.heap.size:=Nat.lt_of_lt_of_le hlt hB.size;have y2:wr.cell? ⟨g,i*3+1,none⟩=some (.int .i64 m):=by have:=Below.cell2 hB (hcell _ _ x2) hlt;rwa [Nat.zero_add] at this
   have y3:wr.cell? ⟨g,i*3+2,none⟩=some (.int .u64 k):=by have:=Below.cell2 hB (hcell _ _ x3) hlt;rwa [Nat.zero_add] at this
   have xm:Hid (Byt wr (some ⟨mb,mo+k,none⟩) (k+m-k) ((mem.drop k).take m)):=by
    rw [Nat.add_sub_cancel_left];have h1:=(Byt.keep HM.out hB).drop k (len-k) (by omega) rfl (some ⟨mb,mo+k,none⟩) (fun _=>rfl);exact h1.take m (by omega)
   have hck:k<mc:=by omega
   have hcm:k+m<=mc:=by omega
   have hBn:bn+(k+m-k)<=2147483648:=by omega
   have HBn:Hid _:=hBn;clear hps hO hlen hle1 hdn hrn hpl hrl x1 x2 x3 hcell hqi hq1 hq2 hq3 hpi hqm hbn;go_wp2_with (at_builtin;refine gF _ rfl (.tmp 21) (.tmp 31) 22 rfl 5 Tryz.underlying22 Tryz.infoB w.heap.size _ _ _ _ rfl HO'.out mb (mo+k) (k+m-k) _ _ rfl xm.out HBn.out _ _ hB nle ?_;intro g2 cap2 v2 o2 n2);have o3:OwnB 5 v2 w.heap.size g2 (bn+m) cap2 (bS mem (done++[(qv,(m:Int),(k:Int))])):=by
    rw [jC];have:=o2;rw [Nat.add_sub_cancel_left] at this;exact this
   refine ⟨⟨i+1,g2,bn+m,cap2,done++[(qv,(m:Int),(k:Int))],rest,rfl,rfl,by rw [List.length_append,hdi];rfl,by rw [HPs.out];simp,o3,n2⟩,?_⟩;simp only [intOf];omega
theorem rT (mb mo len mc g n c wd:Nat) (x:Int) (mem:List Int) (ps:List bI) (w:World) (hm:Byt w (some ⟨mb,mo,none⟩) len mem) (hmb:mb<w.heap.size) (hl:len<=1048576) (hc:len<=mc) (hmc:mc<=9223372036854775807)
 (hp:RowC w (some ⟨g,0,none⟩) n 3 (cL ps)) (hn:ps.length=n) (hn2:n<=2) (hok:dD ps) (hin:∀p∈ps,fw len p.2.2 p.2.1=true) (hle:gy ps=wd) (hw8:wd<=8) (hx:inU x):
 Calls Tryz.prog 123 #[.slice (some ⟨mb,mo,none⟩) len mc,.slice (some ⟨g,0,none⟩) n c,.int .i64 wd,.int .u64 x] w fun e w'=>(∃b o cp,e=.returned (.slice (some ⟨b,o,none⟩) len cp)∧Byt w' (some ⟨b,o,none⟩) len (gn mem ps (cS x wd))∧(len<=cp∧cp<=9223372036854775807)∧b<w'.heap.size∧((b=mb∧o=mo)∨w.heap.size<=b))∧Below w.heap.size w w':=by
 have HM:Hid (Byt w (some ⟨mb,mo,none⟩) len mem):=hm;have HP:Hid (RowC w (some ⟨g,0,none⟩) n 3 (cL ps)):=hp;have HO:Hid (dD ps):=hok;have HI:Hid _:=hin;have HN:Hid _:=hn;have HLe:Hid _:=hle;have HC:Hid (len<=mc∧mc<=9223372036854775807):=⟨hc,hmc⟩;clear hm hp hok hin hn hle hc hmc;go_enter Tryz.func123,Tryz.ntmps123;go_wp2_with fail;refine (uM wd x w hw8 hx.1 hx.2).mono ?_;rintro e v1 ⟨g1,c1,rfl,o1,n1⟩;have O1:Hid (OwnB 5 v1 w.heap.size g1 wd c1 (cS x wd)):=o1;clear o1;go_wp2_with fail;go_loopw [0,9,10] (fun mv bv iv wr=>∃(i mb' mo' mc' bg bo bl bc:Nat) (mi bi:List Int) (done rest:List bI),mv=.slice (some ⟨mb',mo',none⟩) len mc'∧bv=.slice (some ⟨bg,bo,none⟩) bl bc∧iv=.int .i64 i∧done.length=i∧ps=done++rest∧gn mem ps (cS x wd)=gn mi rest bi∧Byt wr (some ⟨mb',mo',none⟩) len mi∧(len<=mc'∧mc'<=9223372036854775807)∧mb'<wr.heap.size∧((mb'=mb∧mo'=mo)∨w.heap.size<=mb')∧Byt wr (some ⟨bg,bo,none⟩) bl bi∧(bl<=bc∧bc<=9223372036854775807)∧gy rest=bl∧Below w.heap.size w wr) (fun _ _ iv _=>n-(intOf iv).toNat)
 case atStart=>
  have hf:=OwnB.facts O1.out;simp only [maxLen] at hf;exact ⟨0,mb,mo,mc,g1,0,wd,c1,mem,cS x wd,[],ps,rfl,rfl,rfl,rfl,rfl,rfl,Byt.keep HM.out n1,HC.out,Nat.lt_of_lt_of_le hmb n1.size,.inl ⟨rfl,rfl⟩,OwnB.byt O1.out (ge (pl wd x)),by omega,HLe.out,n1⟩
 case round=>
  clear O1 n1;obtain ⟨i,mb',mo',mc',bg,bo,bl,bc,mi,bi,done,rest,rfl,rfl,rfl,hdi,hps,hset,hmi,⟨hc1,hc2⟩,hmlt,hmlo,hbi,⟨hbc1,hbc2⟩,hlr,hB⟩:=hrel;have HPs:Hid (ps=done++rest):=hps;have HSet:Hid (gn mem ps (cS x wd)=gn mi rest bi):=hset;have HMi:Hid (Byt wr (some ⟨mb',mo',none⟩) len mi):=hmi;have HBi:Hid (Byt wr (some ⟨bg,bo,none⟩) bl bi):=hbi;have hlen:=HN.out;rw [hps,List.length_append] at hlen;cases rest with
  | nil=>
   have hin:i=n:=by simp at hlen;omega
   clear hps hset hmi hbi hlen;subst hin;go_wp2_with fail;go_ret;exact ⟨⟨mb',mo',mc',rfl,by rw [HSet.out];exact HMi.out,⟨hc1,hc2⟩,hmlt,hmlo⟩,hB⟩
  | cons q rest=>
   have hqm:q∈ps:=by rw [hps];exact List.mem_append_right _ (List.mem_cons_self ..)
   have hqi:=HI.out q hqm;have hqo:=HO.out q hqm;have hrn:dD rest:=fun z hz=>HO.out z (by rw [hps];exact List.mem_append_right _ (List.mem_cons_of_mem _ hz));have hrl:=sN rest hrn;obtain ⟨qv,qn,qp⟩:=q;obtain ⟨hq1,hq2,hq3⟩:=hqo;obtain ⟨m,rfl⟩:=Int.eq_ofNat_of_zero_le (show 0<=qn by simp only at hq2;omega);obtain ⟨k,rfl⟩:=Int.eq_ofNat_of_zero_le (show 0<=qp from hq3.1);simp only [fw,decide_eq_true_eq] at hqi;simp only [gy] at hlr;have hm1:1<=m:=by simp only at hq2;omega
   have hm8:m<=8:=by simp only at hq2;omega
   have hkm:k+m<=len:=by omega
   have hkw:(k:Int)<=1048576:=by omega
   have HWk:Hid (IntKind.i64.wrap (k:Int)=k):=by show _=_;unfold IntKind.wrap;simp [IntKind.bits,IntKind.signed];omega
   have hmb:m<=bl:=by omega
   have hil:i<n:=by simp at hlen;omega
   have hi0:i<=2:=by omega
   have hpi:ps[i]?=some (qv,(m:Int),(k:Int)):=by rw [hps,<-hdi];simp
   obtain ⟨x1,x2,x3⟩:=gX ps i _ hpi;have x2':=HP.out.2;rcases x2' with x2' | ⟨b',off',hxx,hlt,hcell⟩
   ·omega
   cases hxx;have hgw:g<wr.heap.size:=Nat.lt_of_lt_of_le hlt hB.size;have y2:wr.cell? ⟨g,i*3+1,none⟩=some (.int .i64 m):=by have:=Below.cell2 hB (hcell _ _ x2) hlt;rwa [Nat.zero_add] at this
   have y3:wr.cell? ⟨g,i*3+2,none⟩=some (.int .u64 k):=by have:=Below.cell2 hB (hcell _ _ x3) hlt;rwa [Nat.zero_add] at this
   have HLm:Hid (∀u:World,u.cell? ⟨g,i*3+1,none⟩=some (.int .i64 m)->(Instr.loadAt 2 (.pointer (some ⟨g,i*3+1,none⟩))).run Tryz.prog u=.ok (.int .i64 m) u):=fun u hu=>by go_simp
   have HLk:Hid (∀u:World,u.cell? ⟨g,i*3+2,none⟩=some (.int .u64 k)->(Instr.loadAt 24 (.pointer (some ⟨g,i*3+2,none⟩))).run Tryz.prog u=.ok (.int .u64 k) u):=fun u hu=>by go_simp
   have HLr:Hid ((m:Int)+gy rest=bl):=hlr;have hbil:=hbi.1;clear hps hset hmi hbi hlen hrn x1 x2 x3 hcell hqi hq1 hq2 hq3 hpi hqm hlr;have hF:wr.drew.cell? ⟨g,i*3+1,none⟩=some (.int .i64 m)∧wr.drew.cell? ⟨g,i*3+2,none⟩=some (.int .u64 k):=⟨by simpa using y2,by simpa using y3⟩;go_upto_region 5 with fail;refine aO (fun u=>u.cell? ⟨g,i*3+1,none⟩=some (.int .i64 m)∧u.cell? ⟨g,i*3+2,none⟩=some (.int .u64 k)) 14 (by kernel_rfl) ?_;refine Ct 0 20 (.slice (some ⟨mb',mo',none⟩) len mc') rfl (by kernel_rfl) (fun _ _ _ h=>h) (fun u hu=>by kernel_rfl) hF ?_;refine Ct 1 21 (.slice (some ⟨g,0,none⟩) n c) rfl (by kernel_rfl) (fun _ _ _ h=>h) (fun u hu=>by kernel_rfl) hF ?_;refine Ct 2 22 (.int .i64 i) rfl (by kernel_rfl) (fun _ _ _ h=>h) (fun u hu=>by kernel_rfl) hF ?_;simp only [aPt,sTa,sCs,sCz];refine Ct 3 23 (.pointer (some ⟨g,i*3,none⟩)) rfl (by kernel_rfl) (fun _ _ _ h=>h) (fun u hu=>(by have h1:=hil;have h2:=hi0;go_simp)) hF ?_;refine Ct 4 24 (.pointer (some ⟨g,i*3+2,none⟩)) rfl (by kernel_rfl) (fun _ _ _ h=>h) (fun u hu=>by kernel_rfl) hF ?_;simp only [aPt,sTa,sCs,sCz];refine Ct 5 25 (.int .u64 k) rfl (by kernel_rfl) (fun _ _ _ h=>h) (fun u hu=>bF rfl (HLk.out u hu.2)) hF ?_;simp only [aPt,sTa,sCs,sCz];refine Ct 6 26 (.int .i64 k) rfl (by kernel_rfl) (fun _ _ _ h=>h) (fun u hu=>(by have h1:=HWk.out;go_simp)) hF ?_;refine Ct 7 27 (.slice (some ⟨bg,bo,none⟩) bl bc) rfl (by kernel_rfl) (fun _ _ _ h=>h) (fun u hu=>by kernel_rfl) hF ?_;refine Ct 8 28 (.slice (some ⟨g,0,none⟩) n c) rfl (by kernel_rfl) (fun _ _ _ h=>h) (fun u hu=>by kernel_rfl) hF ?_;refine Ct 9 29 (.int .i64 i) rfl (by kernel_rfl) (fun _ _ _ h=>h) (fun u hu=>by kernel_rfl) hF ?_;simp only [aPt,sTa,sCs,sCz];refine Ct 10 30 (.pointer (some ⟨g,i*3,none⟩)) rfl (by kernel_rfl) (fun _ _ _ h=>h) (fun u hu=>(by have h1:=hil;have h2:=hi0;go_simp)) hF ?_;refine Ct 11 31 (.pointer (some ⟨g,i*3+1,none⟩)) rfl (by kernel_rfl) (fun _ _ _ h=>h) (fun u hu=>by kernel_rfl) hF ?_;simp only [aPt,sTa,sCs,sCz];refine Ct 12 32 (.int .i64 m) rfl (by kernel_rfl) (fun _ _ _ h=>h) (fun u hu=>bF rfl (HLm.out u hu.1)) hF ?_;simp only [aPt,sTa,sCs,sCz];refine Ct 13 33 (.slice (some ⟨bg,bo,none⟩) m bc) rfl (by kernel_rfl) (fun _ _ _ h=>h) (fun u hu=>(by have h1:=hmb;have h2:=hbc1;have h3:=hbc2;go_simp;intro h;omega)) hF ?_;simp only [aPt,sTa,sCs,sCz];refine dd 14 34 (by kernel_rfl) rfl (by kernel_rfl) (by kernel_rfl) (f:=161) (args:=#[.slice (some ⟨mb',mo',none⟩) len mc',.int .i64 k,.slice (some ⟨bg,bo,none⟩) m bc]) (by kernel_rfl) ?_;have nD:=bdr wr;refine (yy mb' mo' len mc' k bg bo m bc mi (bi.take m) wr.drew (Byt.keep HMi.out nD) ((Byt.keep HBi.out nD).take m hmb) hl hkm hc1 hc2).mono ?_;rintro e v2 ⟨g2,c2,rfl,o2,n2'⟩;refine ⟨_,rfl,fun h=>absurd h (by decide),?_⟩;simp only [aPt,sTa,sCs,sCz];refine dJ 15 0 (.slice (some ⟨g2,0,none⟩) len c2) rfl (by kernel_rfl) (by kernel_rfl) (by kernel_rfl) (by kernel_rfl) rfl (fun _ _ _ h=>h) (by kernel_rfl) (fun u=>by kernel_rfl) (.inl (by kernel_rfl)) (by kernel_rfl) ?_;simp only [Act.put,List.setIfInBounds_toArray,List.set_cons_zero];refine cf (by kernel_rfl) ?_ _;have n2:Below wr.heap.size wr v2:=bst nD n2';have nF:=bst hB n2;have z2:v2.cell? ⟨g,i*3+1,none⟩=some (.int .i64 m):=Below.cell2 n2 y2 hgw;have O2:Hid (OwnB 5 v2 wr.drew.heap.size g2 len c2 (mi.take k++bi.take m++mi.drop (k+m))):=o2;have hf2:=o2.facts;have hg2:wr.heap.size<=g2:=hf2.2.1;have hg3:g2<v2.heap.size:=hf2.2.2.1;have hc3:len<=c2:=hf2.2.2.2.1;have hc4:c2<=9223372036854775807:=by have:=hf2.2.2.2.2;simp only [maxLen] at this;omega
   have hwl:=hB.size;clear o2 n2' hF hf2;have HSt:Hid (gn mem ps (cS x wd)=gn (mi.take k++bi.take m++mi.drop (k+m)) rest (bi.drop m)):=by
    show _=_;rw [HSet.out,gn];simp only [Int.toNat_natCast];unfold put;rw [List.length_take,hbil,Nat.min_eq_left hmb]
   have hln:gy rest=((bl-m:Nat):Int):=by have:=HLr.out;omega
   have HLn:Hid (gy rest=((bl-m:Nat):Int)):=hln;have BM:Hid (Byt v2 (some ⟨g2,0,none⟩) len (mi.take k++bi.take m++mi.drop (k+m))):=OwnB.byt O2.out (by
    have hz:∀z∈mi.take k++bi.take m++mi.drop (k+m),0<=z∧z<=255:=fun z hz=>by
     rcases List.mem_append.1 hz with hz | hz
     ·rcases List.mem_append.1 hz with hz | hz
      ·exact fG HMi.out.2.1 z (List.mem_of_mem_take hz)
      ·exact fG HBi.out.2.1 z (List.mem_of_mem_take hz)
     ·exact fG HMi.out.2.1 z (List.mem_of_mem_drop hz)
    exact ge hz)
   clear hln O2 hbil;by_cases hcc:bc=m
   ·subst hcc;have hble:bl=bc:=by omega
    have BB:Hid (Byt v2 (some ⟨bg,bo,none⟩) (bl-bc) (bi.drop bc)):=Byt.keep (HBi.out.drop bc (bl-bc) hmb rfl (some ⟨bg,bo,none⟩) (fun h=>by omega)) n2;go_wp2_with fail;refine ⟨⟨i+1,g2,0,c2,bg,bo,bl-bc,bc-bc,mi.take k++bi.take bc++mi.drop (k+bc),bi.drop bc,done++[(qv,((bc:Nat):Int),(k:Int))],rest,rfl,by rw [hble,Nat.sub_self],rfl,by rw [List.length_append,hdi];rfl,by rw [HPs.out];simp,HSt.out,BM.out,⟨hc3,hc4⟩,hg3,.inr (by omega),BB.out,by omega,HLn.out,nF⟩,?_⟩;simp only [intOf];omega
   ·have hmc:m<bc:=by omega
    clear hcc;have BB:Hid (Byt v2 (some ⟨bg,bo+m,none⟩) (bl-m) (bi.drop m)):=Byt.keep (HBi.out.drop m (bl-m) hmb rfl (some ⟨bg,bo+m,none⟩) (fun h=>rfl)) n2;go_wp2_with fail;refine ⟨⟨i+1,g2,0,c2,bg,bo+m,bl-m,bc-m,mi.take k++bi.take m++mi.drop (k+m),bi.drop m,done++[(qv,((m:Nat):Int),(k:Int))],rest,rfl,rfl,rfl,by rw [List.length_append,hdi];rfl,by rw [HPs.out];simp,HSt.out,BM.out,⟨hc3,hc4⟩,hg3,.inr (by omega),BB.out,by omega,HLn.out,nF⟩,?_⟩;simp only [intOf];omega
section
attribute [local go_sem ↓] Go.wp_at_zero Go.wp_at_succ
theorem jT (v:Value) (t:TlbM) (k:Int) (w:World) (h:TlbAt w v t) (hn0:0<t.es.length) (hk:0<=k∧k<=255):
 Calls Tryz.prog 50 #[v,.int .i64 k] w fun e w'=>(∃x,e=.returned x∧TlbOwn w.heap.size w' x (aZ t k))∧Below w.heap.size w w':=by
 have HT:Hid (TlbAt w v t):=h;obtain ⟨a,cap,rfl,hr,_,_,_,hl,hlc,hcm,hnil,hsp⟩:=h;obtain ⟨sets,ways,es⟩:=t;obtain ⟨n,hn⟩:∃n,es.length=n:=⟨_,rfl⟩;simp only at hr hl hlc hnil hn0 HT |-;have HN:Hid (es.length=n):=hn;rw [hn] at hr hl hlc hnil HT hn0 |-;obtain ⟨j,hjr,hj⟩:∃j:Nat,k.tmod (n:Int)=j∧j<n:=by
  refine ⟨(k%(n:Int)).toNat,?_,?_⟩
  ·rw [Int.tmod_eq_emod_of_nonneg hk.1];have:=Int.emod_nonneg k (show (n:Int)≠0 by omega);omega
  ·have:=Int.emod_nonneg k (show (n:Int)≠0 by omega);have:=Int.emod_lt_of_pos k (show 0<(n:Int) by omega);omega
 have HRm:Hid (k.tmod (n:Int)=j):=hjr;have HX:Hid (aZ ⟨sets,ways,es⟩ k=⟨sets,ways,es.set j cO⟩):=by
  show _=_;unfold aZ;simp only;rw [hn,show (k%(n:Int)).toNat=j by rw [Int.tmod_eq_emod_of_nonneg hk.1] at hjr;omega]
 obtain ⟨X,hX⟩:∃X,aZ ⟨sets,ways,es⟩ k=X:=⟨_,rfl⟩;rw [hX];rw [hX] at HX;have HN0:Hid (¬n=0):=by show ¬_;omega
 clear hX hr hnil hsp hn hjr;go_enter Tryz.func50,Tryz.ntmps50;go_wp2_with fail;have F:=eu w #[.int .i64 sets,.int .i64 ways,.slice a n cap] #[.int .i64 0,.int .i64 0,.slice none 0 0] 35 35;generalize (w.alloc (Obj.cells #[.int .i64 sets,.int .i64 ways,.slice a n cap] 35)).alloc (Obj.cells #[.int .i64 0,.int .i64 0,.slice none 0 0] 35)=v1 at F |-;obtain ⟨h3,h6,l1,n1⟩:=F;have H6:Hid _:=h6;have b2:w.heap.size+1<v1.heap.size:=by omega
 clear h3 h6 l1;refine (gc _ ⟨sets,ways,es⟩ v1 (HT.out.keep n1)).mono ?_;rintro e v2 ⟨⟨x,rfl,g,cp,rfl,o2⟩,n2⟩;simp only at o2 |-;rw [HN.out] at o2 |-;obtain ⟨_,hg1,hg2⟩:=bC o2;simp only at hg1 hg2;have O2:Hid (v2.ownsRow v1.heap.size 153 6 (.slice (some ⟨g,0,none⟩) n cp) n (az es)):=o2;have K6:Hid _:=ae H6.out n2 b2;have l2:=n2.size;have n12:=bst n1 n2;clear o2 n2 H6 n1;go_upto_region 2 with fail;have F:=bL v2 #[.int .i64 sets,.int .i64 ways,.slice (some ⟨g,0,none⟩) n cp] 35;generalize v2.alloc (Obj.cells #[.int .i64 sets,.int .i64 ways,.slice (some ⟨g,0,none⟩) n cp] 35)=v3 at F |-;obtain ⟨h5,l3,n3⟩:=F;have H5:Hid (v3.heap[v2.heap.size]?=some (.cells #[.int .i64 sets,.int .i64 ways,.slice (some ⟨g,0,none⟩) n cp] 35 (0,0))):=h5;have O3:Hid (v3.ownsRow v1.heap.size 153 6 (.slice (some ⟨g,0,none⟩) n cp) n (az es)):=ag O2.out n3;have J6:Hid _:=ae K6.out n3 (by omega);have n13:=bst n12 n3;have b3:v2.heap.size<v3.heap.size:=by omega
 clear h5 l3 O2 K6 n12 n3;obtain ⟨⟨p0,p1,p2⟩,_,_,_⟩:=ay H5.out;have HLs:Hid (∀u:World,u.cell? ⟨v2.heap.size,2,none⟩=some (.slice (some ⟨g,0,none⟩) n cp)->(Instr.loadAt 33 (.pointer (some ⟨v2.heap.size,2,none⟩))).run Tryz.prog u=.ok (.slice (some ⟨g,0,none⟩) n cp) u):=fun u hu=>by go_simp
 have hF:v3.drew.cell? ⟨v2.heap.size,2,none⟩=some (.slice (some ⟨g,0,none⟩) n cp):=by simpa using p2
 clear p0 p1 p2;refine aO (fun u=>u.cell? ⟨v2.heap.size,2,none⟩=some (.slice (some ⟨g,0,none⟩) n cp)) 9 (by kernel_rfl) ?_;refine Ct 0 8 (.pointer (some ⟨v2.heap.size,2,none⟩)) rfl (by kernel_rfl) (fun _ _ _ h=>h) (fun u hu=>by kernel_rfl) hF ?_;simp only [aPt,sTa,sCs,sCz];refine Ct 1 9 (.slice (some ⟨g,0,none⟩) n cp) rfl (by kernel_rfl) (fun _ _ _ h=>h) (fun u hu=>bF rfl (HLs.out u hu)) hF ?_;refine Ct 2 10 (.int .i64 k) rfl (by kernel_rfl) (fun _ _ _ h=>h) (fun u hu=>by kernel_rfl) hF ?_;refine Ct 3 11 (.pointer (some ⟨v2.heap.size,2,none⟩)) rfl (by kernel_rfl) (fun _ _ _ h=>h) (fun u hu=>by kernel_rfl) hF ?_;simp only [aPt,sTa,sCs,sCz];refine Ct 4 12 (.slice (some ⟨g,0,none⟩) n cp) rfl (by kernel_rfl) (fun _ _ _ h=>h) (fun u hu=>bF rfl (HLs.out u hu)) hF ?_;refine Ct 5 13 (.int .i64 n) rfl (by kernel_rfl) (fun _ _ _ h=>h) (fun u hu=>by kernel_rfl) hF ?_;simp only [aPt,sTa,sCs,sCz];refine Ct 6 14 (.int .i64 j) rfl (by kernel_rfl) (fun _ _ _ h=>h) (fun u hu=>(by have h1:=HRm.out;have h2:=HN0.out;go_simp)) hF ?_;refine Ct 7 15 (.agg #[.bool false,.int .i64 0,.int .u64 0,.int .u64 0,.bool false,.int .u64 0]) rfl (by kernel_rfl) (fun _ _ _ h=>h) (fun u hu=>by kernel_rfl) hF ?_;simp only [aPt,sTa,sCs,sCz];refine Ct 8 16 (.pointer (some ⟨g,j*6,none⟩)) rfl (by kernel_rfl) (fun _ _ _ h=>h) (fun u hu=>(by have h1:=hj;go_simp)) hF ?_;simp only [aPt,sTa,sCs,sCz];have hcl:(az es).length=n*6:=by rw [eo,HN.out]
 have O4:Hid (v3.drew.ownsRow v1.heap.size 153 6 (.slice (some ⟨g,0,none⟩) n cp) n (az es)):=ag O3.out ((Below.refl _ _).drew);have n13d:=n13.drew;have H5d:Hid (v3.drew.heap[v2.heap.size]?=some (.cells #[.int .i64 sets,.int .i64 ways,.slice (some ⟨g,0,none⟩) n cp] 35 (0,0))):=H5.out;have J6d:Hid (v3.drew.heap[w.heap.size+1]?=some (.cells #[.int .i64 0,.int .i64 0,.slice none 0 0] 35 (0,0))):=J6.out;have hsd:v3.heap.size<=v3.drew.heap.size:=nle;clear hF HLs H5 J6 n13 O3;generalize v3.drew=vd at O4 n13d H5d J6d hsd |-;have q0:=aw O4.out (j*6) _ (List.getElem?_eq_getElem (by omega));have q1:=aw O4.out (j*6+1) _ (List.getElem?_eq_getElem (by omega));have q2:=aw O4.out (j*6+2) _ (List.getElem?_eq_getElem (by omega));have q3:=aw O4.out (j*6+3) _ (List.getElem?_eq_getElem (by omega));have q4:=aw O4.out (j*6+4) _ (List.getElem?_eq_getElem (by omega));have q5:=aw O4.out (j*6+5) _ (List.getElem?_eq_getElem (by omega));generalize (az es)[j*6]'_=y0 at q0;generalize (az es)[j*6+1]'_=y1 at q1;generalize (az es)[j*6+2]'_=y2 at q2;generalize (az es)[j*6+3]'_=y3 at q3;generalize (az es)[j*6+4]'_=y4 at q4;generalize (az es)[j*6+5]'_=y5 at q5;have r0:=aD O4.out (j*6);have r1:=aD O4.out (j*6+1);have r2:=aD O4.out (j*6+2);have r3:=aD O4.out (j*6+3);have r4:=aD O4.out (j*6+4);have r5:=aD O4.out (j*6+5);have HS:(Instr.storeAt 153 (.pointer (some ⟨g,j*6,none⟩)) (.agg #[.bool false,.int .i64 0,.int .u64 0,.int .u64 0,.bool false,.int .u64 0])).run Tryz.prog vd=.ok () ((((((vd.setCell ⟨g,j*6,none⟩ (.bool false)).setCell ⟨g,j*6+1,none⟩ (.int .i64 0)).setCell ⟨g,j*6+2,none⟩ (.int .u64 0)).setCell ⟨g,j*6+3,none⟩ (.int .u64 0)).setCell ⟨g,j*6+4,none⟩ (.bool false)).setCell ⟨g,j*6+5,none⟩ (.int .u64 0)):=by go_simp
 refine cz 9 rfl (T:=153) (x:=.tmp 16) (y:=.tmp 15) (by kernel_rfl) (by kernel_rfl) (by kernel_rfl) (by kernel_rfl) (b:=g) (off:=j*6) (by kernel_rfl) (by kernel_rfl) HS (.inl (by kernel_rfl)) ?_;refine cf (by kernel_rfl) ?_ _;clear q0 q1 q2 q3 q4 q5 r0 r1 r2 r3 r4 r5 HS;have gS:=ak (ak (ak (ak (ak (ak (au vd (some g)) (j*6) (.bool false)) (j*6+1) (.int .i64 0)) (j*6+2) (.int .u64 0)) (j*6+3) (.int .u64 0)) (j*6+4) (.bool false)) (j*6+5) (.int .u64 0);have O5:Hid _:=ax (ax (ax (ax (ax (ax O4.out (j*6) (.bool false)) (j*6+1) (.int .i64 0)) (j*6+2) (.int .u64 0)) (j*6+3) (.int .u64 0)) (j*6+4) (.bool false)) (j*6+5) (.int .u64 0);have hes:=gZ es j cO (by rw [HN.out];exact hj);simp only [cO] at hes;rw [<-hes] at O5;generalize (((((vd.setCell ⟨g,j*6,none⟩ (.bool false)).setCell ⟨g,j*6+1,none⟩ (.int .i64 0)).setCell ⟨g,j*6+2,none⟩ (.int .u64 0)).setCell ⟨g,j*6+3,none⟩ (.int .u64 0)).setCell ⟨g,j*6+4,none⟩ (.bool false)).setCell ⟨g,j*6+5,none⟩ (.int .u64 0)=v4 at gS O5 |-;have n14:Below w.heap.size w v4:=Below.gb n13d gS (by have:=n13d.size;omega) (by omega);have P5:=aQ H5d.out gS (by omega);have P6:=aQ J6d.out gS (by omega);have l4:vd.heap.size<=v4.heap.size:=gS.size;clear gS n13d hes H5d J6d;obtain ⟨⟨p0,p1,p2⟩,_,_,_⟩:=ay P5;obtain ⟨⟨d0,d1,d2⟩,e0,e1,e2⟩:=ay P6;have c3:v2.heap.size<v4.heap.size:=by omega
 go_wp2_with fail;refine bodyPost_ret (v:=.agg #[.int .i64 sets,.int .i64 ways,.slice (some ⟨g,0,none⟩) n cp]) (by simp [results,Tryz.results50,go_sem,d0,d1,d2]) rfl ⟨⟨_,rfl,?_⟩,fu n14 (by omega) _ _ _⟩;rw [HX.out];refine ⟨g,cp,by simp only [List.length_set];rw [HN.out],?_⟩;simp only [List.length_set];rw [HN.out];exact aK (bX O5.out (gb3 v4 (w.heap.size+1) _ _ _) (by omega)) (by omega)
end
end Go.Proofs.YtgnnmgfgfihljaaGreat
