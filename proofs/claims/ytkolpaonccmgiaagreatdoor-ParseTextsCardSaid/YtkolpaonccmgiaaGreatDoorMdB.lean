/- The letters of the modes of layer 6, as the progra -/
import Derived.Test.YtkolpaonccmgiaaGreatDoorQs
import Derived.Deep.RegionHeldLaw
namespace Go.Proofs.YtkolpaonccmgiaaGreatDoor
set_option linter.unusedSectionVars false
set_option linter.unusedVariables false
open Go.Proofs.Tryz
open _root_.List renaming getElem?_eq_some_iff->wak
open Lib(hid)
set_option maxHeartbeats 8000000
open Go.RowKit
def l7:ByteArray:=⟨#[84,67,80,79,83,68,66,86,73,65,82,69,76,88,35]⟩
def xe(m:Nat):UInt8:=bt l7 m
def uk(l:List Fr):ByteArray:=⟨(l.map λx=>xe x.1).toArray⟩
theorem gJ(l:List Fr):(uk l).size=l.length:=by
 show(l.map λx=>xe x.1).toArray.size=_;simp
theorem cZ(l:List Fr)(m f:Nat):uk (l++ [(m,f)])=uk l++⟨#[xe m]⟩:=by
 apply ByteArray.ext;unfold uk;simp
theorem pF{l:List Fr}{i:Nat}{x:Fr}(h:l[i]?=some x):bt (uk l) i=xe x.1:=by
 have hi:i<l.length:=(wak.1 h).1;have h1:i<(uk l).size:=by rw[gJ];exact hi
 rw[zT h1,ByteArray.getElem_eq_getElem_data];have:l[i]=x:=(wak.1 h).2;simp[uk,this]
theorem UN(l:List Fr)(m f:Nat):(uk (l++ [(m,f)])).extract 0 l.length=uk l:=by
 apply ByteArray.ext;rw[cZ];have h:(uk l).data.size=l.length:=gJ l;rw[ByteArray.data_extract];have e:(uk l++⟨#[xe m]⟩:ByteArray).data=(uk l).data++ #[xe m]:=by simp
 rw[e,←h];simp
def qy(l:List Fr):List Value:=l.map λx=> .int .i64 (x.2:Int)
theorem Cb(l:List Fr):(qy l).length=l.length:=by simp[qy]
theorem Cc(l:List Fr):∀v∈qy l,v.oneCell'=true:=by
 intro v hv;obtain⟨s,_,rfl⟩:=List.mem_map.1 hv;rfl
theorem zhF(l:List Fr)(m f:Nat):qy (l++ [(m,f)])=qy l++ [.int .i64 (f:Int)]:=by simp[qy]
def Pw(w:World)(g cap:Nat)(l:List Fr):Prop:=
 ∃cs,zf w g cs 3/\l.length<=cap/\cap<=maxLen/\cs.size=cap/\cs.toList.take l.length=qy l
theorem Pw.lt{w:World}{g cap:Nat}{l:List Fr}(h:Pw w g cap l):g<w.heap.size:=by obtain⟨cs,h,_⟩:=h;exact h.lt
theorem Pw.le{w:World}{g cap:Nat}{l:List Fr}(h:Pw w g cap l):l.length<=cap:=by obtain⟨cs,_,h,_⟩:=h;exact h
theorem Pw.zh{p:Nat->Prop}{w w':World}{g cap:Nat}{l:List Fr}(h:Pw w g cap l)(hf:zg p w w')(hp:¬p g):Pw w' g cap l:=by
 obtain⟨cs,h1,h2⟩:=h;exact⟨cs,h1.zh hf hp,h2⟩
theorem Pw.below{w w':World}{g cap:Nat}{l:List Fr}(h:Pw w g cap l)(hb:Below w.heap.size w w'):Pw w' g cap l:=h.zh (zg.of_below (p:=λ_=>False) hb) (λh=>h)
theorem Pw.owns{w:World}{g cap:Nat}{l:List Fr}(h:Pw w g cap l):w.ownsRow 0 3 1 (.slice (some ⟨g,0,none⟩) l.length cap) l.length (qy l):=by
 obtain⟨cs,h1,h2,h3,h4,h5⟩:=h;exact⟨by rw[Cb,Nat.mul_one],.inr ⟨g,cap,cs,rfl,Nat.zero_le _,h1,h2,h3,by rw[Nat.mul_one];exact h4,by rw[Nat.mul_one];exact h5⟩⟩
theorem Pw.pK{w:World}{b:Nat}{g n cap:Nat}{l:List Fr}(h:w.ownsRow b 3 1 (.slice (some ⟨g,0,none⟩) n cap) n (qy l))(hn:n=l.length):Pw w g cap l:=by
 subst hn;rcases h.2 with⟨h0,h1⟩|⟨g',cap',cs,h1,h2,h3,h4,h5,h6,h7⟩
 ·cases h0
 ·cases h1
  exact⟨cs,h3,h4,h5,by rw[Nat.mul_one]at h6;exact h6,by rw[Nat.mul_one]at h7;exact h7⟩
theorem Pw.cell{w:World}{g cap:Nat}{l:List Fr}(h:Pw w g cap l){j:Nat}{x:Fr}(hj:l[j]?=some x):w.cell? ⟨g,j,none⟩=some (.int .i64 (x.2:Int)):=by
 obtain⟨cs,h1,h2,h3,h4,h5⟩:=h;have hl:j<l.length:=(wak.1 hj).1;have a:(qy l)[j]?=some (.int .i64 (x.2:Int)):=by unfold qy;rw[List.getElem?_map,hj];rfl
 rw[←h5,List.getElem?_take_of_lt (by omega)]at a;rw[h1.cell];simpa using a
theorem Pw.init{w:World}{g cap:Nat}{l k:List Fr}(h:Pw w g cap (l++k)):Pw w g cap l:=by
 obtain⟨cs,h1,h2,h3,h4,h5⟩:=h;simp at h2;refine⟨cs,h1,by omega,h3,h4,?_⟩;have h6:=congrArg (λx=>x.take l.length) h5;have e:qy (l++k)=qy l++qy k:=by simp[qy]
 simp only[List.take_take,e]at h6;rw[Nat.min_eq_left (by simp)]at h6;rw[h6,List.take_append_of_le_length (by rw[Cb];exact Nat.le_refl _),←Cb,List.take_length]
theorem Pw.places{w:World}{g cap:Nat}{l k:List Fr}(h:Pw w g cap l)(e:qy l=qy k):Pw w g cap k:=by
 have hl:l.length=k.length:=by have:=congrArg List.length e;simpa[qy]using this
 obtain⟨cs,h1,h2,h3,h4,h5⟩:=h;exact⟨cs,h1,by omega,h3,h4,by rw[←hl,h5,e]⟩
theorem La{ops:Array Oper}{o:Oper}{a:Act}{w:World}{K:Act->World->Prop}{Q:Exit->Act->World->Prop}{E:Prop}(hgd:o.guard=none)(s x:Operand)
 (ho:o.op=.call {callee:=.builtin .append,args:=#[s,x],argTypes:=#[39,39]})
 (v0:Value)(n0:Nat)(yI:List Value)(hs:a.eval s=v0)(hown:w.ownsRow 0 3 1 v0 n0 yI)(b n c:Nat)(news:List Value)
 (hx:a.eval x=.slice (some ⟨b,0,none⟩) n c)(hn:w.ownsRow 0 3 1 (.slice (some ⟨b,0,none⟩) n c) n news)(h1:∀u∈news,u.oneCell'=true)(hl:n0+n<=1000000)(h0:0<n)(nn:Nat)(hnn:n0+n=nn)
 (h:∀g' c' w',w'.ownsRow 0 3 1 (.slice (some ⟨g',0,none⟩) nn c') nn (yI++news)->w.grownBy w' v0.ownBlock->(v0.ownBlock=some g'\/g'=w.heap.size)->K (a.put o.dst (.slice (some ⟨g',0,none⟩) nn c')) w'):
  if Region.wanted o (yielded ops a.tmps)=true then Oper.wp prog o a w K Q else E:=by
 have hw:Region.wanted o (yielded ops a.tmps)=true:=by simp[Region.wanted,hgd]
 rw[if_pos hw];subst hnn;have hi3:(prog.info? 3).map (λi=>(i.zero,i.size,i.bytes))=some (some (.int .i64 0),1,8):=by kernel_rfl
 obtain⟨i,hi,hz,hsize,hby⟩:=info_parts hi3;obtain⟨v',w',hr',h2,h3,h4,h5⟩:=run_append_own_at (P:=prog) w 0 39 o.type 3 i _ 1 8 underlying39 hi hz hsize hby rfl (by omega) _ n0 yI hown ⟨b,0,none⟩ n c news (by have:=hn.1;omega) (λj u hj=>hn.cells (g:=b) rfl j u hj)
  h1 (by unfold maxLen;omega) (by omega) (Nat.zero_le _)
 unfold Oper.wp execOp;simp only[ho,resolve,invoke,builtin,Sem.run_bind,Sem.run_pure,Result.andThen_ok,List.map_toArray,List.map_cons,List.map_nil,hs,hx,hr'];rcases h2.2 with⟨hv,hn2⟩|⟨g',c',cur,hv,h6⟩
 ·omega
 ·subst hv
  refine h g' c' w' h2 h3 ?_;rcases h5 with h5|h5
  ·exact .inl h5.symm
  ·exact .inr (by simpa[Value.ownBlock]using h5)
section
variable(w:World)
theorem zfb(S:ByteArray)(g n cap:Nat)(f1 f2:Bool):
  Calls prog 136 #[.agg #[.string S,.slice (some ⟨g,0,none⟩) n cap,.bool f1],.bool f2] w λe w'=>e=.returned (.agg #[.string S,.slice (some ⟨g,0,none⟩) n cap,.bool f2])/\Below w.heap.size w w':=by
 go_enter func136,ntmps136;go_wp2;refine bodyPost_ret (v:=.agg #[.string S,.slice (some ⟨g,0,none⟩) n cap,.bool f2]) (by simp[results,results136,go_sem, *]) rfl ?_;exact⟨rfl,((Below.refl w.heap.size w).alloc (Nat.le_refl _) _).alloc (by simp) _⟩
end
section
variable(w:World)
theorem ze9(l:List Fr)(m f g cap:Nat)(fr:Bool)(hP:Pw w g cap (l++ [(m,f)]))(hl:l.length<=100000):
  Calls prog 138 #[.agg #[.string (uk (l++ [(m,f)])),.slice (some ⟨g,0,none⟩) (l.length+1) cap,.bool fr]] w λe w'=>e=.returned (.agg #[.string (uk l),.slice (some ⟨g,0,none⟩) l.length cap,.bool fr])/\Below w.heap.size w w':=by
 have hle:=hP.le;simp at hle;have hsz:(uk (l++ [(m,f)])).size=l.length+1:=by rw[gJ];simp
 have hpop:=UN l m f;obtain⟨S,hS⟩:∃S,uk (l++ [(m,f)])=S:=⟨_,rfl⟩;obtain⟨S2,hS2⟩:∃S2,uk l=S2:=⟨_,rfl⟩;obtain⟨n,hn⟩:∃n,l.length=n:=⟨_,rfl⟩;rw[hS]at hsz hpop ⊢;rw[hS2]at hpop ⊢;rw[hn]at hsz hpop hle hl ⊢;obtain⟨z,hz⟩:∃z,S.size=z:=⟨_,rfl⟩;have e1:IntKind.i64.wrap ((S.size:Int)-1)=(n:Int):=by rw[IntWalk.i64_in _ (by omega)];omega
 have q0:(0:Int)<=(n:Int):=by omega
 have q1:(n:Int)<=(S.size:Int):=by omega
 have q2:(n:Int)<=(cap:Int):=by omega
 have q3:(n:Int)<=(n:Int)+1:=by omega
 have HZ:=hid hsz;have HP2:=hid hpop;clear hS hS2 hn hsz hz hpop hP;go_enter func138,ntmps138;go_wp2
 go_region
 all_goals
  go_wp2;refine bodyPost_ret (v:=.agg #[.string S2,.slice (some ⟨g,0,none⟩) n cap,.bool fr]) (by simp[results,results138,go_sem, *];rw[HP2.out]) rfl ?_;exact⟨rfl,(((Below.refl w.heap.size w).alloc (Nat.le_refl _) _).alloc (by simp) _).drew⟩
theorem zfa(l:List Fr)(m f m2 g cap:Nat)(fr:Bool)(c:ByteArray)(hc:Hid (c=⟨#[xe m2]⟩))(hl:l.length<=100000)(n:Nat):
  Calls prog 137 #[.agg #[.string (uk (l++ [(m,f)])),.slice (some ⟨g,0,none⟩) n cap,.bool fr],.string c] w λe w'=>e=.returned (.agg #[.string (uk (l++ [(m2,f)])),.slice (some ⟨g,0,none⟩) n cap,.bool fr])/\Below w.heap.size w w':=by
 have hsz:(uk (l++ [(m,f)])).size=l.length+1:=by rw[gJ];simp
 have hpop:=UN l m f;have hcs:c.size=1:=by rw[hc.out];rfl
 rw[cZ l m2 f,←hc.out];obtain⟨S,hS⟩:∃S,uk (l++ [(m,f)])=S:=⟨_,rfl⟩;have hs2:=gJ l;obtain⟨S2,hS2⟩:∃S2,uk l=S2:=⟨_,rfl⟩;obtain⟨k,hk⟩:∃k,l.length=k:=⟨_,rfl⟩;rw[hS]at hsz hpop ⊢;rw[hS2]at hpop hs2 ⊢;rw[hk]at hsz hpop hl hs2;have e1:IntKind.i64.wrap ((S.size:Int)-1)=(k:Int):=by rw[IntWalk.i64_in _ (by omega)];omega
 have q0:(0:Int)<=(k:Int):=by omega
 have q1:(k:Int)<=(S.size:Int):=by omega
 have hnb:¬(S.extract 0 k).size+c.size>9223372036854775807:=by rw[hpop,hs2];omega
 have HZ:=hid hsz;have HP2:=hid hpop;clear hS hS2 hk hsz hpop hcs hs2;go_enter func137,ntmps137;go_wp2
 go_region
 all_goals
  go_wp2;refine bodyPost_ret (v:=.agg #[.string (S2++c),.slice (some ⟨g,0,none⟩) n cap,.bool fr]) (by simp[results,results137,go_sem, *];rw[HP2.out]) rfl ?_;exact⟨rfl,(((Below.refl w.heap.size w).alloc (Nat.le_refl _) _).alloc (by simp) _).drew⟩
theorem QU:Calls prog 171 #[.int .u8 92] w λe w'=>e=.returned (.string ⟨#[88]⟩)/\w'=w:=by
 go_enter func171,ntmps171;go_wp2;go_ret;exact⟨rfl,rfl⟩
theorem JF:Calls prog 171 #[.int .u8 36] w λe w'=>e=.returned (.string ⟨#[76]⟩)/\w'=w:=by
 go_enter func171,ntmps171;go_wp2;go_ret;exact⟨rfl,rfl⟩
theorem JE:Calls prog 171 #[.int .u8 96] w λe w'=>e=.returned (.string ⟨#[66]⟩)/\w'=w:=by
 go_enter func171,ntmps171;go_wp2;go_ret;exact⟨rfl,rfl⟩
theorem Y9(b:Nat)(t1:((b:Int)==92)=false)(t2:((b:Int)==36)=false)(t3:((b:Int)==96)=false):Calls prog 171 #[.int .u8 b] w λe w'=>e=.returned (.string ⟨#[]⟩)/\w'=w:=by
 go_enter func171,ntmps171;go_wp2;go_ret;exact⟨rfl,rfl⟩
theorem zfc:Calls prog 112 #[] w λe w'=>(∃g cap,e=.returned (.agg #[.string (uk [(0,0)]),.slice (some ⟨g,0,none⟩) 1 cap,.bool true])/\Pw w' g cap [(0,0)]/\w.heap.size<=g)/\Below w.heap.size w w':=by
 go_enter func112,ntmps112;go_wp2;refine bodyPost_ret (v:=.agg #[.string ⟨#[84]⟩,.slice (some ⟨w.heap.size+1,0,none⟩) 1 1,.bool true]) (by simp[results,results112,go_sem, *]) rfl ?_;refine⟨⟨w.heap.size+1,1,rfl,?_,by omega⟩,((Below.refl w.heap.size w).alloc (Nat.le_refl _) _).alloc (by simp) _⟩;refine⟨#[.int .i64 0],?_,Nat.le_refl _,by unfold maxLen;omega,rfl,rfl⟩;have:=zf.new (w.alloc (.cells #[.string ⟨#[84]⟩,.slice (some ⟨w.heap.size+1,0,none⟩) 1 1,.bool true] 112)) #[.int .i64 0] 3;rw[World.size_alloc]at this;exact this
end
open _root_.Nat renaming le_refl->waa,zero_le->wab
open _root_.Go.World renaming size_alloc->waf
open _root_.And renaming intro->wah
section
variable(w:World)
theorem ze8(l:List Fr)(m p g cap:Nat)(fr:Bool)(c:ByteArray)(hc:Hid (c=⟨#[xe m]⟩))(hP:Pw w g cap l)(hl:l.length<=100000)(h0:0<l.length):
  Calls prog 170 #[.agg #[.string (uk l),.slice (some ⟨g,0,none⟩) l.length cap,.bool fr],.string c,.int .i64 (p:Int)] w λe w'=>(∃g' cap',e=.returned (.agg #[.string (uk (l++ [(m,p)])),.slice (some ⟨g',0,none⟩) (l.length+1) cap',.bool fr])/\Pw w' g' cap' (l++ [(m,p)])/\w.heap.size<=g')/\Below w.heap.size w w':=by
 have hsz:=gJ l;have hcs:c.size=1:=by rw[hc.out];rfl
 rw[cZ,←hc.out];obtain⟨S,hS⟩:∃S,uk l=S:=⟨_,rfl⟩;rw[hS]at hsz ⊢;have hnb:¬S.size+c.size>9223372036854775807:=by omega
 obtain⟨n,hn⟩:∃n,l.length=n:=⟨_,rfl⟩;have hR:∀X,Below w.heap.size w X->X.ownsRow 0 3 1 (.slice (some ⟨g,0,none⟩) n cap) n (qy l):=λX hX=>by rw[←hn];exact(hP.below hX).owns
 rw[hn]at hl h0 hsz ⊢;have HN:=Lib.hid hn;have HS:=Lib.hid hsz;clear hS hsz hn hcs;go_enter func170,ntmps170;go_wp2;have hA3:∀A B C s t,zf ((((w.alloc (.cells A s)).alloc (.cells B t)).alloc C).drew) w.heap.size A s:=λA B C s t=>(((zf.new w A s).alloc _).alloc C).drew;have hB3:∀A B C s t,zf ((((w.alloc (.cells A s)).alloc (.cells B t)).alloc C).drew) (w.heap.size+1) B t:=λA B C s t=>by
  have:=zf.new (w.alloc (.cells A s)) B t;rw[waf]at this;exact(this.alloc C).drew
 have dG:∀A B C u,zf ((((w.alloc A).alloc B).alloc (.cells C u)).drew) (w.heap.size+1+1) C u:=λA B C u=>by
  have:=zf.new ((w.alloc A).alloc B) C u;rw[waf,waf]at this;exact this.drew
 have hW3:∀A B C,Below w.heap.size w ((((w.alloc A).alloc B).alloc C).drew):=λA B C=>((((Below.refl w.heap.size w).alloc (waa _) _).alloc (by simp) _).alloc (by simp;omega) _).drew;have hS3:∀A B C,((((w.alloc A).alloc B).alloc C).drew).heap.size=w.heap.size+3:=λA B C=>by
  show(((w.alloc A).alloc B).alloc C).heap.size=_;rw[waf,waf,waf]
 have UO:∀A B C D s t,zf (((((w.alloc (.cells A s)).alloc (.cells B t)).alloc C).alloc D).drew) w.heap.size A s:=λA B C D s t=>((((zf.new w A s).alloc _).alloc C).alloc D).drew;have hB4:∀A B C D s t,zf (((((w.alloc (.cells A s)).alloc (.cells B t)).alloc C).alloc D).drew) (w.heap.size+1) B t:=λA B C D s t=>((hB3 A B C s t).alloc D);have UQ:∀A B C D u,zf (((((w.alloc A).alloc B).alloc (.cells C u)).alloc D).drew) (w.heap.size+1+1) C u:=λA B C D u=>((dG A B C u).alloc D);have hD4:∀A B C D u,zf (((((w.alloc A).alloc B).alloc C).alloc (.cells D u)).drew) (w.heap.size+1+1+1) D u:=λA B C D u=>by
  have:=zf.new (((w.alloc A).alloc B).alloc C) D u;rw[waf,waf,waf]at this;exact this.drew
 have pV:∀A B C D,Below w.heap.size w (((((w.alloc A).alloc B).alloc C).alloc D).drew):=λA B C D=>(((((Below.refl w.heap.size w).alloc (waa _) _).alloc (by simp) _).alloc (by simp;omega) _).alloc (by simp;omega) _).drew;have hS4:∀A B C D,(((((w.alloc A).alloc B).alloc C).alloc D).drew).heap.size=w.heap.size+4:=λA B C D=>by
  show((((w.alloc A).alloc B).alloc C).alloc D).heap.size=_;rw[waf,waf,waf,waf]
 go_region_held_law (λw'=>w'.cell? ⟨w.heap.size,0,none⟩=some (.string S)/\w'.cell? ⟨w.heap.size,1,none⟩=some (.slice (some ⟨g,0,none⟩) n cap)/\w'.cell? ⟨w.heap.size,2,none⟩=some (.bool fr)) (first|exact lL|exact lM _|exact MP|go_keep) (first
  |(refine La (by rfl) _ _ (by rfl) (.slice (some ⟨w.heap.size+1+1,0,none⟩) 0 0) 0 [] (by rfl) ⟨rfl,.inr ⟨_,0,_,rfl,wab _,(dG _ _ _ _),waa _,by unfold maxLen;omega,rfl,rfl⟩⟩ g n cap (qy l) (by rfl) (hR _ (hW3 _ _ _)) (Cc l) (by omega) h0 n (Nat.zero_add n) ?_;intro g1 c1 w1 hown1 uy hg1;have hA1:=(hA3 #[.string S,.slice (some ⟨g,0,none⟩) n cap,.bool fr] #[.string ⟨#[]⟩,.slice none 0 0,.bool false] (.cells #[] 3) 112 112).grown uy (by simp[Value.ownBlock]<;>omega);have hB1:=(hB3 #[.string S,.slice (some ⟨g,0,none⟩) n cap,.bool fr] #[.string ⟨#[]⟩,.slice none 0 0,.bool false] (.cells #[] 3) 112 112).grown uy (by simp[Value.ownBlock]<;>omega);have lL:=(wah (hA1.cell 0) (wah (hA1.cell 1) (hA1.cell 2)));have lM:=(λo=>wah ((hA1.alloc o).cell 0) (wah ((hA1.alloc o).cell 1) ((hA1.alloc o).cell 2)));have hL1:=(hW3 _ _ _:Below w.heap.size w _).grown uy (by rw[hS3];omega) (by intro k hk;simp[Value.ownBlock]at hk;omega);have hsz1:=uy.size;rw[hS3]at hsz1 hg1;have UR:g1=w.heap.size+1+1\/g1=w.heap.size+3:=(hg1.imp (λh=>by simpa[Value.ownBlock]using h.symm) id);clear hg1;have UT:w.heap.size+2<=g1:=(by omega);have hn1:¬w1.heap.size=w.heap.size:=(by omega);have hn2:¬w1.heap.size=w.heap.size+1:=(by omega))
  |(refine La (by rfl) _ _ (by rfl) (.slice (some ⟨w.heap.size+1+1,0,none⟩) 0 0) 0 [] (by rfl) ⟨rfl,.inr ⟨_,0,_,rfl,wab _,(UQ _ _ _ _ _),waa _,by unfold maxLen;omega,rfl,rfl⟩⟩ g n cap (qy l) (by rfl) (hR _ (pV _ _ _ _)) (Cc l) (by omega) h0 n (Nat.zero_add n) ?_;intro g1 c1 w1 hown1 uy hg1;have hA1:=(UO #[.string S,.slice (some ⟨g,0,none⟩) n cap,.bool fr] #[.string ⟨#[]⟩,.slice none 0 0,.bool false] (.cells #[] 3) (.cells #[.int .i64 (p:Int)] 3) 112 112).grown uy (by simp[Value.ownBlock]<;>omega);have hB1:=(hB4 #[.string S,.slice (some ⟨g,0,none⟩) n cap,.bool fr] #[.string ⟨#[]⟩,.slice none 0 0,.bool false] (.cells #[] 3) (.cells #[.int .i64 (p:Int)] 3) 112 112).grown uy (by simp[Value.ownBlock]<;>omega);have hP1:=(hD4 (.cells #[.string S,.slice (some ⟨g,0,none⟩) n cap,.bool fr] 112) (.cells #[.string ⟨#[]⟩,.slice none 0 0,.bool false] 112) (.cells #[] 3) #[.int .i64 (p:Int)] 3).grown uy (by simp[Value.ownBlock]<;>omega);have lL:=(wah (hA1.cell 0) (wah (hA1.cell 1) (hA1.cell 2)));have lM:=(λo=>wah ((hA1.alloc o).cell 0) (wah ((hA1.alloc o).cell 1) ((hA1.alloc o).cell 2)));have hL1:=(pV _ _ _ _:Below w.heap.size w _).grown uy (by rw[hS4];omega) (by intro k hk;simp[Value.ownBlock]at hk;omega);have hsz1:=uy.size;rw[hS4]at hsz1 hg1;have UR:g1=w.heap.size+1+1\/g1=w.heap.size+4:=(hg1.imp (λh=>by simpa[Value.ownBlock]using h.symm) id);clear hg1;have UT:w.heap.size+2<=g1:=(by omega);have hn1:¬w1.heap.size=w.heap.size:=(by omega);have hn2:¬w1.heap.size=w.heap.size+1:=(by omega))
  |(refine La (by rfl) _ _ (by rfl) (.slice (some ⟨w.heap.size+1+1+1,0,none⟩) 0 0) 0 [] (by rfl) ⟨rfl,.inr ⟨_,0,_,rfl,wab _,(hD4 _ _ _ _ _),waa _,by unfold maxLen;omega,rfl,rfl⟩⟩ g n cap (qy l) (by rfl) (hR _ (pV _ _ _ _)) (Cc l) (by omega) h0 n (Nat.zero_add n) ?_;intro g1 c1 w1 hown1 uy hg1;have hA1:=(UO #[.string S,.slice (some ⟨g,0,none⟩) n cap,.bool fr] #[.string ⟨#[]⟩,.slice none 0 0,.bool false] (.cells #[.int .i64 (p:Int)] 3) (.cells #[] 3) 112 112).grown uy (by simp[Value.ownBlock]<;>omega);have hB1:=(hB4 #[.string S,.slice (some ⟨g,0,none⟩) n cap,.bool fr] #[.string ⟨#[]⟩,.slice none 0 0,.bool false] (.cells #[.int .i64 (p:Int)] 3) (.cells #[] 3) 112 112).grown uy (by simp[Value.ownBlock]<;>omega);have hP1:=(UQ (.cells #[.string S,.slice (some ⟨g,0,none⟩) n cap,.bool fr] 112) (.cells #[.string ⟨#[]⟩,.slice none 0 0,.bool false] 112) #[.int .i64 (p:Int)] (.cells #[] 3) 3).grown uy (by simp[Value.ownBlock]<;>omega);have lL:=(wah (hA1.cell 0) (wah (hA1.cell 1) (hA1.cell 2)));have lM:=(λo=>wah ((hA1.alloc o).cell 0) (wah ((hA1.alloc o).cell 1) ((hA1.alloc o).cell 2)));have hL1:=(pV _ _ _ _:Below w.heap.size w _).grown uy (by rw[hS4];omega) (by intro k hk;simp[Value.ownBlock]at hk;omega);have hsz1:=uy.size;rw[hS4]at hsz1 hg1;have UR:g1=w.heap.size+1+1+1\/g1=w.heap.size+4:=(hg1.imp (λh=>by simpa[Value.ownBlock]using h.symm) id);clear hg1;have UT:w.heap.size+2<=g1:=(by omega);have hn1:¬w1.heap.size=w.heap.size:=(by omega);have hn2:¬w1.heap.size=w.heap.size+1:=(by omega))
  |(refine La (by rfl) _ _ (by rfl) (.slice (some ⟨g1,0,none⟩) n c1) n (qy l) (by rfl) (uh hown1 ((Below.refl w1.heap.size w1).alloc (waa _) _)) w1.heap.size 1 1 [.int .i64 (p:Int)] (by rfl) ⟨rfl,.inr ⟨w1.heap.size,1,_,rfl,wab _,zf.new w1 _ _,waa _,by unfold maxLen;omega,rfl,rfl⟩⟩ (by intro u hu;simp at hu;subst hu;rfl) (by omega) (by omega) (n+1) rfl ?_;intro g2 c2 w2 hown2 YC hg2;have zhG:w.heap.size+2<=g2:=(hg2.elim (λh=>by simp[Value.ownBlock]at h;omega) (λh=>by rw[h];first|(rw[waf];omega)|omega));have hA2:=(hA1.alloc (.cells #[.int .i64 (p:Int)] 3)).grown YC (by simp[Value.ownBlock]<;>omega);have hB2:=(hB1.alloc (.cells #[.int .i64 (p:Int)] 3)).grown YC (by simp[Value.ownBlock]<;>omega);have hL2:=(hL1.alloc (by omega) (.cells #[.int .i64 (p:Int)] 3)).grown YC (by simp;omega) (by intro k hk;simp[Value.ownBlock]at hk;omega);have MP:=(wah (hA2.cell 0) (wah (hA2.cell 1) (hA2.cell 2)));have r0:w2.cell? ⟨w.heap.size+1,0,none⟩=some (.string ⟨#[]⟩):=hB2.cell 0;have r1:w2.cell? ⟨w.heap.size+1,1,none⟩=some (.slice none 0 0):=hB2.cell 1;have r2:w2.cell? ⟨w.heap.size+1,2,none⟩=some (.bool false):=hB2.cell 2;have YE:=hB2.frozen 0;have YF:=hB2.frozen 1;have YG:=hB2.frozen 2)
  |(refine La (by rfl) _ _ (by rfl) (.slice (some ⟨g1,0,none⟩) n c1) n (qy l) (by rfl) hown1 _ 1 1 [.int .i64 (p:Int)] (by rfl) ⟨rfl,.inr ⟨_,1,_,rfl,wab _,hP1,waa _,by unfold maxLen;omega,rfl,rfl⟩⟩ (by intro u hu;simp at hu;subst hu;rfl) (by omega) (by omega) (n+1) rfl ?_;intro g2 c2 w2 hown2 YC hg2;have zhG:w.heap.size+2<=g2:=(hg2.elim (λh=>by simp[Value.ownBlock]at h;omega) (λh=>by rw[h];first|(rw[waf];omega)|omega));have hA2:=(hA1).grown YC (by simp[Value.ownBlock]<;>omega);have hB2:=(hB1).grown YC (by simp[Value.ownBlock]<;>omega);have hL2:=hL1.grown YC (by omega) (by intro k hk;simp[Value.ownBlock]at hk;omega);have MP:=(wah (hA2.cell 0) (wah (hA2.cell 1) (hA2.cell 2)));have r0:w2.cell? ⟨w.heap.size+1,0,none⟩=some (.string ⟨#[]⟩):=hB2.cell 0;have r1:w2.cell? ⟨w.heap.size+1,1,none⟩=some (.slice none 0 0):=hB2.cell 1;have r2:w2.cell? ⟨w.heap.size+1,2,none⟩=some (.bool false):=hB2.cell 2;have YE:=hB2.frozen 0;have YF:=hB2.frozen 1;have YG:=hB2.frozen 2))
 all_goals
  go_wp2;refine bodyPost_ret (v:=.agg #[.string (S++c),.slice (some ⟨g2,0,none⟩) (n+1) c2,.bool fr]) (by simp[results,results170,go_sem, *]) rfl ?_;have hq:Pw w2 g2 c2 (l++ [(m,p)]):=Pw.pK (by rw[zhF];exact hown2) (by simp[HN.out]);refine⟨⟨g2,c2,rfl,hq.zh (((zg.put (zg.refl _ w2) 0 _).put 1 _).put 2 _) (by show ¬g2=w.heap.size+1;omega),by omega⟩,?_⟩;exact((hL2.setCell (p:=⟨w.heap.size+1,0,none⟩) (by simp) _).setCell (p:=⟨w.heap.size+1,1,none⟩) (by simp) _).setCell (p:=⟨w.heap.size+1,2,none⟩) (by simp) _
end
theorem zy(w:World)(o o':Obj):Below w.heap.size w ((w.alloc o).alloc o'):=((Below.refl w.heap.size w).alloc (Nat.le_refl _) o).alloc (by simp) o'
theorem Bo(w:World)(o:Obj)(cs:Array Value)(t:TypeId):zf ((w.alloc o).alloc (.cells cs t)) (w.heap.size+1) cs t:=by
 have:=zf.new (w.alloc o) cs t
 rwa [World.size_alloc]at this
theorem Bq(w:World)(o o':Obj):((w.alloc o).alloc o').heap.size=w.heap.size+2:=by rw[World.size_alloc,World.size_alloc]
structure Rv(w:World)(st:List Fr)(S:ByteArray)(g n cap:Nat):Prop where
 s:S=uk st.reverse
 n:n=st.length
 p:Pw w g cap st.reverse
theorem Rv.below{w w':World}{st:List Fr}{S:ByteArray}{g n cap:Nat}(h:Rv w st S g n cap)(hb:Below w.heap.size w w'):Rv w' st S g n cap:=⟨h.s,h.n,h.p.below hb⟩
theorem Rv.zh{p:Nat->Prop}{w w':World}{st:List Fr}{S:ByteArray}{g n cap:Nat}(h:Rv w st S g n cap)(hf:zg p w w')(hp:¬p g):Rv w' st S g n cap:=⟨h.s,h.n,h.p.zh hf hp⟩
theorem Rv.lt{w:World}{st:List Fr}{S:ByteArray}{g n cap:Nat}(h:Rv w st S g n cap):g<w.heap.size:=h.p.lt
theorem Rv.size{w:World}{st:List Fr}{S:ByteArray}{g n cap:Nat}(h:Rv w st S g n cap):S.size=st.length:=by rw[h.s,gJ,List.length_reverse]
theorem Rv.top{w:World}{m f:Nat}{r:List Fr}{S:ByteArray}{g n cap:Nat}(h:Rv w ((m,f)::r) S g n cap):bt S r.length=xe m:=by
 rw[h.s];exact pF (x:=(m,f)) (by simp)
theorem Rv.next{w:World}{m f m2 f2:Nat}{r:List Fr}{S:ByteArray}{g n cap:Nat}(h:Rv w ((m,f)::(m2,f2)::r) S g n cap):bt S r.length=xe m2:=by
 rw[h.s];exact pF (x:=(m2,f2)) (by simp)
def zI(w:World)(g0:Nat)(st:List Fr)(fr:Bool)(e:Ending)(w':World):Prop:=
 ∃S g n cap,e=.returned (.agg #[.string S,.slice (some ⟨g,0,none⟩) n cap,.bool fr])/\Rv w' st S g n cap/\Below w.heap.size w w'/\(g=g0\/w.heap.size<=g)
section
variable(w:World)(st:List Fr)(S:ByteArray)(g n cap:Nat)(fr:Bool)
theorem jB(m p:Nat)(c:ByteArray)(hc:c=⟨#[xe m]⟩)(hR:Rv w st S g n cap)(hl:st.length<=100000)(h0:0<st.length):
  Calls prog 170 #[.agg #[.string S,.slice (some ⟨g,0,none⟩) n cap,.bool fr],.string c,.int .i64 (p:Int)] w (zI w g ((m,p)::st) fr):=by
 have h:=ze8 w st.reverse m p g cap fr c (Lib.hid hc) hR.p (by simpa using hl) (by simpa using h0);rw[←hR.s,List.length_reverse,←hR.n]at h;refine h.mono ?_;rintro e w' ⟨⟨g',cap',rfl,hP,hg⟩,hb⟩;refine⟨_,g',n+1,cap',rfl,⟨by rw[List.reverse_cons],by rw[hR.n];rfl,by rw[List.reverse_cons];exact hP⟩,hb,.inr hg⟩
theorem Vh(m f:Nat)(hR:Rv w ((m,f)::st) S g n cap)(hl:st.length<=100000):
  Calls prog 138 #[.agg #[.string S,.slice (some ⟨g,0,none⟩) n cap,.bool fr]] w (zI w g st fr):=by
 have hp:=hR.p;rw[List.reverse_cons]at hp;have h:=ze9 w st.reverse m f g cap fr hp (by simpa using hl);rw[←List.reverse_cons,←hR.s,List.length_reverse]at h;have e:n=st.length+1:=hR.n;rw[←e]at h;refine h.mono ?_;rintro e w' ⟨rfl,hb⟩;exact⟨_,g,_,cap,rfl,⟨rfl,rfl,hp.init.below hb⟩,hb,.inl rfl⟩
theorem wC(m f m2:Nat)(c:ByteArray)(hc:c=⟨#[xe m2]⟩)(hR:Rv w ((m,f)::st) S g n cap)(hl:st.length<=100000):
  Calls prog 137 #[.agg #[.string S,.slice (some ⟨g,0,none⟩) n cap,.bool fr],.string c] w (zI w g ((m2,f)::st) fr):=by
 have h:=zfa w st.reverse m f m2 g cap fr c (Lib.hid hc) (by simpa using hl) n;rw[←List.reverse_cons,←List.reverse_cons,←hR.s]at h;refine h.mono ?_;rintro e w' ⟨rfl,hb⟩;refine⟨_,g,n,cap,rfl,⟨rfl,hR.n,?_⟩,hb,.inl rfl⟩;exact(hR.p.below hb).places (by simp[qy])
theorem Y8(f2:Bool)(hR:Rv w st S g n cap):
  Calls prog 136 #[.agg #[.string S,.slice (some ⟨g,0,none⟩) n cap,.bool fr],.bool f2] w (zI w g st f2):=
 (zfb w S g n cap fr f2).mono λe w' ⟨he,hb⟩=>⟨S,g,n,cap,he,hR.below hb,hb,.inl rfl⟩
theorem Bv:Calls prog 112 #[] w (zI w w.heap.size Ms.start.st true):=
 (zfc w).mono λe w' ⟨⟨g,cap,he,hP,hg⟩,hb⟩=>⟨_,g,1,cap,he,⟨rfl,rfl,hP⟩,hb,.inr hg⟩
theorem gK{w w3:World}{st:List Fr}{S:ByteArray}{g n cap g0:Nat}{fr:Bool}(hR:Rv w3 st S g n cap)(hb:Below w.heap.size w w3)(B:Nat)(hB:w.heap.size<=B)(hg:g≠B)(hg0:g=g0\/w.heap.size<=g)(v0 v1 v2:Value):
  zI w g0 st fr (.returned (.agg #[.string S,.slice (some ⟨g,0,none⟩) n cap,.bool fr])) (((w3.setCell ⟨B,0,none⟩ v0).setCell ⟨B,1,none⟩ v1).setCell ⟨B,2,none⟩ v2):=
 ⟨S,g,n,cap,rfl,hR.zh (((zg.put (zg.refl _ w3) 0 v0).put 1 v1).put 2 v2) hg,((hb.setCell (p:=⟨B,0,none⟩) hB _).setCell (p:=⟨B,1,none⟩) hB _).setCell (p:=⟨B,2,none⟩) hB _,hg0⟩
theorem BA{W:World}{b:Nat}{x y z:Value}{T:TypeId}(h:zf W b #[x,y,z] T):W.cell? ⟨b,0,none⟩=some x/\W.cell? ⟨b,1,none⟩=some y/\W.cell? ⟨b,2,none⟩=some z/\W.frozen? ⟨b,0,none⟩=false/\W.frozen? ⟨b,1,none⟩=false/\W.frozen? ⟨b,2,none⟩=false:=⟨h.cell 0,h.cell 1,h.cell 2,h.frozen 0,h.frozen 1,h.frozen 2⟩
theorem qU{X W:World}{b:Nat}{x y z:Value}{T:TypeId}(h:zf X b #[x,y,z] T)(hb:Below X.heap.size X W):zf W b #[x,y,z] T/\W.cell? ⟨b,0,none⟩=some x/\W.cell? ⟨b,1,none⟩=some y/\W.cell? ⟨b,2,none⟩=some z/\W.frozen? ⟨b,0,none⟩=false/\W.frozen? ⟨b,1,none⟩=false/\W.frozen? ⟨b,2,none⟩=false:=⟨h.below hb,BA (h.below hb)⟩
theorem vF{w W:World}{o:Obj}{x y z:Value}{T:TypeId}{g g0:Nat}(hb:Below ((w.alloc o).alloc (.cells #[x,y,z] T)).heap.size ((w.alloc o).alloc (.cells #[x,y,z] T)) W)(hg:g=g0\/((w.alloc o).alloc (.cells #[x,y,z] T)).heap.size<=g):w.heap.size+2<=W.heap.size/\(g=g0\/w.heap.size+2<=g)/\zf W (w.heap.size+1) #[x,y,z] T/\W.cell? ⟨w.heap.size+1,0,none⟩=some x/\W.cell? ⟨w.heap.size+1,1,none⟩=some y/\W.cell? ⟨w.heap.size+1,2,none⟩=some z/\W.frozen? ⟨w.heap.size+1,0,none⟩=false/\W.frozen? ⟨w.heap.size+1,1,none⟩=false/\W.frozen? ⟨w.heap.size+1,2,none⟩=false:=by
 have hs:=hb.size;rw[Bq]at hs hg;exact⟨hs,hg,qU (Bo w o #[x,y,z] T) hb⟩
theorem ZM{w W:World}{o:Obj}{x y z:Value}{T:TypeId}{g g0:Nat}(hb:Below ((w.alloc o).alloc (.cells #[x,y,z] T)).drew.heap.size ((w.alloc o).alloc (.cells #[x,y,z] T)).drew W)(hg:g=g0\/((w.alloc o).alloc (.cells #[x,y,z] T)).drew.heap.size<=g):w.heap.size+2<=W.heap.size/\(g=g0\/w.heap.size+2<=g)/\zf W (w.heap.size+1) #[x,y,z] T/\W.cell? ⟨w.heap.size+1,0,none⟩=some x/\W.cell? ⟨w.heap.size+1,1,none⟩=some y/\W.cell? ⟨w.heap.size+1,2,none⟩=some z/\W.frozen? ⟨w.heap.size+1,0,none⟩=false/\W.frozen? ⟨w.heap.size+1,1,none⟩=false/\W.frozen? ⟨w.heap.size+1,2,none⟩=false:=by
 have hs:=hb.size;rw[show((w.alloc o).alloc (.cells #[x,y,z] T)).drew.heap.size=w.heap.size+2 from Bq w _ _]at hs hg;exact⟨hs,hg,qU (Bo w o #[x,y,z] T).drew hb⟩
theorem wE{w X W:World}(h:Below w.heap.size w X)(hb:Below X.heap.size X W):Below w.heap.size w W:=h.trans (hb.mono h.size)
theorem xQ{w X W:World}{st:List Fr}{S:ByteArray}{g n cap g0:Nat}{fr:Bool}{v0 v1 v2:Value}(h:Below w.heap.size w X)(hR:Rv W st S g n cap)(hb:Below X.heap.size X W)(hg:g=g0\/w.heap.size+2<=g)(hl:g0<w.heap.size):
  zI w g0 st fr (.returned (.agg #[.string S,.slice (some ⟨g,0,none⟩) n cap,.bool fr])) (((W.setCell ⟨w.heap.size+1,0,none⟩ v0).setCell ⟨w.heap.size+1,1,none⟩ v1).setCell ⟨w.heap.size+1,2,none⟩ v2):=
 gK hR (wE h hb) (w.heap.size+1) (by omega) (by omega) (by omega) _ _ _
theorem JC{w X W V:World}{st:List Fr}{S:ByteArray}{g g1 n cap g0:Nat}{fr:Bool}{v0 v1 v2:Value}(h:Below w.heap.size w X)(hR:Rv V st S g n cap)(hb:Below X.heap.size X W)(hb2:Below W.heap.size W V)(hs:w.heap.size+2<=W.heap.size)(hg1:g1=g0\/w.heap.size+2<=g1)(hg:g=g1\/W.heap.size<=g)(hl:g0<w.heap.size):
  zI w g0 st fr (.returned (.agg #[.string S,.slice (some ⟨g,0,none⟩) n cap,.bool fr])) (((V.setCell ⟨w.heap.size+1,0,none⟩ v0).setCell ⟨w.heap.size+1,1,none⟩ v1).setCell ⟨w.heap.size+1,2,none⟩ v2):=
 gK hR ((wE h hb).trans (hb2.mono (by omega))) (w.heap.size+1) (by omega) (by omega) (by omega) _ _ _
theorem lT{w W:World}{st:List Fr}{S:ByteArray}{g n cap:Nat}{x y z x1 y1 z1:Value}{T:TypeId}(hY:zf W w.heap.size #[x,y,z] T)(hZ:zf W (w.heap.size+1) #[x1,y1,z1] T)(hR:Rv W st S g n cap)(hL:Below w.heap.size w W)(hg:g≠w.heap.size)(v0 v1 v2:Value):
  ∃V,((W.setCell ⟨w.heap.size,0,none⟩ v0).setCell ⟨w.heap.size,1,none⟩ v1).setCell ⟨w.heap.size,2,none⟩ v2=V/\zf V w.heap.size #[v0,v1,v2] T/\zf V (w.heap.size+1) #[x1,y1,z1] T/\Rv V st S g n cap/\Below w.heap.size w V/\V.heap.size=W.heap.size/\
   V.cell? ⟨w.heap.size,0,none⟩=some v0/\V.cell? ⟨w.heap.size,1,none⟩=some v1/\V.cell? ⟨w.heap.size,2,none⟩=some v2/\V.frozen? ⟨w.heap.size,0,none⟩=false/\V.frozen? ⟨w.heap.size,1,none⟩=false/\V.frozen? ⟨w.heap.size,2,none⟩=false/\
   V.cell? ⟨w.heap.size+1,0,none⟩=some x1/\V.cell? ⟨w.heap.size+1,1,none⟩=some y1/\V.cell? ⟨w.heap.size+1,2,none⟩=some z1/\V.frozen? ⟨w.heap.size+1,0,none⟩=false/\V.frozen? ⟨w.heap.size+1,1,none⟩=false/\V.frozen? ⟨w.heap.size+1,2,none⟩=false:=by
 have hU:=((hY.set 0 v0).set 1 v1).set 2 v2;have hV:=((hZ.other 0 v0 (by omega:w.heap.size+1≠w.heap.size)).other 1 v1 (by omega:w.heap.size+1≠w.heap.size)).other 2 v2 (by omega:w.heap.size+1≠w.heap.size);simp at hU;have hu:=BA hU;exact⟨_,rfl,hU,hV,hR.zh (((zg.put (zg.refl _ W) 0 v0).put 1 v1).put 2 v2) hg,((hL.setCell (p:=⟨w.heap.size,0,none⟩) (Nat.le_refl _) v0).setCell (p:=⟨w.heap.size,1,none⟩) (Nat.le_refl _) v1).setCell (p:=⟨w.heap.size,2,none⟩) (Nat.le_refl _) v2,by simp[World.setCell],hu.1,hu.2.1,hu.2.2.1,hu.2.2.2.1,hu.2.2.2.2.1,hu.2.2.2.2.2,BA hV⟩
end
end Go.Proofs.YtkolpaonccmgiaaGreatDoor
