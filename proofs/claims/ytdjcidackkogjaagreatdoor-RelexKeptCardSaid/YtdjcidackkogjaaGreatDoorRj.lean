/- What the leaf functions of layer 1 (edit) and the  -/
import Derived.Test.YtdjcidackkogjaaGreatDoorMdB
namespace Go.Proofs.YtdjcidackkogjaaGreatDoor
set_option linter.unusedSectionVars false
set_option linter.unusedVariables false
set_option maxHeartbeats 8000000
open Go.RowKit
theorem AL{w w1:World}(o:Obj)(h:Below (w.alloc o).heap.size (w.alloc o) w1):Below w.heap.size w w1:=
 ((Below.refl _ _).alloc (Nat.le_refl _) o).trans (h.mono (by simp))
theorem AO(s t:ByteArray)(w:World)(hs:s.size≤281474976710656)(ht:t.size≤281474976710656):
  Calls Tryz.prog 65 #[.string s,.string t] w λe w'=>e=.returned (.bool (Ko s t))∧w'=w:=by
 by_cases h:t.size≤s.size
 ·have hd:decide (t.size≤s.size)=true:=by simpa using h
  have hi:(t.size:Int)≤s.size:=by omega
  go_enter Tryz.func65,Tryz.ntmps65;go_wp2;go_ret;refine⟨?_,rfl⟩;show Ending.returned (Value.bool ((s.extract 0 t.size).toList==t.toList))=_;rw[jW];unfold Ko;simp[h]
 ·have hd:decide (t.size≤s.size)=false:=by simpa using h
  have hi:¬(t.size:Int)≤s.size:=by omega
  go_enter Tryz.func65,Tryz.ntmps65;go_wp2;go_ret;refine⟨?_,rfl⟩;show Ending.returned (Value.bool false)=_;unfold Ko;simp[h]
def Ri(z del ins:Int):Int:=if 1048576<z-del+ins then 2 else 0
theorem zh4(s:ByteArray)(a b:Int)(w:World)(hs:s.size≤281474976710656)(ha:0≤a)(ha':a≤281474976710656)(hb:0≤b)(hb':b≤281474976710656):
  Calls Tryz.prog 66 #[.string s,.int .i64 a,.int .i64 b] w λe w'=>e=.returned (.int .i64 (Ri s.size a b))∧w'=w:=by
 go_enter Tryz.func66,Tryz.ntmps66;go_wp2
 ·have h:1048576<(s.size:Int)-a+b:=by assumption
  go_ret;exact⟨uf (by unfold Ri;rw[if_pos h]),rfl⟩
 ·have h:(s.size:Int)-a+b≤1048576:=by assumption
  go_ret;exact⟨uf (by unfold Ri;rw[if_neg (by omega)]),rfl⟩
section wrong
variable(s d n:ByteArray)(w:World)
theorem zh5(a:Int)(h:a<0):
  Calls Tryz.prog 14 #[.string s,.agg #[.int .i64 a,.string d,.string n]] w λe w'=>e=.returned (.int .i64 1)∧Below w.heap.size w w':=by
 have hd:decide (a<0)=true:=by simpa using h
 go_enter Tryz.func14,Tryz.ntmps14;go_wp2
 go_quiet (fail)
 go_wp2;go_ret;exact⟨rfl,below_drewN ((Below.refl _ _).alloc (Nat.le_refl _) _) _⟩
theorem zh6(a:Int)(h:0≤a)(h2:(s.size:Int)<a):
  Calls Tryz.prog 14 #[.string s,.agg #[.int .i64 a,.string d,.string n]] w λe w'=>e=.returned (.int .i64 1)∧Below w.heap.size w w':=by
 have hd:decide (a<0)=false:=by simpa using h
 have hd2:decide ((s.size:Int)<a)=true:=by simpa using h2
 go_enter Tryz.func14,Tryz.ntmps14;go_wp2
 go_quiet (fail)
 go_wp2;go_ret;exact⟨rfl,below_drewN ((Below.refl _ _).alloc (Nat.le_refl _) _) _⟩
theorem zh7(a:Nat)(h2:(a:Int)≤s.size)(hs:s.size≤281474976710656)(h3:(s.size:Int)-a<d.size):
  Calls Tryz.prog 14 #[.string s,.agg #[.int .i64 a,.string d,.string n]] w λe w'=>e=.returned (.int .i64 1)∧Below w.heap.size w w':=by
 have hd:decide ((a:Int)<0)=false:=by simp
 have hd2:decide (s.size<a)=false:=by simp;omega
 have hd3:decide ((s.size:Int)-a<d.size)=true:=by simpa using h3
 have hw1:IntKind.i64.wrap ((s.size:Int)-a)=(s.size:Int)-a:=IntWalk.i64_in _ (by omega);go_enter Tryz.func14,Tryz.ntmps14;go_wp2
 go_quiet (fail)
 go_wp2;go_ret;exact⟨rfl,below_drewN ((Below.refl _ _).alloc (Nat.le_refl _) _) _⟩
theorem zh8(a:Nat)(h3:(a:Int)+d.size≤s.size)(hs:s.size≤281474976710656)(hn:n.size≤281474976710656):
  Calls Tryz.prog 14 #[.string s,.agg #[.int .i64 a,.string d,.string n]] w λe w'=>e=.returned (.int .i64 (vF s a d n))∧Below w.heap.size w w':=by
 have hd:decide ((a:Int)<0)=false:=by simp
 have hd2:decide (s.size<a)=false:=by simp;omega
 have hd3:decide ((s.size:Int)-a<d.size)=false:=by simp;omega
 have hw1:IntKind.i64.wrap ((s.size:Int)-a)=(s.size:Int)-a:=IntWalk.i64_in _ (by omega);have hw2:IntKind.i64.wrap ((a:Int)+d.size)=((a+d.size:Nat):Int):=by rw[IntWalk.i64_in _ (by omega)];simp
 by_cases hf:s.extract a (a+d.size)=d
 ·have ht:((s.extract a (a+d.size)).toList==d.toList)=true:=by rw[jW];simpa using hf
  have hfit:yX s ((a:Int)).toNat d:=⟨by simp;omega,by simpa using hf⟩;have hl:(a:Int)≤s.size:=by omega
  have H2:Hid (s.extract a (a+d.size)=d):=Lib.hid hf;clear hf;go_enter Tryz.func14,Tryz.ntmps14;go_wp2
  go_quiet (fail)
  go_wp2
  ·have hlt:1048576<(s.size:Int)-d.size+n.size:=by assumption
   go_ret;exact⟨uf (zfV (by omega) hl hfit hlt).symm,below_drewN ((Below.refl _ _).alloc (Nat.le_refl _) _) _⟩
  ·have hle:(s.size:Int)-d.size+n.size≤1048576:=by assumption
   go_ret;exact⟨uf (iF (by omega) hl hfit hle).symm,below_drewN ((Below.refl _ _).alloc (Nat.le_refl _) _) _⟩
 ·have ht:((s.extract a (a+d.size)).toList==d.toList)=false:=by rw[jW];simpa using hf
  have hfit:¬yX s ((a:Int)).toNat d:=λh=>hf (by simpa using h.2);go_enter Tryz.func14,Tryz.ntmps14;go_wp2
  go_quiet (fail)
  go_wp2;go_ret;exact⟨uf (by unfold vF;rw[if_pos (.inr (.inr hfit))]),below_drewN ((Below.refl _ _).alloc (Nat.le_refl _) _) _⟩
theorem zh9(a:Int)(hs:s.size≤281474976710656)(hn:n.size≤281474976710656):
  Calls Tryz.prog 14 #[.string s,.agg #[.int .i64 a,.string d,.string n]] w λe w'=>e=.returned (.int .i64 (vF s a d n))∧Below w.heap.size w w':=by
 by_cases h:a<0
 ·refine(zh5 s d n w a h).mono λe w' ⟨he,hw⟩=>⟨?_,hw⟩
  rw[he];exact uf (by unfold vF;rw[if_pos (.inl h)])
 ·by_cases h2:(s.size:Int)<a
  ·refine(zh6 s d n w a (by omega) h2).mono λe w' ⟨he,hw⟩=>⟨?_,hw⟩
   rw[he];exact uf (by unfold vF;rw[if_pos (.inr (.inl h2))])
  ·obtain⟨k,rfl⟩:=Int.eq_ofNat_of_zero_le (by omega:0≤a)
   by_cases h3:(s.size:Int)-k<d.size
   ·refine(zh7 s d n w k (by omega) hs h3).mono λe w' ⟨he,hw⟩=>⟨?_,hw⟩
    rw[he];exact uf (by unfold vF;rw[if_pos (.inr (.inr λhf=>by have:=hf.1;simp at this;omega))])
   ·exact zh8 s d n w k (by omega) hs hn
theorem AP(a:Int)(k:Int)(hk:vF s a d n=k)(hs:s.size≤281474976710656)(hn:n.size≤281474976710656):
  Calls Tryz.prog 14 #[.string s,.agg #[.int .i64 a,.string d,.string n]] w λe w'=>e=.returned (.int .i64 k)∧Below w.heap.size w w':=by
 rw[←hk];exact zh9 s d n w a hs hn
end wrong
section zia
theorem zib(s d n:ByteArray)(a:Nat)(w:World)(h2:(a:Int)+d.size≤s.size)(hs:s.size≤281474976710656)(hn:n.size≤281474976710656):
  Calls Tryz.prog 15 #[.string s,.agg #[.int .i64 a,.string d,.string n]] w λe w'=>e=.returned (.string (xP s a d n))∧Below w.heap.size w w':=by
 have e0:¬(s.extract 0 a).size+n.size>9223372036854775807:=by simp;omega
 have e1:¬(s.extract 0 a++n).size+(s.extract (a+d.size) s.size).size>9223372036854775807:=by simp;omega
 have hl:(a:Int)≤s.size:=by omega
 go_enter Tryz.func15,Tryz.ntmps15;go_wp2
 go_quiet (fail)
 go_wp2;go_ret;exact⟨rfl,below_drewN ((Below.refl _ _).alloc (Nat.le_refl _) _) _⟩
end zia
section fault
variable(s d n:ByteArray)(w:World)
theorem zic(a:Int)(h:a<0):
  Calls Tryz.prog 41 #[.string s,.agg #[.int .i64 a,.string d,.string n]] w λe w'=>e=.returned (.int .i64 1)∧Below w.heap.size w w':=by
 have hd:decide (a<0)=true:=by simpa using h
 go_enter Tryz.func41,Tryz.ntmps41;go_wp2
 go_quiet (fail)
 go_wp2;go_ret;exact⟨rfl,below_drewN ((Below.refl _ _).alloc (Nat.le_refl _) _) _⟩
theorem zid(a:Int)(h:0≤a)(h2:(s.size:Int)<a):
  Calls Tryz.prog 41 #[.string s,.agg #[.int .i64 a,.string d,.string n]] w λe w'=>e=.returned (.int .i64 1)∧Below w.heap.size w w':=by
 have hd:decide (a<0)=false:=by simpa using h
 have hd2:decide ((s.size:Int)<a)=true:=by simpa using h2
 go_enter Tryz.func41,Tryz.ntmps41;go_wp2
 go_quiet (fail)
 go_wp2;go_ret;exact⟨rfl,below_drewN ((Below.refl _ _).alloc (Nat.le_refl _) _) _⟩
theorem zie(a:Nat)(h2:(a:Int)≤s.size)(hs:s.size≤281474976710656)(hds:d.size≤281474976710656)(hns:n.size≤281474976710656):
  Calls Tryz.prog 41 #[.string s,.agg #[.int .i64 a,.string d,.string n]] w λe w'=>e=.returned (.int .i64 (vF s a d n))∧Below w.heap.size w w':=by
 have hd:decide ((a:Int)<0)=false:=by simp
 have hd2:decide (s.size<a)=false:=by simp;omega
 have hx:(s.extract a s.size).size≤281474976710656:=by simp;omega
 have hH:=zfU s d a (by omega);have hE:vF s a d n=if ¬yX s a d then 1 else Ri s.size d.size n.size:=by
  unfold vF Ri;by_cases hf:yX s a d
  ·rw[if_neg (show ¬((a:Int)<0∨(s.size:Int)<(a:Int)∨¬yX s ((a:Int)).toNat d)from by
    rintro(h|h|h)
    ·omega
    ·omega
    ·exact h hf),if_neg (Classical.not_not.2 hf)]
  ·rw[if_pos (.inr (.inr (by simpa using hf))),if_pos hf]
 by_cases hf:yX s a d
 ·have ht:Ko (s.extract a s.size) d=true:=by rw[hH];simpa using hf
  rw[hE,if_neg (by simp[hf])];clear hE hH;go_enter Tryz.func41,Tryz.ntmps41;go_wp2
  go_quiet ((go_at_call 65;exact Calls.quiet_of_same (AO _ _ _ hx hds)))
  go_wp2_with (go_at_call 66;refine(zh4 _ _ _ _ hs (by omega) (by omega) (by omega) (by omega)).mono ?_;rintro e w' ⟨rfl,rfl⟩)
  go_ret;exact⟨rfl,below_drewN ((Below.refl _ _).alloc (Nat.le_refl _) _) _⟩
 ·have ht:Ko (s.extract a s.size) d=false:=by rw[hH];simpa using hf
  rw[hE,if_pos hf];clear hE hH;go_enter Tryz.func41,Tryz.ntmps41;go_wp2
  go_quiet ((go_at_call 65;exact Calls.quiet_of_same (AO _ _ _ hx hds)))
  go_wp2;go_ret;exact⟨rfl,below_drewN ((Below.refl _ _).alloc (Nat.le_refl _) _) _⟩
theorem zif(a:Int)(hs:s.size≤281474976710656)(hds:d.size≤281474976710656)(hns:n.size≤281474976710656):
  Calls Tryz.prog 41 #[.string s,.agg #[.int .i64 a,.string d,.string n]] w λe w'=>e=.returned (.int .i64 (vF s a d n))∧Below w.heap.size w w':=by
 by_cases h:a<0
 ·refine(zic s d n w a h).mono λe w' ⟨he,hw⟩=>⟨?_,hw⟩
  rw[he];exact uf (by unfold vF;rw[if_pos (.inl h)])
 ·by_cases h2:(s.size:Int)<a
  ·refine(zid s d n w a (by omega) h2).mono λe w' ⟨he,hw⟩=>⟨?_,hw⟩
   rw[he];exact uf (by unfold vF;rw[if_pos (.inr (.inl h2))])
  ·obtain⟨k,rfl⟩:=Int.eq_ofNat_of_zero_le (by omega:0≤a)
   exact zie s d n w k (by omega) hs hds hns
theorem AQ(a:Int)(k:Int)(hk:vF s a d n=k)(hs:s.size≤281474976710656)(hds:d.size≤281474976710656)(hns:n.size≤281474976710656):
  Calls Tryz.prog 41 #[.string s,.agg #[.int .i64 a,.string d,.string n]] w λe w'=>e=.returned (.int .i64 k)∧Below w.heap.size w w':=by
 rw[←hk];exact zif s d n w a hs hds hns
end fault
section
variable(s d n:ByteArray)(w:World)
theorem zhW(a:Nat)(h:vF s a d n=0)(hs:s.size≤281474976710656)(hds:d.size≤281474976710656)(hns:n.size≤281474976710656):
  Calls Tryz.prog 29 #[.string s,.agg #[.int .i64 a,.string d,.string n]] w λe w'=>e=.returned (.tuple #[.string (xP s a d n),.int .i64 0])∧Below w.heap.size w w':=by
 have hf:=(G7 h).2.2.1.1;simp only[Int.toNat_natCast]at hf;have e0:¬(s.extract 0 a).size+n.size>9223372036854775807:=by simp;omega
 have e1:¬(s.extract 0 a++n).size+(s.extract (a+d.size) s.size).size>9223372036854775807:=by simp;omega
 have hl:(a:Int)≤s.size:=by omega
 have h2:(a:Int)+d.size≤s.size:=by omega
 have H:=Lib.hid h;clear h hf;go_enter Tryz.func29,Tryz.ntmps29
 go_wp2_with (go_at_call 41;refine(AQ s d n _ a _ H.out hs hds hns).mono ?_;rintro e w1 ⟨rfl,hb⟩;obtain⟨hc,hfr⟩:=zdi hb)
 go_quiet (fail)
 go_wp2;go_ret2;exact⟨rfl,below_drewN (AL _ hb) _⟩
end
end Go.Proofs.YtdjcidackkogjaaGreatDoor
